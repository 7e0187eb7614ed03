import PyProof.Rows.All
import Wide.All
import OpenK.AllK
import Wide.FinOn
import HandS.ForMost
import HandS.Exc
import HandS.ExcInit
import HandS.IsInst
import HandS.ExcIs
import HandS.ExcField
import HandS.TryMany
import HandS.Wide
import HandS.Comp
import HandS.DictComp
import HandS.Iter
import HandS.Dict
import HandS.Text
import HandS.Codes
import HandS.Zip
import HandS.TupAny
import HandS.More
import HandS.Defaults
import PyProof.NeKinds
import HandS.Set
import HandS.Base
import HandS.Call
import HandS.List
import HandS.SetBool
import HandS.Sort
import PyProof.Rows.SortShellAny
import HandS.TupSets
import HandS.SetFor
import HandS.Strs
import HandS.SortKw
import KE.DatumOrd
import HandS.WordsExc
import HandS.Ends
import HandS.Lambda
import HandS.Property
import HandS.OwnEq
import PyProof.InstNe
import HandS.FStr
import PyProof.EqKinds
import KE.KOpsOwn
import HandS.Star
import HandS.WordsDict
import HandS.ListItems
import KE.KNestM
import HandS.MakeKwOnly
import HandS.HeadHook3
import PySem.Challenge.RW_orderlymoves_k06_errors_of_stretches
set_option Elab.async false
set_option linter.all false
set_option maxRecDepth 100000
set_option maxHeartbeats 4000000
namespace OM
open PySem
/-- what is asked of a built-in class's own __init__ -/
structure InitF (B initId : String) : Prop where
  init : Slot B "__init__" initId
  initEntry : entryFor table initId = some Builtin.«BaseException.__init__»
  initSplit : splitId initId = some (B, "__init__")
  initKind : builtinKind initId = some .slot
  initRow : Manifest.signature? initId = some ⟨.positional, "*", B, .self, [⟨"args", .varPos, false⟩]⟩
  noStar : (B != "*") = true
theorem InitF.of {B n i : String} (F : ExcCallFacts B n i) : InitF B i := ⟨F.init, F.initEntry, F.initSplit, F.initKind, F.initRow, F.noStar⟩
theorem initF_KE : InitF "KeyError" "KeyError.__init__" where
  init := .of (owner := "KeyError") (n := "__init__") (by rw [typeLookup_type, builtinLookup_eq_fast]; kernel_rfl) (by decide +kernel) (by decide +kernel) (by decide +kernel)
    (by first | exact .inl (by decide +kernel) | exact .inr (by decide +kernel)) (by rw [isSubtype_type]; kernel_rfl)
  initEntry := entryFor_alias (id' := "BaseException.__init__") (by rw [fastTable_eq_tree]; kernel_rfl) (by first | rfl | decide +kernel) (by decide +kernel) (by rw [fastTable_eq_tree]; kernel_rfl)
  initSplit := by kernel_rfl
  initKind := by kernel_rfl
  initRow := by kernel_rfl
  noStar := by decide +kernel

/-- own classes, then a built-in chain -/
def refsT (tail : List Value) : List Value → Bool
  | .ref _ :: r => refsT tail r
  | l => l == tail
structure BaseX (B newId initId : String) (tail : List Value) : Prop where
  F : ∃ Bn inN bmN, ExcBaseFacts Bn newId inN bmN ∧ tail.contains (.type Bn) = true
  I : InitF B initId
  hasB : tail.contains (.type B) = true
  noAttr : tail.contains (.type "AttributeError") = false
  noName : tail.contains (.type "NameError") = false
  pass : ∀ self : Value, refuseLoop self "__setattr__" tail = pure ()
  obj : tail.contains (.type "object") = true
  ne : tail.isEmpty = false
  ty : typeOf (.type B) = pure (.type "type")
  stub : Manifest.isStub B = false
theorem base_VE : BaseX "ValueError" "ValueError.__new__" "ValueError.__init__" [.type "ValueError", .type "Exception", .type "BaseException", .type "object"] :=
  ⟨⟨_, _, _, F.excBase_ValueError, by decide +kernel⟩, .of F.excBase_ValueError.toExcCallFacts, by decide +kernel, by decide +kernel, by decide +kernel, fun self => by kernel_rfl, by decide +kernel, rfl, by kernel_rfl, by decide +kernel⟩
theorem base_LE : BaseX "LookupError" "LookupError.__new__" "LookupError.__init__" [.type "LookupError", .type "Exception", .type "BaseException", .type "object"] :=
  ⟨⟨_, _, _, F.excBase_LookupError, by decide +kernel⟩, .of F.excBase_LookupError.toExcCallFacts, by decide +kernel, by decide +kernel, by decide +kernel, fun self => by kernel_rfl, by decide +kernel, rfl, by kernel_rfl, by decide +kernel⟩
theorem base_RE : BaseX "RuntimeError" "RuntimeError.__new__" "RuntimeError.__init__" [.type "RuntimeError", .type "Exception", .type "BaseException", .type "object"] :=
  ⟨⟨_, _, _, F.excBase_RuntimeError, by decide +kernel⟩, .of F.excBase_RuntimeError.toExcCallFacts, by decide +kernel, by decide +kernel, by decide +kernel, fun self => by kernel_rfl, by decide +kernel, rfl, by kernel_rfl, by decide +kernel⟩
theorem base_OE : BaseX "OverflowError" "OverflowError.__new__" "OverflowError.__init__" [.type "OverflowError", .type "ArithmeticError", .type "Exception", .type "BaseException", .type "object"] :=
  ⟨⟨_, _, _, F.excBase_OverflowError, by decide +kernel⟩, .of F.excBase_OverflowError.toExcCallFacts, by decide +kernel, by decide +kernel, by decide +kernel, fun self => by kernel_rfl, by decide +kernel, rfl, by kernel_rfl, by decide +kernel⟩
theorem base_IE : BaseX "IndexError" "IndexError.__new__" "IndexError.__init__" [.type "IndexError", .type "LookupError", .type "Exception", .type "BaseException", .type "object"] :=
  ⟨⟨_, _, _, F.excBase_IndexError, by decide +kernel⟩, .of F.excBase_IndexError.toExcCallFacts, by decide +kernel, by decide +kernel, by decide +kernel, fun self => by kernel_rfl, by decide +kernel, rfl, by kernel_rfl, by decide +kernel⟩
theorem base_AE : BaseX "ArithmeticError" "ArithmeticError.__new__" "ArithmeticError.__init__" [.type "ArithmeticError", .type "Exception", .type "BaseException", .type "object"] :=
  ⟨⟨_, _, _, F.excBase_ArithmeticError, by decide +kernel⟩, .of F.excBase_ArithmeticError.toExcCallFacts, by decide +kernel, by decide +kernel, by decide +kernel, fun self => by kernel_rfl, by decide +kernel, rfl, by kernel_rfl, by decide +kernel⟩
theorem base_KE : BaseX "KeyError" "LookupError.__new__" "KeyError.__init__" [.type "KeyError", .type "LookupError", .type "Exception", .type "BaseException", .type "object"] :=
  ⟨⟨_, _, _, F.excBase_LookupError, by decide +kernel⟩, initF_KE, by decide +kernel, by decide +kernel, by decide +kernel, fun self => by kernel_rfl, by decide +kernel, rfl, by kernel_rfl, by decide +kernel⟩
theorem refsT_cases {tail : List Value} : ∀ l : List Value, refsT tail l = true → (∃ c r, l = .ref c :: r ∧ refsT tail r = true) ∨ l = tail
  | [], e => .inr (beq_iff_eq.mp e)
  | .ref c :: r, e => .inl ⟨c, r, rfl, e⟩
  | .none :: _, e => .inr (beq_iff_eq.mp e)
  | .ellipsis :: _, e => .inr (beq_iff_eq.mp e)
  | .notImplemented :: _, e => .inr (beq_iff_eq.mp e)
  | .bool _ :: _, e => .inr (beq_iff_eq.mp e)
  | .int _ _ :: _, e => .inr (beq_iff_eq.mp e)
  | .float _ _ :: _, e => .inr (beq_iff_eq.mp e)
  | .str _ _ :: _, e => .inr (beq_iff_eq.mp e)
  | .bytes _ _ :: _, e => .inr (beq_iff_eq.mp e)
  | .type _ :: _, e => .inr (beq_iff_eq.mp e)
  | .builtin _ :: _, e => .inr (beq_iff_eq.mp e)
theorem refsT_pass {tail : List Value} {self : Value} (hp : refuseLoop self "__setattr__" tail = pure ()) : ∀ l : List Value, refsT tail l = true → refuseLoop self "__setattr__" l = pure () := by
  intro l
  induction l with
  | nil =>
    intro e
    rcases refsT_cases [] e with ⟨c, r', q, h⟩ | q
    · cases q
    · rw [q]; exact hp
  | cons a r ih =>
    intro e
    rcases refsT_cases (a :: r) e with ⟨c, r', q, h⟩ | q
    · obtain ⟨rfl, rfl⟩ := List.cons.inj q
      rw [refuseLoop_ref]; exact ih h
    · rw [q]; exact hp
theorem refsT_contains {tail : List Value} (X : String) : ∀ l : List Value, refsT tail l = true → l.contains (.type X) = tail.contains (.type X) := by
  intro l
  induction l with
  | nil =>
    intro e
    rcases refsT_cases [] e with ⟨c, r', q, h⟩ | q
    · cases q
    · rw [q]
  | cons a r ih =>
    intro e
    rcases refsT_cases (a :: r) e with ⟨c, r', q, h⟩ | q
    · obtain ⟨rfl, rfl⟩ := List.cons.inj q
      rw [List.contains_cons, ih h]; rfl
    · rw [q]
theorem refsT_ne {tail : List Value} (hn : tail.isEmpty = false) {l : List Value} (e : refsT tail l = true) : l.isEmpty = false := by
  rcases refsT_cases l e with ⟨c, r', q, h⟩ | q
  · rw [q]; rfl
  · rw [q]; exact hn

open PySem.HandSPX Builtin Builtin.ObjectAttr
section
variable {M : Model} {A : Around} {E : Value → Shared → Prop} {h : Heap} {g : Array GenState} {d : Drawn} {t : Nat} {os : OsState}
variable {nm q : Str} {C N : Addr} {bs bm bmB tail : List Value} {hdct : Bool} {sn : List Str} {sub : List Value} {ab : Bool} {col : Option Bool} {dd : Option Addr} {k0 k1 k2 k3 k5 : Option Value} {B newId initId : String}
theorem check_newX {Bn inN : String} {bmN : List Value} (F : ExcBaseFacts Bn newId inN bmN) (hB : bm.contains (.type Bn) = true) {rest : List Value} {Q : Unit → Shared → Prop}
    (hC : h.get? C = some (excClassObj nm q C N bs bm hdct sn sub ab col dd k0 k1 k2 k3 k5 newId)) (hq : Q () ⟨h, g, d, t, os⟩) : wpAny M A (checkBuiltinCall newId ⟨.ref C :: rest, []⟩) Q E ⟨h, g, d, t, os⟩ := by
  have hcont : (Value.ref C :: bm).contains (.type Bn) = true := by rw [List.contains_cons, hB, Bool.or_true]
  have hstar := F.noStar
  simp only [checkBuiltinCall, F.newKind, F.newSplit, F.newRow]
  repeat (first | refine wpAny_loadPart_at hC ?_ | (refine wpAny_isSubtype_exc hC ?_; rw [hcont]) | refine wpAny_staticBase_exc hC ?_ | refine wpAny_madeBy_exc hC ?_ | simp only [bne_self_eq_false, Bool.false_eq_true, if_false] | wp_step)
  exact hq
theorem check_initX (F : InitF B initId) (hB : bm.contains (.type B) = true) {e : Addr} {oe : Obj} {rest : List Value} {Q : Unit → Shared → Prop}
    (hC : h.get? C = some (excClassObj nm q C N bs bm hdct sn sub ab col dd k0 k1 k2 k3 k5 newId)) (he : h.get? e = some oe) (hcls : oe.cls = .ref C) (hq : Q () ⟨h, g, d, t, os⟩) :
    wpAny M A (checkBuiltinCall initId ⟨.ref e :: rest, []⟩) Q E ⟨h, g, d, t, os⟩ := by
  have hcB : (Value.ref C :: bm).contains (.type B) = true := by rw [List.contains_cons, hB, Bool.or_true]
  have hshort := F.noStar
  simp only [checkBuiltinCall, F.initKind, F.initSplit, F.initRow]
  repeat (first | (with_reducible refine wpAny_loadPart_at he ?_; rw [hcls]) | with_reducible refine wpAny_loadPart_at hC ?_ | (with_reducible refine wpAny_isSubtype_exc hC ?_; rw [hcB]) | wp_step)
  refine wpAny_onRaise ?_
  rw [show ∀ (a b : String) (n : Nat), Bind.check ⟨.positional, "*", B, .self, [⟨"args", .varPos, false⟩]⟩ a b n (List.map (fun x => x.fst) ({ pos := Value.ref e :: rest } : Args).kw) = pure () from
    fun a b n => check_star_args _ _ _ _ _ _]
  exact wpAny_pure hq
end
section
variable {prog : Program} {w : World} {A : Around} {E : Value → Shared → Prop} {R : Result → Shared → Prop} {h : Heap} {g : Array GenState} {d : Drawn} {t : Nat} {os : OsState}
variable {nm q : Str} {C N : Addr} {bs bm tail : List Value} {hdct : Bool} {sn : List Str} {sub : List Value} {ab : Bool} {col : Option Bool} {dd : Option Addr} {k0 k1 k2 k3 k5 : Option Value} {B newId initId : String}
theorem newX (X : BaseX B newId initId tail) (hm : refsT tail bm = true) {rest : List Value}
    (hC : h.get? C = some (excClassObj nm q C N bs bm hdct sn sub ab col dd k0 k1 k2 k3 k5 newId))
    (hq : R (.ok (.ret (.ref (h.objs.size + 1)))) ⟨(h.push { cls := .type "tuple", data := .seq rest.toArray }).push
      { cls := .ref C, data := .fields #[.ref h.objs.size, .none, .none, .none, .bool false, .none] }, g, d, t, os⟩) (hrest : rest.length ≤ sizeLine) :
    codeAny (model prog w) A (.builtin newId ⟨.ref C :: rest, []⟩) R ⟨h, g, d, t, os⟩ := by
  obtain ⟨Bn, inN, bmN, F, hBn⟩ := X.F
  have hends := F.ends
  have hcB : (Value.ref C :: bm).contains (.type Bn) = true := by rw [List.contains_cons, refsT_contains _ _ hm, hBn, Bool.or_true]
  have hcA : (Value.ref C :: bm).contains (.type "AttributeError") = false := by rw [List.contains_cons, refsT_contains _ _ hm, X.noAttr]; rfl
  have hcN : (Value.ref C :: bm).contains (.type "NameError") = false := by rw [List.contains_cons, refsT_contains _ _ hm, X.noName]; rfl
  refine codeAny_builtinAt F.entry ?_
  unfold Builtin.«BaseException.__new__»
  refine wpAt_bind ?_
  show wpAt _ _ _ (stack >>= _) _ _ _
  refine wpAt_bind (wpAt_stack fun p below => wpAt_of_wpAny ?_)
  wp_walk
  refine wpAt_of_wpAny ?_
  rw [F.owner]
  repeat (first | with_reducible refine wpAny_madeHere_exc F.canon hC ?_ | with_reducible refine wpAny_loadPart_at hC ?_ | (with_reducible refine wpAny_isSubtype_exc hC ?_; first | rw [hcB] | rw [hcA] | rw [hcN]) | wp_step)
  show R _ _
  rw [Heap.size_push]
  exact hq
theorem type_callX (X : BaseX B newId initId tail) (hm : refsT tail bm = true) {rest : List Value} {fI : Addr} {Q : Fin → Shared → Prop}
    (hC : h.get? C = some (excClassObj nm q C N bs bm hdct sn sub ab col dd k0 k1 k2 k3 k5 newId))
    (hi : W.Looks (model prog w) h (typeLookup (.ref C) "__init__") (some (.ref fI))) (hb : ∀ self, W.Looks (model prog w) h (bindSpecial (.ref fI) self) (.ref fI, [self])) (hrest : rest.length ≤ sizeLine)
    (hq : codeAny (model prog w) A (.call (.ref fI) ⟨.ref (h.objs.size + 1) :: rest, []⟩)
      (fun r s' => match r with | .ok (.ret v) => v = .none ∧ Q (.done (.ret (.ref (h.objs.size + 1)))) s' | .ok _ => False | .error e => E e s')
      ⟨(h.push (W.kdv_tup rest)).push (excO C h.objs.size), g, d, t, os⟩) :
    wpAny (model prog w) A (Builtin.«type.__call__» ⟨.ref C :: rest, []⟩) Q E ⟨h, g, d, t, os⟩ := by
  obtain ⟨Bn, inN, bmN, F, hBn⟩ := X.F
  repeat (first | with_reducible refine wpAny_loadPart_at hC ?_ | with_reducible refine wpAny_madeBy_exc hC ?_ | wp_step)
  refine codeAny_call_builtin_code (Code.quiet_builtin _ F.quiet) (check_newX F (by rw [refsT_contains _ _ hm, hBn]) hC ?_)
  refine newX X hm hC ?_ hrest
  show wpAny _ _ _ _ _ _
  have k : ∀ b o, h.get? b = some o → ((h.push (W.kdv_tup rest)).push (excO C h.objs.size)).get? b = some o := fun b o e => Heap.get?_push_of_some _ (Heap.get?_push_of_some _ e)
  have hC₁ := k _ _ hC
  have hget : ((h.push (W.kdv_tup rest)).push (excO C h.objs.size)).get? (h.objs.size + 1) = some (excO C h.objs.size) := by heap_get
  have hcC : (Value.ref C :: bm).contains (.ref C) = true := by simp
  have i1 := hi.keeps k
  have b1 := (hb (.ref (h.objs.size + 1))).keeps k
  unfold isInstance
  repeat (first | with_reducible refine wpAny_loadPart_at hget ?_ | (with_reducible refine wpAny_isSubtype_exc hC₁ ?_; rw [hcC]) | wp_step)
  show wpAny _ _ (typeLookup (.ref C) _) _ _ _
  refine i1.at ?_
  refine wpAny_holding (wpAny_bind (b1.at ?_))
  refine wpAny_bind (wpAny_call (codeAny_mono hq fun r s' z => ?_))
  rcases r with e | (v | _ | _ | _) <;> first | exact z | exact z.elim | skip
  obtain ⟨rfl, z⟩ := z
  first
    | exact wpAny_pure (wpAny_pure z)
    | (wp_walk; exact z)
theorem callX (X : BaseX B newId initId tail) (hm : refsT tail bm = true) {rest : List Value} {fI : Addr}
    (hC : h.get? C = some (excClassObj nm q C N bs bm hdct sn sub ab col dd k0 k1 k2 k3 k5 newId))
    (hi : W.Looks (model prog w) h (typeLookup (.ref C) "__init__") (some (.ref fI))) (hb : ∀ self, W.Looks (model prog w) h (bindSpecial (.ref fI) self) (.ref fI, [self])) (hrest : rest.length ≤ sizeLine)
    (hq : codeAny (model prog w) (A.under (.builtin "type.__call__" ⟨.ref C :: rest, []⟩)) (.call (.ref fI) ⟨.ref (h.objs.size + 1) :: rest, []⟩) (W.InitBack (h.objs.size + 1) R)
      ⟨(h.push (W.kdv_tup rest)).push (excO C h.objs.size), g, d, t, os⟩) :
    codeAny (model prog w) A (.call (.ref C) ⟨rest, []⟩) R ⟨h, g, d, t, os⟩ := by
  have f1 := tc_lookup
  have f2 := tc_bind (.ref C)
  have hTy : (⟨h, g, d, t, os⟩ : Shared).TypeIs (.ref C) "type" := ⟨_, hC, rfl⟩
  refine codeAny_of_tree ?_
  show wpAny _ _ (callAny (.ref C) _) _ _ _
  repeat (any_goals (first | assumption | with_reducible refine wpAny_loadPart_at hC ?_ | wp_step))
  refine ⟨rfl, ?_⟩
  refine codeAny_call_builtin_at (Code.quiet_builtin _ (by decide +kernel)) entry_typeCall (wpAny_check_type_call_sub hC (type_callX X hm hC hi hb hrest ?_))
  refine codeAny_mono hq fun r s' z => ?_
  rcases r with e | (v | _ | _ | _) <;> exact z
theorem init_baseX (X : BaseX B newId initId tail) {tail' : List Value} {newId' : String} (hm : refsT tail' bm = true) (hB : tail'.contains (.type B) = true) {e t0 : Addr} {rest : List Value}
    (hC : h.get? C = some (excClassObj nm q C N bs bm hdct sn sub ab col dd k0 k1 k2 k3 k5 newId')) (he : h.get? e = some (excO C t0)) (hrest : rest.length ≤ sizeLine)
    (hq : ∀ h' t1, (∀ b o, b ≠ e → h.get? b = some o → h'.get? b = some o) → h'.get? e = some (excO C t1) → R (.ok (.ret .none)) ⟨h', g, d, t, os⟩) :
    codeAny (model prog w) A (.call (.builtin initId) ⟨.ref e :: rest, []⟩) R ⟨h, g, d, t, os⟩ := by
  refine codeAny_call_builtin X.I.init.plain X.I.initEntry (check_initX X.I (by rw [refsT_contains _ _ hm, hB]) hC he rfl ?_)
  wp_walk
  refine hq _ h.objs.size (fun b o hb ho => ?_) ?_
  · rw [Heap.get?_update_other _ _ (Ne.symm hb)]
    exact Heap.get?_push_of_some _ ho
  · rw [Heap.get?_update_self _ (Heap.get?_push_of_some _ he) rfl]
    rfl
end
end OM

namespace OM
open PySem PySem.HandSPX Builtin Builtin.ObjectAttr
section
variable {prog : Program} {w : World} {A : Around} {E : Value → Shared → Prop} {R : Result → Shared → Prop} {hp : Heap} {g : Array GenState} {d : Drawn} {t : Nat} {os : OsState}
variable {B newId initId : String} {tail : List Value}
theorem osaX (Y : BaseX B newId initId tail) {K : W.Frag} {name : Str} {tk : Tok} {v : Value} {x C : Addr} {fv : Array Value} {cd : ClassData}
    (X : K.In hp) (hx : hp.get? x = some { cls := .ref C, data := .fields fv }) (hcd : W.clsIn K C = some cd) (hm : refsT tail cd.mro = true) (hh : cd.hasDict = true) (ha : W.findIn K (.ref C) name = some none)
    (hq : ∀ h' tk' dx, (∀ b o, b ≠ x → hp.get? b = some o → h'.get? b = some o) → hp.objs.size ≤ dx → dx ≠ x → h'.get? x = some { cls := .ref C, dict := some dx, data := .fields fv } →
      h'.Ns1 dx (fun y => if y = name then some v else none) → R (.ok (.ret .none)) ⟨h', g, d, tk', os⟩) :
    codeAny (model prog w) A (.call (.builtin "object.__setattr__") ⟨[.ref x, .str name tk, v], []⟩) R ⟨hp, g, d, t, os⟩ := by
  have I : W.InstAt hp x { cls := .ref C, data := .fields fv } C none := ⟨hx, rfl, rfl, trivial⟩
  have SF := F.store_object
  have ne := refsT_ne Y.ne hm
  have hob : cd.mro.contains (.type "object") = true := (refsT_contains "object" _ hm).trans Y.obj
  have hxs : x ≠ hp.objs.size := Nat.ne_of_lt (Heap.lt_size hx)
  have sub : W.Looks (model prog w) hp (isInstance (.ref x) (.type "object")) true := I.type.andThen (W.looks_mroIn X (by unfold W.mroIn; rw [hcd, Option.bind_some, if_neg (by rw [ne]; decide), hob]))
  refine codeAny_call_builtin SF.slot.plain SF.entry (@W.check_slot (model prog w) _ _ ⟨hp, g, d, t, os⟩ "object.__setattr__" "object" "__setattr__" (.ref x) [.str name tk, v] [] _ SF.kind SF.split sub (SF.args (.ref x) (.str name tk) v) ?_)
  have hmr : W.Looks (model prog w) hp (mroOf (.ref C)) cd.mro := (W.looks_clsIn X hcd).andThen .now
  have L3 : W.Looks (model prog w) hp (storeTaker? none) none := .now
  have hcls : W.Looks (model prog w) hp (classData C) cd := W.looks_clsIn X hcd
  rw [W.osa_eq, refuse_eq]
  refine wpAny_bind (wpAny_bind (I.type.at (wpAny_bind (hmr.at ?_))))
  rw [refsT_pass (Y.pass _) _ hm]
  refine wpAny_pure (wpAny_bind (I.type.at (wpAny_bind ((W.looks_findIn X ha).at (wpAny_bind (L3.at ?_))))))
  show wpAny _ _ (storeInOwnDict (.ref x) (.ref C) (.str name tk) name v false) _ _ _
  obtain ⟨nm, bs, mro, ns, qn, hd, sn, sb, ab, col, del⟩ := cd
  dsimp only at hh
  subst hh
  unfold storeInOwnDict ownDictForStores
  repeat (first | with_reducible refine store_in_new ?_ ?_ | with_reducible refine wpAny_loadPart_at hx ?_ | with_reducible refine hcls.at ?_ | wp_step)
  · exact ⟨_, #[], _, (Heap.get?_update_ne _ _ _ _ hxs.symm).trans (Heap.get?_push_at rfl rfl), rfl, fun e he => absurd he (by simp), fun _ => rfl⟩
  · intro h' tk' hn' hs
    have hx₁ : (hp.push { cls := .type "dict", data := .dict #[] }).get? x = some { cls := .ref C, data := .fields fv } := Heap.get?_push_of_some _ hx
    refine hq h' tk' hp.objs.size (fun b o hb ho => ?_) (Nat.le_refl _) hxs.symm ?_ hn'
    · exact (hs.2 b (Nat.ne_of_lt (Heap.lt_size ho))).trans ((Heap.get?_update_ne _ _ _ _ hb).trans (Heap.get?_push_of_some _ ho))
    · exact (hs.2 x hxs).trans (Heap.get?_update_self _ hx₁ rfl)
theorem osaX_old (Y : BaseX B newId initId tail) {K : W.Frag} {name : Str} {tk : Tok} {v : Value} {x C dx : Addr} {fv : Array Value} {cd : ClassData} {m0 : Str → Option Value} {nl : List Str}
    (X : K.In hp) (hx : hp.get? x = some { cls := .ref C, dict := some dx, data := .fields fv }) (hns : hp.Ns1 dx m0) (hw : Within m0 nl) (hz : nl.length ≤ 1000) (hcd : W.clsIn K C = some cd) (hm : refsT tail cd.mro = true) (hh : cd.hasDict = true)
    (ha : W.findIn K (.ref C) name = some none)
    (hq : ∀ h' tk', (∀ b o, b ≠ dx → hp.get? b = some o → h'.get? b = some o) → h'.Ns1 dx (fun y => if y = name then some v else m0 y) → R (.ok (.ret .none)) ⟨h', g, d, tk', os⟩) :
    codeAny (model prog w) A (.call (.builtin "object.__setattr__") ⟨[.ref x, .str name tk, v], []⟩) R ⟨hp, g, d, t, os⟩ := by
  obtain ⟨oD, esD, epD, hoD, hdD, _⟩ := hns.count hw
  have I : W.InstAt hp x { cls := .ref C, dict := some dx, data := .fields fv } C (some oD) := ⟨hx, rfl, rfl, hoD⟩
  have SF := F.store_object
  have ne := refsT_ne Y.ne hm
  have hob : cd.mro.contains (.type "object") = true := (refsT_contains "object" _ hm).trans Y.obj
  have sub : W.Looks (model prog w) hp (isInstance (.ref x) (.type "object")) true := I.type.andThen (W.looks_mroIn X (by unfold W.mroIn; rw [hcd, Option.bind_some, if_neg (by rw [ne]; decide), hob]))
  refine codeAny_call_builtin SF.slot.plain SF.entry (@W.check_slot (model prog w) _ _ ⟨hp, g, d, t, os⟩ "object.__setattr__" "object" "__setattr__" (.ref x) [.str name tk, v] [] _ SF.kind SF.split sub (SF.args (.ref x) (.str name tk) v) ?_)
  have hmr : W.Looks (model prog w) hp (mroOf (.ref C)) cd.mro := (W.looks_clsIn X hcd).andThen .now
  have L3 : W.Looks (model prog w) hp (storeTaker? none) none := .now
  have hcls : W.Looks (model prog w) hp (classData C) cd := W.looks_clsIn X hcd
  rw [W.osa_eq, refuse_eq]
  refine wpAny_bind (wpAny_bind (I.type.at (wpAny_bind (hmr.at ?_))))
  rw [refsT_pass (Y.pass _) _ hm]
  refine wpAny_pure (wpAny_bind (I.type.at (wpAny_bind ((W.looks_findIn X ha).at (wpAny_bind (L3.at ?_))))))
  show wpAny _ _ (storeInOwnDict (.ref x) (.ref C) (.str name tk) name v false) _ _ _
  obtain ⟨nm, bs, mro, ns, qn, hd, sn, sb, ab, col, del⟩ := cd
  dsimp only at hh
  subst hh
  unfold storeInOwnDict ownDictForStores
  repeat (first | with_reducible refine PySem.OEX.store_in_old hns hw hz ?_ | with_reducible refine wpAny_loadPart_at hx ?_ | with_reducible refine hcls.at ?_ | wp_step)
  intro h' tk' hn' hs
  exact hq h' tk' (fun b o hb ho => (hs.2 b hb).trans ho) hn'
end
end OM

namespace PySem.W
open PySem PySem.Calls PyProof.Rows
/-- a function read off its class: itself -/
theorem om_fn_get_none {prog : Program} {w : World} {A : Around} {R : Result → Shared → Prop} {s : Shared} {K : Frag} {p C : Addr} (X : K.In s.heap) (hp : typeIn K (.ref p) = some (.type "function"))
    (h : R (.ok (.ret (.ref p))) s) : codeAny (model prog w) A (.call (.builtin "function.__get__") ⟨[.ref p, .none, .ref C], []⟩) R s := by
  obtain ⟨o, ho, hc⟩ := Option.map_eq_some_iff.mp hp
  obtain ⟨hh, g, dr, t, os⟩ := s
  refine codeAny_call_builtin KF.slot_fn.plain KF.entry_fn (KF.slot_fn.check _ _ _ _ _ _ _ _ ⟨_, X _ _ ho, hc⟩ (KF.args_fn _ _ _) ?_)
  unfold Builtin.«function.__get__»
  refine wpAny_bind (wpAny_of_eq (a := ((.ref p : Value), (none : Option Value), some (.ref C : Value))) (by first | rfl | kernel_rfl) ?_)
  exact wpAny_pure h
end PySem.W

namespace OM
open PySem PySem.Spec PyProof.Rows L2
/-- what the written part says of an own exception class -/
structure OexB (K : PySem.W.Frag) (C : Addr) (tail : List Value) : Prop where
  cls : ∃ B newId initId nm q N bs bm sn sub ab col dd k0 k1 k2 k3 k5, BaseX B newId initId tail ∧ K.lookup C = some (excClassObj nm q C N bs bm true sn sub ab col dd k0 k1 k2 k3 k5 newId) ∧ refsT tail bm = true
  sa : PySem.W.findIn K (.ref C) "__setattr__" = some (some (.builtin "object.__setattr__"))
  exC : PySem.W.subIn K (.ref C) (.type "BaseException") = some true
  tyC : PySem.W.typeIn K (.ref C) = some (.type "type")
  kC : PySem.W.keepIn K (.ref C) = true
section
variable {X : Cx} {pins : List (Addr × Obj)} {σ : L2.St} {H : Hp} {s : Shared} {a C dx : Addr} {f : Str} {y : V} {u : Value} {fs : List (Str × V)} {Q : Unit → Shared → Prop} {E : Value → Shared → Prop} {A : Around} {tail : List Value}
theorem ostB_new (T : OexB X.K C tail) (I : Inv X pins σ H s) (e : H a = some (exo a C none)) (hno : PySem.W.findIn X.K (.ref C) f = some none) (ry : RelV y u)
    (h : ∀ dx s', H dx = none → dx ≠ a → Inv X pins σ (upd (upd H dx (exd dx [(f, y)])) a (exo a C (some dx))) s' → Q () s') : wpAny (model X.prog X.w) A (setAttr (.ref a) f u) Q E s := by
  obtain ⟨B, newId, initId, nm, q, N, bs, bm, sn, sub, ab, col, dd, k0, k1, k2, k3, k5, Y, hC, hbm⟩ := T.cls
  have hcl : PySem.W.clsIn X.K C = some { name := nm, bases := bs, mro := .ref C :: bm, ns := N, qualname := q, hasDict := true, slotNames := sn, subclasses := sub, abstract := ab, collection := col, hasDel := false } := by unfold PySem.W.clsIn; rw [hC] <;> rfl
  obtain ⟨t1, ho⟩ := exo_at I.hok e
  obtain ⟨hp, g, d, t, os⟩ := s
  refine PySem.W.set_plain I.kIn (ox := { cls := .ref C, dict := none, data := .fields #[.ref t1, .none, .none, .none, .bool false, .none] }) (od := none) ⟨ho, rfl, rfl, trivial⟩ T.sa ?_
  refine osaX Y I.kIn ho hcl (show refsT tail (.ref C :: bm) = true from hbm) rfl hno (fun h' tk' dx k dn dne hx hn => ?_)
  have hnd : H dx = none := I.hok.fresh dn
  have nd : ∀ {b : Addr} {o : Obj}, hp.get? b = some o → b ≠ dx := fun {b o} q => Nat.ne_of_lt (Nat.lt_of_lt_of_le (Heap.lt_size q) dn)
  have na : ∀ {b : Addr}, H b = none → b ≠ a := fun {b} n z => by
    rw [z, e] at n
    cases n
  have Un1 : Un X.fs [] H (upd (upd H dx (exd dx [(f, y)])) a (exo a C (some dx))) hp h' := {
    keep := fun b o q n _ _ => k b o (na n) q
    slot := fun b o q n _ _ => ⟨o.slots, k b o (na n) q⟩
    free := fun b o q n _ => by rw [upd_ne (na n), upd_ne (nd q)]; exact n
    there := fun b o q _ => by
      by_cases hb : b = a
      · exact ⟨_, by rw [hb]; exact hx⟩
      · exact ⟨o, k b o hb q⟩
    tups := fun b xs q => by rw [upd_ne (at_ne e q exo_tup), upd_ne (ne_of_none q hnd)]; exact q
    frzs := fun b o v q => by rw [upd_ne (at_ne e q exo_frz), upd_ne (ne_of_none q hnd)]; exact q
    tbls := fun b ps q => ⟨#[], by rw [upd_ne (at_ne e q exo_tbl), upd_ne (ne_of_none q hnd), q]; simp⟩ }
  refine h dx _ hnd dne (I.un (t' := tk') Un1 fun b o q => ?_)
  by_cases hb : b = a
  · subst hb
    rw [upd_same] at q
    cases q
    exact exo_ok hx
  · rw [upd_ne hb] at q
    by_cases hd : b = dx
    · subst hd
      rw [upd_same] at q
      cases q
      exact exd_ok hn (relO_put (fs := []) ry fun g => True.intro)
    · rw [upd_ne hd] at q
      exact (I.hok b o q).stay (fun c v hc z => k c v (by
          rcases hc with hc | hc
          · rw [hc]
            exact hb
          · exact at_ne e hc exo_own) z)
        (fun c hc => by rw [upd_ne (at_ne e hc exo_own), upd_ne (ne_of_none hc hnd)]; exact hc) (fun c xs hc => by rw [upd_ne (at_ne e hc exo_tup), upd_ne (ne_of_none hc hnd)]; exact hc)
theorem ostB_old (T : OexB X.K C tail) (I : Inv X pins σ H s) (e : H a = some (exo a C (some dx))) (ed : H dx = some (exd dx fs)) (hl : fs.length ≤ 900) (hno : PySem.W.findIn X.K (.ref C) f = some none) (ry : RelV y u)
    (h : ∀ s', Inv X pins σ (upd H dx (exd dx ((f, y) :: fs))) s' → Q () s') : wpAny (model X.prog X.w) A (setAttr (.ref a) f u) Q E s := by
  obtain ⟨B, newId, initId, nm, q, N, bs, bm, sn, sub, ab, col, dd, k0, k1, k2, k3, k5, Y, hC, hbm⟩ := T.cls
  have hcl : PySem.W.clsIn X.K C = some { name := nm, bases := bs, mro := .ref C :: bm, ns := N, qualname := q, hasDict := true, slotNames := sn, subclasses := sub, abstract := ab, collection := col, hasDel := false } := by unfold PySem.W.clsIn; rw [hC] <;> rfl
  obtain ⟨t1, ho⟩ := exo_at I.hok e
  obtain ⟨mA, hns, rel⟩ := exd_at I.hok ed
  have hw := within_of rel
  obtain ⟨hp, g, d, t, os⟩ := s
  obtain ⟨oD, _, _, hoD, _, _⟩ := hns.count hw
  refine PySem.W.set_plain I.kIn (ox := { cls := .ref C, dict := some dx, data := .fields #[.ref t1, .none, .none, .none, .bool false, .none] }) (od := some oD) ⟨ho, rfl, rfl, hoD⟩ T.sa ?_
  refine osaX_old Y I.kIn ho hns hw (by rw [List.length_map]; omega) hcl (show refsT tail (.ref C :: bm) = true from hbm) rfl hno (fun h' tk' k hn => ?_)
  have hd : ∃ o, h'.get? dx = some o := by
    obtain ⟨o, _, _, e', _⟩ := hn
    exact ⟨o, e'⟩
  exact h _ (I.write (t' := tk') (x := dx) (e := dx) (o := exd dx ((f, y) :: fs)) (by rw [ed]; exact True.intro) (.inl rfl) k hd (exd_ok hn (relO_put ry rel)))
/-- B.__init__(self, ..): nothing of it is told -/
theorem binit_ok {B nI initId : String} {tB : List Value} {us : List Value} {Q : Value → Shared → Prop} (Y : BaseX B nI initId tB) (T : OexB X.K C tail) (hB : tail.contains (.type B) = true) (I : Inv X pins σ H s) (e : H a = some (exo a C none)) (hl : us.length ≤ sizeLine)
    (h : ∀ s', Inv X pins σ H s' → Q .none s') : wpAny (model X.prog X.w) A (call (.builtin initId) (.ref a :: us)) Q E s := by
  obtain ⟨B', newId, initId', nm, q, N, bs, bm, sn, sub, ab, col, dd, k0, k1, k2, k3, k5, Y', hC, hbm⟩ := T.cls
  obtain ⟨t1, ho⟩ := exo_at I.hok e
  obtain ⟨hp, g, d, t, os⟩ := s
  refine wpAny_call (init_baseX Y hbm hB (I.kIn _ _ hC) ho hl fun h' t2 k hx => ?_)
  have J := I.write (t' := t) (x := a) (e := a) (o := exo a C none) (by rw [e]; exact True.intro) (.inl rfl) k ⟨_, hx⟩ (exo_ok hx)
  have eu : upd H a (exo a C none) = H := by
    funext b
    by_cases hb : b = a
    · rw [hb, upd_same, e]
    · rw [upd_ne hb]
  rw [eu] at J
  exact h _ J
end
/-- B.__init__(self, ..) -/
def tBin (K : PySem.W.Frag) (B : String) (ta : TA) : TE := fun σ H Q => ta σ H fun vs H1 => ∃ (a C : Addr) (tail : List Value) (ws : List V), vs = .ref a :: ws ∧ ws.length ≤ 1000 ∧ OexB K C tail ∧ tail.contains (.type B) = true ∧ H1 a = some (exo a C none) ∧ Q .non H1
/-- self.f = e -/
def tOsB (K : PySem.W.Frag) (f : Str) (to te : TE) : TS := fun D σ H => te σ H fun y H1 => to σ H1 fun x H2 => ∃ (a C : Addr) (tail : List Value), x = .ref a ∧ OexB K C tail ∧ PySem.W.findIn K (.ref C) f = some none ∧
  ((H2 a = some (exo a C none) ∧ ∀ dx, H2 dx = none → dx ≠ a → D.nx σ (upd (upd H2 dx (exd dx [(f, y)])) a (exo a C (some dx)))) ∨
    ∃ (dx : Addr) (fs : List (Str × V)), H2 a = some (exo a C (some dx)) ∧ H2 dx = some (exd dx fs) ∧ fs.length ≤ 900 ∧ D.nx σ (upd H2 dx (exd dx ((f, y) :: fs))))
/-- C.m(e, ..): a function of the class at C, called unbound -/
structure UMeth (K : PySem.W.Frag) (C : Addr) (m : Str) (f : Addr) : Prop where
  ga : PySem.W.specialIn K (.ref C) "__getattribute__" = some (some (.builtin "type.__getattribute__"))
  rd : PySem.W.readsIn K C (.type "type") = true
  at_ : PySem.W.findCls K (.ref C) (.type "type") m = some (.val (.ref f))
  ty : PySem.W.typeIn K (.ref f) = some (.type "function")
  kp : PySem.W.keepIn K (.ref f) = true
section
variable {X : Cx} {o e : Expr} {es : List Expr} {to te : TE} {ta : TA} {f : Str} {p p' p1 p2 pos apos : Pos} {x : Str}
theorem pe_binit {B nI initId : String} {tB : List Value} {pl : Sem Bool} (Y : BaseX B nI initId tB) (hg : Gl X x) (hm : X.mg x = none) (hv : bootBuiltins x = some (.type B)) (vV : PySem.W.findCls X.K (.type B) (.type "type") "__init__" = some (.val (.builtin initId))) (hi : PySem.W.handedIn (.builtin initId) = true) (ha : PA X (e :: es) ta)
    (hn : x ≠ "__name__" := by decide) (hd : (x == ("__debug__" : Str)) = false := by decide)
    (hc : eval (.Call (.Attribute (.Name x p1) "__init__" p2) (e :: es) [] pos) X.env = (do
      let ov ← eval (.Name x p1) X.env
      standAt p2.atName
      let (f, first) ← holding [ov] (getMethod ov "__init__" pl)
      callWith pos f first (backTo pos (starEach (e :: es) X.env)) (backToKw pos (keywordEach [] X.env))) := by rfl)
    (he : starEach (e :: es) X.env = (false, eval e X.env) :: starEach es X.env := by rfl) (hpl : (backTo pos (starEach es X.env)).any (·.1) = false := by rfl) :
    PE X (.Call (.Attribute (.Name x p1) "__init__" p2) (e :: es) [] pos) (tBin X.K B ta) := by
  refine ⟨fun pins s σ H Q I h => ?_⟩
  refine PySem.W.methodCall_KW (ld_blt I hg hm hv ?_ hn hd) hc
  obtain ⟨m, fr⟩ := I.fr
  refine PySem.W.method_type fr I.ok.mod.kin Y.ty Y.stub vV hi ?_
  show wpAny _ _ (callWith pos (Value.builtin initId) [] (backTo pos (starEach (e :: es) X.env)) []) _ _ _
  refine PyProof.Rows.callWith_method1 (thn (ha.run pos pins _ σ H _ (I.tok _) h) fun us s1 ⟨vs, H1, I1, r1, a, C, tail, ws, ev, hl, T, hB, ea, q⟩ => ?_) he hpl
  subst ev
  cases r1 with
  | @cons _ u0 _ ur ra rw' =>
    obtain rfl : u0 = Value.ref a := ra
    have hlen : ur.length ≤ sizeLine := by
      rw [← Paired.length rw', sizeLine_eq]
      omega
    exact binit_ok Y T hB I1 ea hlen fun s' J => ⟨.non, H1, J, rfl, q⟩
theorem ps_ostB (ho : PE X o to) (he : PE X e te) (hs : swapsWith e (some (.Attribute o f p')) pos.line X.env = pure false := by rfl) : PS X (.Assign [.Attribute o f p'] e pos) (tOsB X.K f to te) := by
  refine ⟨fun pins s σ H D I h => ?_⟩
  refine plainObj_wpAny_Assign_Attribute (thn (he.run pins s σ H _ I h) fun v s1 ⟨y, H1, I1, r1, q1⟩ => thn (ho.run pins s1 σ H1 _ I1 q1) fun u s2 ⟨x, H2, I2, r2, a, C, tail, ex, T, hno, q⟩ => ?_) hs
  subst ex
  obtain rfl : u = Value.ref a := r2
  rcases q with ⟨ea, q⟩ | ⟨dx, fs, ea, ed, hl, q⟩
  · exact ostB_new T I2 ea hno r1 fun dx s' n ne J => ⟨σ, _, J, q dx n ne⟩
  · exact ostB_old T I2 ea ed hl hno r1 fun s' J => ⟨σ, _, J, q⟩
def tUMe (C : Addr) (sp : Sp) (E : XK) (to : TE) (t : TA) : TE := fun σ H Q => to σ H fun x H1 => x = .ref C ∧ t σ H1 fun vs H2 => sp vs H2 Q E
theorem pe_umeth {CX : CXT} {k : Nat} {C fn : Addr} {m : Str} {fd : FuncData} {ps : List Str} {sp : Sp} {E : XK} {pl : Sem Bool} (ho : PE X o to) (U : UMeth X.K C m fn) (F : FnOk X.prog X.w X.K X.mg X.base CX k fn fd ps sp) (hr : Room k X.A) (hb : Binds X.K fd ps []) (hx : Passes CX X E) (ha : PA X (e :: es) ta)
    (hst : starEach (e :: es) X.env = (false, eval e X.env) :: starEach es X.env := by rfl) (hpl : (backTo pos (starEach es X.env)).any (·.1) = false := by rfl)
    (ht : eval (.Call (.Attribute o m apos) (e :: es) [] pos) X.env = (do
      let ov ← eval o X.env
      standAt apos.atName
      let (f, first) ← holding [ov] (getMethod ov m pl)
      callWith pos f first (backTo pos (starEach (e :: es) X.env)) (backToKw pos (keywordEach [] X.env))) := by rfl) :
    PE X (.Call (.Attribute o m apos) (e :: es) [] pos) (tUMe C sp E to ta) := by
  refine ⟨fun pins s σ H Q I h => ?_⟩
  refine PySem.W.methodCall_KW (pl := pl) (thn (ho.run pins s σ H _ I h) fun u s1 ⟨x, H1, I1, rx, ex, q⟩ => ?_) ht
  subst ex
  obtain rfl : u = Value.ref C := rx
  refine PySem.W.method_cls I1.kIn U.ga (PySem.W.cls_value I1.kIn U.rd U.at_ rfl ?_)
  have I2 : Inv X pins σ H1 { s1 with toks := s1.toks + 1 } := I1.tok _
  refine PySem.W.callWith_K (first := []) (h₀ := X.base) I.ok.mod.kin U.kp (thn (ha.run pos pins _ σ H1 _ I2 q) fun us s3 ⟨vs, H2, I3, rv, q2⟩ => ⟨I3.kIn, ?_⟩) hst hpl
  have q3 : sp (vs ++ []) H2 Q E := by rw [List.append_nil]; exact q2
  exact run_fn F hr hb (dvs := []) (ds := []) .nil hx I3 rv q3
end
end OM

namespace PySem.W
open PySem PySem.Spec PySem.Calls PyProof.Rows
theorem om_forIn_pass {M : Model} {A : Around} {β : Type} {f : Value → β → Sem (ForInStep β)} {b : β} {E : Value → Shared → Prop} {s : Shared} : ∀ {l : List Value} {Q : β → Shared → Prop},
    (∀ c ∈ l, ∀ (Q : ForInStep β → Shared → Prop), Q (.yield b) s → wpAny M A (f c b) Q E s) → Q b s → wpAny M A (forIn l b f) Q E s
  | [], Q, _, q => by
    rw [List.forIn_nil]
    exact wpAny_pure q
  | c :: l, Q, h, q => by
    rw [List.forIn_cons]
    refine wpAny_bind (h c List.mem_cons_self _ ?_)
    exact om_forIn_pass (fun c hc => h c (List.mem_cons_of_mem _ hc)) q
theorem om_forIn_any {M : Model} {A : Around} {β : Type} {f : Value → β → Sem (ForInStep β)} {b x : β} {E : Value → Shared → Prop} {s : Shared} (g : Value → Bool) : ∀ {l : List Value} {Q : β → Shared → Prop},
    (∀ c ∈ l, ∀ (Q : ForInStep β → Shared → Prop), Q (if g c = true then .done x else .yield b) s → wpAny M A (f c b) Q E s) → Q (if l.any g = true then x else b) s → wpAny M A (forIn l b f) Q E s
  | [], Q, _, q => by
    rw [List.forIn_nil]
    exact wpAny_pure q
  | c :: l, Q, h, q => by
    rw [List.forIn_cons]
    refine wpAny_bind (h c List.mem_cons_self _ ?_)
    rw [List.any_cons] at q
    cases e : g c with
    | true =>
      rw [e, Bool.true_or, if_pos rfl] at q
      rw [if_pos rfl]
      exact wpAny_pure q
    | false =>
      rw [e, Bool.false_or] at q
      rw [if_neg Bool.false_ne_true]
      exact om_forIn_any g (fun c hc => h c (List.mem_cons_of_mem _ hc)) q
theorem om_exmAny_all {K : Frag} {cls : Value} : ∀ {l : List Value} {b : Bool}, exmAny K cls l = some b → (∀ c ∈ l, exmOne K cls c = some (exmOne K cls c == some true)) ∧ b = l.any fun c => exmOne K cls c == some true
  | [], b, h => by
    have e : some false = some b := h
    cases e
    exact ⟨fun c hc => (nomatch hc), rfl⟩
  | c :: l, b, h => by
    obtain ⟨b1, d1, h1, h2, rfl⟩ := exmAny_cons h
    obtain ⟨i1, i2⟩ := om_exmAny_all h2
    refine ⟨fun x hx => ?_, ?_⟩
    · rcases List.mem_cons.mp hx with rfl | hx
      · rw [h1]
        cases b1 <;> rfl
      · exact i1 x hx
    · rw [List.any_cons, h1, ← i2]
      cases b1 <;> rfl
theorem om_exm_tup {M : Model} {K : Frag} {cs : List Value} {cls : Value} {tp e : Addr} {b : Bool} {h : Heap} {ot : Obj} {nt : Nat} (X : K.In h) (LT : Looks M h (typeOf (.ref e)) cls) (hp : h.get? tp = some ot) (hoc : ot.cls = .type "tuple") (hod : ot.data = .seq cs.toArray nt) (hx : exmAny K cls cs = some b) :
    Looks M h (excMatches (.ref e) (.ref tp)) b := by
  intro A Q E s k₀ q
  obtain ⟨hh, g, d, tk, os⟩ := s
  have k : ∀ b o, h.get? b = some o → hh.get? b = some o := k₀
  obtain ⟨oc, odd, odt, osl⟩ := ot
  dsimp only at hoc hod
  subst hoc hod
  have LT0 : Looks M h (isInstance (.ref tp) (.type "tuple")) true := ((Looks.ld hp).andThen .now).andThen (Looks.of_pure isSubtype_tuple_tuple)
  obtain ⟨hall, hb⟩ := om_exmAny_all hx
  have LT := LT.keeps k
  have LT0 := LT0.keeps k
  have hp' := k _ _ hp
  unfold excMatches
  refine wpAny_bind (LT0.at ?_)
  dsimp only
  rw [if_pos rfl]
  first
    | refine wpAny_bind (wpAny_seqItems hp' rfl ?_)
    | refine wpAny_bind (wpAny_bind (wpAny_seqItems hp' rfl (wpAny_pure ?_)))
  dsimp only [Option.getD_some, Option.getD]
  refine wpAny_bind (wpAny_pure ?_)
  refine wpAny_bind (om_forIn_pass (fun c hc Q q => ?_) ?_)
  · refine wpAny_bind (((exm_cls (M := M) X (hall c hc)).1.keeps k).at ?_)
    simp only [Bool.not_true, Bool.false_eq_true, if_false]
    exact wpAny_pure q
  · refine wpAny_bind (LT.at ?_)
    refine wpAny_bind (om_forIn_any (fun c => exmOne K cls c == some true) (x := (some true, ())) (fun c hc Q q => ?_) ?_)
    · refine wpAny_bind (((exm_cls (M := M) X (hall c hc)).2.keeps k).at ?_)
      cases e : (exmOne K cls c == some true) with
      | true =>
        rw [e, if_pos rfl] at q
        rw [if_pos rfl]
        exact wpAny_pure q
      | false =>
        rw [e, if_neg Bool.false_ne_true] at q
        rw [if_neg Bool.false_ne_true]
        exact wpAny_pure q
    · rw [← hb]
      cases b with
      | true =>
        rw [if_pos rfl]
        exact wpAny_pure q
      | false =>
        rw [if_neg Bool.false_ne_true]
        exact wpAny_pure q
end PySem.W

namespace PySem.W
open PySem PySem.Spec PySem.Calls PyProof.Rows
section
variable {prog : Program} {w : World} {A : Around} {E : Value → Shared → Prop} {s : Shared} {K : Frag} {x D : Addr} {ox : Obj}
theorem om_findObj_data {C : Addr} {od : Option Obj} {name : Str} {a g : Value} (hc : (clsIn K C).isSome = true) (ha : findIn K (.ref C) name = some (some a)) (hg : specialIn K a "__get__" = some (some g)) (ht : takesIn K a = some true) : findObj K C od name = some (.bind g a) := by
  obtain ⟨cd, hc⟩ := Option.isSome_iff_exists.mp hc
  unfold findObj
  rw [hc, Option.bind_some, ha, Option.bind_some]
  simp [hg, ht]
theorem om_classE {od : Option Obj} {Q : Option Value → Shared → Prop} (hga : findIn K (.ref D) "__getattribute__" = some (some (.builtin "BaseException.__getattribute__"))) (hgt : findIn K (.ref D) "__getattr__" = some none) (hsub : subIn K (.ref D) (.type "BaseException") = some true)
    (hdct : hasDictIn K D = true) (ha : findIn K (.ref D) "__class__" = some (some (.builtin "object.__class__")))
    (hn : specialIn K (.builtin "object.__class__") "__get__" = some (some (.builtin "getset_descriptor.__get__"))) (htk : takesIn K (.builtin "object.__class__") = some true) (hm : mroIn K D (.type "object") = some true)
    (X : K.In s.heap) (I : InstAt s.heap x ox D od) (h : Q (some (.ref D)) { s with toks := s.toks + 1 }) : wpAny (model prog w) A (getAttr? (.ref x) "__class__") Q E s := by
  have hf : findObj K D od "__class__" = some (.bind (.builtin "getset_descriptor.__get__") (.builtin "object.__class__")) := om_findObj_data (by obtain ⟨cd, hc, _⟩ := any_some hdct; rw [hc]; rfl) ha hn htk
  obtain ⟨hp, g, d, t, os⟩ := s
  have L0 := I.type (M := model prog w)
  have L1 := looks_findIn (M := model prog w) X hga
  have L2 := looks_findIn (M := model prog w) X hgt
  have L3 := looks_find (M := model prog w) X I hf
  have sub : Looks (model prog w) hp (isInstance (.ref x) (.type "BaseException")) true := L0.andThen (looks_subIn X hsub)
  have hx0 : (false && onTheHeap (Value.builtin "BaseException.__getattribute__")) = false := rfl
  have hx2 : (Value.builtin "BaseException.__getattribute__" == Value.builtin "object.__getattribute__") = false := by decide +kernel
  have hx1 : (onTheHeap (Value.ref D) && Value.builtin "BaseException.__getattribute__" == Value.builtin "object.__getattribute__") = false := by rw [hx2]; rfl
  unfold getAttr? getAttrBy? getAttrBy
  refine wpAny_bind (wpAny_mkText (wpAny_bind (wpAny_attempt (wpAny_holding (wpAny_bind (L0.at (wpAny_bind (L1.at ?_))))))))
  show wpAny _ _ (if (onTheHeap (Value.ref D) && Value.builtin "BaseException.__getattribute__" == Value.builtin "object.__getattribute__") = true then _ else _) _ _ _
  rw [hx1, if_neg Bool.false_ne_true]
  unfold getAttrByItsOwn hookBefore
  refine wpAny_bind ?_
  rw [if_pos (show onTheHeap (Value.ref D) = true from rfl)]
  refine L2.at ?_
  refine wpAny_bind (wpAny_attempt (wpAny_holding ?_))
  unfold callGetattribute
  rw [hx0, if_neg Bool.false_ne_true]
  unfold boundAndCalled
  rw [PySem.F.excAttr_ValueError.ga.bind (.ref x)]
  refine wpAny_bind (wpAny_pure ?_)
  show wpAny _ _ (call (.builtin "BaseException.__getattribute__") [.ref x, .str "__class__" t]) _ _ _
  refine wpAny_call (codeAny_call_builtin PySem.F.excAttr_ValueError.ga.plain PySem.F.entry_bexc_ga ?_)
  refine @check_slot (model prog w) _ _ ⟨hp, g, d, t + 1, os⟩ "BaseException.__getattribute__" "BaseException" "__getattribute__" (.ref x) [.str "__class__" t] [] _ (by decide +kernel) (by decide +kernel) sub (PySem.F.args_bexc_ga (.ref x) (.str "__class__" t)) ?_
  unfold Builtin.«object.__getattribute__»
  refine wpAny_bind (wpAny_of_eq (a := ((Value.ref x : Value), [Value.str "__class__" t])) (by first | rfl | (simp only [slotArgs]; rfl)) ?_)
  refine wpAny_bind (wpAny_pure (wpAny_bind (L0.at (wpAny_bind (L3.at ?_)))))
  show wpAny _ _ (holding [Value.builtin "object.__class__"] (call (.builtin "getset_descriptor.__get__") [.builtin "object.__class__", .ref x, .ref D]) >>= ret) _ _ _
  refine wpAny_bind (wpAny_holding (wpAny_call (class_get (s := ⟨hp, g, d, t + 1, os⟩) (ox := ox) (od := od) X I hm ?_)))
  refine wpAny_pure ?_
  show wpAny _ _ (handedOut (.ref D)) _ _ _
  rw [handedOut_of (v := .ref D) rfl]
  first
    | exact wpAny_pure (wpAny_pure h)
    | exact wpAny_pure h
    | exact wpAny_pure (wpAny_bind (wpAny_pure (wpAny_pure h)))
theorem om_kitx_exc {od : Option Obj} (hga : findIn K (.ref D) "__getattribute__" = some (some (.builtin "BaseException.__getattribute__"))) (hgt : findIn K (.ref D) "__getattr__" = some none) (hsub : subIn K (.ref D) (.type "BaseException") = some true) (hdct : hasDictIn K D = true) (ha : findIn K (.ref D) "__class__" = some (some (.builtin "object.__class__")))
    (hn : specialIn K (.builtin "object.__class__") "__get__" = some (some (.builtin "getset_descriptor.__get__"))) (htk : takesIn K (.builtin "object.__class__") = some true) (hm : mroIn K D (.type "object") = some true) :
    KitX K (.ref x) (.ref D) (fun h => InstAt h x ox D od) where
  ty := fun _ _ _ I => I.type
  it := fun _ _ X _ => by
    obtain ⟨cdD, hcD, _⟩ := any_some hdct
    unfold clsIn at hcD
    split at hcD
    · rename_i c' d' cd' sl' ho
      intro A' Q' E' s' k q
      unfold isType loadHead
      exact wpAny_bind (wpAny_loadPart (k _ _ (X _ _ ho)) (wpAny_pure q))
    · cases hcD
  ne := fun h tp dd its n sl X htp => by
    obtain ⟨cdD, hcD, _⟩ := any_some hdct
    refine Bool.eq_false_iff.mpr fun q => ?_
    have e : D = tp := Value.ref.inj (beq_iff_eq.mp q)
    subst e
    unfold clsIn at hcD
    split at hcD
    · rename_i c' d' cd' sl' ho
      have z := (X _ _ ho).symm.trans htp
      cases z
    · cases hcD
  ca := fun X I k => om_classE hga hgt hsub hdct ha hn htk hm X I k
end
end PySem.W

namespace OM
open PySem PySem.Spec PyProof.Rows L2
/-- the type of an exception that is tracked, or of None -/
inductive TyE (K : PySem.W.Frag) (H : Hp) : V → Value → Prop where
  | base {x : V} {t : Value} (h : TyX K H x t) : TyE K H x t
  | exc {a C : Addr} : ExcC K C → H a = some (exo a C none) → TyE K H (.ref a) (.ref C)
  | excD {a C dx : Addr} {fs : List (Str × V)} : ExcC K C → H a = some (exo a C (some dx)) → H dx = some (exd dx fs) → TyE K H (.ref a) (.ref C)
def rIsB (K : PySem.W.Frag) : List V → Hp → VK → Prop := fun xs H Q => ∃ (x c : V) (t u : Value) (b : Bool), xs = [x, c] ∧ ClsV c u ∧ TyE K H x t ∧ PySem.W.kitOne K t u = some b ∧ Q (.bl b) H
section
variable {X : Cx}
theorem exo_inst {P : Program} {w : World} {H : Hp} {h : Heap} {a C : Addr} (hok : HOk P w H h) (e : H a = some (exo a C none)) : ∃ ox, PySem.W.InstAt h a ox C none := by
  obtain ⟨t1, ho⟩ := exo_at hok e
  exact ⟨_, ho, rfl, rfl, trivial⟩
theorem exo_instD {P : Program} {w : World} {H : Hp} {h : Heap} {a C dx : Addr} {fs : List (Str × V)} (hok : HOk P w H h) (e : H a = some (exo a C (some dx))) (ed : H dx = some (exd dx fs)) : ∃ ox od, PySem.W.InstAt h a ox C (some od) ∧ ∀ f v, fs.lookup f = some v → ∃ u, RelV v u ∧ PySem.W.lookIn f od = some (some u) := by
  obtain ⟨t1, ho⟩ := exo_at hok e
  obtain ⟨mA, hns, rel⟩ := exd_at hok ed
  obtain ⟨od, hod, hl⟩ := lookIn_ns hns
  refine ⟨_, od, ⟨ho, rfl, rfl, hod⟩, fun f v e => ?_⟩
  obtain ⟨u, hu, ru⟩ := RelO.some_of (v := v) (o := mA f) (by rw [← e]; exact rel f)
  exact ⟨u, ru, by rw [hl, hu]⟩
theorem call_isB : CallR X (.builtin "isinstance") (rIsB X.K) := by
  intro pins s σ H xs us Q I r h
  obtain ⟨x, c, t, u, b, rfl, k, ty, e, q⟩ := h
  obtain ⟨u1, u2, rfl, r1, r2⟩ := vals2 r
  have e2 := k.eq r2
  subst e2
  cases ty with
  | base h0 =>
    obtain ⟨P, Z, p, hx⟩ := kit_of I r1 h0
    exact PySem.W.kia_one Z I.kIn p e hx fun tk => ⟨.bl b, H, I.tok tk, rfl, q⟩
  | @exc a C T ea =>
    obtain rfl : u1 = Value.ref a := r1
    obtain ⟨ox, J⟩ := exo_inst I.hok ea
    exact PySem.W.kia_one (PySem.W.om_kitx_exc T.hg T.hk T.hs T.hd T.ha T.hn T.ht T.hm) I.kIn J e (fun z => nomatch z) fun tk => ⟨.bl b, H, I.tok tk, rfl, q⟩
  | @excD a C dx fs T ea ed =>
    obtain rfl : u1 = Value.ref a := r1
    obtain ⟨ox, od, J, _⟩ := exo_instD I.hok ea ed
    exact PySem.W.kia_one (PySem.W.om_kitx_exc T.hg T.hk T.hs T.hd T.ha T.hn T.ht T.hm) I.kIn J e (fun z => nomatch z) fun tk => ⟨.bl b, H, I.tok tk, rfl, q⟩
/-- e.f, e an exception that is tracked -/
def tXfB (K : PySem.W.Frag) (f : Str) (te : TE) : TE := fun σ H Q => te σ H fun x H1 => ∃ (a C dx : Addr) (fs : List (Str × V)) (v : V), x = .ref a ∧ XfC K C ∧ PySem.W.findIn K (.ref C) f = some none ∧ H1 a = some (exo a C (some dx)) ∧ H1 dx = some (exd dx fs) ∧ fs.lookup f = some v ∧ Q v H1
theorem pe_xfB {e : Expr} {te : TE} {pos : Pos} {n : Str} (he : PE X e te) (hb : attributeBase e n X.env (eval e X.env) = eval e X.env := by rfl) : PE X (.Attribute e n pos) (tXfB X.K n te) := by
  refine ⟨fun pins s σ H Q I h => ?_⟩
  refine attr_of hb (thn (he.run pins s σ H _ I h) fun u s1 hh => ?_)
  obtain ⟨x, H1, I1, rx, a, C, dx, fs, v, ex, T, hno, ea, ed, l, q⟩ := hh
  subst ex
  obtain rfl : u = Value.ref a := rx
  obtain ⟨ox, od, J, hl⟩ := exo_instD I1.hok ea ed
  obtain ⟨u, ru, hu⟩ := hl n v l
  exact HandSPX.exc_get I1.kIn J T.ga T.gg T.exC (PySem.W.findObj_own T.hdC hno rfl hu) (handed_of ru) ⟨v, H1, I1.tok _, ru, q⟩
end

/-! ### making -/
structure MkB (K : PySem.W.Frag) (C fI : Addr) (tail : List Value) : Prop where
  T : OexB K C tail
  iC : PySem.W.findIn K (.ref C) "__init__" = some (some (.ref fI))
  tI : PySem.W.typeIn K (.ref fI) = some (.type "function")
section
variable {X : Cx} {CX : CXT} {k : Nat} {fI C : Addr} {fd : FuncData} {ps : List Str} {sp : Sp} {dvs : List V} {ds : List Value} {x : Str} {p pos : Pos} {e : Expr} {es : List Expr} {ta : TA} {tail : List Value}
theorem run_mkB {pins : List (Addr × Obj)} {σ : L2.St} {H : Hp} {s : Shared} {R : Value → Shared → Prop} {us : List Value} {vs : List V} {RR : Addr → Hp → Prop} (M : MkB X.K C fI tail) (F : FnOk X.prog X.w X.K X.mg X.base CX k fI fd ps sp) (hr : Room (k + 1) X.A) (hb : Binds X.K fd ps ds) (hd : Vals dvs ds)
    (hx : Passes CX X E0) (I : Inv X pins σ H s) (r : Vals vs us) (hz : vs.length ≤ 1000)
    (h : ∀ a, H a = none → sp (.ref a :: (vs ++ dvs)) (upd H a (exo a C none)) (fun v H2 => v = .non ∧ RR a H2) E0)
    (hR : ∀ s2 H2 hp2, s.heap.objs.size ≤ s.heap.objs.size + 1 → (∀ b o, s.heap.get? b = some o → hp2.get? b = some o) → Un (frs X.stack) [] (upd H (s.heap.objs.size + 1) (exo (s.heap.objs.size + 1) C none)) H2 hp2 s2.heap → HOk X.prog X.w H2 s2.heap → s2.os = s.os → AllBare s2.gens →
      Inv X pins σ H2 s2 → RR (s.heap.objs.size + 1) H2 → R (.ref (s.heap.objs.size + 1)) s2) :
    wpAny (model X.prog X.w) X.A (call (.ref C) us) R X.xe s := by
  obtain ⟨B, newId, initId, nm, q, N, bs, bm, sn, sub, ab, col, dd, k0, k1, k2, k3, k5, Y, hC, hbm⟩ := M.T.cls
  obtain ⟨hp, g, dr, tk, os⟩ := s
  have hsz : hp.objs.size ≤ hp.objs.size + 1 := Nat.le_succ _
  have hn : H (hp.objs.size + 1) = none := I.hok.fresh hsz
  have hq := h (hp.objs.size + 1) hn
  have kk : ∀ b o, hp.get? b = some o → ((hp.push (PySem.W.kdv_tup us)).push (PySem.HandSPX.excO C hp.objs.size)).get? b = some o := fun b o e => Heap.get?_push_of_some _ (Heap.get?_push_of_some _ e)
  have hget : ((hp.push (PySem.W.kdv_tup us)).push (PySem.HandSPX.excO C hp.objs.size)).get? (hp.objs.size + 1) = some (PySem.HandSPX.excO C hp.objs.size) := by heap_get
  have I2 : Inv X pins σ (upd H (hp.objs.size + 1) (exo (hp.objs.size + 1) C none)) ⟨(hp.push (PySem.W.kdv_tup us)).push (PySem.HandSPX.excO C hp.objs.size), g, dr, tk, os⟩ :=
    I.laid (t' := tk) (a := hp.objs.size + 1) (o := exo (hp.objs.size + 1) C none) (h' := (hp.push (PySem.W.kdv_tup us)).push (PySem.HandSPX.excO C hp.objs.size)) kk hsz (exo_ok hget)
  have r2 : Vals (V.ref (hp.objs.size + 1) :: (vs ++ dvs)) (Value.ref (hp.objs.size + 1) :: (us ++ ds)) := .cons rfl (r.append hd)
  have hl : (Value.ref (hp.objs.size + 1) :: us ++ ds).length = ps.length := by
    have e := r2.length
    rw [F.len _ _ _ _ hq] at e
    exact e.symm
  have hus : us.length ≤ sizeLine := by
    rw [← Paired.length r, sizeLine_eq]
    omega
  refine wpAny_call (callX Y hbm (I.kIn _ _ hC) (PySem.W.looks_findIn I.kIn M.iC) (fun self => PySem.W.bind_fn I.kIn self M.tI) hus
    (codeAny_mono (F.run _ X.stack _ _ ⟨Value.ref (hp.objs.size + 1) :: us, []⟩ (Value.ref (hp.objs.size + 1) :: (us ++ ds)) _ _ E0 (hr.make C us []) (I2.env0.make C us []) (hb _ (Value.ref (hp.objs.size + 1) :: us) I2.kIn hl) r2 hq) fun r s' hq' => ?_))
  cases r with
  | error er => exact hx pins σ _ _ er s' I2 hq'
  | ok fl =>
    cases fl with
    | ret u =>
      have hq2 := hq'
      obtain ⟨v, H2, os2, bare2, un2, hok2, rv, ev, rr⟩ := hq2
      subst ev
      obtain ⟨_, _, I3, _, _⟩ := I2.after (Q := fun _ _ => True) ⟨.non, H2, os2, bare2, un2, hok2, rv, trivial⟩
      have I3' : Inv X pins σ H2 s' := I2.call' (ch := []) os2 un2 hok2 bare2 (fun b z => absurd z (by simp))
      exact ⟨rv, hR s' H2 _ hsz kk un2 hok2 os2 bare2 I3' rr⟩
    | next => exact False.elim hq'
    | brk => exact False.elim hq'
    | cont => exact False.elim hq'
/-- C(e, ..) as a value: a new exception, tracked -/
def tMkV (C : Addr) (sp : Sp) (dvs : List V) (ta : TA) : TE := fun σ H Q => ta σ H fun vs H1 => vs.length ≤ 1000 ∧ ∀ a, H1 a = none → sp (.ref a :: (vs ++ dvs)) (upd H1 a (exo a C none)) (fun v H2 => v = .non ∧ Q (.ref a) H2) E0
theorem pe_mkV (M : MkB X.K C fI tail) (F : FnOk X.prog X.w X.K X.mg X.base CX k fI fd ps sp) (hr : Room (k + 1) X.A) (hg : Gl X x) (hm : X.mg x = some (.ref C)) (hb : Binds X.K fd ps ds) (hd : Vals dvs ds) (hx : Passes CX X E0)
    (ha : PA X (e :: es) ta) (hdb : (x == ("__debug__" : Str)) = false := by decide) (he : starEach (e :: es) X.env = (false, eval e X.env) :: starEach es X.env := by rfl) (hpl : (backTo pos (starEach es X.env)).any (·.1) = false := by rfl) :
    PE X (.Call (.Name x p) (e :: es) [] pos) (tMkV C sp dvs ta) := by
  refine ⟨fun pins s σ H Q I h => ?_⟩
  refine wpAny_Call_Name_kw (ld_glob I hg hm ?_ hdb)
  refine PySem.W.callWith_K (h₀ := X.base) I.ok.mod.kin M.T.kC (thn (ha.run pos pins s σ H _ I h) fun us s1 ⟨vs, H1, I1, r, hz, q⟩ => ⟨I1.kIn, ?_⟩) he hpl
  exact run_mkB (RR := fun a H2 => Q (.ref a) H2) M F hr hb hd hx I1 r hz q fun s2 H2 hp2 _ _ _ _ _ _ I2 rr => ⟨.ref _, H2, I2, rfl, rr⟩
theorem pe_mkV0 (M : MkB X.K C fI tail) (F : FnOk X.prog X.w X.K X.mg X.base CX k fI fd ps sp) (hr : Room (k + 1) X.A) (hg : Gl X x) (hm : X.mg x = some (.ref C)) (hb : Binds X.K fd ps ds) (hd : Vals dvs ds) (hx : Passes CX X E0)
    (hdb : (x == ("__debug__" : Str)) = false := by decide) : PE X (.Call (.Name x p) [] [] pos) (tMkV C sp dvs tNil) := by
  refine ⟨fun pins s σ H Q I h => ?_⟩
  refine wpAny_Call_Name_kw (ld_glob I hg hm ?_ hdb)
  refine PySem.W.callWith_K0 I.kIn M.T.kC ?_
  obtain ⟨hz, q⟩ := (show ([] : List V).length ≤ 1000 ∧ _ from h)
  exact run_mkB (us := []) (vs := []) (RR := fun a H2 => Q (.ref a) H2) M F hr hb hd hx I .nil hz q fun s2 H2 hp2 _ _ _ _ _ _ I2 rr => ⟨.ref _, H2, I2, rfl, rr⟩
/-- a made exception without a dict is let go -/
theorem mk_endN {pins : List (Addr × Obj)} {σ : L2.St} {H1 H2 : Hp} {hp hp2 h2 : Heap} {g1 g2 : Array GenState} {d1 d2 : Drawn} {t1 t2 : Nat} {os1 os2 : OsState} {a C : Addr} (I1 : Inv X pins σ H1 ⟨hp, g1, d1, t1, os1⟩)
    (ha : hp.objs.size ≤ a) (k : ∀ b o, hp.get? b = some o → hp2.get? b = some o) (un : Un (frs X.stack) [] (upd H1 a (exo a C none)) H2 hp2 h2) (hok : HOk X.prog X.w H2 h2) (ho : os2 = os1) (hb : AllBare g2)
    (ea : H2 a = some (exo a C none)) :
    ∃ (t0 : Addr) (G : Heap), Inv X pins σ (del H2 a) ⟨G, g2, d2, t2, os2⟩ ∧ (∀ b o, G.get? b = some o → h2.get? b = some o) ∧ G.get? a = none ∧
      h2.get? a = some ({ cls := .ref C, dict := none, data := .fields #[.ref t0, .none, .none, .none, .bool false, .none] } : Obj) ∧ (del H2 a) a = none := by
  obtain ⟨t0, hoe⟩ := exo_at hok ea
  have hn : H1 a = none := I1.hok.fresh ha
  obtain ⟨G, g1', g2'⟩ := restrict h2 fun b => decide (b ≠ a)
  have gk : ∀ b, b ≠ a → G.get? b = h2.get? b := fun b hb => g1' b (decide_eq_true hb)
  have ge : G.get? a = none := g2' a (by simp)
  have nha : ∀ {b : Addr} {o : Obj}, hp.get? b = some o → b ≠ a := fun {b o} z => Nat.ne_of_lt (Nat.lt_of_lt_of_le (Heap.lt_size z) ha)
  have up : ∀ {b : Addr}, b ≠ a → H1 b = none → upd H1 a (exo a C none) b = none := fun {b} hb n => by rw [upd_ne hb]; exact n
  have U : Un (frs X.stack) [] H1 (del H2 a) hp G := {
    keep := fun b o z n hf hx => by
      rw [gk b (nha z)]
      exact un.keep b o (k b o z) (up (nha z) n) hf hx
    slot := fun b o z n hf hx => by
      rw [gk b (nha z)]
      exact un.slot b o (k b o z) (up (nha z) n) hf hx
    free := fun b o z n hx => by
      rw [del_ne (nha z)]
      exact un.free b o (k b o z) (up (nha z) n) hx
    there := fun b o z hx => by
      rw [gk b (nha z)]
      exact un.there b o (k b o z) hx
    tups := fun b xs z => by
      rw [del_ne (ne_of_none z hn)]
      exact un.tups b xs (by rw [upd_ne (ne_of_none z hn)]; exact z)
    frzs := fun b o v z => by
      rw [del_ne (ne_of_none z hn)]
      exact un.frzs b o v (by rw [upd_ne (ne_of_none z hn)]; exact z)
    tbls := fun b ps z => by
      rw [del_ne (ne_of_none z hn)]
      exact un.tbls b ps (by rw [upd_ne (ne_of_none z hn)]; exact z) }
  have hok3 : HOk X.prog X.w (del H2 a) G := fun b o z => by
    have hba : b ≠ a := fun e => by
      rw [e, del_same] at z
      cases z
    rw [del_ne hba] at z
    have noa : ∀ {c : Addr}, H2 c = some (.own b) → c ≠ a := fun {c} hc => at_ne ea hc exo_own
    exact (hok b o z).stay (fun c v hc y => by
        have hca : c ≠ a := by
          rcases hc with hc | hc
          · rw [hc]
            exact hba
          · exact noa hc
        rw [gk c hca]
        exact y)
      (fun c hc => by rw [del_ne (noa hc)]; exact hc) (fun c xs hc => by rw [del_ne (at_ne ea hc exo_tup)]; exact hc)
  have J : Inv X pins σ (del H2 a) ⟨G, g2, d2, t2, os2⟩ := I1.call' (ch := []) ho U hok3 hb (fun b z => absurd z (by simp))
  refine ⟨t0, G, J, fun b o z => ?_, ge, hoe, del_same⟩
  by_cases hba : b = a
  · rw [hba, ge] at z
    cases z
  · exact (gk b hba).symm.trans z
/-- raise C(e, ..) -/
def MkR (C : Addr) (H1 : Hp) (Q : XK) (a : Addr) (H2 : Hp) : Prop := (H2 a = some (exo a C none) ∧ Q (.ref C) none (del H2 a)) ∨
  ∃ (d : Addr) (fs : List (Str × V)), H2 a = some (exo a C (some d)) ∧ H2 d = some (exd d fs) ∧ H1 d = none ∧ Q (.ref C) (some d) (upd (del H2 a) d (.xd fs))
def tMkR (C : Addr) (sp : Sp) (dvs : List V) (ta : TA) : L2.St → Hp → XK → Prop := fun σ H Q => ta σ H fun vs H1 => vs.length ≤ 1000 ∧ ∀ a, H1 a = none → sp (.ref a :: (vs ++ dvs)) (upd H1 a (exo a C none)) (fun v H2 => v = .non ∧ MkR C H1 Q a H2) E0
theorem pmk_B (M : MkB X.K C fI tail) (F : FnOk X.prog X.w X.K X.mg X.base CX k fI fd ps sp) (hr : Room (k + 1) X.A) (hg : Gl X x) (hm : X.mg x = some (.ref C)) (hb : Binds X.K fd ps ds) (hd : Vals dvs ds) (hx : Passes CX X E0)
    (ha : PA X (e :: es) ta) (hdb : (x == ("__debug__" : Str)) = false := by decide) (he : starEach (e :: es) X.env = (false, eval e X.env) :: starEach es X.env := by rfl) (hpl : (backTo pos (starEach es X.env)).any (·.1) = false := by rfl) :
    PMk X (.Call (.Name x p) (e :: es) [] pos) (tMkR C sp dvs ta) := by
  intro pins s σ H Q I h
  refine wpAny_Call_Name_kw (ld_glob I hg hm ?_ hdb)
  refine PySem.W.callWith_K (h₀ := X.base) I.ok.mod.kin M.T.kC (thn (ha.run pos pins s σ H _ I h) fun us s1 ⟨vs, H1, I1, r, hz, q⟩ => ⟨I1.kIn, ?_⟩) he hpl
  refine run_mkB (RR := MkR C H1 Q) M F hr hb hd hx I1 r hz q fun s2 H2 hp2 hsz kk un2 hok2 os2 bare2 _ rr => ?_
  obtain ⟨hp, g, dr, tk, os⟩ := s1
  obtain ⟨h2, g2, d2, t2, os'⟩ := s2
  rcases rr with ⟨ea, q2⟩ | ⟨d, fs, ea, ed, hd1, q2⟩
  · obtain ⟨t0, G, J, kG, ge, hoe, na⟩ := mk_endN (d2 := d2) (t2 := t2) I1 hsz kk un2 hok2 os2 bare2 ea
    exact ⟨_, _, _, ⟨G, g2, d2, t2, os'⟩, _, .ref C, none, rfl, J, kG, ge, hoe, ⟨rfl, rfl⟩, rfl, rfl, na, rfl, bare2, raises_own M.T.exC M.T.tyC, q2⟩
  · exact mk_end (raises_own M.T.exC M.T.tyC) I1 hsz kk un2 hok2 os2 bare2 ea ed hd1 q2
end
end OM

namespace OM
open PySem PySem.Spec PyProof.Rows L2
theorem flying_more {base h h' : Heap} {l : List Env} {e : Addr} {Z : Obj → Prop} (x : HandSPX.FlyingZ base l e Z h) (k : ∀ b o, h.get? b = some o → h'.get? b = some o) : HandSPX.FlyingZ base l e Z h' := by
  obtain ⟨k1, k2, k3, oe, vs, T, oT, ts, he, hz, hd, h1, hn, hne, hT, hdT, h3⟩ := x
  exact ⟨fun b o q => k b o (k1 b o q), k2, Heap.FunFrames.of_keeps (fun b o e _ => ⟨o, k b o e, rfl⟩) k3, oe, vs, T, oT, ts, k _ _ he, hz, hd, h1, hn, hne, k _ _ hT, hdT, h3⟩
/-- the test of a clause: ok cls b: it answers b for an exception of the class cls -/
structure TstR (X : Cx) (t : Expr) (ok : Value → Bool → Prop) : Prop where
  run : ∀ (a : Addr) (oe : Obj) (pn : List (Addr × Obj)) (σ : L2.St) (H : Hp) (s : Shared) (cls : Value) (b : Bool) (Q : Bool → Shared → Prop) (E E' : Value → Shared → Prop), Inv (X.suite a ((a, oe) :: pn)) [] σ H s → s.heap.get? a = some oe → oe.cls = cls → ok cls b →
    (∀ h', (∀ q o, s.heap.get? q = some o → h'.get? q = some o) → Q b { s with heap := h' }) →
    wpAny (model X.prog X.w) (X.A.mark (some (.ref a))) (eval t X.env) (fun c s₁ => wpAny (model X.prog X.w) (X.A.mark (some (.ref a))) (excMatches (.ref a) c) Q E' s₁) E s
section
variable {X : Cx} {x : Str} {c : Value} {np tpos : Pos} {tk : Nat}
theorem ld_names {a : Addr} {oe : Obj} {pn pins : List (Addr × Obj)} {σ : L2.St} {H : Hp} {s : Shared} {Q : Value → Shared → Prop} {E : Value → Shared → Prop} (hc : Names X x c) (S : Inv (X.suite a ((a, oe) :: pn)) pins σ H s) (q : Q c s) :
    wpAny (model X.prog X.w) (X.A.mark (some (.ref a))) (eval (.Name x np) X.env) Q E s := by
  obtain ⟨hg, hdbg, hm | ⟨hm, hv, hnn⟩⟩ := hc
  · exact ld_glob (X := X.suite a ((a, oe) :: pn)) S hg hm q hdbg
  · exact ld_blt (X := X.suite a ((a, oe) :: pn)) S hg hm hv q hnn hdbg
theorem tst_one (hc : Names X x c) : TstR X (.Name x np) (fun cls b => PySem.W.exmOne X.K cls c = some b) := by
  refine ⟨fun a oe pn σ H s cls b Q E E' S ha hcls hok q => ?_⟩
  refine ld_names hc S ?_
  have LT : PySem.W.Looks (model X.prog X.w) s.heap (typeOf (.ref a)) cls := fun A Q E s k q => wpAny_typeOf_ref (k _ _ ha) (by rw [hcls]; exact q)
  exact (PySem.W.exm_one (M := model X.prog X.w) S.kIn LT hok).here (q s.heap fun _ _ z => z)
/-- names of classes, one behind the other -/
inductive NamesT (X : Cx) : List Expr → List Value → Prop
  | nil : NamesT X [] []
  | cons {x : Str} {c : Value} {np : Pos} {es : List Expr} {cs : List Value} (hc : Names X x c) (r : NamesT X es cs) (he : starEach (.Name x np :: es) X.env = (false, eval (.Name x np) X.env) :: starEach es X.env := by rfl) : NamesT X (.Name x np :: es) (c :: cs)
theorem items_names {a : Addr} {oe : Obj} {pn : List (Addr × Obj)} {σ : L2.St} {H : Hp} {s : Shared} {E : Value → Shared → Prop} {pos : Pos} (S : Inv (X.suite a ((a, oe) :: pn)) [] σ H s) : ∀ {es : List Expr} {cs : List Value} {Q : List Value → Shared → Prop}, NamesT X es cs → Q cs s →
    wpAny (model X.prog X.w) (X.A.mark (some (.ref a))) (spliced (backTo pos (starEach es X.env))) Q E s
  | _, _, _, .nil, q => wpAny_items_nil q
  | _, _, Q, .cons hc r he, q => wpAny_items_cons (ld_names hc S (items_names (Q := fun vs s => Q (_ :: vs) s) S r q)) he
theorem tst_tup {es : List Expr} {cs : List Value} (hc : NamesT X es cs) (hz : cs.length ≤ sizeLine) : TstR X (.Tuple es tk tpos) (fun cls b => PySem.W.exmAny X.K cls cs = some b) := by
  refine ⟨fun a oe pn σ H s cls b Q E E' S ha hcls hok q => ?_⟩
  refine wpAny_Tuple (items_names S hc ⟨hz, ?_⟩)
  have kp : ∀ q o, s.heap.get? q = some o → (s.heap.push { cls := .type "tuple", data := .seq cs.toArray }).get? q = some o := fun _ _ z => Heap.get?_push_of_some _ z
  have LT : PySem.W.Looks (model X.prog X.w) (s.heap.push { cls := .type "tuple", data := .seq cs.toArray }) (typeOf (.ref a)) cls := fun A Q E s k q => wpAny_typeOf_ref (k _ _ (kp _ _ ha)) (by rw [hcls]; exact q)
  exact (PySem.W.om_exm_tup (M := model X.prog X.w) (S.kIn.keeps kp) LT (Heap.get?_push_size s.heap rfl) rfl rfl hok).here (q _ kp)
end
/-- a clause: its test, the slot of its name, its suite -/
abbrev Cl := (Value → Bool → Prop) × Option Nat × (Addr → Value → Option Addr → TS)
def offD (D : Ends) (i : Nat) : Ends := { nx := fun σ' H' => D.nx (σ'.set i none) H', rt := D.rt, bk := fun σ' H' => D.bk (σ'.set i none) H', ct := fun σ' H' => D.ct (σ'.set i none) H' }
def wTry (Wout : WX) (D : Ends) : List Cl → WX
  | [] => Wout
  | (ok, none, ts) :: r => fun cls d σ H => ∃ b, ok cls b ∧ (b = true → ∀ a, H a = none → ts a cls d D σ H) ∧ (b = false → wTry Wout D r cls d σ H)
  | (ok, some i, ts) :: r => fun cls d σ H => ∃ b, ok cls b ∧ (b = true → ∀ a, H a = none → ts a cls d (offD D i) (σ.set i (some (.ref a))) H) ∧ (b = false → wTry Wout D r cls d σ H)
inductive ClsOk (X : Cx) : List ExceptHandler → List Cl → Prop
  | nil : ClsOk X [] []
  | cons {t : Expr} {ok : Value → Bool → Prop} {ts : Addr → Value → Option Addr → TS} {b₀ : Stmt} {suite : List Stmt} {pos' : Pos} {hds : List ExceptHandler} {l : List Cl} (ht : TstR X t ok)
      (hsu : ∀ (a : Addr) (oe : Obj) (cls : Value) (d : Option Addr) (pn : List (Addr × Obj)), Zc cls d oe → (∃ vs, oe.data = .fields vs) → PSs (X.suite a ((a, oe) :: pn)) (b₀ :: suite) (ts a cls d)) (r : ClsOk X hds l) :
      ClsOk X (.ExceptHandler (some t) none (b₀ :: suite) pos' :: hds) ((ok, none, ts) :: l)
  | as {n : Str} {i : Nat} {t : Expr} {ok : Value → Bool → Prop} {ts : Addr → Value → Option Addr → TS} {b₀ : Stmt} {suite : List Stmt} {pos' : Pos} {hds : List ExceptHandler} {l : List Cl} (hN : X.N.Nodup) (hi : X.N[i]? = some n) (hln : X.env.kindOf n = some .local) (ht : TstR X t ok)
      (hsu : ∀ (a : Addr) (oe : Obj) (cls : Value) (d : Option Addr) (pn : List (Addr × Obj)), Zc cls d oe → (∃ vs, oe.data = .fields vs) → PSs (X.suite a ((a, oe) :: pn)) (b₀ :: suite) (ts a cls d)) (r : ClsOk X hds l) :
      ClsOk X (.ExceptHandler (some t) (some n) (b₀ :: suite) pos' :: hds) ((ok, some i, ts) :: l)
section
variable {X : Cx} {body : List Stmt} {h₀ : ExceptHandler} {hds : List ExceptHandler} {l : List Cl} {pos : Pos} {tb : WX → TS} {Wout : WX}
theorem ps_try_gen (hs : X.stack = X.env :: X.outer) (hf : X.env.frame = some X.env.locals) (tk : Takes X Wout)
    (hb : ∀ (W : WX) (pn : List (Addr × Obj)) (xe : Value → Shared → Prop), Takes (X.tr pn xe) W → PassesOwn (model X.prog X.w) X.A X.env xe → PSs (X.tr pn xe) body (tb W))
    (hh : ClsOk X (h₀ :: hds) l) : PS X (.Try body (h₀ :: hds) [] [] pos) (fun D σ H => tb (wTry Wout D l) D σ H) := by
  refine ⟨fun pins s σ H D I h => ?_⟩
  have ok := I.ok
  have hfr : X.A.frames = some (X.env :: X.outer) := by rw [ok.frames, hs]
  refine wpAny_Try_except ?_
  refine wpAny_mono ((hb (wTry Wout D l) (X.pn ++ pins) (fun e s₁ => wpAny (model X.prog X.w) X.A (noteFrame e X.env) (fun _ s₂ => wpAny (model X.prog X.w) X.A (setFlight e none) (fun _ s₃ =>
    wpAny (model X.prog X.w) X.A (handleBy e X.env (h₀ :: hds)) (SP X pins D) X.xe s₃) X.xe s₂) X.xe s₁) (fun u s' xx => ?_) PassesOwn.looking).run [] s σ H D (I.toTry _) h) (fun f s1 hsp => ?_) (fun e s1 he => he)
  · -- the catch
    obtain ⟨a, B, sI, pins', σ', H', cls, d, rfl, J', nb, up, sky, na, os, ag, w⟩ := xx
    have J : Inv X pins σ' H' sI := J'.ofTry ok
    have sky' : Sky B (X.env :: X.outer) a (Zc cls d) X.env.locals s'.heap := by rw [← hs]; exact sky
    show wpAny (model X.prog X.w) X.A (noteFrame (.ref a) X.env) _ _ _
    refine Sky.land Zc.steady hfr hf sky' fun h3 fl3 up3 => ?_
    have notFr : ∀ {h : Heap} {o : Obj} {vs : Array Value}, h.FunFrames B (X.env :: X.outer) → h.get? a = some o → o.data = .fields vs → a ∉ frs (X.env :: X.outer) := fun {h o vs} ff e dd hm => by
      obtain ⟨_, o', e', hnf⟩ := ff.mem hm
      rw [e] at e'; cases e'
      exact hnf _ dd
    have nfr : a ∉ frs (X.env :: X.outer) := by
      obtain ⟨oe3, vs3, he3, hz3, hd3⟩ := fl3.there
      exact notFr fl3.2.2.1 he3 hd3
    have nL : a ≠ X.env.locals := fun z => nfr (List.mem_filterMap.mpr ⟨X.env, List.mem_cons_self, by rw [hf, z]⟩)
    have nF : a ∉ X.fs := fun hm => by
      obtain ⟨e, he, q⟩ := List.mem_filterMap.mp hm
      exact nfr (List.mem_filterMap.mpr ⟨e, List.mem_cons_of_mem _ he, q⟩)
    have go : ∀ {hds' : List ExceptHandler} {l' : List Cl}, ClsOk X hds' l' → ∀ h5, HandSPX.FlyingZ B (X.env :: X.outer) a (Zc cls d) h5 → s'.heap.UpToSlots h5 → wTry Wout D l' cls d σ' H' →
        wpAny (model X.prog X.w) X.A (handleBy (.ref a) X.env hds') (SP X pins D) X.xe { s' with heap := h5 } := by
      intro hds' l' hk
      induction hk with
      | nil =>
        intro h3 fl3 up3 w
        refine wpAny_handleBy_nil ?_
        obtain ⟨k1, k2, k3, oe, vs, T, oT, ts', he, hz, hd, h1, hr⟩ := id fl3
        unfold PySem.passOn
        refine wpAny_bind (wpAny_field he hd h1 ?_)
        rw [if_neg (show ¬ ((Value.ref T == Value.none) = true) from by simp)]
        have fin : wpAny (model X.prog X.w) X.A (setFlight (.ref a) X.env.frame) (fun _ s4 => wpAny (model X.prog X.w) X.A (throw (.ref a) : Sem Flow) (SP X pins D) X.xe s4) X.xe { s' with heap := h3 } := by
          rw [hf]
          refine HandSPX.setFlight_upZ fl3 fun h4 hh4 up4 => wpAny_throw (tk _ _ ?_)
          exact ⟨a, B, sI, pins, σ', H', cls, d, rfl, J, nb, (up.trans up3).trans up4, .inr (.inr (by rw [hs]; exact hh4)), na, os, ag, w⟩
        first
          | exact wpAny_bind (wpAny_pure (wpAny_bind fin))
          | exact wpAny_bind fin
      | @cons t okp ts b₀ suite pos' hds2 l2 ht hsu r ih =>
        intro h3 fl3 up3 w
        obtain ⟨b, hb1, hyes, hno⟩ := w
        have J3 : Inv X pins σ' H' { s' with heap := h3 } := J.landed nb fl3.1 (up.trans up3) os ag
        obtain ⟨oe3, vs3, he3, hz3, hd3⟩ := fl3.there
        have S3 := J3.suite he3 hd3 na nL nF
        refine wpAny_handleBy_cons (codeAny_handlers_test ?_) (by intro q; cases q)
        refine ht.run a oe3 (X.pn ++ pins) σ' H' _ cls b _ _ _ S3 he3 hz3.1 hb1 (fun h6 k6 => ?_)
        have fl6 := flying_more fl3 k6
        have up6 : s'.heap.UpToSlots h6 := up3.trans (Heap.UpToSlots.of_keeps k6)
        cases b with
        | true =>
          refine codeAny_handlers_suite ?_
          refine HandSPX.lands_againZ fl6 fun h4 fl4 up4 => ?_
          have J4 : Inv X pins σ' H' { s' with heap := h4 } := J.landed nb fl4.1 ((up.trans up6).trans up4) os ag
          obtain ⟨oe4, vs4, he4, hz4, hd4⟩ := fl4.there
          have S4 := J4.suite he4 hd4 na nL nF
          refine wpAny_mono ((hsu a oe4 cls d (X.pn ++ pins) hz4 ⟨_, hd4⟩).run [] _ _ H' _ S4 (hyes rfl a na)) (fun f s6 hsp => ?_) (fun _ _ z => False.elim z)
          cases f with
          | next =>
            obtain ⟨σ6, H6, S6, q6⟩ := hsp
            exact ⟨_, _, S6.unsuite ok, q6⟩
          | brk =>
            obtain ⟨σ6, H6, S6, q6⟩ := hsp
            exact ⟨_, _, S6.unsuite ok, q6⟩
          | cont =>
            obtain ⟨σ6, H6, S6, q6⟩ := hsp
            exact ⟨_, _, S6.unsuite ok, q6⟩
          | ret u =>
            obtain ⟨v6, σ6, H6, S6, r6, q6⟩ := hsp
            exact ⟨_, _, _, S6.unsuite ok, r6, q6⟩
        | false =>
          show wpAny _ X.A (handleBy (.ref a) X.env hds2) _ _ _
          exact ih h6 fl6 up6 (hno rfl)
      | @as n i t okp ts b₀ suite pos' hds2 l2 hN hi hln ht hsu r ih =>
        intro h3 fl3 up3 w
        obtain ⟨b, hb1, hyes, hno⟩ := w
        have J3 : Inv X pins σ' H' { s' with heap := h3 } := J.landed nb fl3.1 (up.trans up3) os ag
        obtain ⟨oe3, vs3, he3, hz3, hd3⟩ := fl3.there
        have S3 := J3.suite he3 hd3 na nL nF
        refine wpAny_handleBy_cons (codeAny_handlers_test ?_) (by intro q; cases q)
        refine ht.run a oe3 (X.pn ++ pins) σ' H' _ cls b _ _ _ S3 he3 hz3.1 hb1 (fun h6 k6 => ?_)
        have fl6 := flying_more fl3 k6
        have up6 : s'.heap.UpToSlots h6 := up3.trans (Heap.UpToSlots.of_keeps k6)
        cases b with
        | true =>
          have hloc : Loc X.env.scope n := .inl hln
          refine codeAny_handlers_suite_as ?_
          refine HandSPX.lands_againZ fl6 fun h4 fl4 up4 => ?_
          have J4 : Inv X pins σ' H' { s' with heap := h4 } := J.landed nb fl4.1 ((up.trans up6).trans up4) os ag
          obtain ⟨oe4, vs4, he4, hz4, hd4⟩ := fl4.there
          have S4 := J4.suite he4 hd4 na nL nF
          refine store_ok (X := X.suite a ((a, oe4) :: (X.pn ++ pins))) (v := .ref a) S4 hN hi hloc rfl (fun s5 S5 => ?_) (.inr hln)
          refine wpAny_mono ((hsu a oe4 cls d (X.pn ++ pins) hz4 ⟨_, hd4⟩).run [] s5 _ H' _ S5 (hyes rfl a na)) (fun f s6 hsp => ?_) (fun _ _ z => False.elim z)
          have end_ : ∀ {σ6 : L2.St} {H6 : Hp} {Q : Shared → Prop}, Inv (X.suite a ((a, oe4) :: (X.pn ++ pins))) [] σ6 H6 s6 → (∀ s7, Inv X pins (σ6.set i none) H6 s7 → Q s7) →
              wpAny (model X.prog X.w) X.A (do bindName X.env n .none; unbindBehindTheSuite X.env n pos') (fun _ s7 => Q s7) X.xe s6 := fun {σ6 H6 Q} S6 hq => gone_ok (S6.unsuite ok) hN hi hln hq
          cases f with
          | next =>
            obtain ⟨σ6, H6, S6, q6⟩ := hsp
            exact end_ S6 fun s7 J7 => ⟨_, _, J7, q6⟩
          | brk =>
            obtain ⟨σ6, H6, S6, q6⟩ := hsp
            exact end_ S6 fun s7 J7 => ⟨_, _, J7, q6⟩
          | cont =>
            obtain ⟨σ6, H6, S6, q6⟩ := hsp
            exact end_ S6 fun s7 J7 => ⟨_, _, J7, q6⟩
          | ret u =>
            obtain ⟨v6, σ6, H6, S6, r6, q6⟩ := hsp
            exact end_ S6 fun s7 J7 => ⟨_, _, _, J7, r6, q6⟩
        | false =>
          show wpAny _ X.A (handleBy (.ref a) X.env hds2) _ _ _
          exact ih h6 fl6 up6 (hno rfl)
    exact go hh h3 fl3 up3 w
  · cases f with
    | next =>
      obtain ⟨σ', H', J', q⟩ := hsp
      exact wpAny_execs_nil ⟨σ', H', J'.ofTry ok, q⟩
    | brk =>
      obtain ⟨σ', H', J', q⟩ := hsp
      exact ⟨σ', H', J'.ofTry ok, q⟩
    | cont =>
      obtain ⟨σ', H', J', q⟩ := hsp
      exact ⟨σ', H', J'.ofTry ok, q⟩
    | ret u =>
      obtain ⟨v, σ', H', J', r, q⟩ := hsp
      exact ⟨v, σ', H', J'.ofTry ok, r, q⟩
end
end OM

namespace OM
open PySem L2
def top (i : Nat) : Stmt := PySem.Challenge.pw_orderlymoves_k06_errors_of_stretches.main.body.getD i (.Pass ⟨0, 0, 0, 0⟩)
abbrev sDice : Stmt := top 55
abbrev sRoll : Stmt := top 56
abbrev sOneOf : Stmt := top 57

/-- all but a is as it was -/
def But (a : Addr) (H H' : Hp) : Prop := ∀ b o, b ≠ a → H b = some o → H' b = some o
/-- a dice: a list of three ints -/
def Dice (H : Hp) (a : Addr) : Prop := ∃ l m c : Int, H a = some (.lst [.int l, .int m, .int c])

structure TxtD (mg : Str → Option Value) : Prop where
  len : mg "len" = none
  int : mg "int" = none
  abs : mg "abs" = none

def spDice (K : PySem.W.Frag) : Sp := fun vs H Q _ => ∃ (a : Addr) (ns : List Int) (k : Nat), vs = [.ref a, .int (k : Int)] ∧ SqL K H a (ns.map V.int) ∧
  ∀ H' p, Same H H' → H p = none → Dice H' p → Q (.ref p) H'
def spRoll : Sp := fun vs H Q _ => ∃ (d : Addr) (n : Int), vs = [.ref d, .int n] ∧ Dice H d ∧ 0 < n ∧ n < 1073741824 ∧
  ∀ H' (r : Int), 0 ≤ r → r < n → But d H H' → Dice H' d → Q (.int r) H'
def spOneOf (K : PySem.W.Frag) : Sp := fun vs H Q _ => ∃ (d a : Addr) (xs : List V), vs = [.ref d, .ref a] ∧ Dice H d ∧ SqL K H a xs ∧ (H d ≠ none → a ≠ d) ∧ 0 < xs.length ∧ xs.length < 1073741824 ∧
  ∀ H' (i : Nat) v, xs[i]? = some v → But d H H' → Dice H' d → Q v H'

section
variable {P : Program} {w : World} {K : PySem.W.Frag} {mg : Str → Option Value} {base : Heap}
theorem scR : FnScope ["_law_dice_here", "_law_total", "_law_number", "_law_drawn", "_law_one", "_law_two"] ["_law_dice_here", "_law_total"] (defScope sRoll) := ⟨rfl, rfl, rfl, by decide +kernel, rfl, by decide +kernel, by decide +kernel⟩
theorem ok_roll {f : Addr} {fd : FuncData} (F : Fun K "_law_roll" "_law_roll" sRoll f fd) (T : TxtD mg) : FnOk P w K mg base CX0 1 f fd ["_law_dice_here", "_law_total"] spRoll := by
  refine F.ok scR (fun vs H Q E h => ?_) (fun cdv A outer s H vs Q E hr h => ?_)
  · obtain ⟨d, n, rfl, _⟩ := h
    rfl
  · obtain ⟨d, n, rfl, ⟨l, m, c, hd⟩, n0, n1, k⟩ := h
    have big : ∀ {x : Int}, 0 ≤ x → x < 2305843009213693952 → (-(2 ^ 64) < x ∧ x < 2 ^ 64) := fun h1 h2 => ⟨by omega, by omega⟩
    refine ⟨_, pss_cons (ps_set (i := 2) scR.nd rfl (Or.inl rfl) (pe_callTy call_int1 (by rfl) T.int (by decide +kernel) (pa_cons (pv 1) pa_nil)))
      (pss_cons (ps_if (pt_cmpR op_gt (pe_ix ix_list (pv 0) pe_int (fun _ _ => rfl)) pe_int (nomark _))
        (pss_cons (ps_set (i := 3) scR.nd rfl (Or.inl rfl) (pe_op op_mod (pe_ix ix_list (pv 0) pe_int (fun _ _ => rfl)) (pv 2)))
        (pss_cons (ps_asg (pe_op op_fdiv (pe_ix ix_list (pv 0) pe_int (fun _ _ => rfl)) (pv 2)) (pg_sub (pv 0) pe_int set_list))
        (pss_one (ps_ret (pe_callTy call_int1 (by rfl) T.int (by decide +kernel) (pa_cons (pv 3) pa_nil))))))
        pss_nil)
      (pss_cons (ps_asg (pe_op op_add (pe_ix ix_list (pv 0) pe_int (fun _ _ => rfl)) pe_int) (pg_sub (pv 0) pe_int set_list))
      (pss_cons (ps_set (i := 4) scR.nd rfl (Or.inl rfl) (pe_op op_mod (pe_op op_add (pe_ix ix_list (pv 0) pe_int (fun _ _ => rfl)) (pe_op op_mul pe_int (pe_ix ix_list (pv 0) pe_int (fun _ _ => rfl)))) pe_int))
      (pss_cons (ps_set (i := 5) scR.nd rfl (Or.inl rfl) (pe_op op_add (pe_op op_mul (pe_op op_mod (pe_op op_mul (pv 4) (pv 4)) pe_int) (pv 4)) (pe_op op_mul pe_int (pe_ix ix_list (pv 0) pe_int (fun _ _ => rfl)))))
      (pss_cons (ps_set (i := 5) scR.nd rfl (Or.inl rfl) (pe_op op_mod (pv 5) pe_int))
      (pss_one (ps_ret (pe_callTy call_int1 (by rfl) T.int (by decide +kernel) (pa_cons (pe_op op_mod (pe_op op_fdiv (pv 5) pe_int) (pv 2)) pa_nil))))))))), ?_⟩
    refine ⟨_, rfl, .inl ⟨_, rfl, ?_⟩⟩
    refine ⟨_, rfl, d, _, _, _, rfl, rfl, SqL.of hd, rfl, _, _, rfl, rfl, _, rfl, ite2 (fun h0 => ?_) (fun h0 => ?_)⟩
    · refine ⟨_, rfl, d, _, _, _, rfl, rfl, SqL.of hd, rfl, _, rfl, _, _, rfl, rfl, n0, ?_⟩
      refine ⟨_, rfl, d, _, _, _, rfl, rfl, SqL.of hd, rfl, _, rfl, _, _, rfl, rfl, ⟨n0, n1⟩, _, rfl, d, _, _, 0, rfl, rfl, hd, rfl, ?_⟩
      refine ⟨_, rfl, .inl ⟨_, rfl, ?_⟩⟩
      refine k _ _ (Int.emod_nonneg _ (by omega)) (Int.emod_lt_of_pos _ n0) (fun b o nb e => by rw [upd_ne nb]; exact e) ⟨_, _, _, upd_same⟩
    · refine ⟨_, rfl, d, _, _, _, rfl, rfl, SqL.of hd, rfl, _, _, rfl, rfl, _, rfl, d, _, _, 2, rfl, rfl, hd, rfl, ?_⟩
      have hd2 : upd H d (.lst [.int l, .int m, .int (c + 1)]) d = some (.lst [.int l, .int m, .int (c + 1)]) := upd_same
      refine ⟨_, rfl, d, _, _, _, rfl, rfl, SqL.of hd2, rfl, _, rfl, d, _, _, _, rfl, rfl, SqL.of hd2, rfl, _, _, rfl, rfl, .inl (by decide), _, _, rfl, rfl, _, _, rfl, rfl, (by show (0 : Int) < 2305843009213693951; decide), ?_⟩
      have o0 : 0 ≤ (m + 1000099 * (c + 1)) % 2305843009213693951 := Int.emod_nonneg _ (by decide)
      have o1 : (m + 1000099 * (c + 1)) % 2305843009213693951 < 2305843009213693951 := Int.emod_lt_of_pos _ (by decide)
      refine ⟨_, rfl, _, rfl, _, _, rfl, rfl, .inl (big o0 (by omega)), _, _, rfl, rfl, (by show (0 : Int) < 2305843009213693921; decide), _, rfl, _, _, rfl, rfl, .inr (big o0 (by omega)), _, rfl, d, _, _, _, rfl, rfl, SqL.of hd2, rfl, _, _, rfl, rfl, .inl (by decide), _, _, rfl, rfl, ?_⟩
      refine ⟨_, rfl, _, _, rfl, rfl, (by show (0 : Int) < 2305843009213693907; decide), ?_⟩
      refine ⟨_, rfl, _, _, rfl, rfl, ⟨by decide, by decide⟩, _, rfl, _, _, rfl, rfl, n0, .inl ⟨_, rfl, ?_⟩⟩
      exact k _ _ (Int.emod_nonneg _ (by omega)) (Int.emod_lt_of_pos _ n0) (fun b o nb e => by rw [upd_ne nb]; exact e) ⟨_, _, _, upd_same⟩
theorem scO : FnScope ["_law_dice_here", "_law_items"] ["_law_dice_here", "_law_items"] (defScope sOneOf) := ⟨rfl, rfl, rfl, by decide +kernel, rfl, by decide +kernel, by decide +kernel⟩
theorem But.seq {K : PySem.W.Frag} {H H' : Hp} {d a : Addr} {xs : List V} (e : But d H H') (n : H d ≠ none → a ≠ d) (dn : H d ≠ none) (h : SqL K H a xs) : SqL K H' a xs := by
  rcases h with (h | ⟨o, h⟩) | h
  · exact .inl (.inl (e _ _ (n dn) h))
  · exact .inl (.inr ⟨o, e _ _ (n dn) h⟩)
  · exact .inr h
theorem Dice.ne {H : Hp} {d : Addr} (h : Dice H d) : H d ≠ none := by
  obtain ⟨_, _, _, e⟩ := h
  rw [e]
  exact fun z => nomatch z
theorem ok_oneof {f fR : Addr} {fd fdR : FuncData} (F : Fun K "_law_one_of" "_law_one_of" sOneOf f fd) (T : TxtD mg) (FR : Fun K "_law_roll" "_law_roll" sRoll fR fdR) (gR : mg "_law_roll" = some (.ref fR)) (bR : Binds K fdR ["_law_dice_here", "_law_total"] []) :
    FnOk P w K mg base CX0 2 f fd ["_law_dice_here", "_law_items"] (spOneOf K) := by
  have GR : FnOk P w K mg base CX0 1 fR fdR ["_law_dice_here", "_law_total"] spRoll := ok_roll FR T
  refine F.ok scO (fun vs H Q E h => ?_) (fun cdv A outer s H vs Q E hr h => ?_)
  · obtain ⟨d, a, xs, rfl, _⟩ := h
    rfl
  · obtain ⟨d, a, xs, rfl, hd, hx, ne, l0, l1, k⟩ := h
    refine ⟨_, pss_one (ps_ret (pe_ix ix_list (pv 1) (pe_call GR hr rfl gR FR.kp bR .nil pass0 (pa_cons (pv 0) (pa_cons (pe_callB call_len_seq (by rfl) T.len PySem.boot_len (pa_cons (pv 1) pa_nil)) pa_nil))) (fun _ _ => rfl))), ?_⟩
    refine ⟨_, rfl, _, rfl, _, rfl, a, _, rfl, .inl hx, d, _, rfl, hd, by omega, by omega, fun H' r r0 r1 hb hd' => ?_⟩
    obtain ⟨i, rfl⟩ : ∃ i : Nat, r = (i : Int) := ⟨r.toNat, by omega⟩
    have hi : i < xs.length := by omega
    have hv : xs[i]? = some xs[i] := List.getElem?_eq_getElem hi
    exact ⟨a, xs, _, _, rfl, rfl, hb.seq ne hd.ne hx, atI_nat hv, k _ i _ hv hb hd'⟩
theorem scD : FnScope ["_law_script", "_law_at", "_law_cell", "_law_great", "_law_left", "_law_mixed_here"] ["_law_script", "_law_at"] (defScope sDice) := ⟨rfl, rfl, rfl, by decide +kernel, rfl, by decide +kernel, by decide +kernel⟩
/-- a power of a greater base -/
theorem op_powB {X : Cx} : OpR X (binaryOp .Pow) (rI (fun i j => 0 ≤ j ∧ (PySem.Builtin.Int.intBits i : Int) * j ≤ 2 ^ 27) fun i j => .int (i ^ j.toNat)) := opI fun _ _ _ _ _ _ _ hc q => PyProof.Rows.pow_int hc.1 hc.2 q
theorem ok_dice {f : Addr} {fd : FuncData} (F : Fun K "_law_dice" "_law_dice" sDice f fd) (T : TxtD mg) : FnOk P w K mg base CX0 1 f fd ["_law_script", "_law_at"] (spDice K) := by
  refine F.ok scD (fun vs H Q E h => ?_) (fun cdv A outer s H vs Q E hr h => ?_)
  · obtain ⟨a, ns, k, rfl, _⟩ := h
    rfl
  · obtain ⟨a, ns, k, rfl, hS, q⟩ := h
    refine ⟨_, pss_cons (ps_set (i := 2) scD.nd rfl (Or.inl rfl) (pe_op op_add (pe_op op_mul pe_int (pv 1)) pe_int))
      (pss_cons (ps_if (pt_cmpR op_lt (pv 1) (pe_callB call_len_seq (by rfl) T.len PySem.boot_len (pa_cons (pv 0) pa_nil)) (nomark _))
        (pss_one (ps_set (i := 2) scD.nd rfl (Or.inl rfl) (pe_ix ix_list (pv 0) (pv 1) (fun _ _ => rfl)))) pss_nil)
      (pss_cons (ps_set (i := 3) scD.nd rfl (Or.inl rfl) (pe_op op_mod (pe_callTy call_int1 (by rfl) T.int (by decide +kernel) (pa_cons (pe_callB call_abs (by rfl) T.abs (by decide +kernel) (pa_cons (pv 2) pa_nil)) pa_nil)) (pe_op op_powB (pe_op op_pow pe_int pe_int) pe_int)))
      (pss_cons (ps_set (i := 4) scD.nd rfl (Or.inl rfl) (pe_op op_fdivW (pv 3) (pe_op op_pow pe_int pe_int)))
      (pss_cons (ps_set (i := 5) scD.nd rfl (Or.inl rfl) (pe_op op_add (pe_op op_add (pe_op op_add (pe_op op_mul (pe_op op_mod (pv 3) pe_int) pe_int) (pe_op op_mul pe_int (pv 1))) (pe_op op_mul pe_int (pe_callTy call_int1 (by rfl) T.int (by decide +kernel) (pa_cons (pe_cmpR op_lt (pv 2) pe_int (nomark _)) pa_nil)))) pe_int))
      (pss_one (ps_ret (pe_lst (pa_cons (pv 4) (pa_cons (pe_op op_mod (pv 5) pe_int) (pa_cons pe_int pa_nil)))))))))), ?_⟩
    refine ⟨_, rfl, _, _, rfl, rfl, .inl (by decide), _, _, rfl, rfl, ?_⟩
    refine ⟨_, rfl, _, rfl, a, _, rfl, .inl hS, _, _, rfl, rfl, _, rfl, ite2 (fun h0 => ?_) (fun h0 => ?_)⟩
    · have h1 : k < ns.length := by
        rw [List.length_map] at h0
        have h2 := of_decide_eq_true h0
        omega
      have hv : (ns.map V.int)[k]? = some (V.int ns[k]) := by
        rw [List.getElem?_map, List.getElem?_eq_getElem h1]
        rfl
      refine ⟨_, rfl, _, rfl, a, _, _, _, rfl, rfl, hS, atI_nat hv, ?_⟩
      refine ⟨_, rfl, _, rfl, .inl ⟨_, rfl, ?_⟩⟩
      refine ⟨_, _, rfl, rfl, ⟨by decide, by decide, by decide⟩, _, _, rfl, rfl, ⟨by decide, by decide +kernel⟩, _, _, rfl, rfl, (by show (0 : Int) < (10 ^ (60 : Int).toNat) ^ (10 : Int).toNat; decide +kernel), ?_⟩
      refine ⟨_, rfl, _, _, rfl, rfl, ⟨by decide, by decide, by decide⟩, _, _, rfl, rfl, wide_div (b := 64) (by show (0 : Int) < 10 ^ (18 : Int).toNat; decide +kernel) (by show (10 ^ (18 : Int).toNat : Int).natAbs < 2 ^ 64; decide +kernel) (by decide) (by decide), ?_⟩
      refine ⟨_, rfl, _, _, rfl, rfl, (by show (0 : Int) < 2147483423; decide), _, _, rfl, rfl, .inr (by decide), _, rfl, _, _, rfl, rfl, .inl (by decide), _, _, rfl, rfl, _, rfl, _, _, rfl, rfl, .inr ⟨_, rfl, ?_⟩⟩
      refine ⟨_, _, rfl, rfl, .inl (by decide), _, _, rfl, rfl, _, _, rfl, rfl, ?_⟩
      refine ⟨_, rfl, _, rfl, _, _, rfl, rfl, (by show (0 : Int) < 2147483399; decide), (by show 3 ≤ sizeLine; decide), fun p hp => ?_⟩
      exact q _ p (fun b o e => by rw [upd_ne (ne_of_none e hp)]; exact e) hp ⟨_, _, _, upd_same⟩
    · refine ⟨_, rfl, _, rfl, .inl ⟨_, rfl, ?_⟩⟩
      refine ⟨_, _, rfl, rfl, ⟨by decide, by decide, by decide⟩, _, _, rfl, rfl, ⟨by decide, by decide +kernel⟩, _, _, rfl, rfl, (by show (0 : Int) < (10 ^ (60 : Int).toNat) ^ (10 : Int).toNat; decide +kernel), ?_⟩
      refine ⟨_, rfl, _, _, rfl, rfl, ⟨by decide, by decide, by decide⟩, _, _, rfl, rfl, wide_div (b := 64) (by show (0 : Int) < 10 ^ (18 : Int).toNat; decide +kernel) (by show (10 ^ (18 : Int).toNat : Int).natAbs < 2 ^ 64; decide +kernel) (by decide) (by decide), ?_⟩
      refine ⟨_, rfl, _, _, rfl, rfl, (by show (0 : Int) < 2147483423; decide), _, _, rfl, rfl, .inr (by decide), _, rfl, _, _, rfl, rfl, .inl (by decide), _, _, rfl, rfl, _, rfl, _, _, rfl, rfl, .inr ⟨_, rfl, ?_⟩⟩
      refine ⟨_, _, rfl, rfl, .inl (by decide), _, _, rfl, rfl, _, _, rfl, rfl, ?_⟩
      refine ⟨_, rfl, _, rfl, _, _, rfl, rfl, (by show (0 : Int) < 2147483399; decide), (by show 3 ≤ sizeLine; decide), fun p hp => ?_⟩
      exact q _ p (fun b o e => by rw [upd_ne (ne_of_none e hp)]; exact e) hp ⟨_, _, _, upd_same⟩
end
end OM

namespace OM
open PySem PySem.Spec PyProof.Rows L2
abbrev sCop : Stmt := top 14
/-- a key as a datum -/
def kD : Key → PyData
  | .inl i => .int i
  | .inr x => .str x
/-- values that are no objects -/
inductive At : V → PyData → Prop where
  | non : At .non .none
  | bl (b : Bool) : At (.bl b) (.bool b)
  | int (i : Int) : At (.int i) (.int i)
  | str (x : Str) : At (.str x) (.str x)
mutual
/-- v stands for the datum d, by objects of S alone -/
inductive Dt (S : Addr → Prop) (H : Hp) : V → PyData → Prop where
  | at {v : V} {d : PyData} (h : At v d) : Dt S H v d
  | lst {a : Addr} {xs : List V} {ds : List PyData} (s : S a) (e : H a = some (.lst xs)) (hl : xs.length ≤ 1000) (h : DtAll S H xs ds) : Dt S H (.ref a) (.list ds)
  | tup {a : Addr} {xs : List V} {ds : List PyData} (s : S a) (e : H a = some (.tup xs)) (hl : xs.length ≤ 1000) (h : DtAll S H xs ds) : Dt S H (.ref a) (.tuple ds)
  | dic0 {a : Addr} (s : S a) (e : H a = some (.dK [])) : Dt S H (.ref a) (.dict [])
  | dic1 {a : Addr} {k : Key} {v : V} {d : PyData} (s : S a) (e : H a = some (.dK [(k, v)])) (h : At v d) : Dt S H (.ref a) (.dict [(kD k, d)])
inductive DtAll (S : Addr → Prop) (H : Hp) : List V → List PyData → Prop where
  | nil : DtAll S H [] []
  | cons {v : V} {d : PyData} {vs : List V} {ds : List PyData} (h : Dt S H v d) (r : DtAll S H vs ds) : DtAll S H (v :: vs) (d :: ds)
end
section
variable {S S' : Addr → Prop} {H H' : Hp}
mutual
theorem Dt.mv (hS : ∀ a, S a → S' a) (hH : ∀ a o, S a → H a = some o → H' a = some o) : ∀ {v : V} {d : PyData}, Dt S H v d → Dt S' H' v d
  | _, _, .at h => .at h
  | _, _, .lst s e hl h => .lst (hS _ s) (hH _ _ s e) hl (DtAll.mv hS hH h)
  | _, _, .tup s e hl h => .tup (hS _ s) (hH _ _ s e) hl (DtAll.mv hS hH h)
  | _, _, .dic0 s e => .dic0 (hS _ s) (hH _ _ s e)
  | _, _, .dic1 s e h => .dic1 (hS _ s) (hH _ _ s e) h
theorem DtAll.mv (hS : ∀ a, S a → S' a) (hH : ∀ a o, S a → H a = some o → H' a = some o) : ∀ {vs : List V} {ds : List PyData}, DtAll S H vs ds → DtAll S' H' vs ds
  | _, _, .nil => .nil
  | _, _, .cons h r => .cons (Dt.mv hS hH h) (DtAll.mv hS hH r)
end
mutual
theorem Dt.strong (hS : ∀ a o, S a → H a = some o → S' a ∧ H' a = some o) : ∀ {v : V} {d : PyData}, Dt S H v d → Dt S' H' v d
  | _, _, .at h => .at h
  | _, _, .lst s e hl h => .lst (hS _ _ s e).1 (hS _ _ s e).2 hl (DtAll.strong hS h)
  | _, _, .tup s e hl h => .tup (hS _ _ s e).1 (hS _ _ s e).2 hl (DtAll.strong hS h)
  | _, _, .dic0 s e => .dic0 (hS _ _ s e).1 (hS _ _ s e).2
  | _, _, .dic1 s e h => .dic1 (hS _ _ s e).1 (hS _ _ s e).2 h
theorem DtAll.strong (hS : ∀ a o, S a → H a = some o → S' a ∧ H' a = some o) : ∀ {vs : List V} {ds : List PyData}, DtAll S H vs ds → DtAll S' H' vs ds
  | _, _, .nil => .nil
  | _, _, .cons h r => .cons (Dt.strong hS h) (DtAll.strong hS r)
end
theorem DtAll.snoc : ∀ {vs : List V} {ds : List PyData} {v : V} {d : PyData}, DtAll S H vs ds → Dt S H v d → DtAll S H (vs ++ [v]) (ds ++ [d])
  | _, _, _, _, .nil, h => .cons h .nil
  | _, _, _, _, .cons a r, h => .cons a (DtAll.snoc r h)
theorem DtAll.length : ∀ {vs : List V} {ds : List PyData}, DtAll S H vs ds → vs.length = ds.length
  | _, _, .nil => rfl
  | _, _, .cons _ r => congrArg (· + 1) (DtAll.length r)
theorem DtAll.get : ∀ {vs : List V} {ds : List PyData} {i : Nat} {v : V}, DtAll S H vs ds → vs[i]? = some v → ∃ d, ds[i]? = some d ∧ Dt S H v d
  | _, _, _, _, .nil, e => by simp at e
  | _, _, 0, _, .cons h _, e => by
    simp at e
    subst e
    exact ⟨_, rfl, h⟩
  | _, _, i + 1, _, .cons _ r, e => by
    obtain ⟨d, e2, h⟩ := DtAll.get (i := i) r (by simpa using e)
    exact ⟨d, by simpa using e2, h⟩
theorem depth_get : ∀ {ds : List PyData} {i : Nat} {d : PyData}, ds[i]? = some d → d.depth ≤ PyData.depthAll ds
  | [], _, _, e => by simp at e
  | x :: r, 0, d, e => by
    simp at e
    subst e
    unfold PyData.depthAll
    omega
  | x :: r, i + 1, d, e => by
    have q := depth_get (ds := r) (i := i) (d := d) (by simpa using e)
    unfold PyData.depthAll
    omega
/-- the type that isinstance sees -/
theorem At.ty {K : PySem.W.Frag} {v : V} {d : PyData} (h : At v d) : ∃ n, (n = "NoneType" ∨ n = "bool" ∨ n = "int" ∨ n = "str") ∧ TyX K H v (.type n) := by
  cases h with
  | non => exact ⟨_, .inl rfl, .base .non⟩
  | bl b => exact ⟨_, .inr (.inl rfl), .base (.bl b)⟩
  | int i => exact ⟨_, .inr (.inr (.inl rfl)), .base (.int i)⟩
  | str x => exact ⟨_, .inr (.inr (.inr rfl)), .base (.str x)⟩
end
/-- what _copied answers: the same datum, of objects that were not there -/
def spCop : Nat → Sp
  | 0 => fun _ _ _ _ => False
  | n + 1 => fun vs H Q _ => ∃ (S : Addr → Prop) (v : V) (d : PyData), vs = [v] ∧ Dt S H v d ∧ d.depth ≤ n ∧ ∀ H' v', Same H H' → Dt (fun a => H a = none) H' v' d → Q v' H'
structure TxtC (mg : Str → Option Value) : Prop where
  isi : mg "isinstance" = none
  lst : mg "list" = none
  tup : mg "tuple" = none
  dct : mg "dict" = none
/-- over the keys of a dict that is held -/
theorem dc_keys {d : Addr} {o : Obj} {kws : List (Key × V)} {g : TG} {tt : TT} {tk tv : TE} {vs : List Nat} {σ : L2.St} {H1 : Hp} {D : Addr} {Qd : Hp → Prop} (Pv : Nat → Hp → Prop) (h0 : Pv 0 (upd H1 D (.dK []))) (hl : ∀ i H, Pv i H → H d = some (.frz o (.dK kws)))
    (hs : ∀ i k v H, kws[i]? = some (k, v) → Pv i H → g (kV k) (wipe σ vs) H fun σ2 H2 => wipe σ2 vs = wipe σ vs ∧ tt σ2 H2 fun b H3 =>
      if b = true then tk σ2 H3 fun y H4 => tv σ2 H4 fun z H5 => ∃ kvs k, y = kV k ∧ H5 D = some (.dK kvs) ∧ kvs.length < sizeLine ∧ Pv (i + 1) (upd H5 D (.dK (putK kvs k z))) else Pv (i + 1) H3) (hd : ∀ H, Pv kws.length H → Qd H) :
    ∃ W : Nat → Nat → Hp → Prop, (∃ m, W 0 m (upd H1 D (.dK []))) ∧ ∀ i m H, W i m H →
      ((Itk d o kws).stop i H ∧ Qd H) ∨ ((Itk d o kws).go i H ∧ ∃ Nx : Hp → Prop, (∀ H', Nx H' → ∃ m', m' < m ∧ W (i + 1) m' H') ∧ ∀ x H', (Itk d o kws).yld i H x H' → g x (wipe σ vs) H' fun σ2 H2 => wipe σ2 vs = wipe σ vs ∧ tt σ2 H2 fun b H3 =>
        if b = true then tk σ2 H3 fun y H4 => tv σ2 H4 fun z H5 => ∃ kvs k, y = kV k ∧ H5 D = some (.dK kvs) ∧ kvs.length < sizeLine ∧ Nx (upd H5 D (.dK (putK kvs k z))) else Nx H3) := by
  refine ⟨fun i m H => i ≤ kws.length ∧ m = kws.length - i ∧ Pv i H, ⟨_, Nat.zero_le _, rfl, h0⟩, ?_⟩
  rintro i m H ⟨hi, rfl, p⟩
  have q := hl i H p
  rcases Nat.lt_or_ge i kws.length with hlt | hge
  · refine .inr ⟨⟨q, hlt⟩, Pv (i + 1), fun H' p' => ⟨kws.length - (i + 1), by omega, hlt, rfl, p'⟩, fun x H' y => ?_⟩
    obtain ⟨rfl, k, v, e, rfl⟩ := y
    exact hs i k v _ e p
  · obtain rfl : i = kws.length := by omega
    exact .inl ⟨⟨q, hge⟩, hd H p⟩
section
variable {P : Program} {w : World} {K : PySem.W.Frag} {mg : Str → Option Value} {base : Heap}
theorem scC : FnScope ["value", "part", "key"] ["value"] (defScope sCop) := ⟨rfl, rfl, rfl, by decide +kernel, rfl, by decide +kernel, by decide +kernel⟩
theorem isi_b {H : Hp} {x : V} {n m : String} {r : Bool} {Q : VK} (ty : TyX K H x (.type n)) (h : kitB n m = some r) (q : Q (.bl r) H) : rIsi K [x, .ty m] H Q := ⟨x, .ty m, _, _, r, rfl, .ty m, ty, kit_ty h, q⟩
/-- if isinstance(x, T): , x the name in the i-th slot -/
theorem isi_if {σ : L2.St} {i : Nat} {H : Hp} {x : V} {n m : String} {r : Bool} {Q : Bool → Hp → Prop} (hv : σ[i]? = some (some x)) (ty : TyX K H x (.type n)) (h : kitB n m = some r) (q : Q r H) : tB (tCB (rIsi K) (tCons (tVar i) (tCons (tC (.ty m)) tNil))) σ H Q :=
  ⟨x, hv, isi_b (Q := fun y H1 => ∃ c, y = V.bl c ∧ Q c H1) ty h ⟨r, rfl, q⟩⟩
end
end OM

namespace OM
open PySem PySem.Spec PyProof.Rows L2
section
variable {P : Program} {w : World} {K : PySem.W.Frag} {mg : Str → Option Value} {base : Heap}
theorem same_upd {H : Hp} {D : Addr} {o : HO} (h : H D = none) : Same H (upd H D o) := fun b u e => by rw [upd_ne (ne_of_none e h)]; exact e
theorem same_put {H H' : Hp} {D : Addr} {o : HO} (h : H D = none) (s : Same H H') : Same H (upd H' D o) := fun b u e => by rw [upd_ne (ne_of_none e h)]; exact s b u e
/-- what holds of the parts that were copied so far -/
def PvC (H : Hp) (D : Addr) (ds : List PyData) (i : Nat) (H' : Hp) : Prop := Same H H' ∧ ∃ acc : List V, H' D = some (.lst acc) ∧ DtAll (fun a => H a = none ∧ a ≠ D) H' acc (ds.take i)
theorem PvC.one {S : Addr → Prop} {H H3 : Hp} {D : Addr} {xs : List V} {ds : List PyData} {i m : Nat} {x : V} (hD : H D = none) (hl : xs.length ≤ 1000) (h : DtAll S H xs ds) (hdep : PyData.depthAll ds ≤ m) (hx : xs[i]? = some x) (p : PvC H D ds i H3) :
    spCop (m + 1) [x] H3 (fun y H4 => ∃ acc, H4 D = some (.lst acc) ∧ acc.length < sizeLine ∧ PvC H D ds (i + 1) (upd H4 D (.lst (acc ++ [y])))) E0 := by
  obtain ⟨sm, acc, hD3, da⟩ := p
  obtain ⟨d, hdi, hdt⟩ := h.get hx
  refine ⟨S, x, d, rfl, hdt.mv (fun _ z => z) (fun a o _ e => sm a o e), Nat.le_trans (depth_get hdi) hdep, fun H4 v' sm4 dt4 => ⟨acc, sm4 _ _ hD3, ?_, ?_⟩⟩
  · have e1 := da.length
    rw [List.length_take] at e1
    have e2 : (1000 : Nat) < sizeLine := by decide
    have e3 := h.length
    omega
  · refine ⟨same_put hD (sm.trans sm4), acc ++ [v'], upd_same, ?_⟩
    have et : ds.take (i + 1) = ds.take i ++ [d] := by
      rw [List.take_add_one, hdi] <;> rfl
    rw [et]
    refine DtAll.snoc (da.mv (fun _ z => z) fun a o s e => by rw [upd_ne s.2]; exact sm4 _ _ e) (dt4.mv (fun a (s : H3 a = none) => ⟨sm.free s, fun z => by rw [z, hD3] at s; cases s⟩) fun a o s e => ?_)
    have s' : H3 a = none := s
    rw [upd_ne (fun z => by rw [z, hD3] at s'; cases s')]
    exact e
theorem PvC.all {S : Addr → Prop} {H H5 : Hp} {D : Addr} {xs : List V} {ds : List PyData} (h : DtAll S H xs ds) (p : PvC H D ds xs.length H5) : Same H H5 ∧ ∃ acc : List V, H5 D = some (.lst acc) ∧ acc.length = xs.length ∧ DtAll (fun a => H a = none ∧ a ≠ D) H5 acc ds := by
  obtain ⟨sm, acc, hD5, da⟩ := p
  rw [h.length, List.take_length] at da
  exact ⟨sm, acc, hD5, da.length.trans h.length.symm, da⟩
theorem PvC.zero {H : Hp} {D : Addr} {ds : List PyData} (hD : H D = none) : PvC H D ds 0 (upd H D (.lst [])) := ⟨same_upd hD, [], upd_same, .nil⟩
theorem unlock_same {H H' : Hp} {a : Addr} {od : Obj} {u : HO} (e : H a = some u) (sm : Same (upd H a (.frz od u)) H') : Same H (upd H' a u) := fun b o z => by
  by_cases hb : b = a
  · rw [hb] at z ⊢
    rw [upd_same, ← z, e]
  · rw [upd_ne hb]
    exact sm b o (by rw [upd_ne hb]; exact z)
theorem At.of {S : Addr → Prop} {H : Hp} {v v' : V} {d : PyData} (h : At v d) (x : Dt S H v' d) : At v' d := by
  cases h <;> (cases x; assumption)
theorem cop_step {f : Addr} {fd : FuncData} {n : Nat} (F : Fun K "_copied" "_copied" sCop f fd) (T : TxtC mg) (gC : mg "_copied" = some (.ref f)) (bC : Binds K fd ["value"] []) (G : FnOk P w K mg base CX0 n f fd ["value"] (spCop n)) :
    FnOk P w K mg base CX0 (n + 1) f fd ["value"] (spCop (n + 1)) := by
  refine F.ok scC (fun vs H Q E h => ?_) (fun cdv A outer s H vs Q E hr h => ?_)
  · obtain ⟨S, v, d, rfl, _⟩ := h
    rfl
  · obtain ⟨S, v, d, rfl, hd, hdep, q⟩ := h
    have un : (A.deeper (envOfC "_copied" (defScope sCop) s.heap.objs.size f cdv)).units + 1 < cLine := by
      have := hr.un
      omega
    refine ⟨_, pss_cons (ps_if (pt_val (pe_callB call_isi (by rfl) T.isi (by decide +kernel) (pa_cons (pv 0) (pa_cons (pe_bltn (v := .ty "list") (u := .type "list") (by rfl) T.lst (by decide +kernel) rfl) pa_nil))))
        (pss_one (ps_ret (pe_lc (own := [("part", 1)]) rfl scC.nd (pi_list (pv 0)) (blkOk_by (N := ["value", "part", "key"]) (sc := defScope sCop) (by decide +kernel)) (fun _ _ _ _ _ => pg_name (i := 1) scC.nd rfl (Or.inl rfl)) (fun _ _ _ _ _ => pts_nil)
          (fun _ _ _ _ _ => pe_call G hr rfl gC F.kp bC .nil pass0 (pa_cons (pv 1) pa_nil))))) pss_nil)
      (pss_cons (ps_if (pt_val (pe_callB call_isi (by rfl) T.isi (by decide +kernel) (pa_cons (pv 0) (pa_cons (pe_bltn (v := .ty "tuple") (u := .type "tuple") (by rfl) T.tup (by decide +kernel) rfl) pa_nil))))
        (pss_one (ps_ret (pe_callTy call_tuple_of (by rfl) T.tup (by decide +kernel) (pa_cons (pe_lc (own := [("part", 1)]) rfl scC.nd (pi_tup (pv 0)) (blkOk_by (N := ["value", "part", "key"]) (sc := defScope sCop) (by decide +kernel)) (fun _ _ _ _ _ => pg_name (i := 1) scC.nd rfl (Or.inl rfl)) (fun _ _ _ _ _ => pts_nil)
          (fun _ _ _ _ _ => pe_call G hr rfl gC F.kp bC .nil pass0 (pa_cons (pv 1) pa_nil))) pa_nil)))) pss_nil)
      (pss_cons (ps_if (pt_val (pe_callB call_isi (by rfl) T.isi (by decide +kernel) (pa_cons (pv 0) (pa_cons (pe_bltn (v := .ty "dict") (u := .type "dict") (by rfl) T.dct (by decide +kernel) rfl) pa_nil))))
        (pss_one (ps_ret (pe_lock (pe_dc (own := [("key", 2)]) rfl scC.nd (pi_keys (pv 0)) (blkOk_by (N := ["value", "part", "key"]) (sc := defScope sCop) (by decide +kernel)) (fun _ _ _ _ _ => pg_name (i := 2) scC.nd rfl (Or.inl rfl)) (fun _ _ _ _ _ => pts_nil)
          (fun _ _ _ _ _ => pv 2) (fun _ _ _ _ _ => pe_call G hr rfl gC F.kp bC .nil pass0 (pa_cons (pe_dget un (pv 0) (pv 2) (fun _ _ => rfl)) pa_nil)))))) pss_nil)
      (pss_one (ps_ret (pv 0))))), ?_⟩
    cases hd with
    | «at» h =>
      obtain ⟨t, ht, ty⟩ := h.ty (K := K) (H := H)
      have k1 : kitB t "list" = some false := by rcases ht with rfl | rfl | rfl | rfl <;> decide +kernel
      have k2 : kitB t "tuple" = some false := by rcases ht with rfl | rfl | rfl | rfl <;> decide +kernel
      have k3 : kitB t "dict" = some false := by rcases ht with rfl | rfl | rfl | rfl <;> decide +kernel
      refine isi_if (x := v) rfl ty k1 (iteF ?_)
      refine isi_if (x := v) rfl ty k2 (iteF ?_)
      refine isi_if (x := v) rfl ty k3 (iteF ?_)
      exact ⟨_, rfl, q _ _ (Same.refl _) (.at h)⟩
    | @lst a xs ds sa e hl h =>
      unfold PyData.depth at hdep
      obtain ⟨m, rfl⟩ : ∃ m, n = m + 1 := ⟨n - 1, by omega⟩
      refine isi_if (x := .ref a) (n := "list") (r := true) rfl (.base (.lst e)) (by decide +kernel) (iteT ?_)
      refine ⟨_, rfl, a, rfl, ⟨xs, SqL.of e⟩, fun D hD => lc_list (PvC H D ds) (PvC.zero hD) (fun i H' _ p => SqL.of (p.1 _ _ e)) (fun i x H3 hx p => ?_) (fun H5 p => ?_)⟩
      · exact ⟨rfl, _, rfl, PvC.one hD hl h (by omega) hx p⟩
      · obtain ⟨sm, acc, hD5, hlen, da⟩ := p.all h
        exact q _ _ sm (.lst hD hD5 (by omega) (da.mv (fun _ z => z.1) fun _ _ _ z => z))
    | @tup a xs ds sa e hl h =>
      unfold PyData.depth at hdep
      obtain ⟨m, rfl⟩ : ∃ m, n = m + 1 := ⟨n - 1, by omega⟩
      refine isi_if (x := .ref a) (n := "tuple") (r := false) rfl (.base (.tup e)) (by decide +kernel) (iteF ?_)
      refine isi_if (x := .ref a) (n := "tuple") (r := true) rfl (.base (.tup e)) (by decide +kernel) (iteT ?_)
      refine ⟨_, rfl, a, rfl, ⟨xs, SqT.of e⟩, fun D hD => lc_tup (PvC H D ds) (PvC.zero hD) (fun i H' _ p => SqT.of (p.1 _ _ e)) (fun i x H3 hx p => ?_) (fun H5 p => ?_)⟩
      · exact ⟨rfl, _, rfl, PvC.one hD hl h (by omega) hx p⟩
      · obtain ⟨sm, acc, hD5, hlen, da⟩ := p.all h
        refine ⟨D, acc, rfl, .inl ⟨SqL.of hD5, fun l hn => q _ _ (same_put (sm.free hn) sm) (.tup (sm.free hn) upd_same (by omega) (da.mv (fun _ z => z.1) fun b o s z => ?_))⟩⟩
        rw [upd_ne (ne_of_none z hn)]
        exact z
    | @dic0 a sa e =>
      refine isi_if (x := .ref a) (n := "dict") (r := false) rfl (.base (.dK e)) (by decide +kernel) (iteF ?_)
      refine isi_if (x := .ref a) (n := "dict") (r := false) rfl (.base (.dK e)) (by decide +kernel) (iteF ?_)
      refine isi_if (x := .ref a) (n := "dict") (r := true) rfl (.base (.dK e)) (by decide +kernel) (iteT ?_)
      refine ⟨a, .dK [], e, True.intro, fun od => ⟨_, rfl, a, od, rfl, .inl ⟨[], upd_same, fun D hD => dc_keys (fun _ H' => Same (upd H a (.frz od (.dK []))) H' ∧ H' D = some (.dK [])) ⟨same_upd hD, upd_same⟩ (fun i H' p => p.1 _ _ upd_same) (fun i k v H3 hx p => by simp at hx) (fun H5 p => ?_)⟩⟩⟩
      have hDa : D ≠ a := fun z => by rw [z, upd_same] at hD; cases hD
      rw [upd_ne hDa] at hD
      exact ⟨p.1 _ _ upd_same, q _ _ (unlock_same e p.1) (.dic0 hD (by rw [upd_ne hDa]; exact p.2))⟩
    | @dic1 a k v d sa e h =>
      have hdk : At v d → d.depth = 0 := fun z => by cases z <;> rfl
      obtain ⟨m, rfl⟩ : ∃ m, n = m + 1 := ⟨n - 1, by
        have z : 1 ≤ PyData.depth (.dict [(kD k, d)]) := by
          unfold PyData.depth
          omega
        omega⟩
      refine isi_if (x := .ref a) (n := "dict") (r := false) rfl (.base (.dK e)) (by decide +kernel) (iteF ?_)
      refine isi_if (x := .ref a) (n := "dict") (r := false) rfl (.base (.dK e)) (by decide +kernel) (iteF ?_)
      refine isi_if (x := .ref a) (n := "dict") (r := true) rfl (.base (.dK e)) (by decide +kernel) (iteT ?_)
      refine ⟨a, .dK [(k, v)], e, True.intro, fun od => ⟨_, rfl, a, od, rfl, .inl ⟨[(k, v)], upd_same, fun D hD => dc_keys (fun i H' => Same (upd H a (.frz od (.dK [(k, v)]))) H' ∧ ((i = 0 ∧ H' D = some (.dK [])) ∨ (i = 1 ∧ ∃ v', H' D = some (.dK [(k, v')]) ∧ At v' d)))
        ⟨same_upd hD, .inl ⟨rfl, upd_same⟩⟩ (fun i H' p => p.1 _ _ upd_same) (fun i k' v0 H3 hx p => ?_) (fun H5 p => ?_)⟩⟩⟩
      · cases i with
        | succ i => simp at hx
        | zero =>
          obtain ⟨rfl, rfl⟩ : k = k' ∧ v = v0 := by simpa using hx
          obtain ⟨sm, ⟨_, hD3⟩ | ⟨z, _⟩⟩ := p
          · refine ⟨rfl, _, rfl, _, rfl, _, rfl, a, v, rfl, .inl ⟨[(k, v)], k, .inr ⟨od, sm _ _ upd_same⟩, rfl, ?_⟩, fun _ => True, v, d, rfl, .at h, by rw [hdk h]; exact Nat.zero_le _, fun H4 v' sm4 dt4 => ⟨[], k, rfl, sm4 _ _ hD3, by decide, same_put hD (sm.trans sm4), .inr ⟨rfl, v', ?_, h.of dt4⟩⟩⟩
            · unfold valV
              simp
            · exact upd_same
          · cases z
      · have hDa : D ≠ a := fun z => by rw [z, upd_same] at hD; cases hD
        rw [upd_ne hDa] at hD
        obtain ⟨sm, ⟨z, _⟩ | ⟨_, v', hD5, h5⟩⟩ := p
        · cases z
        · exact ⟨sm _ _ upd_same, q _ _ (unlock_same e sm) (.dic1 hD (by rw [upd_ne hDa]; exact hD5) h5)⟩
end
end OM

namespace OM
open PySem PySem.Spec PyProof.Rows L2
/-- the type of a datum, by name -/
def tyN : PyData → String
  | .none => "NoneType"
  | .bool _ => "bool"
  | .int _ => "int"
  | .str _ => "str"
  | .list _ => "list"
  | .tuple _ => "tuple"
  | .dict _ => "dict"
theorem Dt.tyx {K : PySem.W.Frag} {S : Addr → Prop} {H : Hp} {v : V} {d : PyData} (h : Dt S H v d) : TyX K H v (.type (tyN d)) := by
  cases h with
  | «at» a =>
    cases a with
    | non => exact .base .non
    | bl b => exact .base (.bl b)
    | int i => exact .base (.int i)
    | str x => exact .base (.str x)
  | lst s e hl h => exact .base (.lst e)
  | tup s e hl h => exact .base (.tup e)
  | dic0 s e => exact .base (.dK e)
  | dic1 s e h => exact .base (.dK e)
def isStrD : PyData → Bool
  | .str _ => true
  | _ => false
def isTupD : PyData → Bool
  | .tuple _ => true
  | _ => false
theorem kit_str (d : PyData) : kitB (tyN d) "str" = some (isStrD d) := by
  have k0 : kitB "NoneType" "str" = some false := by decide +kernel
  have k1 : kitB "bool" "str" = some false := by decide +kernel
  have k2 : kitB "int" "str" = some false := by decide +kernel
  have k3 : kitB "str" "str" = some true := by decide +kernel
  have k4 : kitB "list" "str" = some false := by decide +kernel
  have k5 : kitB "tuple" "str" = some false := by decide +kernel
  have k6 : kitB "dict" "str" = some false := by decide +kernel
  cases d <;> assumption
theorem kit_tup (d : PyData) : kitB (tyN d) "tuple" = some (isTupD d) := by
  have k0 : kitB "NoneType" "tuple" = some false := by decide +kernel
  have k1 : kitB "bool" "tuple" = some false := by decide +kernel
  have k2 : kitB "int" "tuple" = some false := by decide +kernel
  have k3 : kitB "str" "tuple" = some false := by decide +kernel
  have k4 : kitB "list" "tuple" = some false := by decide +kernel
  have k5 : kitB "tuple" "tuple" = some true := by decide +kernel
  have k6 : kitB "dict" "tuple" = some false := by decide +kernel
  cases d <;> assumption
/-- if isinstance(x, T): .. as a value -/
theorem isi_te {K : PySem.W.Frag} {σ : L2.St} {i : Nat} {H : Hp} {x : V} {n m : String} {r : Bool} {Q : VK} (hv : σ[i]? = some (some x)) (ty : TyX K H x (.type n)) (h : kitB n m = some r) (q : Q (.bl r) H) : tCB (rIsi K) (tCons (tVar i) (tCons (tC (.ty m)) tNil)) σ H Q := by
  refine ⟨x, hv, ?_⟩
  exact (show rIsi K [x, .ty m] H Q from isi_b ty h q)
/-! ### names -/
def letS (x : Str) : Bool := x.cps.toList.all fun c => decide (97 ≤ c) && decide (c ≤ 122)
def words6 : List Str := ["else", "end", "get", "if", "put", "show"]
def nameS (x : Str) : Bool := decide (1 ≤ x.length) && (decide (x.length ≤ 8) && (letS x && !words6.contains x))
def isNameD : PyData → Bool
  | .str x => nameS x
  | _ => false

mutual
def smlD : PyData → Bool
  | .str x => decide (x.length ≤ 1000) && PyData.strOk x
  | .list xs => smlAll xs
  | .tuple xs => smlAll xs
  | _ => true
def smlAll : List PyData → Bool
  | [] => true
  | x :: r => smlD x && smlAll r
end
theorem sml_get : ∀ {ds : List PyData} {i : Nat} {d : PyData}, smlAll ds = true → ds[i]? = some d → smlD d = true
  | [], _, _, _, e => by simp at e
  | x :: r, 0, d, h, e => by
    simp at e
    subst e
    unfold smlAll at h
    exact (Bool.and_eq_true_iff.mp h).1
  | x :: r, i + 1, d, h, e => by
    unfold smlAll at h
    exact sml_get (Bool.and_eq_true_iff.mp h).2 (by simpa using e)
/-- over a text's signs -/
theorem lc_its {x : Str} {g : TG} {tt : TT} {te : TE} {vs : List Nat} {σ : L2.St} {H1 : Hp} {D : Addr} {Qd : Hp → Prop} (Pv : Nat → Hp → Prop) (h0 : Pv 0 (upd H1 D (.lst [])))
    (hs : ∀ i c H, x.cps.toList[i]? = some c → Pv i H → g (.str ⟨#[c]⟩) (wipe σ vs) H fun σ2 H2 => wipe σ2 vs = wipe σ vs ∧ tt σ2 H2 fun b H3 =>
      if b = true then te σ2 H3 fun y H4 => ∃ acc, H4 D = some (.lst acc) ∧ acc.length < sizeLine ∧ Pv (i + 1) (upd H4 D (.lst (acc ++ [y]))) else Pv (i + 1) H3) (hd : ∀ H, Pv x.cps.toList.length H → Qd H) :
    ∃ W : Nat → Nat → Hp → Prop, (∃ m, W 0 m (upd H1 D (.lst []))) ∧ ∀ i m H, W i m H →
      ((Its x).stop i H ∧ Qd H) ∨ ((Its x).go i H ∧ ∃ Nx : Hp → Prop, (∀ H', Nx H' → ∃ m', m' < m ∧ W (i + 1) m' H') ∧ ∀ v H', (Its x).yld i H v H' → g v (wipe σ vs) H' fun σ2 H2 => wipe σ2 vs = wipe σ vs ∧ tt σ2 H2 fun b H3 =>
        if b = true then te σ2 H3 fun y H4 => ∃ acc, H4 D = some (.lst acc) ∧ acc.length < sizeLine ∧ Nx (upd H4 D (.lst (acc ++ [y]))) else Nx H3) := by
  have hsz : x.cps.toList.length = x.cps.size := Array.length_toList
  refine ⟨fun i m H => i ≤ x.cps.size ∧ m = x.cps.size - i ∧ Pv i H, ⟨_, Nat.zero_le _, rfl, h0⟩, ?_⟩
  rintro i m H ⟨hi, rfl, p⟩
  rcases Nat.lt_or_ge i x.cps.size with hlt | hge
  · refine .inr ⟨hlt, Pv (i + 1), fun H' p' => ⟨x.cps.size - (i + 1), by omega, hlt, rfl, p'⟩, ?_⟩
    rintro v H' ⟨rfl, c, hc, rfl⟩
    exact hs i c _ (by rw [Array.getElem?_toList]; exact hc) p
  · obtain rfl : i = x.cps.size := by omega
    exact .inl ⟨Nat.le_refl _, hd H (by rw [hsz]; exact p)⟩
end OM

namespace OM
open PySem PySem.Spec PyProof.Rows L2
abbrev sIsName : Stmt := top 21
def alphabet : Str := "abcdefghijklmnopqrstuvwxyz"
theorem alpha_tl : alphabet.cps.toList = [97, 98, 99, 100, 101, 102, 103, 104, 105, 106, 107, 108, 109, 110, 111, 112, 113, 114, 115, 116, 117, 118, 119, 120, 121, 122] := by decide +kernel
theorem in_alpha (c : Nat) : (!(Builtin.Str.occurrences alphabet ⟨#[c]⟩ 0 alphabet.length 1).isEmpty) = (decide (97 ≤ c) && decide (c ≤ 122)) := by
  rw [StrLaws.found_one, alpha_tl, Bool.eq_iff_iff]
  simp only [decide_eq_true_eq, Bool.and_eq_true, List.mem_cons, List.not_mem_nil, or_false]
  omega
/-- a word among the six -/
theorem inV_words (x : Str) : inV (.str x) (words6.map V.str) = words6.contains x := by
  have h : ∀ y : Str, (y == x) = (x == y) := fun y => by rw [Bool.eq_iff_iff, beq_iff_eq, beq_iff_eq, eq_comm]
  unfold inV words6
  simp only [List.map_cons, List.map_nil, List.any_cons, List.any_nil, List.contains_cons, List.contains_nil, eqV, h]
/-- constants of the module, as values -/
structure TxtN (K : PySem.W.Frag) (mg : Str → Option Value) : Prop where
  isi : mg "isinstance" = none
  str : mg "str" = none
  len : mg "len" = none
  all : mg "all" = none
  most : ∃ t, mg "MAX_LETTERS" = some (.int 8 t)
  lets : ∃ t, mg "LETTERS" = some (.str alphabet t)
  words : ∃ a, mg "WORDS" = some (.ref a) ∧ ∀ H, SqT K H a (words6.map V.str)
def spName : Sp := fun vs H Q _ => ∃ (S : Addr → Prop) (v : V) (d : PyData), vs = [v] ∧ Dt S H v d ∧ smlD d = true ∧ ∀ H', Same H H' → Q (.bl (isNameD d)) H'
def let1 (c : Nat) : Bool := decide (97 ≤ c) && decide (c ≤ 122)
theorem letS_map (x : Str) : ((x.cps.toList.map let1).all id) = letS x := by
  unfold letS
  rw [List.all_map]
  rfl
theorem name_yes {x : Str} (h1 : decide ((1 : Int) ≤ (x.length : Int)) = true) (h2 : decide ((x.length : Int) ≤ 8) = true) (h3 : (x.cps.toList.map let1).all id = true) : isNameD (.str x) = !inV (.str x) (words6.map V.str) := by
  have e1 := of_decide_eq_true h1
  have e2 := of_decide_eq_true h2
  rw [letS_map] at h3
  show nameS x = _
  unfold nameS
  rw [h3, decide_eq_true (show 1 ≤ x.length by omega), decide_eq_true (show x.length ≤ 8 by omega), inV_words]
  rfl
theorem name_no {x : Str} (h : ¬ decide ((1 : Int) ≤ (x.length : Int)) = true ∨ ¬ decide ((x.length : Int) ≤ 8) = true ∨ ¬ (x.cps.toList.map let1).all id = true) : isNameD (.str x) = false := by
  show nameS x = _
  unfold nameS
  rcases h with h | h | h
  · have : ¬ 1 ≤ x.length := fun z => h (decide_eq_true (by omega))
    rw [decide_eq_false this]
    rfl
  · have : ¬ x.length ≤ 8 := fun z => h (decide_eq_true (by omega))
    rw [decide_eq_false this, Bool.false_and, Bool.and_false]
  · rw [letS_map] at h
    have : letS x = false := by
      cases y : letS x with
      | false => rfl
      | true => exact absurd y h
    rw [this, Bool.false_and, Bool.and_false, Bool.and_false]
def PvN (H : Hp) (D : Addr) (x : Str) (i : Nat) (H' : Hp) : Prop := Same H H' ∧ H' D = some (.lst (((x.cps.toList.take i).map let1).map V.bl))
theorem PvN.step {H H4 : Hp} {D : Addr} {x : Str} {i c : Nat} {b : Bool} (hD : H D = none) (hl : x.length ≤ 1000) (hc : x.cps.toList[i]? = some c) (p : PvN H D x i H4) (hb : b = let1 c) : ∃ acc, H4 D = some (.lst acc) ∧ acc.length < sizeLine ∧ PvN H D x (i + 1) (upd H4 D (.lst (acc ++ [V.bl b]))) := by
  refine ⟨_, p.2, ?_, same_put hD p.1, ?_⟩
  · have hz : x.cps.toList.length = x.length := Array.length_toList
    rw [List.length_map, List.length_map, List.length_take]
    have : (1000 : Nat) < sizeLine := by decide
    omega
  · rw [upd_same, hb, List.take_add_one, hc, List.map_append, List.map_append]
    rfl
theorem PvN.all {H H5 : Hp} {D : Addr} {x : Str} (p : PvN H D x x.cps.toList.length H5) : Same H H5 ∧ H5 D = some (.lst ((x.cps.toList.map let1).map V.bl)) := by
  have e := p.2
  rw [List.take_length] at e
  exact ⟨p.1, e⟩
section
variable {P : Program} {w : World} {K : PySem.W.Frag} {mg : Str → Option Value} {base : Heap} {f : Addr} {fd : FuncData}
theorem scN : FnScope ["value", "letter"] ["value"] (defScope sIsName) := ⟨rfl, rfl, rfl, by decide +kernel, rfl, by decide +kernel, by decide +kernel⟩
theorem ok_isname (F : Fun K "is_name" "is_name" sIsName f fd) (T : TxtN K mg) : FnOk P w K mg base CX0 1 f fd ["value"] spName := by
  refine F.ok scN (fun vs H Q E h => ?_) (fun cdv A outer s H vs Q E hr h => ?_)
  · obtain ⟨S, v, d, rfl, _⟩ := h
    rfl
  · obtain ⟨S, v, d, rfl, hd, sm, q⟩ := h
    obtain ⟨t1, g1⟩ := T.most
    obtain ⟨t2, g2⟩ := T.lets
    obtain ⟨aw, g3, hw⟩ := T.words
    refine ⟨_, pss_one (ps_ret (pe_and (pe_callB call_isi (by rfl) T.isi (by decide +kernel) (pa_cons (pv 0) (pa_cons (pe_bltn (v := .ty "str") (u := .type "str") (by rfl) T.str (by decide +kernel) rfl) pa_nil)))
      (pe_and (pe_chain op_le op_le pe_int (pe_callB call_len_str (by rfl) T.len PySem.boot_len (pa_cons (pv 0) pa_nil)) (pe_glob (v := .int 8) (by rfl) g1 ⟨t1, rfl⟩))
      (pe_and (pe_callB (cr_all rfl) (by rfl) T.all (by decide +kernel) (pa_cons (pe_lc (own := [("letter", 1)]) rfl scN.nd (pi_str (pv 0)) (blkOk_by (N := ["value", "letter"]) (sc := defScope sIsName) (by decide +kernel))
          (fun _ _ _ _ _ => pg_name (i := 1) scN.nd rfl (Or.inl rfl)) (fun _ _ _ _ _ => pts_nil) (fun _ _ _ _ _ => pe_cmpR op_in_str (pv 1) (pe_glob (v := .str alphabet) (by rfl) g2 ⟨t2, rfl⟩) (by rfl))) pa_nil))
      (pe_one (pe_cmpR op_notIn_seq (pv 0) (pe_glob (v := .ref aw) (by rfl) g3 rfl) (by rfl))))))), ?_⟩
    cases hs : isStrD d with
    | false =>
      have e : isNameD d = false := by cases d <;> first | rfl | cases hs
      refine isi_te (x := v) rfl hd.tyx ((kit_str d).trans (congrArg some hs)) ⟨_, rfl, iteF ?_⟩
      have z := q H (Same.refl _)
      rw [e] at z
      exact z
    | true =>
      cases d with
      | str x =>
        have ev : v = .str x := by
          cases hd with
          | «at» a => cases a <;> rfl
        subst ev
        have hl : x.length ≤ 1000 := of_decide_eq_true (Bool.and_eq_true_iff.mp (show (decide (x.length ≤ 1000) && PyData.strOk x) = true by unfold smlD at sm; exact sm)).1
        refine isi_te (x := .str x) rfl hd.tyx ((kit_str (.str x)).trans rfl) ⟨_, rfl, iteT ?_⟩
        refine ⟨_, rfl, x, rfl, Nat.le_trans hl (by decide), 1, (x.length : Int), rfl, rfl, _, rfl, ite2 (fun h1 => ?_) (fun h1 => ?_)⟩
        · refine ⟨(x.length : Int), 8, rfl, rfl, _, rfl, ite2 (fun h2 => ?_) (fun h2 => ?_)⟩
          · refine ⟨_, rfl, x, rfl, fun Dl hD => lc_its (PvN H Dl x) ⟨same_upd hD, upd_same⟩ (fun i c H3 hc p => ?_) (fun H5 p => ?_)⟩
            · refine ⟨rfl, _, rfl, ⟨#[c]⟩, alphabet, rfl, rfl, p.step hD hl hc (in_alpha c)⟩
            · obtain ⟨s5, e5⟩ := p.all
              refine ⟨Dl, _, rfl, SqL.of e5, _, rfl, ite2 (fun h3 => ?_) (fun h3 => ?_)⟩
              · refine ⟨_, rfl, aw, _, rfl, .inr (hw _), rfl, by decide, ?_⟩
                have z := q _ s5
                rw [show isNameD (.str x) = !inV (.str x) (words6.map V.str) from name_yes h1 h2 h3] at z
                exact z
              · have z := q _ s5
                rw [show isNameD (.str x) = false from name_no (.inr (.inr h3))] at z
                exact z
          · have z := q H (Same.refl _)
            rw [show isNameD (.str x) = false from name_no (.inr (.inl h2))] at z
            exact z
        · refine ⟨_, rfl, iteF ?_⟩
          have z := q H (Same.refl _)
          rw [show isNameD (.str x) = false from name_no (.inl h1)] at z
          exact z
      | _ => cases hs
end
end OM

namespace OM
open PySem PySem.Spec PyProof.Rows L2
def chS (c : Nat) : V := .str ⟨#[c]⟩
def chD (c : Nat) : PyData := .str ⟨#[c]⟩
theorem chs_all {K : PySem.W.Frag} {H : Hp} : ∀ l : List Nat, DpAll K H (l.map chS) (l.map chD)
  | [] => .nil
  | c :: r => .cons (.str _) (chs_all r)
theorem ch_ok {c : Nat} (h : c < 0x110000) : PyData.canLay0 (.str ⟨#[c]⟩) = true := by
  unfold PyData.canLay0
  show (#[c] : Array Nat).all (fun c => decide (c < 0x110000)) = true
  simp [h]
theorem chs_lay : ∀ l : List Nat, (∀ c ∈ l, c < 0x110000) → PyData.canLayAll0 (l.map chD) = true
  | [], _ => rfl
  | c :: r, h => by
    show (PyData.canLay0 (.str ⟨#[c]⟩) && PyData.canLayAll0 (r.map chD)) = true
    rw [chs_lay r fun x hx => h x (List.mem_cons_of_mem _ hx), ch_ok (h c (List.mem_cons_self ..))]
    rfl
theorem chs_dep : ∀ l : List Nat, PyData.depthAll (l.map chD) = 0
  | [] => rfl
  | c :: r => by
    show max (PyData.depth (.str ⟨#[c]⟩)) (PyData.depthAll (r.map chD)) = 0
    rw [chs_dep r]
    rfl
theorem chs_sh (l : List Nat) (hc : ∀ c ∈ l, c < 0x110000) : SeqAt.shaped (.list (l.map chD)) = true := by
  show (PyData.canLay0 (.list (l.map chD)) && decide (PyData.depth (.list (l.map chD)) ≤ 64)) = true
  have h1 : PyData.canLay0 (.list (l.map chD)) = true := by
    unfold PyData.canLay0
    exact chs_lay l hc
  have h2 : PyData.depth (.list (l.map chD)) ≤ 64 := by
    unfold PyData.depth
    rw [chs_dep]
    decide
  rw [h1, decide_eq_true h2]
  rfl
theorem nil_sh : SeqAt.shaped (.list []) = true := by decide +kernel
theorem eqv_nil (l : List Nat) : PyData.eqv (.list (l.map chD)) (.list []) = l.isEmpty := by
  cases l with
  | nil => decide +kernel
  | cons c r =>
    show PyData.eqv (.list (chD c :: r.map chD)) (.list []) = false
    unfold PyData.eqv PyData.eqvAll
    rfl
theorem le_a (c : Nat) : (!decide ((⟨#[c]⟩ : Str).cps.toList < ("a" : Str).cps.toList)) = decide (97 ≤ c) := by
  have e : ("a" : Str).cps.toList = [97] := by decide +kernel
  rw [e, Bool.eq_iff_iff]
  have z : ([c] < [97]) ↔ c < 97 := by
    refine ⟨fun h => ?_, fun h => List.Lex.rel h⟩
    cases h with
    | rel h => exact h
    | cons h => cases h
  rw [Bool.not_eq_true', decide_eq_false_iff_not, decide_eq_true_iff, z]
  omega
theorem le_z (c : Nat) : (!decide (("z" : Str).cps.toList < (⟨#[c]⟩ : Str).cps.toList)) = decide (c ≤ 122) := by
  have e : ("z" : Str).cps.toList = [122] := by decide +kernel
  rw [e, Bool.eq_iff_iff]
  have z : ([122] < [c]) ↔ 122 < c := by
    refine ⟨fun h => ?_, fun h => List.Lex.rel h⟩
    cases h with
    | rel h => exact h
    | cons h => cases h
  show ((!decide ([122] < [c])) = true) ↔ _
  rw [Bool.not_eq_true', decide_eq_false_iff_not, decide_eq_true_iff, z]
  omega
theorem bad_none (l : List Nat) : (l.filter fun c => !let1 c).isEmpty = l.all let1 := by
  induction l with
  | nil => rfl
  | cons c r ih =>
    rw [List.filter_cons, List.all_cons]
    cases h : let1 c with
    | true => simpa using ih
    | false => simp
def PvB (H : Hp) (D : Addr) (x : Str) (i : Nat) (H' : Hp) : Prop := Same H H' ∧ H' D = some (.lst (((x.cps.toList.take i).filter fun c => !let1 c).map chS))
theorem PvB.no {H H4 : Hp} {D : Addr} {x : Str} {i c : Nat} (hc : x.cps.toList[i]? = some c) (p : PvB H D x i H4) (h : let1 c = true) : PvB H D x (i + 1) H4 := by
  refine ⟨p.1, ?_⟩
  rw [p.2, List.take_add_one, hc, List.filter_append]
  simp [h]
theorem PvB.step {H H4 : Hp} {D : Addr} {x : Str} {i c : Nat} (hD : H D = none) (hl : x.length ≤ 1000) (hc : x.cps.toList[i]? = some c) (p : PvB H D x i H4) (h : let1 c = false) : ∃ acc, H4 D = some (.lst acc) ∧ acc.length < sizeLine ∧ PvB H D x (i + 1) (upd H4 D (.lst (acc ++ [V.str ⟨#[c]⟩]))) := by
  refine ⟨_, p.2, ?_, same_put hD p.1, ?_⟩
  · have hz : x.cps.toList.length = x.length := Array.length_toList
    rw [List.length_map]
    have h1 := List.length_filter_le (fun c => !let1 c) (x.cps.toList.take i)
    rw [List.length_take] at h1
    have : (1000 : Nat) < sizeLine := by decide
    omega
  · rw [upd_same, List.take_add_one, hc, List.filter_append, List.map_append]
    simp [h, chS]
theorem lname_yes {x : Str} (hw : words6.contains x = false) (h1 : decide ((0 : Int) < (x.length : Int)) = true) (h2 : decide ((x.length : Int) < 9) = true) : isNameD (.str x) = (x.cps.toList.all let1) := by
  have e1 := of_decide_eq_true h1
  have e2 := of_decide_eq_true h2
  show nameS x = _
  unfold nameS
  rw [hw, decide_eq_true (show 1 ≤ x.length by omega), decide_eq_true (show x.length ≤ 8 by omega)]
  simp [letS]
  rfl
theorem lname_no {x : Str} (h : words6.contains x = true ∨ ¬ decide ((0 : Int) < (x.length : Int)) = true ∨ ¬ decide ((x.length : Int) < 9) = true) : isNameD (.str x) = false := by
  show nameS x = _
  unfold nameS
  rcases h with h | h | h
  · rw [h, Bool.not_true, Bool.and_false, Bool.and_false, Bool.and_false]
  · have : ¬ 1 ≤ x.length := fun z => h (decide_eq_true (by omega))
    rw [decide_eq_false this]
    rfl
  · have : ¬ x.length ≤ 8 := fun z => h (decide_eq_true (by omega))
    rw [decide_eq_false this, Bool.false_and, Bool.and_false]
section
variable {P : Program} {w : World} {K : PySem.W.Frag} {mg : Str → Option Value} {base : Heap} {f : Addr} {fd : FuncData}
end
end OM

namespace OM
open PySem PySem.Spec PyProof.Rows L2
/-- a tuple of anything == () -/
theorem op_eqT0 {X : Cx} (hu : X.A.units < cLine) : OpR X (compareOp .Eq) (fun x y H Q => ∃ a b xs, x = .ref a ∧ y = .ref b ∧ SqT X.K H a xs ∧ SqT X.K H b [] ∧ Q (.bl xs.isEmpty) H) := by
  intro pins s σ H x y v u Q I rx ry h
  obtain ⟨a, b, xs, rfl, rfl, ha, hb, q⟩ := h
  obtain rfl : v = Value.ref a := rx
  obtain rfl : u = Value.ref b := ry
  obtain ⟨us, r1, p1, _⟩ := I.tuple ha
  obtain ⟨ws, r2, p2, _⟩ := I.tuple hb
  cases r2
  refine SeqAt.eq_tupleAt (e := fun _ => true) p1 p2 hu (fun j h1 h2 => absurd h2 (by simp)) ⟨.bl _, H, I, rfl, ?_⟩
  have e : ((List.range (min us.toArray.size (([] : List Value).toArray).size)).all (fun _ => true) && us.toArray.size == (([] : List Value).toArray).size) = xs.isEmpty := by
    have l := r1.length
    cases xs with
    | nil =>
      have : us = [] := List.length_eq_zero_iff.mp l.symm
      subst this
      rfl
    | cons x r =>
      cases us with
      | nil => simp at l
      | cons u us => simp
  rw [e]
  exact q
/-- over two tuples side by side -/
theorem lc_zipT {K : PySem.W.Frag} {a b : Addr} {xs ys : List V} {g : TG} {tt : TT} {te : TE} {vs : List Nat} {σ : L2.St} {H1 : Hp} {D : Addr} {Qd : Hp → Prop} (hlen : xs.length = ys.length) (Pv : Nat → Hp → Prop) (h0 : Pv 0 (upd H1 D (.lst []))) (hl : ∀ i H, Pv i H → SqT K H a xs ∧ SqT K H b ys)
    (hs : ∀ i x y T H, xs[i]? = some x → ys[i]? = some y → Pv i H → H T = none → g (.ref T) (wipe σ vs) (upd H T (.tup [x, y])) fun σ2 H2 => wipe σ2 vs = wipe σ vs ∧ tt σ2 H2 fun b H3 =>
      if b = true then te σ2 H3 fun y H4 => ∃ acc, H4 D = some (.lst acc) ∧ acc.length < sizeLine ∧ Pv (i + 1) (upd H4 D (.lst (acc ++ [y]))) else Pv (i + 1) H3) (hd : ∀ H, Pv xs.length H → Qd H) :
    ∃ W : Nat → Nat → Hp → Prop, (∃ m, W 0 m (upd H1 D (.lst []))) ∧ ∀ i m H, W i m H →
      ((RZ.ItzT K a b).stop i H ∧ Qd H) ∨ ((RZ.ItzT K a b).go i H ∧ ∃ Nx : Hp → Prop, (∀ H', Nx H' → ∃ m', m' < m ∧ W (i + 1) m' H') ∧ ∀ v H', (RZ.ItzT K a b).yld i H v H' → g v (wipe σ vs) H' fun σ2 H2 => wipe σ2 vs = wipe σ vs ∧ tt σ2 H2 fun b H3 =>
        if b = true then te σ2 H3 fun y H4 => ∃ acc, H4 D = some (.lst acc) ∧ acc.length < sizeLine ∧ Nx (upd H4 D (.lst (acc ++ [y]))) else Nx H3) := by
  refine ⟨fun i m H => i ≤ xs.length ∧ m = xs.length - i ∧ Pv i H, ⟨_, Nat.zero_le _, rfl, h0⟩, ?_⟩
  rintro i m H ⟨hi, rfl, p⟩
  obtain ⟨qx, qy⟩ := hl i H p
  rcases Nat.lt_or_ge i xs.length with hlt | hge
  · have hx : xs[i]? = some xs[i] := List.getElem?_eq_getElem hlt
    have hy : ys[i]? = some (ys[i]'(by omega)) := List.getElem?_eq_getElem (by omega)
    refine .inr ⟨⟨xs, ys, _, _, qx, qy, hx, hy⟩, Pv (i + 1), fun H' p' => ⟨xs.length - (i + 1), by omega, hlt, rfl, p'⟩, ?_⟩
    rintro v H' ⟨T, x', y', rfl, hT, rfl, f1, f2⟩
    exact hs i x' y' T H (f1 xs qx) (f2 ys qy) p hT
  · obtain rfl : i = xs.length := by omega
    exact .inl ⟨⟨xs, ys, qx, qy, .inl (Nat.le_refl _)⟩, hd H p⟩
/-! ### code, as a datum -/
def formOf (w : Str) : Option (List Str) :=
  if w = "read" then some ["register", "cell"] else if w = "write" then some ["cell", "register"] else if w = "set" then some ["register", "function", "registers"] else if w = "copy" then some ["register", "register"]
  else if w = "get" then some ["register"] else if w = "put" then some ["register"] else if w = "if" then some ["test", "register", "code", "code"] else none
def argsD : PyData → Bool
  | .tuple ds => decide (ds.length ≤ 2) && ds.all isNameD
  | _ => false
def fitD (cd : PyData → Bool) (d : PyData) (role : Str) : Bool := if role = "code" then cd d else if role = "registers" then argsD d else isNameD d
def rowD (cd : PyData → Bool) : PyData → Bool
  | .tuple (.str w :: rest) => match formOf w with
    | some rs => decide (rest.length = rs.length) && (List.zipWith (fitD cd) rest rs).all id
    | none => false
  | _ => false
def codeD : Nat → PyData → Bool
  | 0, .tuple ds => ds.all (rowD fun _ => false)
  | n + 1, .tuple ds => ds.all (rowD (codeD n))
  | _, _ => false
def cdOf : Nat → PyData → Bool
  | 0 => fun _ => false
  | n + 1 => codeD n
theorem codeD_tup (n : Nat) (ds : List PyData) : codeD n (.tuple ds) = ds.all (rowD (cdOf n)) := by
  cases n <;> rfl
abbrev sNested : Stmt := top 26
abbrev sStmt : Stmt := top 27
abbrev sFits : Stmt := top 28
def spNested : Sp := fun vs H Q _ => ∃ (S : Addr → Prop) (v : V) (d : PyData) (n : Nat), vs = [v, .int n] ∧ Dt S H v d ∧ smlD d = true ∧ ∀ H', Same H H' → Q (.bl (codeD n d)) H'
/-- the contract at one depth -/
def spNestedAt : Nat → Sp
  | 0 => fun _ _ _ _ => False
  | n + 1 => fun vs H Q _ => ∃ (S : Addr → Prop) (v : V) (d : PyData), vs = [v, .int n] ∧ Dt S H v d ∧ smlD d = true ∧ ∀ H', Same H H' → Q (.bl (codeD n d)) H'
def spStmt (n : Nat) : Sp := fun vs H Q _ => ∃ (S : Addr → Prop) (v : V) (d : PyData), vs = [v, .int n] ∧ Dt S H v d ∧ smlD d = true ∧ ∀ H', Same H H' → Q (.bl (rowD (cdOf n) d)) H'
def spFits (n : Nat) : Sp := fun vs H Q _ => ∃ (S : Addr → Prop) (v : V) (d : PyData) (r : Str), vs = [v, .str r, .int n] ∧ Dt S H v d ∧ smlD d = true ∧ ∀ H', Same H H' → Q (.bl (fitD (cdOf n) d r)) H'
/-! the same with the third argument False: no show -/
def spNestedAtS : Nat → Sp
  | 0 => fun _ _ _ _ => False
  | n + 1 => fun vs H Q _ => ∃ (S : Addr → Prop) (v : V) (d : PyData), vs = [v, .int n, .bl false] ∧ Dt S H v d ∧ smlD d = true ∧ ∀ H', Same H H' → Q (.bl (codeD n d)) H'
def spStmtS (n : Nat) : Sp := fun vs H Q _ => ∃ (S : Addr → Prop) (v : V) (d : PyData), vs = [v, .int n, .bl false] ∧ Dt S H v d ∧ smlD d = true ∧ ∀ H', Same H H' → Q (.bl (rowD (cdOf n) d)) H'
def spFitsS (n : Nat) : Sp := fun vs H Q _ => ∃ (S : Addr → Prop) (v : V) (d : PyData) (r : Str), vs = [v, .str r, .int n, .bl false] ∧ Dt S H v d ∧ smlD d = true ∧ ∀ H', Same H H' → Q (.bl (fitD (cdOf n) d r)) H'
/-- the modules' constants about statements -/
structure TxtF (K : PySem.W.Frag) (w : World) (mg : Str → Option Value) : Prop where
  tup : mg "tuple" = none
  zip : mg "zip" = none
  most : ∃ t, mg "MAX_REGISTERS" = some (.int 2 t)
  forms : ∃ d es n, mg "FORMS" = some (.ref d) ∧ KDict K w d es n ∧ (∀ z, formOf z = none → z ≠ "show" → PySem.W.nsIn K d z = some none) ∧ (∃ u, PySem.W.nsIn K d "show" = some (some u)) ∧ ∀ z rs, formOf z = some rs → ∃ a, PySem.W.nsIn K d z = some (some (.ref a)) ∧ ∀ H, SqT K H a (rs.map V.str)
/-- a list of truths that grows -/
def PvM (H : Hp) (D : Addr) (bs : List Bool) (i : Nat) (H' : Hp) : Prop := Same H H' ∧ H' D = some (.lst ((bs.take i).map V.bl))
theorem PvM.zero {H : Hp} {D : Addr} {bs : List Bool} (hD : H D = none) : PvM H D bs 0 (upd H D (.lst [])) := ⟨same_upd hD, upd_same⟩
theorem PvM.step {H H3 H4 : Hp} {D : Addr} {bs : List Bool} {i : Nat} {b : Bool} (hD : H D = none) (hl : bs.length ≤ 1000) (hb : bs[i]? = some b) (p : PvM H D bs i H3) (s : Same H3 H4) : ∃ acc, H4 D = some (.lst acc) ∧ acc.length < sizeLine ∧ PvM H D bs (i + 1) (upd H4 D (.lst (acc ++ [V.bl b]))) := by
  refine ⟨_, s _ _ p.2, ?_, same_put hD (p.1.trans s), ?_⟩
  · rw [List.length_map, List.length_take]
    have : (1000 : Nat) < sizeLine := by decide
    omega
  · rw [upd_same, List.take_add_one, hb, List.map_append]
    rfl
theorem PvM.all {H H5 : Hp} {D : Addr} {bs : List Bool} {n : Nat} (p : PvM H D bs n H5) (hn : n = bs.length) : Same H H5 ∧ H5 D = some (.lst (bs.map V.bl)) := by
  have e := p.2
  rw [hn, List.take_length] at e
  exact ⟨p.1, e⟩
theorem all_map_id {α : Type} (f : α → Bool) (l : List α) : (l.map f).all id = l.all f := by
  rw [List.all_map]
  rfl
theorem Dt.tup_of {S : Addr → Prop} {H : Hp} {v : V} {ds : List PyData} (h : Dt S H v (.tuple ds)) : ∃ a xs, v = .ref a ∧ H a = some (.tup xs) ∧ xs.length ≤ 1000 ∧ DtAll S H xs ds := by
  cases h with
  | «at» a => cases a
  | @tup a xs _ s e hl h => exact ⟨a, xs, rfl, e, hl, h⟩
section
variable {P : Program} {w : World} {K : PySem.W.Frag} {mg : Str → Option Value} {base : Heap} {f fS fF fN fI : Addr} {fd dS dF dN dI : FuncData}
theorem scF : FnScope ["part", "role", "depth", "shows", "name"] ["part", "role", "depth", "shows"] (defScope sFits) := ⟨rfl, rfl, rfl, by decide +kernel, rfl, by decide +kernel, by decide +kernel⟩
theorem ok_fits {n k : Nat} (F : Fun K "_fits" "_fits" sFits f fd) (T : TxtN K mg) (TF : TxtF K w mg) (gN : mg "is_nested_code" = some (.ref fN)) (kN : PySem.W.keepIn K (.ref fN) = true) (bN : Binds K dN ["value", "depth", "shows"] []) (GN : FnOk P w K mg base CX0 (k + 1) fN dN ["value", "depth", "shows"] (spNestedAtS n))
    (gI : mg "is_name" = some (.ref fI)) (kI : PySem.W.keepIn K (.ref fI) = true) (bI : Binds K dI ["value"] []) (GI : FnOk P w K mg base CX0 1 fI dI ["value"] spName) : FnOk P w K mg base CX0 (k + 2) f fd ["part", "role", "depth", "shows"] (spFitsS n) := by
  refine F.ok scF (fun vs H Q E h => ?_) (fun cdv A outer s H vs Q E hr h => ?_)
  · obtain ⟨S, v, d, r, rfl, _⟩ := h
    rfl
  · obtain ⟨S, v, d, r, rfl, hd, sm, q⟩ := h
    obtain ⟨t1, g1⟩ := TF.most
    refine ⟨_, pss_cons (ps_if (pt_cmpR op_eq (pv 1) pe_str (nomark _)) (pss_one (ps_ret (pe_and (pe_cmpR op_gt (pv 2) pe_int (nomark _)) (pe_one (pe_call GN hr (by rfl) gN kN bN .nil pass0 (pa_cons (pv 0) (pa_cons (pe_op op_sub (pv 2) pe_int) (pa_cons (pv 3) pa_nil)))))))) pss_nil)
      (pss_cons (ps_if (pt_cmpR op_eq (pv 1) pe_str (nomark _)) (pss_one (ps_ret (pe_and (pe_callB call_isi (by rfl) T.isi (by decide +kernel) (pa_cons (pv 0) (pa_cons (pe_bltn (v := .ty "tuple") (u := .type "tuple") (by rfl) TF.tup (by decide +kernel) rfl) pa_nil)))
          (pe_and (pe_cmpR op_le (pe_callB call_len_seq (by rfl) T.len PySem.boot_len (pa_cons (pv 0) pa_nil)) (pe_glob (v := .int 2) (by rfl) g1 ⟨t1, rfl⟩) (nomark _))
          (pe_one (pe_callB (cr_all rfl) (by rfl) T.all (by decide +kernel) (pa_cons (pe_lc (own := [("name", 4)]) rfl scF.nd (pi_tup (pv 0)) (blkOk_by (N := ["part", "role", "depth", "shows", "name"]) (sc := defScope sFits) (by decide +kernel))
            (fun _ _ _ _ _ => pg_name (i := 4) scF.nd rfl (Or.inl rfl)) (fun _ _ _ _ _ => pts_nil) (fun _ _ _ _ _ => pe_call GI (hr.mono (by omega)) (by rfl) gI kI bI .nil pass0 (pa_cons (pv 4) pa_nil))) pa_nil))))))) pss_nil)
      (pss_one (ps_ret (pe_call GI (hr.mono (by omega)) (by rfl) gI kI bI .nil pass0 (pa_cons (pv 0) pa_nil))))), ?_⟩
    refine ⟨_, rfl, rfl, _, rfl, ite2 (fun h1 => ?_) (fun h1 => ?_)⟩
    · obtain rfl : r = "code" := V.str.inj (of_decide_eq_true h1)
      refine ⟨_, rfl, (n : Int), 0, rfl, rfl, _, rfl, ite2 (fun k => ?_) (fun k => ?_)⟩
      · have k' : (0 : Int) < (n : Int) := of_decide_eq_true k
        obtain ⟨m, rfl⟩ : ∃ m, n = m + 1 := ⟨n - 1, by omega⟩
        refine ⟨_, rfl, _, rfl, ((m + 1 : Nat) : Int), 1, rfl, rfl, _, rfl, S, v, d, ?_, hd, sm, fun H' s' => q H' s'⟩
        show [v, V.int (((m + 1 : Nat) : Int) - 1), V.bl false] = [v, V.int (m : Int), V.bl false]
        rw [show (((m + 1 : Nat) : Int) - 1) = (m : Int) by omega]
      · obtain rfl : n = 0 := by
          have : ¬ (0 : Int) < (n : Int) := fun z => k (decide_eq_true z)
          omega
        exact q H (Same.refl _)
    · have hc : r ≠ "code" := fun z => h1 (decide_eq_true (congrArg V.str z))
      refine ⟨_, rfl, rfl, _, rfl, ite2 (fun h2 => ?_) (fun h2 => ?_)⟩
      · obtain rfl : r = "registers" := V.str.inj (of_decide_eq_true h2)
        have q : ∀ H', Same H H' → Q (.bl (argsD d)) H' := fun H' s' => q H' s'
        cases ht : isTupD d with
        | false =>
          have e : argsD d = false := by cases d <;> first | rfl | cases ht
          refine isi_te (x := v) rfl hd.tyx ((kit_tup d).trans (congrArg some ht)) ⟨_, rfl, iteF ?_⟩
          have z := q H (Same.refl _)
          rw [e] at z
          exact z
        | true =>
          cases d with
          | tuple ds =>
            obtain ⟨a, xs, rfl, ea, hl, hx⟩ := hd.tup_of
            have sa : smlAll ds = true := by
              unfold smlD at sm
              exact sm
            refine isi_te (x := .ref a) rfl (.base (.tup ea)) (kit_tup (.tuple ds)) ⟨_, rfl, iteT ?_⟩
            refine ⟨_, rfl, a, xs, rfl, .inr (SqT.of ea), (xs.length : Int), 2, rfl, rfl, _, rfl, ite2 (fun k => ?_) (fun k => ?_)⟩
            · have k' : ds.length ≤ 2 := by
                have := of_decide_eq_true k
                rw [← hx.length]
                omega
              refine ⟨_, rfl, a, rfl, ⟨xs, SqT.of ea⟩, fun Dl hD => lc_tup (PvM H Dl (ds.map isNameD)) (PvM.zero hD) (fun i H' _ p => SqT.of (p.1 _ _ ea)) (fun i x H3 hi p => ?_) (fun H5 p => ?_)⟩
              · obtain ⟨e, he, hde⟩ := hx.get hi
                exact ⟨rfl, _, rfl, S, x, e, rfl, hde.mv (fun _ z => z) (fun b o _ eb => p.1 b o eb), sml_get sa he, fun H4 s4 => p.step hD (by rw [List.length_map]; omega) (by rw [List.getElem?_map, he]; rfl) s4⟩
              · obtain ⟨s5, e5⟩ := p.all (by rw [List.length_map]; exact hx.length)
                refine ⟨Dl, _, rfl, SqL.of e5, ?_⟩
                have z := q _ s5
                rw [show argsD (.tuple ds) = (decide (ds.length ≤ 2) && ds.all isNameD) from rfl, decide_eq_true k', Bool.true_and, ← all_map_id] at z
                exact z
            · have k' : ¬ ds.length ≤ 2 := fun z => k (decide_eq_true (by rw [hx.length]; omega))
              have z := q H (Same.refl _)
              rw [show argsD (.tuple ds) = (decide (ds.length ≤ 2) && ds.all isNameD) from rfl, decide_eq_false k', Bool.false_and] at z
              exact z
          | _ => cases ht
      · have hg : r ≠ "registers" := fun z => h2 (decide_eq_true (congrArg V.str z))
        refine ⟨_, rfl, S, v, d, rfl, hd, sm, fun H' s' => ?_⟩
        have z := q H' s'
        unfold fitD at z
        rw [if_neg hc, if_neg hg] at z
        exact z
end
end OM

namespace OM
open PySem PySem.Spec PyProof.Rows L2
theorem sml_tail {d : PyData} {ds : List PyData} (h : smlAll (d :: ds) = true) : smlD d = true ∧ smlAll ds = true := by
  unfold smlAll at h
  exact Bool.and_eq_true_iff.mp h
theorem at0 {x : V} {r : List V} : atI (x :: r) 0 = some x := by
  show atI (x :: r) ((0 : Nat) : Int) = some x
  exact atI_nat rfl
theorem cut_tail {x : V} {r : List V} : cutV (x :: r) (some 1) none = r := by
  unfold cutV
  rw [show HT.sIx (x :: r).length 0 (some 1) = 1 from by
    rw [show (some (1 : Int)) = some ((1 : Nat) : Int) from rfl, HT.sIx_nat]
    show min 1 (r.length + 1) = 1
    omega, HT.sIx_none]
  show (r.take (r.length + 1 - 1)) = r
  rw [Nat.add_sub_cancel, List.take_length]
theorem cut_part {x : V} {r : List V} : ¬ (HT.sIx (x :: r).length 0 (some 1) = 0 ∧ HT.sIx (x :: r).length (x :: r).length none = (x :: r).length) := fun h => by
  have e : HT.sIx (x :: r).length 0 (some 1) = 1 := by
    rw [show (some (1 : Int)) = some ((1 : Nat) : Int) from rfl, HT.sIx_nat]
    show min 1 (r.length + 1) = 1
    omega
  rw [e] at h
  exact absurd h.1 (by decide)
theorem rowD_no {cd : PyData → Bool} {w : Str} {rest : List PyData} (h : formOf w = none) : rowD cd (.tuple (.str w :: rest)) = false := by
  show (match formOf w with | some rs => decide (rest.length = rs.length) && (List.zipWith (fitD cd) rest rs).all id | none => false) = false
  rw [h]
theorem rowD_yes {cd : PyData → Bool} {w : Str} {rest : List PyData} {rs : List Str} (h : formOf w = some rs) : rowD cd (.tuple (.str w :: rest)) = (decide (rest.length = rs.length) && (List.zipWith (fitD cd) rest rs).all id) := by
  show (match formOf w with | some rs => decide (rest.length = rs.length) && (List.zipWith (fitD cd) rest rs).all id | none => false) = _
  rw [h]
theorem form_len {w : Str} {rs : List Str} (h : formOf w = some rs) : rs.length ≤ 4 := by
  unfold formOf at h
  repeat (first | (split at h) | (cases h; decide) | cases h)
section
variable {P : Program} {w : World} {K : PySem.W.Frag} {mg : Str → Option Value} {base : Heap} {f fF : Addr} {fd dF : FuncData}
theorem scSt : FnScope ["value", "depth", "shows", "form", "part", "role"] ["value", "depth", "shows"] (defScope sStmt) := ⟨rfl, rfl, rfl, by decide +kernel, rfl, by decide +kernel, by decide +kernel⟩
theorem ok_stmt {n k : Nat} (F : Fun K "_is_statement" "_is_statement" sStmt f fd) (T : TxtN K mg) (TF : TxtF K w mg) (gF : mg "_fits" = some (.ref fF)) (kF : PySem.W.keepIn K (.ref fF) = true) (bF : Binds K dF ["part", "role", "depth", "shows"] []) (GF : FnOk P w K mg base CX0 k fF dF ["part", "role", "depth", "shows"] (spFitsS n)) :
    FnOk P w K mg base CX0 (k + 1) f fd ["value", "depth", "shows"] (spStmtS n) := by
  refine F.ok scSt (fun vs H Q E h => ?_) (fun cdv A outer s H vs Q E hr h => ?_)
  · obtain ⟨S, v, d, rfl, _⟩ := h
    rfl
  · obtain ⟨S, v, d, rfl, hd, sm, q⟩ := h
    obtain ⟨fa, es, nn, gM, KD, hno, ⟨ush, hsh⟩, hyes⟩ := TF.forms
    have hu : (A.deeper (envOfC "_is_statement" (defScope sStmt) s.heap.objs.size f cdv)).units < cLine := by
      have := hr.un
      omega
    refine ⟨_, pss_cons (ps_if (PW.pt (pw_or (pt_not (pt_val (pe_callB call_isi (by rfl) T.isi (by decide +kernel) (pa_cons (pv 0) (pa_cons (pe_bltn (v := .ty "tuple") (u := .type "tuple") (by rfl) TF.tup (by decide +kernel) rfl) pa_nil)))))
        (pw_or (pt_cmpR (op_eqT0 hu) (pv 0) (pe_tup pa_nil) (by rfl))
        (pw_or1 (pt_not (pt_val (pe_callB call_isi (by rfl) T.isi (by decide +kernel) (pa_cons (pe_ix ix_tup (pv 0) pe_int (fun _ _ => rfl)) (pa_cons (pe_bltn (v := .ty "str") (u := .type "str") (by rfl) T.str (by decide +kernel) rfl) pa_nil)))))))))
        (pss_one (ps_ret pe_bl)) pss_nil)
      (pss_cons (ps_if (PW.pt (pw_or (pt_cmpR (op_notIn_kd KD) (pe_ix ix_tup (pv 0) pe_int (fun _ _ => rfl)) (pe_glob (v := .ref fa) (by rfl) gM rfl) (by rfl)) (pw_or1 (PW.pt (pw_and (pt_cmpR op_eq (pe_ix ix_tup (pv 0) pe_int (fun _ _ => rfl)) pe_str (nomark _)) (pw_and1 (pt_not (pt_val (pv 2))))))))) (pss_one (ps_ret pe_bl)) pss_nil)
      (pss_cons (ps_set (i := 3) scSt.nd rfl (Or.inl rfl) (pe_ix ix_kdict (pe_glob (v := .ref fa) (by rfl) gM rfl) (pe_ix ix_tup (pv 0) pe_int (fun _ _ => rfl)) (fun _ _ => rfl)))
      (pss_one (ps_ret (pe_and (pe_cmpR op_eq (pe_callB call_len_seq (by rfl) T.len PySem.boot_len (pa_cons (pv 0) pa_nil)) (pe_op op_add (pe_callB call_len_seq (by rfl) T.len PySem.boot_len (pa_cons (pv 3) pa_nil)) pe_int) (nomark _))
        (pe_one (pe_callB (cr_all rfl) (by rfl) T.all (by decide +kernel) (pa_cons (pe_lc (g := gTup K 2 (gCons (gName 4) (gCons (gName 5) gNil))) (own := [("part", 4), ("role", 5)]) rfl scSt.nd (RZ.pi_zipA (by rfl) TF.zip (pa_cons (pe_slice sl_tupA (pv 0) (po_some pe_int) po_none) (pa_cons (pv 3) pa_nil)))
            (blkOk_by (N := ["value", "depth", "shows", "form", "part", "role"]) (sc := defScope sStmt) (by decide +kernel)) (fun _ _ _ _ _ => pg_tup rfl (pgs_cons (pg_name (i := 4) scSt.nd rfl (Or.inl rfl)) (pgs_cons (pg_name (i := 5) scSt.nd rfl (Or.inl rfl)) pgs_nil))) (fun _ _ _ _ _ => pts_nil)
            (fun _ _ _ _ _ => pe_call GF hr (by rfl) gF kF bF .nil pass0 (pa_cons (pv 4) (pa_cons (pv 5) (pa_cons (pv 1) (pa_cons (pv 2) pa_nil)))))) pa_nil)))))))), ?_⟩
    have z0 : ∀ {b : Bool}, b = rowD (cdOf n) d → ∀ H', Same H H' → Q (.bl b) H' := fun {b} e H' s' => by
      rw [e]
      exact q H' s'
    cases ht : isTupD d with
    | false =>
      have e : false = rowD (cdOf n) d := by cases d <;> first | rfl | cases ht
      exact isi_te (x := v) rfl hd.tyx ((kit_tup d).trans (congrArg some ht)) ⟨_, rfl, iteT (iteT (z0 e H (Same.refl _)))⟩
    | true =>
      cases d with
      | tuple ds =>
        obtain ⟨a, xs, rfl, ea, hl, hx⟩ := hd.tup_of
        have sa : smlAll ds = true := by
          unfold smlD at sm
          exact sm
        refine isi_te (x := .ref a) rfl (.base (.tup ea)) (kit_tup (.tuple ds)) ⟨_, rfl, iteF ?_⟩
        refine ⟨_, rfl, (by show 0 ≤ sizeLine; decide), fun p0 hp0 => ?_⟩
        have s0 := same_upd (o := .tup []) hp0
        have ea0 := s0 _ _ ea
        cases hx with
        | nil => exact ⟨a, p0, [], rfl, rfl, SqT.of ea0, SqT.of upd_same, _, rfl, iteT (iteT (z0 rfl _ s0))⟩
        | @cons x0 d0 xr dr hx0 hxr =>
          refine ⟨a, p0, _, rfl, rfl, SqT.of ea0, SqT.of upd_same, _, rfl, iteF ?_⟩
          have hx1 : Dt S (upd H p0 (.tup [])) x0 d0 := hx0.mv (fun _ z => z) fun b o _ e => s0 b o e
          obtain ⟨sm0, smr⟩ := sml_tail sa
          refine ⟨_, rfl, a, _, 0, x0, rfl, rfl, SqT.of ea0, at0, x0, .ty "str", _, _, isStrD d0, rfl, .ty _, hx1.tyx, kit_ty (kit_str d0), _, rfl, ?_⟩
          cases hs : isStrD d0 with
          | false =>
            have e : false = rowD (cdOf n) (.tuple (d0 :: dr)) := by cases d0 <;> first | rfl | cases hs
            exact iteT (z0 e _ s0)
          | true =>
            cases d0 with
            | str w0 =>
              have ev : x0 = .str w0 := by
                cases hx0 with
                | «at» a => cases a <;> rfl
              subst ev
              refine iteF ?_
              cases hf : formOf w0 with
              | none =>
                by_cases hw : w0 = "show"
                · subst hw
                  exact ⟨_, rfl, a, _, 0, _, rfl, rfl, SqT.of ea0, at0, _, some ush, rfl, rfl, hsh, _, rfl, iteF ⟨_, rfl, a, _, 0, _, rfl, rfl, SqT.of ea0, at0, rfl, _, rfl, ite2 (fun _ => ⟨_, rfl, _, rfl, iteT (z0 (rowD_no hf).symm _ s0)⟩) (fun k => absurd (decide_eq_true rfl) k)⟩⟩
                · exact ⟨_, rfl, a, _, 0, _, rfl, rfl, SqT.of ea0, at0, w0, none, rfl, rfl, hno w0 hf hw, _, rfl, iteT (z0 (rowD_no hf).symm _ s0)⟩
              | some rs =>
                obtain ⟨pf, hnf, hsf⟩ := hyes w0 rs hf
                have hw : w0 ≠ "show" := fun z => by
                  rw [z] at hf
                  cases hf
                refine ⟨_, rfl, a, _, 0, _, rfl, rfl, SqT.of ea0, at0, w0, _, rfl, rfl, hnf, _, rfl, iteF ?_⟩
                refine ⟨_, rfl, a, _, 0, _, rfl, rfl, SqT.of ea0, at0, rfl, _, rfl, ite2 (fun k => absurd (V.str.inj (of_decide_eq_true k)) hw) (fun _ => iteF ?_)⟩
                refine ⟨_, rfl, a, _, 0, _, rfl, rfl, SqT.of ea0, at0, fa, w0, .ref pf, rfl, rfl, ⟨es, nn, _, KD.at_, KD.lit, hnf, rfl⟩, ?_⟩
                refine ⟨_, rfl, a, _, rfl, .inr (SqT.of ea0), _, rfl, pf, _, rfl, .inr (hsf _), _, _, rfl, rfl, rfl, _, rfl, ite2 (fun k1 => ?_) (fun k1 => ?_)⟩
                · have k2 := V.int.inj (of_decide_eq_true k1)
                  have e1 : dr.length = rs.length := by
                    rw [List.length_map, List.length_cons, hxr.length] at k2
                    omega
                  have e0 : xr.length = rs.length := hxr.length.trans e1
                  refine ⟨_, rfl, 1, rfl, a, _, rfl, SqT.of ea0, fun hw => absurd hw cut_part, fun _ pc hpc => ?_⟩
                  rw [cut_tail]
                  have s1 := s0.trans (same_upd (o := .tup xr) hpc)
                  refine ⟨_, rfl, pc, pf, xr, rs.map V.str, rfl, .inr ⟨SqT.of upd_same, hsf _, fun Dl hD => lc_zipT (by rw [List.length_map]; exact e0) (PvM _ Dl (List.zipWith (fitD (cdOf n)) dr rs)) (PvM.zero hD)
                    (fun i H' p => ⟨SqT.of (p.1 _ _ upd_same), hsf _⟩) (fun i x y T H3 hxi hyi p hT => ?_) (fun H5 p => ?_)⟩⟩
                  · obtain ⟨e, he, hde⟩ := hxr.get hxi
                    rw [List.getElem?_map] at hyi
                    obtain ⟨r0, hr0, rfl⟩ := Option.map_eq_some_iff.mp hyi
                    have sT := (s1.trans p.1).trans (same_upd (o := .tup [x, .str r0]) hT)
                    refine ⟨T, _, rfl, SqT.of upd_same, rfl, _, _, rfl, _, _, rfl, rfl, rfl, ?_⟩
                    refine ⟨_, rfl, _, rfl, _, rfl, _, rfl, S, x, e, r0, rfl, hde.mv (fun _ z => z) (fun b o _ eb => sT b o eb), sml_get smr he, fun H4 s4 => ?_⟩
                    refine p.step hD ?_ ?_ ((same_upd hT).trans s4)
                    · have := form_len hf
                      rw [List.length_zipWith]
                      omega
                    · rw [List.getElem?_zipWith, he, hr0]
                  · obtain ⟨s5, e5⟩ := p.all (by rw [List.length_zipWith, e0, e1]; omega)
                    refine ⟨Dl, _, rfl, SqL.of e5, ?_⟩
                    refine z0 ?_ _ (s1.trans s5)
                    rw [rowD_yes hf, decide_eq_true e1, Bool.true_and]
                · have e1 : ¬ dr.length = rs.length := fun z => k1 (decide_eq_true (by
                    rw [List.length_map, List.length_cons, hxr.length, z]
                    rfl))
                  refine z0 ?_ _ s0
                  rw [rowD_yes hf, decide_eq_false e1, Bool.false_and]
            | _ => cases hs
      | _ => cases ht
end
end OM

namespace OM
open PySem PySem.Spec PyProof.Rows L2
abbrev sIsCode : Stmt := top 47
section
variable {P : Program} {w : World} {K : PySem.W.Frag} {mg : Str → Option Value} {base : Heap} {f fS fF fN fI : Addr} {fd dS dF dN dI : FuncData}
theorem scNe : FnScope ["value", "depth", "shows", "part"] ["value", "depth", "shows"] (defScope sNested) := ⟨rfl, rfl, rfl, by decide +kernel, rfl, by decide +kernel, by decide +kernel⟩
theorem nested_step {n k : Nat} {dvs : List V} (F : FunD K "is_nested_code" "is_nested_code" (defArgs sNested) (defBody sNested) (defScope sNested) dvs [] f fd) (T : TxtN K mg) (TF : TxtF K w mg) (gS : mg "_is_statement" = some (.ref fS)) (kS : PySem.W.keepIn K (.ref fS) = true) (bS : Binds K dS ["value", "depth", "shows"] []) (GS : FnOk P w K mg base CX0 k fS dS ["value", "depth", "shows"] (spStmtS n)) :
    FnOk P w K mg base CX0 (k + 1) f fd ["value", "depth", "shows"] (spNestedAtS (n + 1)) := by
  refine F.ok scNe (fun vs H Q E h => ?_) (fun cdv A outer s H vs Q E hr h => ?_)
  · obtain ⟨S, v, d, rfl, _⟩ := h
    rfl
  · obtain ⟨S, v, d, rfl, hd, sm, q⟩ := h
    refine ⟨_, pss_one (ps_ret (pe_and (pe_callB call_isi (by rfl) T.isi (by decide +kernel) (pa_cons (pv 0) (pa_cons (pe_bltn (v := .ty "tuple") (u := .type "tuple") (by rfl) TF.tup (by decide +kernel) rfl) pa_nil)))
      (pe_one (pe_callB (cr_all rfl) (by rfl) T.all (by decide +kernel) (pa_cons (pe_lc (own := [("part", 3)]) rfl scNe.nd (pi_tup (pv 0)) (blkOk_by (N := ["value", "depth", "shows", "part"]) (sc := defScope sNested) (by decide +kernel))
          (fun _ _ _ _ _ => pg_name (i := 3) scNe.nd rfl (Or.inl rfl)) (fun _ _ _ _ _ => pts_nil) (fun _ _ _ _ _ => pe_call GS hr (by rfl) gS kS bS .nil pass0 (pa_cons (pv 3) (pa_cons (pv 1) (pa_cons (pv 2) pa_nil))))) pa_nil))))), ?_⟩
    cases ht : isTupD d with
    | false =>
      have e : codeD n d = false := by cases d <;> cases n <;> first | rfl | cases ht
      refine isi_te (x := v) rfl hd.tyx ((kit_tup d).trans (congrArg some ht)) ⟨_, rfl, iteF ?_⟩
      have z := q H (Same.refl _)
      rw [e] at z
      exact z
    | true =>
      cases d with
      | tuple ds =>
        obtain ⟨a, xs, rfl, ea, hl, hx⟩ := hd.tup_of
        have sa : smlAll ds = true := by
          unfold smlD at sm
          exact sm
        refine isi_te (x := .ref a) rfl (.base (.tup ea)) (kit_tup (.tuple ds)) ⟨_, rfl, iteT ?_⟩
        refine ⟨_, rfl, a, rfl, ⟨xs, SqT.of ea⟩, fun Dl hD => lc_tup (PvM H Dl (ds.map (rowD (cdOf n)))) (PvM.zero hD) (fun i H' _ p => SqT.of (p.1 _ _ ea)) (fun i x H3 hi p => ?_) (fun H5 p => ?_)⟩
        · obtain ⟨e, he, hde⟩ := hx.get hi
          have := hx.length
          exact ⟨rfl, _, rfl, _, rfl, _, rfl, S, x, e, rfl, hde.mv (fun _ z => z) (fun b o _ eb => p.1 b o eb), sml_get sa he, fun H4 s4 => p.step hD (by rw [List.length_map]; omega) (by rw [List.getElem?_map, he]; rfl) s4⟩
        · obtain ⟨s5, e5⟩ := p.all (by rw [List.length_map]; exact hx.length)
          refine ⟨Dl, _, rfl, SqL.of e5, ?_⟩
          have z := q _ s5
          rw [codeD_tup, ← all_map_id] at z
          exact z
      | _ => cases ht
/-- the three that call one another -/
structure CodeF (K : PySem.W.Frag) (mg : Str → Option Value) (fN fS fF fI : Addr) (dN dS dF dI : FuncData) : Prop where
  FN : FunD K "is_nested_code" "is_nested_code" (defArgs sNested) (defBody sNested) (defScope sNested) [.bl false] [] fN dN
  FS : Fun K "_is_statement" "_is_statement" sStmt fS dS
  FF : Fun K "_fits" "_fits" sFits fF dF
  FI : Fun K "is_name" "is_name" sIsName fI dI
  gN : mg "is_nested_code" = some (.ref fN)
  gS : mg "_is_statement" = some (.ref fS)
  gF : mg "_fits" = some (.ref fF)
  gI : mg "is_name" = some (.ref fI)
  bN : Binds K dN ["value", "depth", "shows"] []
  bN1 : ∃ ds, Vals [V.bl false] ds ∧ Binds K dN ["value", "depth", "shows"] ds
  bS : Binds K dS ["value", "depth", "shows"] []
  bF : Binds K dF ["part", "role", "depth", "shows"] []
  bI : Binds K dI ["value"] []
  T : TxtN K mg
theorem ok_nested (C : CodeF K mg fN fS fF fI dN dS dF dI) (TF : TxtF K w mg) : ∀ n, FnOk P w K mg base CX0 (3 * n + 1) fN dN ["value", "depth", "shows"] (spNestedAtS n)
  | 0 => ⟨fun _ _ _ _ h => h.elim, fun _ _ _ _ _ _ _ _ _ _ _ _ _ h => h.elim⟩
  | n + 1 => nested_step C.FN C.T TF C.gS C.FS.kp C.bS (ok_stmt C.FS C.T TF C.gF C.FF.kp C.bF (ok_fits C.FF C.T TF C.gN C.FN.kp C.bN (ok_nested C TF n) C.gI C.FI.kp C.bI (ok_isname C.FI C.T)))
def spIsCode : Sp := fun vs H Q _ => ∃ (S : Addr → Prop) (v : V) (d : PyData), vs = [v] ∧ Dt S H v d ∧ smlD d = true ∧ ∀ H', Same H H' → Q (.bl (codeD 3 d)) H'
theorem scIC : FnScope ["value"] ["value"] (defScope sIsCode) := ⟨rfl, rfl, rfl, by decide +kernel, rfl, by decide +kernel, by decide +kernel⟩
theorem ok_iscode (F : Fun K "is_code" "is_code" sIsCode f fd) (C : CodeF K mg fN fS fF fI dN dS dF dI) (TF : TxtF K w mg) (gD : ∃ t, mg "MAX_DEPTH" = some (.int 3 t)) : FnOk P w K mg base CX0 14 f fd ["value"] spIsCode := by
  have G : FnOk P w K mg base CX0 13 fN dN ["value", "depth", "shows"] (spNestedAtS 4) := ok_nested C TF 4
  obtain ⟨t, g3⟩ := gD
  obtain ⟨dsN, rN, bN1⟩ := C.bN1
  refine F.ok scIC (fun vs H Q E h => ?_) (fun cdv A outer s H vs Q E hr h => ?_)
  · obtain ⟨S, v, d, rfl, _⟩ := h
    rfl
  · obtain ⟨S, v, d, rfl, hd, sm, q⟩ := h
    exact ⟨_, pss_one (ps_ret (pe_call G hr (by rfl) C.gN C.FN.kp bN1 rN pass0 (pa_cons (pv 0) (pa_cons (pe_glob (v := .int 3) (by rfl) g3 ⟨t, rfl⟩) pa_nil)))), _, rfl, S, v, d, rfl, hd, sm, q⟩
end
end OM

namespace OM
open PySem PySem.Spec PyProof.Rows L2
theorem all_true (n : Nat) : ((List.range n).all fun _ => true) = true := List.all_eq_true.mpr fun _ _ => rfl
def rL0 (K : PySem.W.Frag) (neg : Bool) : R2 := fun x y H Q => ∃ a b xs, x = .ref a ∧ y = .ref b ∧ SqL K H a xs ∧ SqL K H b [] ∧ Q (.bl (if neg then !xs.isEmpty else xs.isEmpty)) H
/-- a list of anything == [] -/
theorem op_eqL0 {X : Cx} (hu : X.A.units < cLine) : OpR X (compareOp .Eq) (rL0 X.K false) := by
  intro pins s σ H x y v u Q I rx ry h
  obtain ⟨a, b, xs, rfl, rfl, ha, hb, q⟩ := h
  obtain rfl : v = Value.ref a := rx
  obtain rfl : u = Value.ref b := ry
  obtain ⟨us, r1, p1, _⟩ := I.list ha
  obtain ⟨ws, r2, p2, _⟩ := I.list hb
  cases r2
  have l := r1.length
  cases xs with
  | nil =>
    obtain rfl : us = [] := List.length_eq_zero_iff.mp l.symm
    refine SeqAt.eq_listAt (e := fun _ => true) p1.isList p2.isList rfl hu (fun j h1 h2 => absurd h2 (by simp)) ⟨.bl _, H, I, rfl, ?_⟩
    rw [all_true]
    exact q
  | cons x0 xr =>
    refine SeqAt.eq_list_lengthsAt p1.isList p2.isList ?_ hu ⟨.bl false, H, I, rfl, q⟩
    cases us with
    | nil => simp at l
    | cons u us => simp
theorem op_neL0 {X : Cx} (hu : X.A.units < cLine) : OpR X (compareOp .NotEq) (rL0 X.K true) := by
  intro pins s σ H x y v u Q I rx ry h
  obtain ⟨a, b, xs, rfl, rfl, ha, hb, q⟩ := h
  obtain rfl : v = Value.ref a := rx
  obtain rfl : u = Value.ref b := ry
  obtain ⟨us, r1, p1, _⟩ := I.list ha
  obtain ⟨ws, r2, p2, _⟩ := I.list hb
  cases r2
  have l := r1.length
  cases xs with
  | nil =>
    obtain rfl : us = [] := List.length_eq_zero_iff.mp l.symm
    refine SeqAt.RcNeAt.lists (e := fun _ => true) p1.isList p2.isList rfl hu (fun j h1 h2 => absurd h2 (by simp)) X.prog X.w X.xe _ ⟨.bl _, H, I, rfl, ?_⟩
    rw [all_true]
    exact q
  | cons x0 xr =>
    refine SeqAt.RcNeAt.lists_lengths p1.isList p2.isList ?_ hu X.prog X.w X.xe _ ⟨.bl true, H, I, rfl, q⟩
    cases us with
    | nil => simp at l
    | cons u us => simp
/-- a list of what is none of a kind: empty, if all are -/
def PvF (H : Hp) (D : Addr) (bs : List Bool) (i : Nat) (H' : Hp) : Prop := Same H H' ∧ ∃ acc : List V, H' D = some (.lst acc) ∧ acc.length ≤ i ∧ acc.isEmpty = (bs.take i).all id
theorem PvF.zero {H : Hp} {D : Addr} {bs : List Bool} (hD : H D = none) : PvF H D bs 0 (upd H D (.lst [])) := ⟨same_upd hD, [], upd_same, Nat.le_refl _, rfl⟩
theorem PvF.yes {H H3 H4 : Hp} {D : Addr} {bs : List Bool} {i : Nat} (hb : bs[i]? = some true) (p : PvF H D bs i H3) (s : Same H3 H4) : PvF H D bs (i + 1) H4 := by
  obtain ⟨sm, acc, e, l, z⟩ := p
  refine ⟨sm.trans s, acc, s _ _ e, by omega, ?_⟩
  rw [List.take_add_one, hb, List.all_append, z]
  simp
theorem PvF.no {H H3 H4 : Hp} {D : Addr} {bs : List Bool} {i : Nat} {y : V} (hD : H D = none) (hl : bs.length ≤ 1000) (hb : bs[i]? = some false) (p : PvF H D bs i H3) (s : Same H3 H4) : ∃ acc, H4 D = some (.lst acc) ∧ acc.length < sizeLine ∧ PvF H D bs (i + 1) (upd H4 D (.lst (acc ++ [y]))) := by
  obtain ⟨sm, acc, e, l, z⟩ := p
  have hi : i < bs.length := (List.getElem?_eq_some_iff.mp hb).1
  refine ⟨acc, s _ _ e, Nat.lt_of_le_of_lt (show acc.length ≤ 1000 by omega) (by decide), same_put hD (sm.trans s), acc ++ [y], upd_same, by rw [List.length_append]; show acc.length + 1 ≤ _; omega, ?_⟩
  rw [List.take_add_one, hb, List.all_append]
  simp
theorem PvF.all {H H5 : Hp} {D : Addr} {bs : List Bool} {n : Nat} (p : PvF H D bs n H5) (hn : n = bs.length) : Same H H5 ∧ ∃ acc : List V, H5 D = some (.lst acc) ∧ acc.isEmpty = bs.all id := by
  obtain ⟨sm, acc, e, l, z⟩ := p
  rw [hn, List.take_length] at z
  exact ⟨sm, acc, e, z⟩
def spLCodeAt : Nat → Sp
  | 0 => fun _ _ _ _ => False
  | n + 1 => fun vs H Q _ => ∃ (S : Addr → Prop) (v : V) (d : PyData), vs = [v, .int n] ∧ Dt S H v d ∧ smlD d = true ∧ ∀ H', Same H H' → Q (.bl (codeD n d)) H'
section
variable {P : Program} {w : World} {K : PySem.W.Frag} {mg : Str → Option Value} {base : Heap} {f fR : Addr} {fd dR : FuncData}
end
end OM

namespace OM
open PySem PySem.Spec PyProof.Rows L2
def kvs5 : List (Key × V) := [(.inr "read", .int 2), (.inr "write", .int 2), (.inr "copy", .int 2), (.inr "get", .int 1), (.inr "put", .int 1)]
def lenI (w : Str) : Int := match formOf w with
  | some rs => (rs.length : Int)
  | none => -1
theorem get_len {w : Str} (h1 : w ≠ "if") (h2 : w ≠ "set") : (valV kvs5 (Sum.inr w)).getD (.int (-1)) = .int (lenI w) := by
  by_cases a : w = "read"
  · subst a
    decide +kernel
  by_cases b : w = "write"
  · subst b
    decide +kernel
  by_cases c : w = "copy"
  · subst c
    decide +kernel
  by_cases d : w = "get"
  · subst d
    decide +kernel
  by_cases e : w = "put"
  · subst e
    decide +kernel
  have k : ∀ u : Str, w ≠ u → decide ((Sum.inr u : Key) = Sum.inr w) = false := fun u hu => decide_eq_false fun z => hu (Sum.inr.inj z).symm
  have f : formOf w = none := by
    unfold formOf
    rw [if_neg a, if_neg b, if_neg h2, if_neg c, if_neg d, if_neg e, if_neg h1]
  unfold valV kvs5 lenI
  rw [f]
  simp only [List.find?_cons, List.find?_nil, k _ a, k _ b, k _ c, k _ d, k _ e]
  rfl
theorem row_if (cd : PyData → Bool) (d1 d2 d3 d4 : PyData) : rowD cd (.tuple [.str "if", d1, d2, d3, d4]) = (isNameD d1 && (isNameD d2 && (cd d3 && (cd d4 && true)))) := by
  rw [rowD_yes (rs := ["test", "register", "code", "code"]) (by decide +kernel)]
  rfl
theorem row_if_len {cd : PyData → Bool} {r : List PyData} (h : ¬ r.length = 4) : rowD cd (.tuple (.str "if" :: r)) = false := by
  rw [rowD_yes (rs := ["test", "register", "code", "code"]) (by decide +kernel)]
  show (decide (r.length = 4) && _) = false
  rw [decide_eq_false h, Bool.false_and]
theorem row_if0 {r : List PyData} : rowD (cdOf 0) (.tuple (.str "if" :: r)) = false := by
  by_cases h : r.length = 4
  · match r, h with
    | [d1, d2, d3, d4], _ =>
      rw [row_if]
      show (isNameD d1 && (isNameD d2 && (false && _))) = false
      rw [Bool.false_and, Bool.and_false, Bool.and_false]
  · exact row_if_len h
theorem row_set (cd : PyData → Bool) (d1 d2 d3 : PyData) : rowD cd (.tuple [.str "set", d1, d2, d3]) = (isNameD d1 && (isNameD d2 && (argsD d3 && true))) := by
  rw [rowD_yes (rs := ["register", "function", "registers"]) (by decide +kernel)]
  rfl
theorem row_set_len {cd : PyData → Bool} {r : List PyData} (h : ¬ r.length = 3) : rowD cd (.tuple (.str "set" :: r)) = false := by
  rw [rowD_yes (rs := ["register", "function", "registers"]) (by decide +kernel)]
  show (decide (r.length = 3) && _) = false
  rw [decide_eq_false h, Bool.false_and]
/-- the other statements have names alone -/
theorem row_plain {cd : PyData → Bool} {w : Str} {r : List PyData} (h1 : w ≠ "if") (h2 : w ≠ "set") : rowD cd (.tuple (.str w :: r)) = (decide ((r.length : Int) = lenI w) && r.all isNameD) := by
  cases hf : formOf w with
  | none =>
    rw [rowD_no hf]
    have : ¬ ((r.length : Int) = lenI w) := fun z => by
      unfold lenI at z
      rw [hf] at z
      have z' : (r.length : Int) = -1 := z
      omega
    rw [decide_eq_false this, Bool.false_and]
  | some rs =>
    rw [rowD_yes hf]
    have el : ((r.length : Int) = lenI w) ↔ r.length = rs.length := by
      unfold lenI
      rw [hf]
      show ((r.length : Int) = (rs.length : Int)) ↔ _
      omega
    have pl : rs = (["register", "cell"] : List Str) ∨ rs = (["cell", "register"] : List Str) ∨ rs = (["register", "register"] : List Str) ∨ rs = (["register"] : List Str) := by
      unfold formOf at hf
      by_cases a : w = "read"
      · rw [if_pos a] at hf; exact .inl (Option.some.inj hf).symm
      rw [if_neg a] at hf
      by_cases b : w = "write"
      · rw [if_pos b] at hf; exact .inr (.inl (Option.some.inj hf).symm)
      rw [if_neg b, if_neg h2] at hf
      by_cases c : w = "copy"
      · rw [if_pos c] at hf; exact .inr (.inr (.inl (Option.some.inj hf).symm))
      rw [if_neg c] at hf
      by_cases d : w = "get"
      · rw [if_pos d] at hf; exact .inr (.inr (.inr (Option.some.inj hf).symm))
      rw [if_neg d] at hf
      by_cases e : w = "put"
      · rw [if_pos e] at hf; exact .inr (.inr (.inr (Option.some.inj hf).symm))
      rw [if_neg e, if_neg h1] at hf
      cases hf
    by_cases hl : r.length = rs.length
    · rw [decide_eq_true hl, decide_eq_true (el.mpr hl), Bool.true_and, Bool.true_and]
      rcases pl with rfl | rfl | rfl | rfl
      · match r, hl with
        | [d1, d2], _ => rfl
      · match r, hl with
        | [d1, d2], _ => rfl
      · match r, hl with
        | [d1, d2], _ => rfl
      · match r, hl with
        | [d1], _ => rfl
    · rw [decide_eq_false hl, decide_eq_false (fun z => hl (el.mp z)), Bool.false_and, Bool.false_and]
end OM

namespace OM
open PySem PySem.Spec PyProof.Rows L2
theorem names_hs {S : Addr → Prop} {Hb : Hp} {xs : List V} {ds : List PyData} {Dl : Addr} {s0 s1 s2 s3 s4 : Option V} (hD : Hb Dl = none) (hx : DtAll S Hb xs ds) (sm : smlAll ds = true) (hl : ds.length ≤ 1000) : ∀ i x H3, xs[i]? = some x → PvF Hb Dl (ds.map isNameD) i H3 →
    gName 4 x (wipe [s0, s1, s2, s3, s4] [4]) H3 fun σ2 H2 => wipe σ2 [4] = wipe [s0, s1, s2, s3, s4] [4] ∧ tNot (tB (tCall spName [] E0 (tCons (tVar 4) tNil))) σ2 H2 fun b H3 =>
      if b = true then tVar 4 σ2 H3 fun y H4 => ∃ acc, H4 Dl = some (.lst acc) ∧ acc.length < sizeLine ∧ PvF Hb Dl (ds.map isNameD) (i + 1) (upd H4 Dl (.lst (acc ++ [y]))) else PvF Hb Dl (ds.map isNameD) (i + 1) H3 := by
  intro i x H3 hi p
  obtain ⟨e, he, hde⟩ := hx.get hi
  have hb : (ds.map isNameD)[i]? = some (isNameD e) := by
    rw [List.getElem?_map, he]
    rfl
  refine ⟨rfl, _, rfl, S, x, e, rfl, hde.mv (fun _ z => z) (fun b o _ eb => p.1 b o eb), sml_get sm he, fun H4 s4 => ⟨_, rfl, ?_⟩⟩
  cases hv : isNameD e with
  | true =>
    rw [hv] at hb
    exact iteF (p.yes hb s4)
  | false =>
    rw [hv] at hb
    exact iteT ⟨_, rfl, p.no hD (by rw [List.length_map]; exact hl) hb s4⟩
theorem DtAll.four {S : Addr → Prop} {H : Hp} {xs : List V} {ds : List PyData} (h : DtAll S H xs ds) (l : ds.length = 4) : ∃ x1 x2 x3 x4 d1 d2 d3 d4, xs = [x1, x2, x3, x4] ∧ ds = [d1, d2, d3, d4] ∧ Dt S H x1 d1 ∧ Dt S H x2 d2 ∧ Dt S H x3 d3 ∧ Dt S H x4 d4 := by
  match ds, l with
  | [d1, d2, d3, d4], _ =>
    cases h with
    | cons h1 h =>
      cases h with
      | cons h2 h =>
        cases h with
        | cons h3 h =>
          cases h with
          | cons h4 h =>
            cases h
            exact ⟨_, _, _, _, _, _, _, _, rfl, rfl, h1, h2, h3, h4⟩
theorem DtAll.three {S : Addr → Prop} {H : Hp} {xs : List V} {ds : List PyData} (h : DtAll S H xs ds) (l : ds.length = 3) : ∃ x1 x2 x3 d1 d2 d3, xs = [x1, x2, x3] ∧ ds = [d1, d2, d3] ∧ Dt S H x1 d1 ∧ Dt S H x2 d2 ∧ Dt S H x3 d3 := by
  match ds, l with
  | [d1, d2, d3], _ =>
    cases h with
    | cons h1 h =>
      cases h with
      | cons h2 h =>
        cases h with
        | cons h3 h =>
          cases h
          exact ⟨_, _, _, _, _, _, rfl, rfl, h1, h2, h3⟩
theorem cut4 {x1 x2 x3 x4 : V} : cutV [x1, x2, x3, x4] none (some 2) = [x1, x2] := rfl
theorem cut3 {x1 x2 x3 : V} : cutV [x1, x2, x3] none (some 2) = [x1, x2] := rfl
theorem part4 {x1 x2 x3 x4 : V} : ¬ (HT.sIx [x1, x2, x3, x4].length 0 none = 0 ∧ HT.sIx [x1, x2, x3, x4].length [x1, x2, x3, x4].length (some 2) = [x1, x2, x3, x4].length) := fun h => by
  have z : (2 : Nat) = 4 := h.2
  cases z
theorem part3 {x1 x2 x3 : V} : ¬ (HT.sIx [x1, x2, x3].length 0 none = 0 ∧ HT.sIx [x1, x2, x3].length [x1, x2, x3].length (some 2) = [x1, x2, x3].length) := fun h => by
  have z : (2 : Nat) = 3 := h.2
  cases z
theorem DtAll.same {S : Addr → Prop} {H H' : Hp} {xs : List V} {ds : List PyData} (h : DtAll S H xs ds) (s : Same H H') : DtAll S H' xs ds := h.mv (fun _ z => z) fun b o _ e => s b o e
theorem Dt.sameS {S : Addr → Prop} {H H' : Hp} {v : V} {d : PyData} (h : Dt S H v d) (s : Same H H') : Dt S H' v d := h.mv (fun _ z => z) fun b o _ e => s b o e
theorem smlAll_len {ds : List PyData} {xs : List V} {S : Addr → Prop} {H : Hp} (h : DtAll S H xs ds) (l : xs.length ≤ 1000) : ds.length ≤ 1000 := by
  rw [← h.length]
  exact l
section
variable {P : Program} {w : World} {K : PySem.W.Frag} {mg : Str → Option Value} {base : Heap} {f fC fL : Addr} {fd dC dL : FuncData}
end
end OM

namespace OM
open PySem PySem.Spec PyProof.Rows L2
section
variable {P : Program} {w : World} {K : PySem.W.Frag} {mg : Str → Option Value} {base : Heap} {fC fR fL : Addr} {dC dR dL : FuncData}
end
end OM

namespace OM
open PySem PySem.Spec PyProof.Rows L2
abbrev sMixed : Stmt := top 58
def spMixed (K : PySem.W.Frag) : Sp := fun vs H Q _ => ∃ (d a : Addr) (xs : List V), vs = [.ref d, .ref a] ∧ Dice H d ∧ (SqL K H a xs ∨ SqT K H a xs) ∧ xs.length ≤ 1000 ∧
  ∀ H' p ys, But d H H' → Dice H' d → H p = none → H' p = some (.lst ys) → ys.Perm xs → Q (.ref p) H'
theorem seq_nat {k n : Nat} (h : k < n) : seqIndex? (k : Int) n = some k := by
  unfold seqIndex?
  have h1 : ¬ ((k : Int) < 0) := by omega
  have h2 : (0 : Int) ≤ (k : Int) := by omega
  have h3 : (k : Int) < (n : Int) := by omega
  simp [h1, h2, h3]
theorem perm_erase : ∀ {l : List V} {i : Nat} (h : i < l.length), (l[i] :: l.eraseIdx i).Perm l
  | x :: r, 0, _ => .refl _
  | x :: r, i + 1, h => by
    have ih := perm_erase (l := r) (i := i) (Nat.lt_of_succ_lt_succ h)
    exact (List.Perm.swap x _ _).trans (ih.cons x)
section
variable {P : Program} {w : World} {K : PySem.W.Frag} {mg : Str → Option Value} {base : Heap} {f fR : Addr} {fd fdR : FuncData}
theorem scMx : FnScope ["_law_dice_here", "_law_items", "_law_left", "_law_found"] ["_law_dice_here", "_law_items"] (defScope sMixed) := ⟨rfl, rfl, rfl, by decide +kernel, rfl, by decide +kernel, by decide +kernel⟩
theorem ok_mixed (F : Fun K "_law_mixed" "_law_mixed" sMixed f fd) (T : TxtD mg) (hl : mg "list" = none) (FR : Fun K "_law_roll" "_law_roll" sRoll fR fdR) (gR : mg "_law_roll" = some (.ref fR)) (bR : Binds K fdR ["_law_dice_here", "_law_total"] []) :
    FnOk P w K mg base CX0 2 f fd ["_law_dice_here", "_law_items"] (spMixed K) := by
  have GR : FnOk P w K mg base CX0 1 fR fdR ["_law_dice_here", "_law_total"] spRoll := ok_roll FR T
  refine F.ok scMx (fun vs H Q E h => ?_) (fun cdv A outer s H vs Q E hr h => ?_)
  · obtain ⟨d, a, xs, rfl, _⟩ := h
    rfl
  · obtain ⟨d, a, xs, rfl, hd, hx, hn, q⟩ := h
    have hu : (A.deeper (envOfC "_law_mixed" (defScope sMixed) s.heap.objs.size f cdv)).units < cLine := by
      have := hr.un
      omega
    refine ⟨_, pss_cons (ps_par (i := 2) (j := 3) rfl scMx.nd rfl rfl (by decide) (by rfl) (by rfl) (pa_cons (pe_callTy call_list_of (by rfl) hl (by decide +kernel) (pa_cons (pv 1) pa_nil)) (pa_cons (pe_lst pa_nil) pa_nil)) (by rfl))
      (pss_cons (ps_while PassesOwn.never (pt_cmpR (op_neL0 hu) (pv 2) (pe_lst pa_nil) (by rfl))
        (pss_one (ps_expr (pe_bm PySem.F.plainAttrs_list PySem.F.slot_list_append PySem.F.type_list_append mt_append (pv 3) (pa_cons (pe_bm PySem.F.plainAttrs_list PySem.F.slot_list_pop PySem.F.type_list_pop mt_popAt (pv 2)
          (pa_cons (pe_call GR hr (by rfl) gR FR.kp bR .nil pass0 (pa_cons (pv 0) (pa_cons (pe_callB call_len_seq (by rfl) T.len PySem.boot_len (pa_cons (pv 2) pa_nil)) pa_nil))) pa_nil)) pa_nil)))))
      (pss_one (ps_ret (pv 3)))), ?_⟩
    obtain ⟨l0, m0, c0, ed⟩ := hd
    refine ⟨_, rfl, a, xs, rfl, hx, fun l hnl => ⟨(by show 0 ≤ sizeLine; decide), fun p hnp => ⟨_, _, rfl, ?_⟩⟩⟩
    have s1 := (same_upd (o := .lst xs) hnl).trans (same_upd (o := .lst []) hnp)
    have ld : l ≠ d := fun z => by
      rw [z, ed] at hnl
      cases hnl
    have pd : p ≠ d := fun z => by
      rw [z, same_upd hnl _ _ ed] at hnp
      cases hnp
    have pl : p ≠ l := fun z => by
      rw [z, upd_same] at hnp
      cases hnp
    have hp0 : H p = none := (same_upd (o := .lst xs) hnl).free hnp
    refine ⟨fun m σ H' => σ = [some (.ref d), some (.ref a), some (.ref l), some (.ref p)] ∧ Dice H' d ∧ But d H H' ∧ ∃ ls ys, H' l = some (.lst ls) ∧ H' p = some (.lst ys) ∧ ls.length = m ∧ (ys ++ ls).Perm xs,
      ⟨xs.length, rfl, ⟨l0, m0, c0, s1 _ _ ed⟩, fun b o _ e => s1 b o e, xs, [], same_upd hnp _ _ upd_same, upd_same, rfl, .refl _⟩, ?_⟩
    rintro m σ H' ⟨rfl, hd', bt, ls, ys, el, ep, hm, pm⟩
    have lsz : ys.length + ls.length = xs.length := by
      have := pm.length_eq
      rw [List.length_append] at this
      exact this
    refine ⟨_, rfl, (by show 0 ≤ sizeLine; decide), fun pe hpe => ⟨l, pe, ls, rfl, rfl, SqL.of (same_upd hpe _ _ el), SqL.of upd_same, _, rfl, ?_⟩⟩
    have se := same_upd (o := .lst []) hpe
    have hdE : Dice (upd H' pe (.lst [])) d := by
      obtain ⟨a1, a2, a3, e⟩ := hd'
      exact ⟨a1, a2, a3, se _ _ e⟩
    have elE := se _ _ el
    have epE := se _ _ ep
    have btE : But d H (upd H' pe (.lst [])) := fun b o hb e => se _ _ (bt b o hb e)
    revert hdE elE epE btE
    generalize upd H' pe (.lst []) = G
    intro hdE elE epE btE
    cases ls with
    | nil =>
      refine iteF ⟨_, rfl, q G p ys btE hdE hp0 epE (by simpa using pm)⟩
    | cons x0 lr =>
      refine iteT ⟨fun σ' H' => σ' = [some (.ref d), some (.ref a), some (.ref l), some (.ref p)] ∧ Dice H' d ∧ But d H H' ∧ ∃ ls ys, H' l = some (.lst ls) ∧ H' p = some (.lst ys) ∧ ls.length = lr.length ∧ (ys ++ ls).Perm xs,
        fun σ' H' h => ⟨lr.length, by rw [← hm]; exact Nat.lt_succ_self _, h⟩, ?_⟩
      have lr1 : lr.length + 1 ≤ 1000 := by
        have : (x0 :: lr).length = lr.length + 1 := rfl
        omega
      refine ⟨_, rfl, .inl ⟨rfl, ys, SqL.of epE⟩, _, rfl, .inl ⟨rfl, _, SqL.of elE⟩, _, rfl, _, rfl, l, _, rfl, .inl (SqL.of elE), d, ((x0 :: lr).length : Int), rfl, hdE, ?_, ?_, fun G2 r r0 r1 b2 hd2 => ?_⟩
      · show (0 : Int) < ((lr.length + 1 : Nat) : Int)
        omega
      · show (((lr.length + 1 : Nat) : Int)) < 1073741824
        omega
      · have r1' : r < ((lr.length + 1 : Nat) : Int) := r1
        obtain ⟨k, rfl⟩ : ∃ k : Nat, r = (k : Int) := ⟨r.toNat, by omega⟩
        have hk : k < (x0 :: lr).length := by
          show k < lr.length + 1
          omega
        have hy : (x0 :: lr)[k]? = some ((x0 :: lr)[k]) := List.getElem?_eq_getElem hk
        have el2 := b2 _ _ ld elE
        have ep2 := b2 _ _ pd epE
        refine ⟨l, x0 :: lr, (k : Int), k, (x0 :: lr)[k], rfl, rfl, el2, by omega, by omega, seq_nat hk, hy, p, ys, _, rfl, rfl, by rw [upd_ne pl]; exact ep2, ?_, rfl, ?_, ?_, ?_⟩
        · have : (1000 : Nat) < sizeLine := by decide
          omega
        · obtain ⟨a1, a2, a3, e⟩ := hd2
          exact ⟨a1, a2, a3, by rw [upd_ne (Ne.symm pd), upd_ne (Ne.symm ld)]; exact e⟩
        · intro b o hb e
          have nl : b ≠ l := ne_of_none e hnl
          have np : b ≠ p := ne_of_none e hp0
          rw [upd_ne np, upd_ne nl]
          exact b2 _ _ hb (btE b o hb e)
        · refine ⟨_, _, by rw [upd_ne (Ne.symm pl), upd_same], upd_same, ?_, ?_⟩
          · rw [List.length_eraseIdx_of_lt hk]
            rfl
          · rw [List.append_assoc]
            exact (List.Perm.append_left ys (perm_erase hk)).trans pm
end
end OM

namespace OM
open PySem PySem.Spec PyProof.Rows L2
abbrev sState : Stmt := top 59
abbrev sCode : Stmt := top 60
def regs4 : List Str := ["a", "b", "r", "x"]
def cells3 : List Str := ["x", "y", "zz"]
mutual
/-- a drawn statement: how deep ifs may stand in it, its letters, sets and ifs, its size -/
inductive StD : Nat → PyData → Nat → Nat → Nat → Nat → Prop where
  | read {n : Nat} {r x : Str} (hr : r ∈ regs4) (hx : x ∈ cells3) : StD n (.tuple [.str "read", .str r, .str x]) 0 0 0 1
  | write {n : Nat} {r x : Str} (hx : x ∈ cells3) (hr : r ∈ regs4) : StD n (.tuple [.str "write", .str x, .str r]) 0 0 0 1
  | copy {n : Nat} {r a : Str} (hr : r ∈ regs4) (ha : a ∈ regs4) : StD n (.tuple [.str "copy", .str r, .str a]) 0 0 0 1
  | letter {n : Nat} {w r : Str} (hw : w = "get" ∨ w = "put") (hr : r ∈ regs4) : StD n (.tuple [.str w, .str r]) 1 0 0 1
  | set {n : Nat} {r f : Str} {as : List Str} (hr : r ∈ regs4) (hf : f = "f" ∨ f = "g") (ha : ∀ a ∈ as, a ∈ regs4) (hl : as.length ≤ 2) : StD n (.tuple [.str "set", .str r, .str f, .tuple (as.map PyData.str)]) 0 1 0 1
  | iff {n : Nat} {p r : Str} {ys ns : List PyData} {l1 s1 t1 z1 l2 s2 t2 z2 : Nat} (hp : p = "p" ∨ p = "q") (hr : r ∈ regs4) (hy : CoD n ys l1 s1 t1 z1) (hyl : ys.length ≤ 2) (hn : CoD n ns l2 s2 t2 z2) (hnl : ns.length ≤ 2) :
      StD (n + 1) (.tuple [.str "if", .str p, .str r, .tuple ys, .tuple ns]) (l1 + l2) (s1 + s2) (t1 + t2 + 1) (z1 + z2 + 1)
inductive CoD : Nat → List PyData → Nat → Nat → Nat → Nat → Prop where
  | nil {n : Nat} : CoD n [] 0 0 0 0
  | cons {n : Nat} {d : PyData} {ds : List PyData} {l s t z l' s' t' z' : Nat} (h : StD n d l s t z) (r : CoD n ds l' s' t' z') : CoD n (d :: ds) (l + l') (s + s') (t + t') (z + z')
end
theorem CoD.snoc {n : Nat} {d : PyData} {l' s' t' z' : Nat} (x : StD n d l' s' t' z') : ∀ {ds : List PyData} {l s t z : Nat}, CoD n ds l s t z → CoD n (ds ++ [d]) (l + l') (s + s') (t + t') (z + z')
  | _, _, _, _, _, .nil => by
    have := CoD.cons x .nil
    simpa using this
  | _, _, _, _, _, .cons h r => by
    have q := CoD.cons h (CoD.snoc x r)
    simpa [Nat.add_assoc] using q
/-- all but two is as it was -/
def But2 (a b : Addr) (H H' : Hp) : Prop := ∀ c o, c ≠ a → c ≠ b → H c = some o → H' c = some o
theorem But2.trans {a b : Addr} {H H1 H2 : Hp} (x : But2 a b H H1) (y : But2 a b H1 H2) : But2 a b H H2 := fun c o h1 h2 e => y c o h1 h2 (x c o h1 h2 e)
theorem But.two {a b : Addr} {H H' : Hp} (x : But a H H') : But2 a b H H' := fun c o h1 _ e => x c o h1 e
theorem Same.two {a b : Addr} {H H' : Hp} (x : Same H H') : But2 a b H H' := fun c o _ _ e => x c o e
/-- the room that is left -/
def RoomL (H : Hp) (q : Addr) (l s t : Nat) : Prop := H q = some (.lst [.int l, .int s, .int t])
def spState (n : Nat) : Sp := fun vs H Q _ => ∃ (d q : Addr) (l s t : Nat), vs = [.ref d, .ref q, .int n] ∧ Dice H d ∧ RoomL H q l s t ∧ d ≠ q ∧ ∀ H' v e l1 s1 t1 z1, But2 d q H H' → Dice H' d → StD n e l1 s1 t1 z1 → l1 ≤ l → s1 ≤ s → t1 ≤ t → RoomL H' q (l - l1) (s - s1) (t - t1) →
  Dt (fun b => H b = none) H' v e → Q v H'
def spCodeAt : Nat → Sp
  | 0 => fun _ _ _ _ => False
  | n + 1 => fun vs H Q _ => ∃ (d q : Addr) (m l s t : Nat), vs = [.ref d, .int m, .ref q, .int n] ∧ m ≤ 100 ∧ Dice H d ∧ RoomL H q l s t ∧ d ≠ q ∧ ∀ H' v ds l1 s1 t1 z1, But2 d q H H' → Dice H' d → CoD n ds l1 s1 t1 z1 → ds.length ≤ m → l1 ≤ l → s1 ≤ s → t1 ≤ t → RoomL H' q (l - l1) (s - s1) (t - t1) →
    Dt (fun b => H b = none) H' v (.tuple ds) → Q v H'
section
variable {P : Program} {w : World} {K : PySem.W.Frag} {mg : Str → Option Value} {base : Heap} {f fR fO fC fS : Addr} {fd fdR fdO dC dS : FuncData}
/-- the functions of the dice -/
structure DiceF (K : PySem.W.Frag) (mg : Str → Option Value) (fR fO : Addr) (fdR fdO : FuncData) : Prop where
  FR : Fun K "_law_roll" "_law_roll" sRoll fR fdR
  FO : Fun K "_law_one_of" "_law_one_of" sOneOf fO fdO
  gR : mg "_law_roll" = some (.ref fR)
  gO : mg "_law_one_of" = some (.ref fO)
  bR : Binds K fdR ["_law_dice_here", "_law_total"] []
  bO : Binds K fdO ["_law_dice_here", "_law_items"] []
  T : TxtD mg
theorem scCd : FnScope ["_law_dice_here", "_law_most", "_law_room", "_law_deep", "_law_found", "_law_turn"] ["_law_dice_here", "_law_most", "_law_room", "_law_deep"] (defScope sCode) := ⟨rfl, rfl, rfl, by decide +kernel, rfl, by decide +kernel, by decide +kernel⟩
theorem code_step {n k : Nat} (F : Fun K "_law_code" "_law_code" sCode f fd) (D : DiceF K mg fR fO fdR fdO) (rng : mg "range" = none) (tup : mg "tuple" = none) (gS : mg "_law_statement" = some (.ref fS)) (kS : PySem.W.keepIn K (.ref fS) = true) (bS : Binds K dS ["_law_dice_here", "_law_room", "_law_deep"] [])
    (GS : FnOk P w K mg base CX0 (k + 1) fS dS ["_law_dice_here", "_law_room", "_law_deep"] (spState n)) : FnOk P w K mg base CX0 (k + 2) f fd ["_law_dice_here", "_law_most", "_law_room", "_law_deep"] (spCodeAt (n + 1)) := by
  have GR : FnOk P w K mg base CX0 1 fR fdR ["_law_dice_here", "_law_total"] spRoll := ok_roll D.FR D.T
  refine F.ok scCd (fun vs H Q E h => ?_) (fun cdv A outer s H vs Q E hr h => ?_)
  · obtain ⟨d, q, m, l, s, t, rfl, _⟩ := h
    rfl
  · obtain ⟨d, q, m, l, s1, t, rfl, hm, hd, hq, ne, c⟩ := h
    refine ⟨_, pss_cons (ps_set (i := 4) scCd.nd rfl (Or.inl rfl) (pe_lst pa_nil))
      (pss_cons (ps_for PassesOwn.never rfl (pi_range1 (by rfl) rng (pa_cons (pe_call GR (hr.mono (by omega)) (by rfl) D.gR D.FR.kp D.bR .nil pass0 (pa_cons (pv 0) (pa_cons (pe_op op_add (pv 1) pe_int) pa_nil))) pa_nil)) (pg_name (i := 5) scCd.nd rfl (Or.inl rfl))
        (pss_one (ps_expr (pe_bm PySem.F.plainAttrs_list PySem.F.slot_list_append PySem.F.type_list_append mt_append (pv 4) (pa_cons (pe_call GS hr (by rfl) gS kS bS .nil pass0 (pa_cons (pv 0) (pa_cons (pv 2) (pa_cons (pv 3) pa_nil)))) pa_nil)))))
      (pss_one (ps_ret (pe_callTy call_tuple_of (by rfl) tup (by decide +kernel) (pa_cons (pv 4) pa_nil))))), ?_⟩
    have dn : ∀ {G : Hp}, Dice G d → G d ≠ none := fun {G} h => h.ne
    refine ⟨(by show 0 ≤ sizeLine; decide), fun p hp => ?_⟩
    have pd : p ≠ d := fun z => dn hd (by rw [← z]; exact hp)
    have pq : p ≠ q := fun z => by
      rw [z, hq] at hp
      cases hp
    have sp := same_upd (o := .lst []) hp
    have hd0 : Dice (upd H p (.lst [])) d := by
      obtain ⟨a1, a2, a3, e⟩ := hd
      exact ⟨a1, a2, a3, sp _ _ e⟩
    refine ⟨_, rfl, _, rfl, (m : Int), 1, rfl, rfl, d, ((m : Int) + 1), rfl, hd0, by omega, by omega, fun H1 r r0 r1 b1 hd1 => ⟨r, rfl, by omega, by omega, ?_⟩⟩
    have free : ∀ {G : Hp}, But2 d q H G → Dice G d → (∃ u, G q = some u) → ∀ b, G b = none → H b = none := fun {G} bt hdg hqg b hb => by
      cases y : H b with
      | none => rfl
      | some o =>
        by_cases e1 : b = d
        · subst e1
          exact absurd hb (dn hdg)
        · by_cases e2 : b = q
          · subst e2
            obtain ⟨u, hu⟩ := hqg
            rw [hu] at hb
            cases hb
          · rw [bt b o e1 e2 y] at hb
            cases hb
    refine ⟨fun i m' σ G => m' = r.toNat - i ∧ i ≤ r.toNat ∧ (∃ x5, σ = [some (.ref d), some (.int m), some (.ref q), some (.int n), some (.ref p), x5]) ∧ Dice G d ∧ But2 d q H G ∧ ∃ vs ds l1 s2 t1 z1, G p = some (.lst vs) ∧ DtAll (fun b => H b = none ∧ b ≠ p) G vs ds ∧
      CoD n ds l1 s2 t1 z1 ∧ ds.length = i ∧ l1 ≤ l ∧ s2 ≤ s1 ∧ t1 ≤ t ∧ RoomL G q (l - l1) (s1 - s2) (t - t1), ⟨_, rfl, Nat.zero_le _, ⟨_, rfl⟩, hd1, (Same.two (H' := upd H p (.lst [])) sp).trans b1.two, [], [], 0, 0, 0, 0, b1 _ _ pd upd_same, .nil, .nil, rfl, Nat.zero_le _, Nat.zero_le _, Nat.zero_le _, b1 _ _ (Ne.symm ne) (sp _ _ hq)⟩, ?_⟩
    rintro i m' σ G ⟨rfl, hi, ⟨x5, rfl⟩, hdG, bt, vs, ds, l1, s2, t1, z1, ep, dall, cd, hlen, hl1, hs2, ht1, hroom⟩
    have hr' : r.toNat ≤ m := by omega
    rcases Nat.lt_or_ge i r.toNat with hlt | hge
    · refine .inr ⟨hlt, fun σ' G' => (∃ x5, σ' = [some (.ref d), some (.int m), some (.ref q), some (.int n), some (.ref p), x5]) ∧ Dice G' d ∧ But2 d q H G' ∧ ∃ vs ds l1 s2 t1 z1, G' p = some (.lst vs) ∧ DtAll (fun b => H b = none ∧ b ≠ p) G' vs ds ∧
        CoD n ds l1 s2 t1 z1 ∧ ds.length = i + 1 ∧ l1 ≤ l ∧ s2 ≤ s1 ∧ t1 ≤ t ∧ RoomL G' q (l - l1) (s1 - s2) (t - t1), fun σ' G' h => ⟨r.toNat - (i + 1), by omega, rfl, hlt, h⟩, ?_⟩
      rintro x G' ⟨rfl, rfl⟩
      refine ⟨_, rfl, .inl ⟨rfl, vs, SqL.of ep⟩, _, rfl, _, rfl, _, rfl, d, q, l - l1, s1 - s2, t - t1, rfl, hdG, hroom, ne, fun G2 v e l2 s3 t2 z2 b2 hd2 st hl2 hs3 ht2 hr2 dt2 => ?_⟩
      have ep2 := b2 _ _ pd pq ep
      refine ⟨p, vs, v, rfl, rfl, ep2, ?_, ⟨_, rfl⟩, ?_, ?_, vs ++ [v], ds ++ [e], l1 + l2, s2 + s3, t1 + t2, z1 + z2, upd_same, ?_, cd.snoc st, ?_, by omega, by omega, by omega, ?_⟩
      · have := dall.length
        have : (1000 : Nat) < sizeLine := by decide
        omega
      · obtain ⟨a1, a2, a3, e⟩ := hd2
        exact ⟨a1, a2, a3, by rw [upd_ne (Ne.symm pd)]; exact e⟩
      · intro b o h1 h2 eb
        rw [upd_ne (ne_of_none eb hp)]
        exact b2 b o h1 h2 (bt b o h1 h2 eb)
      · refine DtAll.snoc (dall.strong fun b o hb eo => ⟨hb, ?_⟩) (dt2.strong fun b o hb eo => ?_)
        · rw [upd_ne hb.2]
          exact b2 b o (fun z => dn hd (by rw [← z]; exact hb.1)) (fun z => by rw [z, hq] at hb; cases hb.1) eo
        · have hb' : G' b = none := hb
          have bp : b ≠ p := fun z => by
            rw [z, ep] at hb'
            cases hb'
          exact ⟨⟨free bt hdG ⟨_, hroom⟩ b hb', bp⟩, by rw [upd_ne bp]; exact eo⟩
      · rw [List.length_append, hlen]
        rfl
      · show upd G2 p _ q = _
        rw [upd_ne (Ne.symm pq)]
        have := hr2
        unfold RoomL at this
        rw [this, Nat.sub_sub, Nat.sub_sub, Nat.sub_sub]
    · obtain rfl : i = r.toNat := by omega
      refine .inl ⟨Nat.le_refl _, ?_⟩
      refine ⟨_, rfl, p, vs, rfl, .inl ⟨SqL.of ep, fun tp htp => ?_⟩⟩
      have st := same_upd (o := .tup vs) htp
      refine c _ (.ref tp) ds l1 s2 t1 z1 (bt.trans (Same.two (H' := upd G tp (.tup vs)) st)) ?_ cd (by omega) hl1 hs2 ht1 (st _ _ hroom) (.tup (free bt hdG ⟨_, hroom⟩ tp htp) upd_same ?_ (dall.strong fun b o hb eo => ⟨hb.1, st _ _ eo⟩))
      · obtain ⟨a1, a2, a3, e⟩ := hdG
        exact ⟨a1, a2, a3, st _ _ e⟩
      · have := dall.length
        omega
end
end OM

namespace OM
open PySem PySem.Spec PyProof.Rows L2
/-- one of some texts, in a list just made -/
theorem one_str {K : PySem.W.Frag} {G : Hp} {d p : Addr} {ws : List Str} {Q : VK} {E : XK} (hd : Dice G d) (hp : G p = none) (h0 : 0 < ws.length) (hl : ws.length ≤ 1000) (q : ∀ G' x, x ∈ ws → But d G G' → Dice G' d → Q (.str x) G') :
    spOneOf K [.ref d, .ref p] (upd G p (.lst (ws.map V.str))) Q E := by
  have s := same_upd (o := .lst (ws.map V.str)) hp
  have pd : p ≠ d := fun z => hd.ne (by rw [← z]; exact hp)
  refine ⟨d, p, ws.map V.str, rfl, ?_, SqL.of upd_same, fun _ => pd, by rw [List.length_map]; exact h0, by rw [List.length_map]; omega, fun G' i v hv b hd' => ?_⟩
  · obtain ⟨a1, a2, a3, e⟩ := hd
    exact ⟨a1, a2, a3, s _ _ e⟩
  · rw [List.getElem?_map] at hv
    obtain ⟨x, hx, rfl⟩ := Option.map_eq_some_iff.mp hv
    exact q G' x (List.mem_of_getElem? hx) (fun c o h e => b c o h (s c o e)) hd'
theorem But.trans' {a : Addr} {H H1 H2 : Hp} (x : But a H H1) (y : But a H1 H2) : But a H H2 := fun c o h1 e => y c o h1 (x c o h1 e)
theorem Same.but' {a : Addr} {H H' : Hp} (x : Same H H') : But a H H' := fun c o _ e => x c o e
theorem cutP {A B : Prop} (f : B → A) (b : B) : A := f b
theorem reg4 {x : Str} (h : x ∈ (["a", "b", "r", "x"] : List Str)) : x ∈ regs4 := h
theorem dt_strs {S : Addr → Prop} {G : Hp} : ∀ as : List Str, DtAll S G (as.map V.str) (as.map PyData.str)
  | [] => .nil
  | a :: as => .cons (.at (.str _)) (dt_strs as)
theorem pq_of {x : Str} (h : x ∈ (["p", "p", "q"] : List Str)) : x = "p" ∨ x = "q" := by
  rcases List.mem_cons.mp h with h | h
  · exact .inl h
  rcases List.mem_cons.mp h with h | h
  · exact .inl h
  · exact .inr (List.mem_singleton.mp h)
theorem two_of {x a b : Str} (h : x ∈ [a, b]) : x = a ∨ x = b := by
  rcases List.mem_cons.mp h with h | h
  · exact .inl h
  · exact .inr (List.mem_singleton.mp h)
theorem cell4 {x : Str} (h : x ∈ (["x", "y", "x", "zz"] : List Str)) : x ∈ cells3 := by
  rcases List.mem_cons.mp h with rfl | h
  · exact .head _
  rcases List.mem_cons.mp h with rfl | h
  · exact .tail _ (.head _)
  rcases List.mem_cons.mp h with rfl | h
  · exact .head _
  rcases List.mem_cons.mp h with rfl | h
  · exact .tail _ (.tail _ (.head _))
  cases h
section
variable {P : Program} {w : World} {K : PySem.W.Frag} {mg : Str → Option Value} {base : Heap} {f fR fO fC : Addr} {fd fdR fdO dC : FuncData}
theorem scSm : FnScope ["_law_dice_here", "_law_room", "_law_deep", "_law_way", "_law_cell", "_law_one", "_law_other", "_law_args", "_law_yes"] ["_law_dice_here", "_law_room", "_law_deep"] (defScope sState) := ⟨rfl, rfl, rfl, by decide +kernel, rfl, by decide +kernel, by decide +kernel⟩
theorem ok_state {n k : Nat} (F : Fun K "_law_statement" "_law_statement" sState f fd) (D : DiceF K mg fR fO fdR fdO) (gC : mg "_law_code" = some (.ref fC)) (kC : PySem.W.keepIn K (.ref fC) = true) (bC : Binds K dC ["_law_dice_here", "_law_most", "_law_room", "_law_deep"] [])
    (GC : FnOk P w K mg base CX0 (k + 2) fC dC ["_law_dice_here", "_law_most", "_law_room", "_law_deep"] (spCodeAt n)) : FnOk P w K mg base CX0 (k + 3) f fd ["_law_dice_here", "_law_room", "_law_deep"] (spState n) := by
  have GR : FnOk P w K mg base CX0 1 fR fdR ["_law_dice_here", "_law_total"] spRoll := ok_roll D.FR D.T
  have GO : FnOk P w K mg base CX0 2 fO fdO ["_law_dice_here", "_law_items"] (spOneOf K) := ok_oneof D.FO D.T D.FR D.gR D.bR
  refine F.ok scSm (fun vs H Q E h => ?_) (fun cdv A outer s H vs Q E hr h => ?_)
  · obtain ⟨d, q, l, s, t, rfl, _⟩ := h
    rfl
  · obtain ⟨d, q, l, s1, t, rfl, hd, hq, ne, c⟩ := h
    refine ⟨_, pss_cons (ps_par (i := 3) (j := 4) rfl scSm.nd rfl rfl (by decide) (by rfl) (by rfl) (pa_cons (pe_call GR (hr.mono (by omega)) (by rfl) D.gR D.FR.kp D.bR .nil pass0 (pa_cons (pv 0) (pa_cons pe_int pa_nil)))
        (pa_cons (pe_call GO (hr.mono (by omega)) (by rfl) D.gO D.FO.kp D.bO .nil pass0 (pa_cons (pv 0) (pa_cons (pe_lst (pa_cons pe_str (pa_cons pe_str (pa_cons pe_str (pa_cons pe_str pa_nil))))) pa_nil))) pa_nil)) (by rfl))
      (pss_cons (ps_par (i := 5) (j := 6) rfl scSm.nd rfl rfl (by decide) (by rfl) (by rfl) (pa_cons (pe_call GO (hr.mono (by omega)) (by rfl) D.gO D.FO.kp D.bO .nil pass0 (pa_cons (pv 0) (pa_cons (pe_lst (pa_cons pe_str (pa_cons pe_str (pa_cons pe_str (pa_cons pe_str pa_nil))))) pa_nil)))
        (pa_cons (pe_call GO (hr.mono (by omega)) (by rfl) D.gO D.FO.kp D.bO .nil pass0 (pa_cons (pv 0) (pa_cons (pe_lst (pa_cons pe_str (pa_cons pe_str (pa_cons pe_str (pa_cons pe_str pa_nil))))) pa_nil))) pa_nil)) (by rfl))
      (pss_cons (ps_if (pt_cmpR op_lt (pv 3) pe_int (nomark _)) (pss_one (ps_ret (pe_tup (pa_cons pe_str (pa_cons (pv 5) (pa_cons (pv 4) pa_nil)))))) pss_nil)
      (pss_cons (ps_if (pt_cmpR op_lt (pv 3) pe_int (nomark _)) (pss_one (ps_ret (pe_tup (pa_cons pe_str (pa_cons (pv 4) (pa_cons (pv 5) pa_nil)))))) pss_nil)
      (pss_cons (ps_if (PW.pt (pw_and (pt_cmpR op_lt (pv 3) pe_int (nomark _)) (pw_and1 (pt_cmpR op_gt (pe_ix ix_list (pv 1) pe_int (fun _ _ => rfl)) pe_int (nomark _)))))
        (pss_cons (ps_asg (pe_op op_sub (pe_ix ix_list (pv 1) pe_int (fun _ _ => rfl)) pe_int) (pg_sub (pv 1) pe_int set_list))
        (pss_one (ps_ret (pe_tup (pa_cons (pe_call GO (hr.mono (by omega)) (by rfl) D.gO D.FO.kp D.bO .nil pass0 (pa_cons (pv 0) (pa_cons (pe_lst (pa_cons pe_str (pa_cons pe_str pa_nil))) pa_nil))) (pa_cons (pv 5) pa_nil)))))) pss_nil)
      (pss_cons (ps_if (PW.pt (pw_and (pt_cmpR op_eq (pv 3) pe_int (nomark _)) (pw_and1 (pt_cmpR op_gt (pe_ix ix_list (pv 1) pe_int (fun _ _ => rfl)) pe_int (nomark _)))))
        (pss_cons (ps_asg (pe_op op_sub (pe_ix ix_list (pv 1) pe_int (fun _ _ => rfl)) pe_int) (pg_sub (pv 1) pe_int set_list))
        (pss_cons (ps_set (i := 7) scSm.nd rfl (Or.inl rfl) (pe_call GO (hr.mono (by omega)) (by rfl) D.gO D.FO.kp D.bO .nil pass0 (pa_cons (pv 0) (pa_cons (pe_lst (pa_cons (pe_tup pa_nil) (pa_cons (pe_tup (pa_cons (pv 6) pa_nil)) (pa_cons (pe_tup (pa_cons (pv 6) pa_nil))
            (pa_cons (pe_tup (pa_cons (pv 5) (pa_cons (pv 6) pa_nil))) (pa_cons (pe_tup (pa_cons (pv 6) (pa_cons (pv 6) pa_nil))) pa_nil)))))) pa_nil))))
        (pss_one (ps_ret (pe_tup (pa_cons pe_str (pa_cons (pv 5) (pa_cons (pe_call GO (hr.mono (by omega)) (by rfl) D.gO D.FO.kp D.bO .nil pass0 (pa_cons (pv 0) (pa_cons (pe_lst (pa_cons pe_str (pa_cons pe_str pa_nil))) pa_nil))) (pa_cons (pv 7) pa_nil))))))))) pss_nil)
      (pss_cons (ps_if (PW.pt (pw_and (pt_cmpR op_gt (pv 3) pe_int (nomark _)) (pw_and (pt_cmpR op_gt (pe_ix ix_list (pv 1) pe_int (fun _ _ => rfl)) pe_int (nomark _)) (pw_and1 (pt_cmpR op_gt (pv 2) pe_int (nomark _))))))
        (pss_cons (ps_asg (pe_op op_sub (pe_ix ix_list (pv 1) pe_int (fun _ _ => rfl)) pe_int) (pg_sub (pv 1) pe_int set_list))
        (pss_cons (ps_set (i := 8) scSm.nd rfl (Or.inl rfl) (pe_call GC hr (by rfl) gC kC bC .nil pass0 (pa_cons (pv 0) (pa_cons pe_int (pa_cons (pv 1) (pa_cons (pe_op op_sub (pv 2) pe_int) pa_nil))))))
        (pss_one (ps_ret (pe_tup (pa_cons pe_str (pa_cons (pe_call GO (hr.mono (by omega)) (by rfl) D.gO D.FO.kp D.bO .nil pass0 (pa_cons (pv 0) (pa_cons (pe_lst (pa_cons pe_str (pa_cons pe_str (pa_cons pe_str pa_nil)))) pa_nil))) (pa_cons (pv 6) (pa_cons (pv 8)
            (pa_cons (pe_call GC hr (by rfl) gC kC bC .nil pass0 (pa_cons (pv 0) (pa_cons pe_int (pa_cons (pv 1) (pa_cons (pe_op op_sub (pv 2) pe_int) pa_nil))))) pa_nil)))))))))) pss_nil)
      (pss_one (ps_ret (pe_tup (pa_cons pe_str (pa_cons (pv 5) (pa_cons (pv 6) pa_nil)))))))))))), ?_⟩
    refine ⟨_, rfl, d, 13, rfl, hd, by omega, by omega, fun H1 wy w0 w1 b1 hd1 => ?_⟩
    refine ⟨_, rfl, (by show (4 : Nat) ≤ sizeLine; decide), fun p1 hp1 => one_str (E := E) (ws := ["x", "y", "x", "zz"]) hd1 hp1 (by decide) (by decide) fun H2 cell hcell b2 hd2 => ?_⟩
    refine ⟨_, _, rfl, _, rfl, (by show (4 : Nat) ≤ sizeLine; decide), fun p2 hp2 => one_str (E := E) (ws := ["a", "b", "r", "x"]) hd2 hp2 (by decide) (by decide) fun H3 one hone b3 hd3 => ?_⟩
    refine ⟨_, rfl, (by show (4 : Nat) ≤ sizeLine; decide), fun p3 hp3 => one_str (E := E) (ws := ["a", "b", "r", "x"]) hd3 hp3 (by decide) (by decide) fun H4 oth hoth b4 hd4 => ?_⟩
    refine ⟨_, _, rfl, ?_⟩
    have b1 : But d H H1 := b1
    have t4 : But d H H4 := ((b1.trans' b2).trans' b3).trans' b4
    have t4' : But2 d q H H4 := t4.two
    have r4 : RoomL H4 q l s1 t := t4 _ _ (Ne.symm ne) hq
    have dn : ∀ {G : Hp}, Dice G d → G d ≠ none := fun {G} h => h.ne
    have free : ∀ {G : Hp}, But2 d q H G → Dice G d → (∃ u, G q = some u) → ∀ b, G b = none → H b = none := fun {G} bt hdg hqg b hb => by
      cases y : H b with
      | none => rfl
      | some o =>
        by_cases e1 : b = d
        · subst e1
          exact absurd hb (dn hdg)
        · by_cases e2 : b = q
          · subst e2
            obtain ⟨u, hu⟩ := hqg
            rw [hu] at hb
            cases hb
          · rw [bt b o e1 e2 y] at hb
            cases hb
    have leaf : ∀ {G : Hp} {p9 : Addr} {vs : List V} {ds : List PyData} {l1 s2 t1 z1 : Nat}, But2 d q H G → Dice G d → RoomL G q (l - l1) (s1 - s2) (t - t1) → G p9 = none → vs.length ≤ 1000 → DtAll (fun b => H b = none) (upd G p9 (.tup vs)) vs ds → StD n (.tuple ds) l1 s2 t1 z1 → l1 ≤ l → s2 ≤ s1 → t1 ≤ t → Q (.ref p9) (upd G p9 (.tup vs)) :=
      fun {G p9 vs ds l1 s2 t1 z1} bt hdG hroom hp9 hv dall st h1 h2 h3 => by
        have s9 := same_upd (o := .tup vs) hp9
        refine c _ (.ref p9) _ l1 s2 t1 z1 (bt.trans (Same.two s9)) ?_ st h1 h2 h3 (s9 _ _ hroom) (.tup (free bt hdG ⟨_, hroom⟩ p9 hp9) upd_same hv dall)
        obtain ⟨a1, a2, a3, e⟩ := hdG
        exact ⟨a1, a2, a3, s9 _ _ e⟩
    have st5 : ∀ ys : List V, Dice (upd H4 q (.lst ys)) d ∧ But2 d q H (upd H4 q (.lst ys)) := fun ys => ⟨by
      obtain ⟨a1, a2, a3, e⟩ := hd4
      exact ⟨a1, a2, a3, by rw [upd_ne ne]; exact e⟩, fun c o h1 h2 e => by rw [upd_ne h2]; exact t4' c o h1 h2 e⟩
    refine ⟨_, rfl, wy, 3, rfl, rfl, _, rfl, ite2 (fun h => ?_) (fun h => ?_)⟩
    · refine ⟨_, rfl, _, rfl, (by show 3 ≤ sizeLine; decide), fun p9 hp9 => ?_⟩
      exact leaf (l1 := 0) (s2 := 0) (t1 := 0) t4' hd4 r4 hp9 (by show 3 ≤ 1000; decide) (.cons (.at (.str _)) (.cons (.at (.str _)) (.cons (.at (.str _)) .nil))) (.read (reg4 hone) (cell4 hcell)) (Nat.zero_le _) (Nat.zero_le _) (Nat.zero_le _)
    refine ⟨_, rfl, wy, 6, rfl, rfl, _, rfl, ite2 (fun h => ?_) (fun h => ?_)⟩
    · refine ⟨_, rfl, _, rfl, (by show 3 ≤ sizeLine; decide), fun p9 hp9 => ?_⟩
      exact leaf (l1 := 0) (s2 := 0) (t1 := 0) t4' hd4 r4 hp9 (by show 3 ≤ 1000; decide) (.cons (.at (.str _)) (.cons (.at (.str _)) (.cons (.at (.str _)) .nil))) (.write (cell4 hcell) (reg4 hone)) (Nat.zero_le _) (Nat.zero_le _) (Nat.zero_le _)
    apply cutP
    · intro rest
      refine ⟨_, rfl, wy, 10, rfl, rfl, _, rfl, ite2 (fun h10 => ⟨_, rfl, q, _, _, _, rfl, rfl, SqL.of r4, rfl, _, _, rfl, rfl, _, rfl, ite2 (fun hl => ?_) (fun _ => rest)⟩) (fun _ => iteF rest)⟩
      have hl1 : 0 < l := by
        have := of_decide_eq_true hl
        omega
      refine ⟨_, rfl, q, _, _, _, rfl, rfl, SqL.of r4, rfl, _, _, rfl, rfl, _, rfl, q, _, _, 0, rfl, rfl, r4, rfl, ?_⟩
      have e5 : ((l - 1 : Nat) : Int) = (l : Int) - 1 := by omega
      have r5 : RoomL (upd H4 q (.lst [V.int ((l : Int) - 1), .int s1, .int t])) q (l - 1) s1 t := by
        unfold RoomL
        rw [e5]
        exact upd_same
      obtain ⟨hd5, t5⟩ := st5 [V.int ((l : Int) - 1), .int s1, .int t]
      refine ⟨_, rfl, (by show 2 ≤ sizeLine; decide), fun p5 hp5 => one_str (E := E) (ws := ["get", "put"]) hd5 hp5 (by decide) (by decide) fun H6 wd hwd b6 hd6 => ⟨_, rfl, (by show 2 ≤ sizeLine; decide), fun p9 hp9 => ?_⟩⟩
      exact leaf (l1 := 1) (s2 := 0) (t1 := 0) (t5.trans b6.two) hd6 (b6 _ _ (Ne.symm ne) r5) hp9 (by show 2 ≤ 1000; decide) (.cons (.at (.str _)) (.cons (.at (.str _)) .nil)) (.letter (two_of hwd) (reg4 hone)) (by omega) (Nat.zero_le _) (Nat.zero_le _)
    apply cutP
    · intro rest
      refine ⟨_, rfl, rfl, _, rfl, ite2 (fun h10 => ⟨_, rfl, q, _, _, _, rfl, rfl, SqL.of r4, rfl, _, _, rfl, rfl, _, rfl, ite2 (fun hl => ?_) (fun _ => rest)⟩) (fun _ => iteF rest)⟩
      have hl1 : 0 < s1 := by
        have := of_decide_eq_true hl
        omega
      refine ⟨_, rfl, q, _, _, _, rfl, rfl, SqL.of r4, rfl, _, _, rfl, rfl, _, rfl, q, _, _, 1, rfl, rfl, r4, rfl, ?_⟩
      have e5 : ((s1 - 1 : Nat) : Int) = (s1 : Int) - 1 := by omega
      have r5 : RoomL (upd H4 q (.lst [V.int l, .int ((s1 : Int) - 1), .int t])) q l (s1 - 1) t := by
        unfold RoomL
        rw [e5]
        exact upd_same
      obtain ⟨hd5, t5⟩ := st5 [V.int l, .int ((s1 : Int) - 1), .int t]
      refine ⟨_, rfl, (by show 0 ≤ sizeLine; decide), fun pa ha => ⟨_, rfl, (by show 1 ≤ sizeLine; decide), fun pb hb => ⟨_, rfl, (by show 1 ≤ sizeLine; decide), fun pc hc => ⟨_, rfl, _, rfl, (by show 2 ≤ sizeLine; decide), fun pd hd' => ⟨_, rfl, _, rfl, (by show 2 ≤ sizeLine; decide), fun pe he => ⟨(by show 5 ≤ sizeLine; decide), fun pf hf => ?_⟩⟩⟩⟩⟩⟩
      have sa := same_upd (o := .tup []) ha
      have sb := same_upd (o := .tup [.str oth]) hb
      have sc := same_upd (o := .tup [.str oth]) hc
      have sd := same_upd (o := .tup [.str one, .str oth]) hd'
      have se := same_upd (o := .tup [.str oth, .str oth]) he
      have sf := same_upd (o := .lst [.ref pa, .ref pb, .ref pc, .ref pd, .ref pe]) hf
      have dice : ∀ {G G' : Hp}, Same G G' → Dice G d → Dice G' d := fun s9 h => by
        obtain ⟨a1, a2, a3, e⟩ := h
        exact ⟨a1, a2, a3, s9 _ _ e⟩
      have hda := dice sa hd5
      have hdb := dice sb hda
      have hdc := dice sc hdb
      have hdd := dice sd hdc
      have hde := dice se hdd
      have hdf := dice sf hde
      have ta := t5.trans (Same.two sa)
      have tb := ta.trans (Same.two sb)
      have tc := tb.trans (Same.two sc)
      have td := tc.trans (Same.two sd)
      have te := td.trans (Same.two se)
      have tf := te.trans (Same.two sf)
      have ra := sa _ _ r5
      have rb := sb _ _ ra
      have rc := sc _ _ rb
      have rd := sd _ _ rc
      have re := se _ _ rd
      have rf := sf _ _ re
      have nd : ∀ {G : Hp} {a : Addr}, Dice G d → G a = none → a ≠ d := fun h e z => dn h (by rw [← z]; exact e)
      refine ⟨d, pf, [.ref pa, .ref pb, .ref pc, .ref pd, .ref pe], rfl, hdf, SqL.of upd_same, fun _ => nd hde hf, (by show (0 : Nat) < 5; decide), (by show (5 : Nat) < 1073741824; decide), fun H6 i v hv b6 hd6 => ?_⟩
      have key : ∃ (p : Addr) (as : List Str), v = .ref p ∧ H p = none ∧ H6 p = some (.tup (as.map V.str)) ∧ as.length ≤ 2 ∧ ∀ a ∈ as, a ∈ regs4 := by
        have hv := List.mem_of_getElem? hv
        rcases List.mem_cons.mp hv with rfl | hv
        · exact ⟨pa, [], rfl, free t5 hd5 ⟨_, r5⟩ _ ha, b6 _ _ (nd hd5 ha) (sf _ _ (se _ _ (sd _ _ (sc _ _ (sb _ _ upd_same))))), Nat.zero_le _, fun a h => by cases h⟩
        rcases List.mem_cons.mp hv with rfl | hv
        · exact ⟨pb, [oth], rfl, free ta hda ⟨_, ra⟩ _ hb, b6 _ _ (nd hda hb) (sf _ _ (se _ _ (sd _ _ (sc _ _ upd_same)))), by simp, fun a h => by rw [List.mem_singleton.mp h]; exact reg4 hoth⟩
        rcases List.mem_cons.mp hv with rfl | hv
        · exact ⟨pc, [oth], rfl, free tb hdb ⟨_, rb⟩ _ hc, b6 _ _ (nd hdb hc) (sf _ _ (se _ _ (sd _ _ upd_same))), by simp, fun a h => by rw [List.mem_singleton.mp h]; exact reg4 hoth⟩
        rcases List.mem_cons.mp hv with rfl | hv
        · exact ⟨pd, [one, oth], rfl, free tc hdc ⟨_, rc⟩ _ hd', b6 _ _ (nd hdc hd') (sf _ _ (se _ _ upd_same)), by simp, fun a h => by
            rcases two_of h with rfl | rfl
            · exact reg4 hone
            · exact reg4 hoth⟩
        rcases List.mem_cons.mp hv with rfl | hv
        · exact ⟨pe, [oth, oth], rfl, free td hdd ⟨_, rd⟩ _ he, b6 _ _ (nd hdd he) (sf _ _ upd_same), by simp, fun a h => by
            rcases two_of h with rfl | rfl
            · exact reg4 hoth
            · exact reg4 hoth⟩
        cases hv
      obtain ⟨p6, as, rfl, np6, ep6, las, has⟩ := key
      refine ⟨_, rfl, _, rfl, (by show 2 ≤ sizeLine; decide), fun p7 hp7 => one_str (E := E) (ws := ["f", "g"]) hd6 hp7 (by decide) (by decide) fun H8 ff hff b8 hd8 => ⟨_, rfl, (by show 4 ≤ sizeLine; decide), fun p9 hp9 => ?_⟩⟩
      have t6 := tf.trans b6.two
      have r6 := b6 _ _ (Ne.symm ne) rf
      have s9 := same_upd (o := .tup [.str "set", .str one, .str ff, .ref p6]) hp9
      have n6 : p6 ≠ d := fun z => dn hd (by rw [← z]; exact np6)
      refine leaf (l1 := 0) (s2 := 1) (t1 := 0) (t6.trans b8.two) hd8 (b8 _ _ (Ne.symm ne) r6) hp9 (by show 4 ≤ 1000; decide) (.cons (.at (.str _)) (.cons (.at (.str _)) (.cons (.at (.str _)) (.cons (.tup np6 (s9 _ _ (b8 _ _ n6 ep6)) ?_ (dt_strs as)) .nil)))) (.set (reg4 hone) (two_of hff) has las) (Nat.zero_le _) (by omega) (Nat.zero_le _)
      rw [List.length_map]
      omega
    apply cutP
    · intro rest
      refine ⟨_, rfl, wy, 10, rfl, rfl, _, rfl, ite2 (fun h10 => ⟨_, rfl, q, _, _, _, rfl, rfl, SqL.of r4, rfl, _, _, rfl, rfl, _, rfl, ite2 (fun hl => ⟨_, rfl, n, 0, rfl, rfl, _, rfl, ite2 (fun hn => ?_) (fun _ => rest)⟩) (fun _ => iteF rest)⟩) (fun _ => iteF rest)⟩
      have hl1 : 0 < t := by
        have := of_decide_eq_true hl
        omega
      have hn1 : 0 < n := by
        have := of_decide_eq_true hn
        omega
      refine ⟨_, rfl, q, _, _, _, rfl, rfl, SqL.of r4, rfl, _, _, rfl, rfl, _, rfl, q, _, _, 2, rfl, rfl, r4, rfl, ?_⟩
      have e5 : ((t - 1 : Nat) : Int) = (t : Int) - 1 := by omega
      have r5 : RoomL (upd H4 q (.lst [V.int l, .int s1, .int ((t : Int) - 1)])) q l s1 (t - 1) := by
        unfold RoomL
        rw [e5]
        exact upd_same
      obtain ⟨hd5, t5⟩ := st5 [V.int l, .int s1, .int ((t : Int) - 1)]
      obtain ⟨n', rfl⟩ : ∃ n', n = n' + 1 := ⟨n - 1, by omega⟩
      have en : (((n' + 1 : Nat) : Int) - 1) = (n' : Int) := by omega
      have ev : [V.ref d, .int 2, .ref q, .int (((n' + 1 : Nat) : Int) - 1)] = [V.ref d, .int ((2 : Nat) : Int), .ref q, .int (n' : Int)] := by
        rw [en]
        rfl
      refine ⟨_, rfl, _, rfl, _, rfl, _, _, rfl, rfl, d, q, 2, l, s1, t - 1, ev, by omega, hd5, r5, ne, fun H6 yv ys l6 s6 t6 z6 b6 hd6 cy hyl hl6 hs6 ht6 r6 dy => ?_⟩
      refine ⟨_, rfl, (by show 3 ≤ sizeLine; decide), fun p7 hp7 => one_str (E := E) (ws := ["p", "p", "q"]) hd6 hp7 (by decide) (by decide) fun H7 pp hpp b7 hd7 => ?_⟩
      have r7 := b7 _ _ (Ne.symm ne) r6
      have t7 := (t5.trans b6).trans b7.two
      refine ⟨_, rfl, _, rfl, _, rfl, _, rfl, _, rfl, _, _, rfl, rfl, d, q, 2, l - l6, s1 - s6, t - 1 - t6, ev, by omega, hd7, r7, ne, fun H8 nv ns l8 s8 t8 z8 b8 hd8 cn hnl hl8 hs8 ht8 r8 dn8 => ⟨(by show 5 ≤ sizeLine; decide), fun p9 hp9 => ?_⟩⟩
      have s9 := same_upd (o := .tup [.str "if", .str pp, .str oth, yv, nv]) hp9
      have away : ∀ {G : Hp} {b : Addr}, Dice G d → (∃ u, G q = some u) → G b = none → b ≠ d ∧ b ≠ q := fun h hq' e => ⟨fun z => dn h (by rw [← z]; exact e), fun z => by
        obtain ⟨u, hu⟩ := hq'
        rw [z, hu] at e
        cases e⟩
      have e8 : RoomL H8 q (l - (l6 + l8)) (s1 - (s6 + s8)) (t - (t6 + t8 + 1)) := by
        have := r8
        unfold RoomL at this ⊢
        rw [this, Nat.sub_sub, Nat.sub_sub, Nat.sub_sub, Nat.sub_sub, show 1 + (t6 + t8) = t6 + t8 + 1 by omega]
      have dy' : Dt (fun b => H b = none) (upd H8 p9 (.tup [.str "if", .str pp, .str oth, yv, nv])) yv (.tuple ys) := dy.strong fun b o hb eo => ⟨free t5 hd5 ⟨_, r5⟩ b hb, s9 _ _ (b8 b o (away hd5 ⟨_, r5⟩ hb).1 (away hd5 ⟨_, r5⟩ hb).2 (b7 b o (away hd5 ⟨_, r5⟩ hb).1 eo))⟩
      have dn' : Dt (fun b => H b = none) (upd H8 p9 (.tup [.str "if", .str pp, .str oth, yv, nv])) nv (.tuple ns) := dn8.strong fun b o hb eo => ⟨free t7 hd7 ⟨_, r7⟩ b hb, s9 _ _ eo⟩
      exact leaf (l1 := l6 + l8) (s2 := s6 + s8) (t1 := t6 + t8 + 1) (t7.trans b8) hd8 e8 hp9 (by show 5 ≤ 1000; decide) (.cons (.at (.str _)) (.cons (.at (.str _)) (.cons (.at (.str _)) (.cons dy' (.cons dn' .nil))))) (.iff (pq_of hpp) (reg4 hoth) cy hyl cn hnl) (by omega) (by omega) (by omega)
    refine ⟨_, rfl, _, rfl, (by show 3 ≤ sizeLine; decide), fun p9 hp9 => ?_⟩
    exact leaf (l1 := 0) (s2 := 0) (t1 := 0) t4' hd4 r4 hp9 (by show 3 ≤ 1000; decide) (.cons (.at (.str _)) (.cons (.at (.str _)) (.cons (.at (.str _)) .nil))) (.copy (reg4 hone) (reg4 hoth)) (Nat.zero_le _) (Nat.zero_le _) (Nat.zero_le _)
end
end OM

namespace OM
open PySem PySem.Spec PyProof.Rows L2
section
variable {P : Program} {w : World} {K : PySem.W.Frag} {mg : Str → Option Value} {base : Heap} {fR fO fC fS : Addr} {fdR fdO dC dS : FuncData}
/-- the functions that draw code -/
structure DCodeF (K : PySem.W.Frag) (mg : Str → Option Value) (fR fO fC fS : Addr) (fdR fdO dC dS : FuncData) : Prop where
  D : DiceF K mg fR fO fdR fdO
  FC : Fun K "_law_code" "_law_code" sCode fC dC
  FS : Fun K "_law_statement" "_law_statement" sState fS dS
  gC : mg "_law_code" = some (.ref fC)
  gS : mg "_law_statement" = some (.ref fS)
  bC : Binds K dC ["_law_dice_here", "_law_most", "_law_room", "_law_deep"] []
  bS : Binds K dS ["_law_dice_here", "_law_room", "_law_deep"] []
  rng : mg "range" = none
  tup : mg "tuple" = none
theorem ok_dcode (C : DCodeF K mg fR fO fC fS fdR fdO dC dS) : ∀ n, FnOk P w K mg base CX0 (2 * n + 2) fC dC ["_law_dice_here", "_law_most", "_law_room", "_law_deep"] (spCodeAt n)
  | 0 => ⟨fun _ _ _ _ h => h.elim, fun _ _ _ _ _ _ _ _ _ _ _ _ _ h => h.elim⟩
  | n + 1 => code_step C.FC C.D C.rng C.tup C.gS C.FS.kp C.bS (ok_state C.FS C.D C.gC C.FC.kp C.bC (ok_dcode C n))
end
end OM

namespace OM
open PySem PySem.Spec PyProof.Rows L2
abbrev sStretch : Stmt := top 61
/-- a drawn stretch: its code within its room, its kept registers apart and in order -/
def spStretch : Sp := fun vs H Q _ => ∃ (d : Addr) (m l t : Nat), vs = [.ref d, .int m, .int l, .int t] ∧ m ≤ 100 ∧ Dice H d ∧ ∀ H' v ds l1 s1 t1 z1 (ks : List Str), But d H H' → Dice H' d → CoD 2 ds l1 s1 t1 z1 → ds.length ≤ m → l1 ≤ l → s1 ≤ 3 → t1 ≤ t →
  sortedS ks = true → ks.Nodup → (∀ k ∈ ks, k ∈ regs4) → Dt (fun b => H b = none) H' v (.tuple [.tuple ds, .tuple (ks.map PyData.str)]) → Q v H'
def unS : V → Str
  | .str x => x
  | _ => ""
theorem perm_strs {ys : List V} {ws : List Str} (h : ys.Perm (ws.map V.str)) : ∃ xs : List Str, ys = xs.map V.str ∧ xs.Perm ws := by
  refine ⟨ys.map unS, ?_, ?_⟩
  · rw [List.map_map]
    have : ys.map (V.str ∘ unS) = ys.map id := List.map_congr_left fun y hy => by
      obtain ⟨x, _, rfl⟩ := List.mem_map.mp (h.mem_iff.mp hy)
      rfl
    rw [this, List.map_id]
  · have q := h.map unS
    rw [List.map_map] at q
    have : ws.map (unS ∘ V.str) = ws.map id := List.map_congr_left fun y _ => rfl
    rw [this, List.map_id] at q
    exact q
theorem cut_strs (ws : List Str) (lo hi : Option Int) : ∃ xs : List Str, cutV (ws.map V.str) lo hi = xs.map V.str ∧ xs.Sublist ws := by
  unfold cutV
  rw [← List.map_drop, ← List.map_take]
  exact ⟨_, rfl, (List.take_sublist _ _).trans (List.drop_sublist _ _)⟩
theorem regs4_nodup : regs4.Nodup := by decide +kernel
section
variable {P : Program} {w : World} {K : PySem.W.Frag} {mg : Str → Option Value} {base : Heap} {f fR fO fC fS fM : Addr} {fd fdR fdO dC dS dM : FuncData}
theorem scStr : FnScope ["_law_dice_here", "_law_most", "_law_letters", "_law_tests", "_law_keeps"] ["_law_dice_here", "_law_most", "_law_letters", "_law_tests"] (defScope sStretch) := ⟨rfl, rfl, rfl, by decide +kernel, rfl, by decide +kernel, by decide +kernel⟩
theorem ok_stretch (F : Fun K "_law_stretch" "_law_stretch" sStretch f fd) (C : DCodeF K mg fR fO fC fS fdR fdO dC dS) (FM : Fun K "_law_mixed" "_law_mixed" sMixed fM dM) (gM : mg "_law_mixed" = some (.ref fM)) (bM : Binds K dM ["_law_dice_here", "_law_items"] []) (lst : mg "list" = none) (srt : mg "sorted" = none) :
    FnOk P w K mg base CX0 9 f fd ["_law_dice_here", "_law_most", "_law_letters", "_law_tests"] spStretch := by
  have GO : FnOk P w K mg base CX0 2 fO fdO ["_law_dice_here", "_law_items"] (spOneOf K) := ok_oneof C.D.FO C.D.T C.D.FR C.D.gR C.D.bR
  have GM : FnOk P w K mg base CX0 2 fM dM ["_law_dice_here", "_law_items"] (spMixed K) := ok_mixed FM C.D.T lst C.D.FR C.D.gR C.D.bR
  have GC : FnOk P w K mg base CX0 8 fC dC ["_law_dice_here", "_law_most", "_law_room", "_law_deep"] (spCodeAt 3) := ok_dcode C 3
  refine F.ok scStr (fun vs H Q E h => ?_) (fun cdv A outer s H vs Q E hr h => ?_)
  · obtain ⟨d, m, l, t, rfl, _⟩ := h
    rfl
  · obtain ⟨d, m, l, t, rfl, hm, hd, c⟩ := h
    refine ⟨_, pss_cons (ps_set (i := 4) scStr.nd rfl (Or.inl rfl) (pe_callB cr_sortedS (by rfl) srt (by decide +kernel) (pa_cons (pe_slice sl_list (pe_call GM (hr.mono (by omega)) (by rfl) gM FM.kp bM .nil pass0 (pa_cons (pv 0) (pa_cons (pe_lst (pa_cons pe_str (pa_cons pe_str (pa_cons pe_str (pa_cons pe_str pa_nil))))) pa_nil)))
        po_none (po_some (pe_call GO (hr.mono (by omega)) (by rfl) C.D.gO C.D.FO.kp C.D.bO .nil pass0 (pa_cons (pv 0) (pa_cons (pe_lst (pa_cons pe_int (pa_cons pe_int (pa_cons pe_int (pa_cons pe_int (pa_cons pe_int (pa_cons pe_int pa_nil))))))) pa_nil))))) pa_nil)))
      (pss_one (ps_ret (pe_tup (pa_cons (pe_call GC hr (by rfl) C.gC C.FC.kp C.bC .nil pass0 (pa_cons (pv 0) (pa_cons (pv 1) (pa_cons (pe_lst (pa_cons (pv 2) (pa_cons pe_int (pa_cons (pv 3) pa_nil)))) (pa_cons pe_int pa_nil)))))
        (pa_cons (pe_callTy call_tuple_of (by rfl) C.tup (by decide +kernel) (pa_cons (pv 4) pa_nil)) pa_nil))))), ?_⟩
    refine ⟨_, rfl, (by show 4 ≤ sizeLine; decide), fun p1 hp1 => ?_⟩
    have dice : ∀ {G G' : Hp}, Same G G' → Dice G d → Dice G' d := fun s9 h => by
      obtain ⟨a1, a2, a3, e⟩ := h
      exact ⟨a1, a2, a3, s9 _ _ e⟩
    have dn : ∀ {G : Hp}, Dice G d → G d ≠ none := fun {G} h => h.ne
    have nd : ∀ {G : Hp} {a : Addr}, Dice G d → G a = none → a ≠ d := fun h e z => dn h (by rw [← z]; exact e)
    have s1 := same_upd (o := .lst (regs4.map V.str)) hp1
    have hd1 := dice s1 hd
    refine ⟨d, p1, regs4.map V.str, rfl, hd1, .inl (SqL.of upd_same), (by decide), fun H2 p ys b2 hd2 hpn ep perm => ?_⟩
    obtain ⟨ws, rfl, pw⟩ := perm_strs perm
    refine ⟨_, rfl, (by show 6 ≤ sizeLine; decide), fun p3 hp3 => ?_⟩
    have s3 := same_upd (o := .lst [.int 0, .int 0, .int 1, .int 1, .int 2, .int 4]) hp3
    have hd3 := dice s3 hd2
    refine ⟨d, p3, [.int 0, .int 0, .int 1, .int 1, .int 2, .int 4], rfl, hd3, SqL.of upd_same, fun _ => nd hd2 hp3, (by show (0 : Nat) < 6; decide), (by show (6 : Nat) < 1073741824; decide), fun H4 i v hv b4 hd4 => ?_⟩
    have key : ∃ k : Int, v = .int k := by
      have hv := List.mem_of_getElem? hv
      simp only [List.mem_cons, List.not_mem_nil, or_false] at hv
      rcases hv with rfl | rfl | rfl | rfl | rfl | rfl <;> exact ⟨_, rfl⟩
    obtain ⟨k, rfl⟩ := key
    obtain ⟨xs, ex, sub⟩ := cut_strs ws none (some k)
    have epd : p ≠ d := nd hd1 hpn
    have ep4 := b4 _ _ epd (s3 _ _ ep)
    refine ⟨k, rfl, p, ws.map V.str, rfl, SqL.of ep4, fun p5 hp5 => ?_⟩
    rw [ex]
    have wl : ws.length = 4 := pw.length_eq
    have xl := sub.length_le
    refine ⟨p5, xs, rfl, SqL.of upd_same, by omega, fun zs p6 pz sz hp6 => ?_⟩
    have s5 := same_upd (o := .lst (xs.map V.str)) hp5
    have s6 := same_upd (o := .lst (zs.map V.str)) hp6
    have hd6 := dice s6 (dice s5 hd4)
    refine ⟨_, rfl, _, rfl, _, rfl, _, rfl, (by show 3 ≤ sizeLine; decide), fun p7 hp7 => ?_⟩
    have s7 := same_upd (o := .lst [.int l, .int 3, .int t]) hp7
    have hd7 := dice s7 hd6
    refine ⟨d, p7, m, l, 3, t, rfl, hm, hd7, upd_same, Ne.symm (nd hd6 hp7), fun H8 v ds l1 s1' t1 z1 b8 hd8 cd hlen hl1 hs1 ht1 r8 dt8 => ?_⟩
    have free : ∀ {G : Hp}, But d H G → Dice G d → ∀ b, G b = none → H b = none := fun {G} bt hdg b hb => by
      cases y : H b with
      | none => rfl
      | some o =>
        by_cases e1 : b = d
        · subst e1
          exact absurd hb (dn hdg)
        · rw [bt b o e1 y] at hb
          cases hb
    have t6 : But d H (upd (upd H4 p5 (.lst (xs.map V.str))) p6 (.lst (zs.map V.str))) := (((((Same.but' (a := d) s1).trans' b2).trans' (Same.but' (a := d) s3)).trans' b4).trans' (Same.but' (a := d) s5)).trans' (Same.but' (a := d) s6)
    have t7 := t6.trans' (Same.but' (a := d) s7)
    have t8 : But d H H8 := fun b o hb e => b8 b o hb (fun z => by
      have := t6 b o hb e
      rw [z, hp7] at this
      cases this) (t7 b o hb e)
    have n6d : p6 ≠ d := nd (dice s5 hd4) hp6
    have n67 : p6 ≠ p7 := fun z => by
      rw [← z, upd_same] at hp7
      cases hp7
    have e6 : H8 p6 = some (.lst (zs.map V.str)) := b8 _ _ n6d n67 (s7 _ _ upd_same)
    refine ⟨_, rfl, p6, zs.map V.str, rfl, .inl ⟨SqL.of e6, fun p9 hp9 => ⟨(by show 2 ≤ sizeLine; decide), fun pt hpt => ?_⟩⟩⟩
    have s9 := same_upd (o := .tup (zs.map V.str)) hp9
    have st := same_upd (o := .tup [v, .ref p9]) hpt
    have zl : zs.length ≤ 4 := by
      rw [pz.length_eq]
      omega
    have sm := s9.trans st
    refine c _ (.ref pt) ds l1 s1' t1 z1 zs (t8.trans' (Same.but' (a := d) sm)) (dice sm hd8) cd hlen hl1 hs1 ht1 sz (pz.nodup_iff.mpr (sub.nodup (pw.nodup_iff.mpr regs4_nodup))) (fun x hx => pw.mem_iff.mp (sub.subset (pz.mem_iff.mp hx)))
      (.tup (free (t8.trans' (Same.but' (a := d) s9)) (dice s9 hd8) pt hpt) upd_same (by show 2 ≤ 1000; decide) (.cons (dt8.strong fun b o hb eo => ⟨free t7 hd7 b hb, sm _ _ eo⟩) (.cons (.tup (free t8 hd8 p9 hp9) (st _ _ upd_same) ?_ (dt_strs zs)) .nil)))
    rw [List.length_map]
    omega
end
end OM

/-! sets of texts: their members as a list without repeats -/
namespace OM
open PySem PySem.Spec PyProof.Rows L2
/-- the text of an entry -/
def keyT : Int × Value → Str
  | (_, .str x _) => x
  | _ => ""
/-- an entry that is a text -/
def IsTx (w : World) (e : Int × Value) : Prop := ∃ x tk, e = (hashStr w x, Value.str x tk)
structure TabX (w : World) (es : Array (Int × Value)) (t : SetTable) (L : List Str) : Prop where
  tx : ∀ e ∈ es.toList, IsTx w e
  pm : (es.toList.map keyT).Perm L
  nd : L.Nodup
  few : L.length < scanBound
  fit : t.fits es.size = true
  ris : Ris t.place.toList
  led : w.params.followText "set-order" = true ∨ t.led = true
def SetTx (w : World) (h : Heap) (a : Addr) (L : List Str) : Prop := ∃ o es ep t, h.get? a = some o ∧ o.ExactSet ∧ o.data = .set es ep t ∧ TabX w es t L
def addX (L : List Str) (x : Str) : List Str := if x ∈ L then L else x :: L
section
variable {P : Program} {w : World} {h h' : Heap} {a : Addr} {L : List Str} {es : Array (Int × Value)} {t : SetTable}
theorem TabX.size (T : TabX w es t L) : es.size = L.length := by
  have e := T.pm.length_eq
  rw [List.length_map, Array.length_toList] at e
  exact e
theorem TabX.bound (T : TabX w es t L) : es.size < scanBound := by
  rw [T.size]
  exact T.few
theorem SetTx.mv (R : SetTx w h a L) (k : ∀ o, h.get? a = some o → h'.get? a = some o) : SetTx w h' a L :=
  let ⟨o, es, ep, t, ho, r⟩ := R
  ⟨o, es, ep, t, k o ho, r⟩
theorem tx_elems {l : List (Int × Value)} (g : ∀ e ∈ l, IsTx w e) : ElemsOf (strKind P w) l := by
  intro e he
  obtain ⟨x, tk, rfl⟩ := g e he
  exact ⟨⟨x, beq_self_eq_true x, rfl⟩, rfl⟩
theorem tx_is {e : Int × Value} (g : IsTx w e) (x : Str) : (strKind P w).is x e.2 = true ↔ keyT e = x := by
  obtain ⟨y, tk, rfl⟩ := g
  exact beq_iff_eq (a := y) (b := x)
theorem tx_mem {l : List (Int × Value)} (g : ∀ e ∈ l, IsTx w e) (x : Str) : x ∈ l.map keyT ↔ ∃ e ∈ l, (strKind P w).is x e.2 = true := by
  rw [List.mem_map]
  exact ⟨fun ⟨e, he, q⟩ => ⟨e, he, (tx_is (g e he) x).mpr q⟩, fun ⟨e, he, q⟩ => ⟨e, he, (tx_is (g e he) x).mp q⟩⟩
theorem SetTx.of (R : SetTx w h a L) : h.SetOf (strKind P w) a (fun x => decide (x ∈ L)) L.length := by
  obtain ⟨o, es, ep, t, ho, hx, hd, T⟩ := R
  exact ⟨o, es, ep, t, ho, hx, hd, tx_elems T.tx, fun x => by rw [decide_eq_true_iff, ← T.pm.mem_iff, tx_mem T.tx], T.bound, T.fit, T.size⟩
end
section
variable {P : Program} {w : World} {A : Around} {E : Value → Shared → Prop} {s : Shared} {a : Addr} {L : List Str}
/-- a table that is put in, and laid anew where it is too full -/
theorem tx_stored {g : Bool → Sem Unit} (quiet : ∀ b s1 (Z : Unit → Shared → Prop), Z () s1 → wpAny (model P w) A (g b) Z E s1) {o : Obj} {es : Array (Int × Value)} {ep : Nat} {t : SetTable} (at_ : s.heap.get? a = some o) (hex : o.ExactSet) (hd : o.data = .set es ep t)
    {es1 : Array (Int × Value)} {t2 : SetTable} {L' : List Str} (T : TabX w es1 t2 L') {wasDummy : Bool} {R : Option Bool → Shared → Prop} (fin : ∀ h', Heap.SameBut a s.heap h' → SetTx w h' a L' → R (some true) { s with heap := h' }) :
    wpAny (model P w) A (storeSet a es1 t2 >>= fun _ => if (!wasDummy && t2.tooFull) = true then (g (relayAll t2 es1 (SetTable.grown es1.size)).2.2 >>= fun _ => storeSet a (relayAll t2 es1 (SetTable.grown es1.size)).1 (relayAll t2 es1 (SetTable.grown es1.size)).2.1 >>= fun _ => pure (some true)) else pure (some true)) R E s := by
  have one := store_at (es' := es1) (t' := t2) at_ hd
  have b1 := Heap.SameBut.update s.heap a (Obj.putSet es1 t2)
  refine wpAny_bind (wpAny_storeSet_of at_ hd ?_ (fits_of_scanBound T.bound))
  by_cases full : (!wasDummy && t2.tooFull) = true
  · rw [if_pos full]
    have q1 := relayAll_perm t2 es1 (SetTable.grown es1.size)
    have q2 := relayAll_fits t2 es1 (SetTable.grown es1.size)
    have q3 := relayAll_ris t2 es1 (SetTable.grown es1.size)
    have q4 := relayAll_led t2 es1 (SetTable.grown es1.size)
    revert q1 q2 q3 q4
    rcases relayAll t2 es1 (SetTable.grown es1.size) with ⟨es2, t3, gave⟩
    intro q1 q2 q3 q4
    have T3 : TabX w es2 t3 L' := ⟨fun e he => T.tx e (q1.mem_iff.mp he), (q1.map keyT).trans T.pm, T.nd, T.few, q2, q3, T.led.imp id fun z => q4.trans z⟩
    refine wpAny_bind (quiet _ _ _ (wpAny_bind (wpAny_storeSet_of one rfl ?_ (fits_of_scanBound T3.bound))))
    exact wpAny_pure (fin _ (b1.trans (Heap.SameBut.update _ a _)) ⟨_, es2, _, t3, store_at (es' := es2) (t' := t3) one rfl, hex, rfl, T3⟩)
  · rw [if_neg full]
    exact wpAny_pure (fin _ b1 ⟨_, es1, _, t2, one, hex, rfl, T⟩)
theorem TabX.more {es es1 : Array (Int × Value)} {t t1 : SetTable} {x : Str} {tk : Tok} (T : TabX w es t L) (new : x ∉ L) (room : L.length + 1 < scanBound) (pm : es1.toList.Perm (es.push (hashStr w x, Value.str x tk)).toList) (f : t1.fits es1.size = true) (r : Ris t1.place.toList) (l : t1.led = t.led) : TabX w es1 t1 (x :: L) := by
  rw [Array.toList_push] at pm
  have pc := pm.trans (List.perm_append_singleton _ _)
  refine ⟨fun e he => ?_, (pc.map keyT).trans (T.pm.cons x), List.nodup_cons.mpr ⟨new, T.nd⟩, room, f, r, T.led.imp id fun z => l.trans z⟩
  rcases List.mem_cons.mp (pc.mem_iff.mp he) with z | z
  · exact ⟨x, tk, z⟩
  · exact T.tx e z
theorem tx_hashed {x : Str} {tk : Tok} {Q : Bool → Shared → Prop} (R : SetTx w s.heap a L) (room : L.length + 1 < scanBound) (fin : ∀ b h', Heap.SameBut a s.heap h' → SetTx w h' a (addX L x) → Q b { s with heap := h' }) :
    wpAny (model P w) A (setAddHashed a (.str x tk) (hashStr w x)) Q E s := by
  have R0 := R
  obtain ⟨o, es, ep, t, at_, hex, hd, T⟩ := R
  have own : (strKind P w).is x (.str x tk) = true := beq_self_eq_true x
  have scan : (Value.str x tk).scannable = true := rfl
  have els : ElemsOf (strKind P w) es.toList := tx_elems T.tx
  unfold setAddHashed setAddHashedIn
  refine wpAny_holding <| wpAny_bind <| wpAny_setState_of at_ hd T.fit ?_
  dsimp only
  rw [byScan_of scan T.bound els]
  simp only [↓reduceIte]
  unfold setAddByScan
  refine wpAny_bind <| wpAny_bind <| wpAny_rule <| wpAny_bind <| wpAny_setScan_of own at_ hd T.fit els ?_
  cases look : List.findIdx? (fun e => (strKind P w).is x e.2) es.toList with
  | some j =>
    obtain ⟨hj, pj, _⟩ := List.findIdx?_eq_some_iff_getElem.mp look
    have old : x ∈ L := T.pm.mem_iff.mp ((tx_mem (P := P) T.tx x).mpr ⟨_, List.getElem_mem hj, pj⟩)
    dsimp only
    refine wpAny_pure <| wpAny_pure <| fin _ s.heap (Heap.SameBut.refl a s.heap) ?_
    unfold addX
    rw [if_pos old]
    exact R0
  | none =>
    have new : x ∉ L := fun z => by
      obtain ⟨e, he, q⟩ := (tx_mem (P := P) T.tx x).mp (T.pm.mem_iff.mpr z)
      exact absurd q (by rw [List.findIdx?_eq_none_iff.mp look e he]; exact Bool.false_ne_true)
    have ea : addX L x = x :: L := if_neg new
    rw [ea] at fin
    dsimp only
    have q1 := layNew_perm t es (hashStr w x) (.str x tk)
    have q2 := layNew_fits t es (hashStr w x) (.str x tk)
    have q3 := layNew_ris t es (hashStr w x) (.str x tk) T.ris
    have q4 := layNew_led t es (hashStr w x) (.str x tk)
    revert q1 q2 q3 q4
    rcases layNew t es (hashStr w x) (.str x tk) with ⟨es1, t1, wd, gave⟩
    intro q1 q2 q3 q4
    have T1 : TabX w es1 t1 (x :: L) := T.more new room q1 q2 q3 q4
    have quiet : ∀ (b : Bool) (s1 : Shared) (Z : Unit → Shared → Prop), Z () s1 → wpAny (model P w) A (match b with | true => rule "set.scan.the-table-gave-way" | false => pure ()) Z E s1 := fun b s1 Z z => by
      cases b
      · exact wpAny_pure z
      · exact wpAny_rule z
    dsimp only
    refine wpAny_bind (quiet _ _ _ ?_)
    split
    · refine wpAny_bind ?_
      rw [hashByValue_scannable 8 scan]
      refine wpAny_pure ?_
      refine tx_stored (L' := x :: L) quiet at_ hex hd ?_ fun h' sb r => by dsimp only; exact wpAny_pure (fin _ h' sb r)
      refine ⟨T1.tx, T1.pm, T1.nd, T1.few, ?_, ?_, ?_⟩
      · split
        · exact T1.fit
        · exact SetTable.fits_plain_off T1.fit
      · split <;> exact T1.ris
      · split <;> exact T1.led
    · refine wpAny_bind (wpAny_pure ?_)
      simp only [↓reduceIte]
      exact tx_stored quiet at_ hex hd T1 fun h' sb r => by dsimp only; exact wpAny_pure (fin _ h' sb r)
/-- a.add(x) -/
theorem tx_add {x : Str} {tk : Tok} {Q : Value → Shared → Prop} (R : SetTx w s.heap a L) (room : L.length + 1 < scanBound) (fin : ∀ h', Heap.SameBut a s.heap h' → SetTx w h' a (addX L x) → Q .none { s with heap := h', toks := s.toks + 1 }) : wpAny (model P w) A (call (.builtin "set.add") [.ref a, .str x tk]) Q E s := by
  have R0 : s.heap.SetOf (strKind P w) a _ _ := R.of
  refine wpAny_call_entry F.slot_set_add R0.typeIs F.entry_set_add ?_ (F.args_set_add_2 _ _)
  unfold Builtin.«set.add» Builtin.Frozenset.oneOther
  simp only [List.isEmpty_nil, bind_assoc]
  unfold Builtin.Frozenset.addrOf setAdd
  refine wpAny_bind <| wpAny_pure ?_
  try dsimp only
  refine wpAny_bind <| wpAny_pure ?_
  try dsimp only
  refine wpAny_bind <| wpAny_holding <| wpAny_bind <| (strKind P w).pyHash (k := x) (beq_self_eq_true x) ?_
  refine tx_hashed (s := { s with toks := s.toks + 1 }) R room fun b h' sb r => ?_
  show wpAny _ _ (ret Value.none) _ _ _
  exact wpAny_pure ⟨_, rfl, fin h' sb r⟩
theorem tx_fresh {h : Heap} (w : World) : SetTx w (h.push { cls := .type "set", dict := none, data := .set #[] 0 (.fresh 0 0 (!w.params.followText "set-order")) }) h.objs.size [] := by
  refine ⟨_, #[], 0, _, Heap.get?_push_size _ rfl, ⟨rfl, rfl, rfl⟩, rfl, ⟨(fun e he => by simp at he), .refl _, .nil, by decide, rfl, .nil, ?_⟩⟩
  show _ ∨ (!w.params.followText "set-order") = true
  cases w.params.followText "set-order"
  · exact .inr rfl
  · exact .inl rfl
end
/-! ### as tracked things -/
def SetTO (w : World) (a : Addr) (L : List Str) : HO := .ext fun h => SetTx w h a L
theorem txo_new {w : World} {P : Program} {H : Hp} {h : Heap} {a : Addr} {L : List Str} (R : SetTx w h a L) : ObjOk P w H h a (SetTO w a L) := by
  have ⟨o, _, _, _, ho, _⟩ := R
  exact ⟨R, ⟨o, ho⟩, fun h1 h2 p k => SetTx.mv p k⟩
section
variable {X : Cx} {pins : List (Addr × Obj)} {σ : L2.St} {H : Hp} {s : Shared} {D : Addr} {L : List Str}
theorem txo_get (I : Inv X pins σ H s) (ha : H D = some (SetTO X.w D L)) : SetTx X.w s.heap D L := (I.hok D _ ha).1
theorem tx_add_ok {E : Value → Shared → Prop} {x : Str} {tk : Tok} {Q : Value → Shared → Prop} (I : Inv X pins σ H s) (hD : H D = some (SetTO X.w D L)) (room : L.length + 1 < scanBound) (h : ∀ s', Inv X pins σ (upd H D (SetTO X.w D (addX L x))) s' → Q .none s') :
    wpAny (model X.prog X.w) X.A (call (.builtin "set.add") [.ref D, .str x tk]) Q E s := by
  refine tx_add (txo_get I hD) room fun h' sb new => ?_
  have he : ∃ u, h'.get? D = some u := by
    have ⟨o, _, _, _, ho, _⟩ := new
    exact ⟨o, ho⟩
  exact h _ (I.write (e := D) (t' := s.toks + 1) (by rw [hD]; trivial) (.inl rfl) (fun b u hb hu => (sb.2 b hb).trans hu) he (txo_new new))
end
end OM

/-! comprehensions that make a set of texts, with one for or two -/
namespace OM
open PySem PySem.Spec PyProof.Rows L2
section
variable {prog : Program} {w : World} {A : Around} {R : Result → Shared → Prop} {s : Shared} {env : Env}
/-- the tests of a clause -/
def testsOf (ifs : List Expr) (env : Env) : Sem Bool := forIn ifs true fun c r => if r = true then do let ok ← isTrue c env (eval c env); pure (ForInStep.yield ok) else pure (ForInStep.yield r)
/-- a turn of any comprehension, by what its emission does -/
def turnOf (e : Expr) (d : Nat) (it acc : Value) (env : Env) (ip : Pos) (tgt : Expr) (ifs : List Expr) (emit : Sem Fin → Sem Fin) : Sem Fin := do
  standAt ip
  match ← pyNext it with
  | none => pure (.done .next)
  | some v =>
    letOwnedTupleGo tgt it v
    assign tgt env v
    let ok ← testsOf ifs env
    if ok then emit (again (.compLoop e d it acc env)) else again (.compLoop e d it acc env)
theorem loop_any {elt : Expr} {gens : List Comprehension} {scope : Scope} {pos : Pos} {d : Nat} {it acc : Value} {ip : Pos} {tgt : Expr} {ifs : List Expr} {emit : Sem Fin → Sem Fin} {em : (Shared → Prop) → Shared → Prop} (hem : ∀ (k : Sem Fin) (Z : Fin → Shared → Prop) (s : Shared) (Y : Shared → Prop), em Y s → (∀ s', Y s' → wpAny (model prog w) A k Z (notedBy (model prog w) A env fun e s' => R (.error e) s') s') → wpAny (model prog w) A (emit k) Z (notedBy (model prog w) A env fun e s' => R (.error e) s') s) (ht : compTurn (.SetComp elt gens scope pos) d it acc env = turnOf (.SetComp elt gens scope pos) d it acc env ip tgt ifs emit) (I : Nat → Shared → Prop)
    (turn : ∀ n s, I n s → wpAny (model prog w) A (pyNext it) (fun r s1 => match r with
      | none => R (.ok .next) s1
      | some v => wpAny (model prog w) A (letOwnedTupleGo tgt it v) (fun _ s2 => wpAny (model prog w) A (assign tgt env v) (fun _ s3 => wpAny (model prog w) A (testsOf ifs env) (fun ok s4 => if ok = true then em (fun s5 => ∃ m, m < n ∧ I m s5) s4 else ∃ m, m < n ∧ I m s4)
          (notedBy (model prog w) A env fun e s' => R (.error e) s') s3) (notedBy (model prog w) A env fun e s' => R (.error e) s') s2) (notedBy (model prog w) A env fun e s' => R (.error e) s') s1) (notedBy (model prog w) A env fun e s' => R (.error e) s') s)
    (n : Nat) (h : I n s) : codeAny (model prog w) A (.compLoop (.SetComp elt gens scope pos) d it acc env) R s := by
  have up : ∀ {x : Value} {s' : Shared}, notedBy (model prog w) A env (fun e s' => R (.error e) s') x s' → notedBy (model prog w) A env (fun e s' => R (.error e) s') x s' := id
  refine codeAny_loop rfl I (fun n s hI => ?_) n h
  show wpAny _ A ((compTurn (.SetComp elt gens scope pos) d it acc env).onRaise fun x => do noteFrame x env; theTreesLotGoes x) _ _ s
  refine wpAny_noted ?_
  rw [ht]
  refine wpAny_bind <| wpAny_standAt <| wpAny_bind <| wpAny_mono (turn n s hI) (fun r s1 h1 => ?_) fun _ _ => up
  cases r with
  | none => exact wpAny_pure h1
  | some v =>
    refine wpAny_bind <| wpAny_mono h1 (fun _ s2 h2 => ?_) fun _ _ => up
    refine wpAny_bind <| wpAny_mono h2 (fun _ s3 h3 => wpAny_bind <| wpAny_mono h3 (fun ok s4 h4 => ?_) fun _ _ => up) fun _ _ => up
    cases ok with
    | false => exact wpAny_pure ⟨rfl, h4⟩
    | true => exact hem _ _ _ _ h4 fun s5 h5 => wpAny_pure ⟨rfl, h5⟩
theorem start_any {elt : Expr} {gens : List Comprehension} {scope : Scope} {pos : Pos} {d : Nat} {it acc : Value} {g : Comprehension} (hg : gens[d]? = some g) (na : (g.is_async != 0) = false) (h0 : codeAny (model prog w) A (.compLoop (.SetComp elt gens scope pos) d it acc env) R s)
    (h : wpAny (model prog w) A (pyIter it) (fun it' s' => codeAny (model prog w) A (.compLoop (.SetComp elt gens scope pos) d it' acc env) R s') (notedBy (model prog w) A env fun x s' => R (.error x) s') s) : codeAny (model prog w) A (.compStart (.SetComp elt gens scope pos) d it acc env) R s := by
  refine codeAny_of_tree ?_
  show wpAny _ _ ((compStart (.SetComp elt gens scope pos) d it acc env).onRaise fun x => do noteFrame x env; standAt theWindowsPlace) _ _ s
  refine wpAny_notedAt ?_
  unfold compStart
  show wpAny _ _ (do if (gens[d]?).elim false (·.is_async != 0) then _ else _) _ _ s
  rw [hg]
  simp only [Option.elim, na, Bool.false_eq_true, if_false]
  refine wpAny_bind <| wpAny_askSetting <| ?_
  have hg' : (clausesOf (.SetComp elt gens scope pos))[d]? = some g := hg
  rw [hg']
  split
  · exact wpAny_pure ⟨rfl, h0⟩
  · refine wpAny_bind <| wpAny_rule ?_
    exact wpAny_bind <| wpAny_standAt <| wpAny_bind <| wpAny_mono h (fun it' s' h' => wpAny_pure ⟨rfl, h'⟩) fun _ _ z => z
end
end OM

namespace OM
open PySem PySem.Spec PyProof.Rows L2
section
variable {elt t0 i0 t1 i1 : Expr} {c0 c1 : List Expr} {scope : Scope} {pos : Pos}
def addS (elt : Expr) (acc : Value) (env : Env) (k : Sem Fin) : Sem Fin := do
  (do let v ← eval elt env; standAt elt.pos; let _ ← call (.builtin "set.add") [acc, v])
  k
def intoS (e : Expr) (i1 : Expr) (acc : Value) (env : Env) (k : Sem Fin) : Sem Fin := do
  let x ← eval i1 env
  standAt i1.pos
  let x ← foldedSetIterable i1 env x
  let _ ← runOwn (.compStart e 1 (← holding [x] (pyIter x)) acc env) env
  k
theorem turn_s1 (it acc : Value) (env : Env) : compTurn (.SetComp elt [⟨t0, i0, c0, 0⟩] scope pos) 0 it acc env = turnOf (.SetComp elt [⟨t0, i0, c0, 0⟩] scope pos) 0 it acc env i0.pos t0 c0 (addS elt acc env) := by rfl
theorem turn_s2 (it acc : Value) (env : Env) : compTurn (.SetComp elt [⟨t0, i0, c0, 0⟩, ⟨t1, i1, c1, 0⟩] scope pos) 0 it acc env = turnOf (.SetComp elt [⟨t0, i0, c0, 0⟩, ⟨t1, i1, c1, 0⟩] scope pos) 0 it acc env i0.pos t0 c0 (intoS (.SetComp elt [⟨t0, i0, c0, 0⟩, ⟨t1, i1, c1, 0⟩] scope pos) i1 acc env) := by rfl
theorem turn_s2in (it acc : Value) (env : Env) : compTurn (.SetComp elt [⟨t0, i0, c0, 0⟩, ⟨t1, i1, c1, 0⟩] scope pos) 1 it acc env = turnOf (.SetComp elt [⟨t0, i0, c0, 0⟩, ⟨t1, i1, c1, 0⟩] scope pos) 1 it acc env i1.pos t1 c1 (addS elt acc env) := by rfl
end
/-- what an emission asks -/
def emS (P : Program) (w : World) (A : Around) (E : Value → Shared → Prop) (elt : Expr) (acc : Value) (env : Env) (Y : Shared → Prop) (s : Shared) : Prop := wpAny (model P w) A (eval elt env) (fun x s1 => wpAny (model P w) A (call (.builtin "set.add") [acc, x]) (fun _ s2 => Y s2) E s1) E s
def emI (P : Program) (w : World) (A : Around) (E : Value → Shared → Prop) (e i1 : Expr) (acc : Value) (env : Env) (Y : Shared → Prop) (s : Shared) : Prop := wpAny (model P w) A (eval i1 env) (fun x s1 => wpAny (model P w) A (pyIter x) (fun it s2 => codeAny (model P w) A (.compStart e 1 it acc env) (fun r s3 => match r with
  | .ok _ => Y s3
  | .error _ => False) s2) E s1) E s
section
variable {prog : Program} {w : World} {A : Around} {env : Env} {E : Value → Shared → Prop}
theorem emS_ok {elt : Expr} {acc : Value} (k : Sem Fin) (Z : Fin → Shared → Prop) (s : Shared) (Y : Shared → Prop) (h : emS prog w A E elt acc env Y s) (hk : ∀ s', Y s' → wpAny (model prog w) A k Z E s') : wpAny (model prog w) A (addS elt acc env k) Z E s :=
  wpAny_bind <| wpAny_bind <| wpAny_mono h (fun x s1 h1 => wpAny_bind <| wpAny_standAt <| wpAny_bind <| wpAny_mono h1 (fun _ s2 h2 => wpAny_pure (hk s2 h2)) fun _ _ z => z) fun _ _ z => z
theorem emI_ok {e i1 : Expr} {acc : Value} (hs : ∀ x, foldedSetIterable i1 env x = pure x) (k : Sem Fin) (Z : Fin → Shared → Prop) (s : Shared) (Y : Shared → Prop) (h : emI prog w A E e i1 acc env Y s) (hk : ∀ s', Y s' → wpAny (model prog w) A k Z E s') : wpAny (model prog w) A (intoS e i1 acc env k) Z E s := by
  refine wpAny_bind <| wpAny_mono h (fun x s1 h1 => ?_) fun _ _ z => z
  refine wpAny_bind <| wpAny_standAt <| wpAny_bind <| wpAny_of_eq (hs x) <| wpAny_bind <| wpAny_holding <| wpAny_mono h1 (fun it s2 h2 => ?_) fun _ _ z => z
  refine wpAny_bind <| wpAny_runOwn ?_
  rw [Around.mark_none]
  refine codeAny_mono h2 fun r s3 hr => ?_
  cases r with
  | ok f => exact hk s3 hr
  | error x => exact hr.elim
end
section
variable {X : Cx}
/-- σ' knows what σ knows -/
def Knows (σ σ' : L2.St) : Prop := σ.length = σ'.length ∧ ∀ (j : Nat) v, σ[j]? = some (some v) → σ'[j]? = some (some v)
/-- a loop of a block over what T walks -/
theorem blk_loop {s3 : Shared} {H3 : Hp} {scope : Scope} {ce : Env} {fp0 : List Addr} {pins : List (Addr × Obj)} {σ0 : L2.St} {elt tgt : Expr} {gens : List Comprehension} {pos ip : Pos} {d : Nat} {ifs : List Expr} {it : Addr} {acc : Value} {emit : Sem Fin → Sem Fin} {em : (Shared → Prop) → Shared → Prop} {R : Result → Shared → Prop} {fp : List Addr} {tn : Nat → Heap → Prop} {J : It} {g : TG} {tt : TT} {emH : L2.St → Hp → (Hp → Prop) → Prop} {kn : L2.St → Prop} (hkn : ∀ σ2, kn σ2 → Knows σ0 σ2)
    (hc : X.calm = true) (T : Turn X.prog X.w X.K tgt J fp it tn) (stat : ∀ {H' : Hp}, (∀ b ∈ fp, H' b = none) → ∀ b ∈ fp, FpOk (X.blk s3 H3 scope ce fp0) pins H' b) (pg : PG (X.blk s3 H3 scope ce fp0) tgt g) (pt : PTs (X.blk s3 H3 scope ce fp0) ifs tt)
    (hem : ∀ (k : Sem Fin) (Z : Fin → Shared → Prop) (s : Shared) (Y : Shared → Prop), em Y s → (∀ s', Y s' → wpAny (model X.prog X.w) X.A k Z (notedBy (model X.prog X.w) X.A ce fun e s' => R (.error e) s') s') → wpAny (model X.prog X.w) X.A (emit k) Z (notedBy (model X.prog X.w) X.A ce fun e s' => R (.error e) s') s)
    (ht : compTurn (.SetComp elt gens scope pos) d (.ref it) acc ce = turnOf (.SetComp elt gens scope pos) d (.ref it) acc ce ip tgt ifs emit) {W : Nat → Nat → Hp → Prop} {Z : Hp → Prop}
    (turn : ∀ i m H, W i m H → (J.stop i H ∧ Z H) ∨ (J.go i H ∧ ∃ Nx : Hp → Prop, (∀ H', Nx H' → ∃ m', m' < m ∧ W (i + 1) m' H') ∧ ∀ x H', J.yld i H x H' → g x σ0 H' fun σ2 H2 => kn σ2 ∧ tt σ2 H2 fun b H4 => if b = true then emH σ2 H4 Nx else Nx H4))
    (emM : ∀ {Y Y' : Shared → Prop} {s : Shared}, em Y s → (∀ s', Y s' → Y' s') → em Y' s) (emR : ∀ (σ2 : L2.St) (H4 : Hp) (Nx : Hp → Prop) (s : Shared) (pl : List (Addr × Obj)), Inv (X.blk s3 H3 scope ce fp0) (pins ++ pl) σ2 H4 s → Knows σ0 σ2 → emH σ2 H4 Nx → em (fun s' => ∃ σ' H', Inv (X.blk s3 H3 scope ce fp0) (pins ++ pl) σ' H' s' ∧ Knows σ0 σ' ∧ Nx H') s)
    (fin : ∀ s' H', Inv (X.blk s3 H3 scope ce fp0) pins σ0 H' s' → Z H' → R (.ok .next) s') {m0 : Nat} {H0 : Hp} {s : Shared} (I0 : Inv (X.blk s3 H3 scope ce fp0) pins σ0 H0 s) (st0 : tn 0 s.heap) (n0 : ∀ b ∈ fp, H0 b = none) (w0 : W 0 m0 H0) :
    codeAny (model X.prog X.w) X.A (.compLoop (.SetComp elt gens scope pos) d (.ref it) acc ce) R s := by
  refine loop_any hem ht (fun m s' => ∃ i H', Inv (X.blk s3 H3 scope ce fp0) pins σ0 H' s' ∧ tn i s'.heap ∧ (∀ b ∈ fp, H' b = none) ∧ W i m H') ?_ m0 ⟨0, H0, I0, st0, n0, w0⟩
  rintro m s5 ⟨i, H5, I5, st5, n5, w5⟩
  rcases turn i m H5 w5 with ⟨stop, z⟩ | ⟨go, Nx, hNx, step⟩
  · refine thnF (T.done (X.blk s3 H3 scope ce fp0) rfl rfl rfl hc i pins s5 σ0 H5 (fun _ _ => False) I5 (stat n5) st5 stop) fun r s6 ⟨hr, I6⟩ => ?_
    subst hr
    exact fin s6 H5 I6 z
  · refine thnF (T.item (X.blk s3 H3 scope ce fp0) rfl rfl rfl hc i pins s5 σ0 H5 (fun _ _ => False) I5 (stat n5) st5 go) fun r s6 ⟨u, hr, h6⟩ => ?_
    subst hr
    refine thnF h6 fun _ s7 ⟨x, H7, I7, r7, y7, st7, n7⟩ => ?_
    refine thnF (pg.run _ s7 σ0 H7 x u _ (I7.pinned (stat n7) (T.obj _ _ st7)) r7 (step x H7 y7)) fun _ s8 ⟨σ8, H8, I8, kn8, q8⟩ => ?_
    have hk8 := hkn σ8 kn8
    refine thnF (pt.run _ s8 σ8 H8 _ I8 q8) fun b s9 ⟨H9, I9, q9⟩ => ?_
    have back : ∀ {s' : Shared} {σ' : L2.St} {H' : Hp}, Inv (X.blk s3 H3 scope ce fp0) (pins ++ pinsAt fp s7.heap) σ' H' s' → σ0.length = σ'.length → (∀ (j : Nat) v, σ0[j]? = some (some v) → σ'[j]? = some (some v)) → Nx H' → ∃ m', m' < m ∧ ∃ i H', Inv (X.blk s3 H3 scope ce fp0) pins σ0 H' s' ∧ tn i s'.heap ∧ (∀ b ∈ fp, H' b = none) ∧ W i m' H' := by
      intro s' σ' H' I' hl hk nx
      obtain ⟨m', hm, w'⟩ := hNx H' nx
      have held : ∀ b ∈ fp, ∀ o, s7.heap.get? b = some o → s'.heap.get? b = some o ∧ H' b = none := fun b hb o e =>
        have z := I'.pin (b, o) (List.mem_append_right _ (List.mem_append_right _ (mem_pinsAt hb e)))
        ⟨z.1, z.2.1⟩
      exact ⟨m', hm, i + 1, H', I'.unpinned.weak hl hk, T.keep _ _ _ st7 fun b hb o e => (held b hb o e).1, fun b hb => let ⟨o, e, _⟩ := T.obj _ _ st7 b hb; (held b hb o e).2, w'⟩
    cases b with
    | false => exact back I9 hk8.1 hk8.2 q9
    | true =>
      exact emM (emR σ8 H9 Nx s9 _ I9 hk8 q9) fun s' ⟨σ', H', I', hk, nx⟩ => back I' hk.1 hk.2 nx
end
end OM

namespace OM
open PySem PySem.Spec PyProof.Rows L2
def goes (J : It) (W : Nat → Nat → Hp → Prop) (Z : Hp → Prop) (step : V → Hp → (Hp → Prop) → Prop) : Prop := ∀ i m H, W i m H → (J.stop i H ∧ Z H) ∨ (J.go i H ∧ ∃ Nx : Hp → Prop, (∀ H', Nx H' → ∃ m', m' < m ∧ W (i + 1) m' H') ∧ ∀ x H', J.yld i H x H' → step x H' Nx)
/-- a text comes into the set at D -/
def tInto (w : World) (D : Addr) (Nx : Hp → Prop) : VK := fun y H => ∃ x L, y = .str x ∧ H D = some (SetTO w D L) ∧ L.length + 1 < scanBound ∧ Nx (upd H D (SetTO w D (addX L x)))
/-- {elt for tg in iter if ..}, texts -/
def tSx (w : World) (wi : TI) (g : TG) (tt : TT) (te : TE) (vs : List Nat) : TE := fun σ H Q => wi σ H fun J H1 => ∀ D, H1 D = none → ∃ W : Nat → Nat → Hp → Prop, (∃ m, W 0 m (upd H1 D (SetTO w D []))) ∧ goes J W (fun H => Q (.ref D) H) fun x H' Nx => g x (wipe σ vs) H' fun σ2 H2 => wipe σ2 vs = wipe σ vs ∧ tt σ2 H2 fun b H3 => if b = true then te σ2 H3 (tInto w D Nx) else Nx H3
/-- .. with a second for, its names vs1 -/
def tSx2 (w : World) (wi : TI) (g : TG) (tt : TT) (wi1 : TI) (g1 : TG) (tt1 : TT) (te : TE) (vs vs1 : List Nat) : TE := fun σ H Q => wi σ H fun J H1 => ∀ D, H1 D = none → ∃ W : Nat → Nat → Hp → Prop, (∃ m, W 0 m (upd H1 D (SetTO w D []))) ∧ goes J W (fun H => Q (.ref D) H) fun x H' Nx => g x (wipe σ vs) H' fun σ2 H2 => wipe σ2 vs = wipe σ vs ∧ tt σ2 H2 fun b H3 => if b = true then
  wi1 σ2 H3 (fun J1 H4 => ∃ W1 : Nat → Nat → Hp → Prop, (∃ m, W1 0 m H4) ∧ goes J1 W1 Nx fun x H' Nx1 => g1 x (wipe σ2 vs1) H' fun σ3 H5 => wipe σ3 vs1 = wipe σ2 vs1 ∧ tt1 σ3 H5 fun b H6 => if b = true then te σ3 H6 (tInto w D Nx1) else Nx1 H6) else Nx H3
theorem wiped {σ σ2 : L2.St} {vs : List Nat} (h : wipe σ2 vs = wipe σ vs) : Knows (wipe σ vs) σ2 := by
  rw [← h]
  exact ⟨wipe_length _ _, fun j v e => (wipe_some e).1⟩
theorem Knows.tr {a b c : L2.St} (h : Knows a b) (k : Knows b c) : Knows a c := ⟨h.1.trans k.1, fun j v e => k.2 j v (h.2 j v e)⟩
section
variable {X : Cx} {elt tg iter tg1 iter1 : Expr} {ifs ifs1 : List Expr} {scope : Scope} {own : List (Str × Nat)} {vs1 : List Nat} {pos : Pos} {wi wi1 : TI} {g g1 : TG} {tt tt1 : TT} {te : TE}
/-- the innermost emission, within a block -/
theorem into_ok {s3 : Shared} {H3 : Hp} {ce : Env} {fp0 : List Addr} {pins : List (Addr × Obj)} {σ2 σ0 : L2.St} {H4 : Hp} {Nx : Hp → Prop} {s : Shared} {D : Addr} {E : Value → Shared → Prop} (pe : PE (X.blk s3 H3 scope ce fp0) elt te) (I : Inv (X.blk s3 H3 scope ce fp0) pins σ2 H4 s) (hk : Knows σ0 σ2) (h : te σ2 H4 (tInto X.w D Nx)) :
    emS X.prog X.w X.A E elt (.ref D) ce (fun s' => ∃ σ' H', Inv (X.blk s3 H3 scope ce fp0) pins σ' H' s' ∧ Knows σ0 σ' ∧ Nx H') s := by
  refine thnF (pe.run _ s σ2 H4 _ I h) fun z s1 ⟨y, H5, I5, r5, x, L, ey, hD, room, nx⟩ => ?_
  subst ey
  obtain ⟨tk, rfl⟩ := r5
  exact tx_add_ok (X := X.blk s3 H3 scope ce fp0) I5 hD room fun s6 I6 => ⟨σ2, _, I6, hk, nx⟩
theorem sx2_core {pins : List (Addr × Obj)} {s : Shared} {σ : L2.St} {H : Hp} {Q : VK} {pos' : Pos} {use : Option (Value → Sem Unit)} {Qf : Value → Shared → Prop} (hc : X.calm = true) (hN : X.N.Nodup) (I : Inv X pins σ H s) (hi : PI X tg iter wi) (ok : BlkOk X.N X.env.scope scope own) (hv : ∀ i ∈ vs1, i ∈ own.map (·.2))
    (hg : ∀ (s : Shared) (H : Hp) (C : Addr) (cl : List (Str × Addr)) (fp : List Addr), PG (X.blk s H scope (compEnvC scope cl C X.env) fp) tg g) (ht : ∀ (s : Shared) (H : Hp) (C : Addr) (cl : List (Str × Addr)) (fp : List Addr), PTs (X.blk s H scope (compEnvC scope cl C X.env) fp) ifs tt)
    (hi1 : ∀ (s : Shared) (H : Hp) (C : Addr) (cl : List (Str × Addr)) (fp : List Addr), PI (X.blk s H scope (compEnvC scope cl C X.env) fp) tg1 iter1 wi1) (hg1 : ∀ (s : Shared) (H : Hp) (C : Addr) (cl : List (Str × Addr)) (fp : List Addr), PG (X.blk s H scope (compEnvC scope cl C X.env) fp) tg1 g1)
    (ht1 : ∀ (s : Shared) (H : Hp) (C : Addr) (cl : List (Str × Addr)) (fp : List Addr), PTs (X.blk s H scope (compEnvC scope cl C X.env) fp) ifs1 tt1) (he : ∀ (s : Shared) (H : Hp) (C : Addr) (cl : List (Str × Addr)) (fp : List Addr), PE (X.blk s H scope (compEnvC scope cl C X.env) fp) elt te)
    (hs : ∀ x, foldedSetIterable iter X.env x = pure x) (hs1 : ∀ env x, foldedSetIterable iter1 env x = pure x) (h : tSx2 X.w wi g tt wi1 g1 tt1 te (own.map (·.2)) vs1 σ H Q)
    (hRR : ∀ D C s' m H', Inv X pins σ H' s' → Q (.ref D) H' → s'.heap.Ns C m → FpOk X pins H' C → compPost (model X.prog X.w) X.A X.xe use Qf (.ref D) C (.ok .next) s') :
    wpAny (model X.prog X.w) X.A (comprehension (.SetComp elt [⟨tg, iter, ifs, 0⟩, ⟨tg1, iter1, ifs1, 0⟩] scope pos) scope X.env pos' (newSet (.type "set")) false (eval iter X.env) use) Qf X.xe s := by
  have cells : ∀ y ∈ scope.names, y.2 = .free → ∃ c, X.env.cells.lookup y.1 = some c := fun y hy e => (ok.free y hy e).elim (fun k => I.ok.has _ (.inl k)) fun k => I.ok.has _ (.inr k)
  refine wpAny_comprehension_free (use := use) rfl hs (closure_ok cells) ok.kind (fun y hy e => by rw [ok.uniq y hy, e]) (thn (hi.run pins s σ H _ I h) fun xv s1 hx => thn hx fun itv s2 h2 => ?_)
  obtain ⟨it, fp, tn, J, H2, rfl, I2, T, st2, f2, q⟩ := h2
  refine PpSet.newSet_ok (newEnv_comp ?_)
  obtain ⟨D, hD⟩ : ∃ D, s2.heap.objs.size = D := ⟨_, rfl⟩
  obtain ⟨W, ⟨m0, w0⟩, turn⟩ := q D (I2.hok.fresh (Nat.le_of_eq hD))
  have fresh := tx_fresh (h := s2.heap) X.w
  rw [hD] at fresh ⊢
  obtain ⟨s3, es3⟩ : ∃ s3 : Shared, s3 = { s2 with heap := s2.heap.push { cls := .type "set", dict := none, data := .set #[] 0 (.fresh 0 0 (!X.w.params.followText "set-order")) } } := ⟨_, rfl⟩
  have h3 : s3.heap = s2.heap.push { cls := .type "set", dict := none, data := .set #[] 0 (.fresh 0 0 (!X.w.params.followText "set-order")) } := by rw [es3]
  have I3 : Inv X pins σ (upd H2 D (SetTO X.w D [])) s3 := by
    rw [es3]
    exact I2.laid (t' := s2.toks) (fun b o e => Heap.get?_push_of_some _ e) (Nat.le_of_eq hD) (txo_new fresh)
  rw [← es3]
  have f3 : ∀ b ∈ fp, FpOk X pins (upd H2 D (SetTO X.w D [])) b ∧ b < s3.heap.objs.size := fun b hb => by
    obtain ⟨o, e, _⟩ := T.obj _ _ st2 b hb
    have lt := Heap.lt_size e
    exact ⟨⟨by rw [upd_ne (by rw [← hD]; exact Nat.ne_of_lt lt)]; exact (f2 b hb).1, (f2 b hb).2⟩, by rw [h3, Heap.size_push]; exact Nat.lt_succ_of_lt lt⟩
  have st3 : tn 0 s3.heap := T.keep _ _ _ st2 fun b _ o e => by rw [h3]; exact Heap.get?_push_of_some _ e
  have I4 := block_start I3 ok hN f3
  have pg := hg s3 (upd H2 D (SetTO X.w D [])) s3.heap.objs.size (cellsFrom (s3.heap.objs.size + 1) scope.names (cloFrom X.env.cells scope.names [])) fp
  have pt := ht s3 (upd H2 D (SetTO X.w D [])) s3.heap.objs.size (cellsFrom (s3.heap.objs.size + 1) scope.names (cloFrom X.env.cells scope.names [])) fp
  have pe := he s3 (upd H2 D (SetTO X.w D [])) s3.heap.objs.size (cellsFrom (s3.heap.objs.size + 1) scope.names (cloFrom X.env.cells scope.names [])) fp
  have pi1 := hi1 s3 (upd H2 D (SetTO X.w D [])) s3.heap.objs.size (cellsFrom (s3.heap.objs.size + 1) scope.names (cloFrom X.env.cells scope.names [])) fp
  have pg1 := hg1 s3 (upd H2 D (SetTO X.w D [])) s3.heap.objs.size (cellsFrom (s3.heap.objs.size + 1) scope.names (cloFrom X.env.cells scope.names [])) fp
  have pt1 := ht1 s3 (upd H2 D (SetTO X.w D [])) s3.heap.objs.size (cellsFrom (s3.heap.objs.size + 1) scope.names (cloFrom X.env.cells scope.names [])) fp
  show codeAny _ _ (.compStart (.SetComp elt [⟨tg, iter, ifs, 0⟩, ⟨tg1, iter1, ifs1, 0⟩] scope pos) 0 (.ref it) (.ref D) (compEnvC scope (cellsFrom (s3.heap.objs.size + 1) scope.names (cloFrom X.env.cells scope.names [])) s3.heap.objs.size X.env)) (compPost (model X.prog X.w) X.A X.xe use Qf (.ref D) s3.heap.objs.size) { s3 with heap := pushCells (s3.heap.push { cls := .type "dict", data := .dict #[] }) scope.names }
  obtain ⟨ce, ece⟩ : ∃ ce, ce = compEnvC scope (cellsFrom (s3.heap.objs.size + 1) scope.names (cloFrom X.env.cells scope.names [])) s3.heap.objs.size X.env := ⟨_, rfl⟩
  have cL : ce.locals = s3.heap.objs.size := by rw [ece]; rfl
  obtain ⟨s4, es4⟩ : ∃ s4 : Shared, s4 = { s3 with heap := pushCells (s3.heap.push { cls := .type "dict", data := .dict #[] }) scope.names } := ⟨_, rfl⟩
  rw [← ece] at I4 pg pt pe pi1 pg1 pt1 ⊢
  rw [← es4] at I4 ⊢
  have st4 : tn 0 s4.heap := T.keep _ _ _ st3 fun b _ o e => by rw [es4]; exact pushCells_keeps _ _ _ _ (Heap.get?_push_of_some _ e)
  generalize upd H2 D (SetTO X.w D []) = H3 at w0 I3 f3 I4 pg pt pe pi1 pg1 pt1
  have stat : ∀ {H' : Hp}, (∀ b ∈ fp, H' b = none) → ∀ b ∈ fp, FpOk (X.blk s3 H3 scope ce fp) [] H' b := fun {H'} hn b hb =>
    ⟨hn b hb, (I4.ok.exf b hb).1, I4.ok.exfs b hb, .inl hb, fun x c e => (I4.ok.exf b hb).2 x c e, fun p hp => absurd (show p ∈ ([] : List (Addr × Obj)) ++ [] from hp) (by simp)⟩
  have loop : codeAny (model X.prog X.w) X.A (.compLoop (.SetComp elt [⟨tg, iter, ifs, 0⟩, ⟨tg1, iter1, ifs1, 0⟩] scope pos) 0 (.ref it) (.ref D) ce) (compPost (model X.prog X.w) X.A X.xe use Qf (.ref D) s3.heap.objs.size) s4 := by
    refine blk_loop (kn := fun σ2 => wipe σ2 (own.map (·.2)) = wipe σ (own.map (·.2))) (W := W) (Z := fun H => Q (.ref D) H) (g := g) (tt := tt) (em := emI X.prog X.w X.A (notedBy (model X.prog X.w) X.A ce fun e s' => compPost (model X.prog X.w) X.A X.xe use Qf (.ref D) s3.heap.objs.size (.error e) s') (.SetComp elt [⟨tg, iter, ifs, 0⟩, ⟨tg1, iter1, ifs1, 0⟩] scope pos) iter1 (.ref D) ce)
      (emH := fun σ2 H3 Nx => wi1 σ2 H3 fun J1 H4 => ∃ W1 : Nat → Nat → Hp → Prop, (∃ m, W1 0 m H4) ∧ goes J1 W1 Nx fun x H' Nx1 => g1 x (wipe σ2 vs1) H' fun σ3 H5 => wipe σ3 vs1 = wipe σ2 vs1 ∧ tt1 σ3 H5 fun b H6 => if b = true then te σ3 H6 (tInto X.w D Nx1) else Nx1 H6)
      (fun _ z => wiped z) hc T stat pg pt (emI_ok (hs1 ce)) (turn_s2 _ _ _) ?_ ?_ ?_ ?_ I4 st4 (fun b hb => (f3 b hb).1.1) w0
    · exact turn
    · intro Y Y' s h k
      exact wpAny_mono h (fun x s1 h1 => wpAny_mono h1 (fun it s2 h2 => codeAny_mono h2 fun r s3 z => by cases r with | ok f => exact k _ z | error x => exact z) fun _ _ z => z) fun _ _ z => z
    · intro σ2 H4 Nx s pl I' hk q2
      refine thnF (pi1.run _ s σ2 H4 _ I' q2) fun xv s10 hx => thnF hx fun itv s11 h11 => ?_
      obtain ⟨it1, fp1, tn1, J1, H11, rfl, I11, T1, st11, f11, W1, ⟨m1, w1⟩, turn1⟩ := h11
      have kw : Knows (wipe σ (own.map (·.2))) (wipe σ2 vs1) := ⟨hk.1.trans (wipe_length σ2 vs1).symm, fun j v e => by
        rw [wipe_out fun z => (wipe_some e).2 (hv j z)]
        exact hk.2 j v e⟩
      have loop1 : codeAny (model X.prog X.w) X.A (.compLoop (.SetComp elt [⟨tg, iter, ifs, 0⟩, ⟨tg1, iter1, ifs1, 0⟩] scope pos) 1 (.ref it1) (.ref D) ce) (fun r s' => match r with
          | .ok _ => ∃ σ' H', Inv (X.blk s3 H3 scope ce fp) ([] ++ pl) σ' H' s' ∧ Knows (wipe σ (own.map (·.2))) σ' ∧ Nx H'
          | .error _ => False) s11 := by
        refine blk_loop (kn := fun σ3 => wipe σ3 vs1 = wipe σ2 vs1) (pins := [] ++ pl) (σ0 := wipe σ2 vs1) (W := W1) (Z := Nx) (g := g1) (tt := tt1) (em := emS X.prog X.w X.A (notedBy (model X.prog X.w) X.A ce fun e s' => False) elt (.ref D) ce) (emH := fun σ3 H6 Nx1 => te σ3 H6 (tInto X.w D Nx1))
          (fun _ z => wiped z) hc T1 (fun {H'} hn b hb => ⟨hn b hb, (f11 b hb).2⟩) pg1 pt1 emS_ok (turn_s2in _ _ _) ?_ ?_ ?_ ?_ (I11.weak (wipe_length _ _) fun j v e => (wipe_some e).1) st11 (fun b hb => (f11 b hb).1) w1
        · exact turn1
        · intro Y Y' s h k
          exact wpAny_mono h (fun x s1 h1 => wpAny_mono h1 (fun _ s2 h2 => k _ h2) fun _ _ z => z) fun _ _ z => z
        · intro σ3 H6 Nx1 s pl1 I6 hk6 q6
          exact into_ok pe I6 hk6 q6
        · exact fun s' H' I' z => ⟨_, H', I', kw, z⟩
      exact start_any rfl rfl loop1 (T1.self X.A 0 _ _ _ st11 loop1)
    · intro s6 H5 I6 qq
      have I7 : Inv X pins σ H5 s6 := I3.call' (ch := fp) I6.os I6.base I6.hok I6.bare fun b hb => ⟨(f3 b hb).1.2.2.2.1, (f3 b hb).1.2.1, (f3 b hb).1.2.2.2.2.1, (f3 b hb).1.2.2.2.2.2⟩
      have nC : H5 s3.heap.objs.size = none := by
        rw [← cL]
        exact I6.free
      obtain ⟨m, hn, _⟩ := I6.loc
      have hn : s6.heap.Ns ce.locals m := hn
      rw [cL] at hn
      exact hRR D s3.heap.objs.size s6 m H5 I7 qq hn (I3.fpOk (Nat.le_refl _) nC)
  exact start_any rfl rfl loop (T.self X.A 0 _ _ _ st4 loop)
theorem pe_sx2 (hc : X.calm = true) (hN : X.N.Nodup) (hi : PI X tg iter wi) (ok : BlkOk X.N X.env.scope scope own) (hv : ∀ i ∈ vs1, i ∈ own.map (·.2)) (hg : ∀ (s : Shared) (H : Hp) (C : Addr) (cl : List (Str × Addr)) (fp : List Addr), PG (X.blk s H scope (compEnvC scope cl C X.env) fp) tg g)
    (ht : ∀ (s : Shared) (H : Hp) (C : Addr) (cl : List (Str × Addr)) (fp : List Addr), PTs (X.blk s H scope (compEnvC scope cl C X.env) fp) ifs tt) (hi1 : ∀ (s : Shared) (H : Hp) (C : Addr) (cl : List (Str × Addr)) (fp : List Addr), PI (X.blk s H scope (compEnvC scope cl C X.env) fp) tg1 iter1 wi1)
    (hg1 : ∀ (s : Shared) (H : Hp) (C : Addr) (cl : List (Str × Addr)) (fp : List Addr), PG (X.blk s H scope (compEnvC scope cl C X.env) fp) tg1 g1) (ht1 : ∀ (s : Shared) (H : Hp) (C : Addr) (cl : List (Str × Addr)) (fp : List Addr), PTs (X.blk s H scope (compEnvC scope cl C X.env) fp) ifs1 tt1)
    (he : ∀ (s : Shared) (H : Hp) (C : Addr) (cl : List (Str × Addr)) (fp : List Addr), PE (X.blk s H scope (compEnvC scope cl C X.env) fp) elt te) (hs : ∀ x, foldedSetIterable iter X.env x = pure x := by intro _; rfl) (hs1 : ∀ env x, foldedSetIterable iter1 env x = pure x := by intro _ _; rfl) :
    PE X (.SetComp elt [⟨tg, iter, ifs, 0⟩, ⟨tg1, iter1, ifs1, 0⟩] scope pos) (tSx2 X.w wi g tt wi1 g1 tt1 te (own.map (·.2)) vs1) := by
  refine ⟨fun pins s σ H Q I h => ?_⟩
  rw [PpSet.eval_SetComp]
  refine sx2_core hc hN I hi ok hv hg ht hi1 hg1 ht1 he hs hs1 h fun D C s' m H' I' q hn ⟨f0, f1, f2, f3, f4, f5⟩ => ⟨m, hn, fun h'' sb => ?_⟩
  exact ⟨.ref D, H', I'.turned (t' := s'.toks) (fun b o hb e => (sb.2 b hb).trans e) f0 f1 f3 f4 f5, rfl, q⟩
end
end OM

namespace OM
open PySem PySem.Spec PyProof.Rows L2
/-- the text of a value -/
def txV : Value → Str
  | .str x _ => x
  | _ => ""
theorem strs_txV : ∀ (l : List Value), (∀ v ∈ l, ∃ x tk, v = Value.str x tk) → StrsAre l (l.map txV)
  | [], _ => .nil
  | v :: l, h => by
    obtain ⟨x, tk, rfl⟩ := h v List.mem_cons_self
    exact .cons x tk (strs_txV l fun u hu => h u (List.mem_cons_of_mem _ hu))
section
variable {P : Program} {w : World} {A : Around} {E : Value → Shared → Prop} {s : Shared} {a : Addr} {L : List Str}
theorem sorted_tx {Q : Value → Shared → Prop} (R : SetTx w s.heap a L) (hh : A.handled = none)
    (fin : ∀ s' p (out : Array Value) (c : Nat) (ys : List Str), (∀ b o, s.heap.get? b = some o → s'.heap.get? b = some o) → s'.gens = s.gens → s'.os = s.os → s.heap.objs.size ≤ p → s'.heap.get? p = some (seqObj "list" out c) → StrsAre out.toList ys → ys.Perm L → sortedS ys = true → Q (.ref p) s') :
    wpAny (model P w) A (call (.builtin "sorted") [.ref a]) Q E s := by
  obtain ⟨o, es, ep, t, at_, hex, hd, T⟩ := R
  refine Calls.call_function_entry kind_sorted plain_sorted entry_sorted (args_sorted1 _) ?_
  unfold Builtin.«sorted»
  refine wpAny_bind (m := checkCount "sorted" 1 1 _) (wpAny_pure ?_)
  refine wpAny_bind <| collect_set (A := A.in1) hh ⟨o, at_, hex.1, hd⟩ T.fit T.bound T.ris T.led fun s1 vs k1 hz g1 o1 pm => ?_
  have vl : vs.length = L.length := by rw [pm.length_eq, List.length_map, Array.length_toList, T.size]
  have S : StrsAre vs (vs.map txV) := strs_txV vs fun v hv => by
    obtain ⟨e, he, q⟩ := List.mem_map.mp (pm.mem_iff.mp hv)
    obtain ⟨x, tk, h1⟩ := T.tx e he
    exact ⟨x, tk, by rw [← q, h1]⟩
  have pk : (vs.map txV).Perm L := by
    have q := pm.map txV
    rw [List.map_map] at q
    refine q.trans ?_
    have e : es.toList.map (txV ∘ (·.2)) = es.toList.map keyT := List.map_congr_left fun e he => by
      obtain ⟨x, tk, rfl⟩ := T.tx e he
      rfl
    rw [e]
    exact T.pm
  have line : vs.length ≤ sizeLine := by
    rw [vl]
    exact fits_of_scanBound T.few
  refine wpAny_bind (wpAny_newList ?_ line)
  have new : (s1.heap.push (seqObj "list" vs.toArray 0)).get? s1.heap.objs.size = some (seqObj "list" vs.toArray 0) := Heap.get?_push_size _ rfl
  refine wpAny_bind <| wpAny_holding <| wpAny_call_entry slot_list_sort ⟨_, new, rfl⟩ entry_list_sort (list_sort_treeKAny strKind_oneLt new S.keysOf (fun v₁ v₂ rest e => keyKind_strs (by rw [← e]; exact S)) line fun st' hp hs => ⟨_, rfl, ?_⟩) (args_list_sort _)
  obtain ⟨ys, q1, q2, q3⟩ := sorted_out_str S hp hs
  obtain ⟨c, hc⟩ := sortedHeap_at (vs := vs) (out := (arrOf st').map (·.2)) new
  refine wpAny_pure ⟨_, rfl, fin _ s1.heap.objs.size _ c ys (fun b u e => ?_) g1 o1 hz hc q1 (q2.trans pk) q3⟩
  have z := k1 b u e
  have lt := Heap.lt_size z
  exact (sortedHeap_old (Nat.ne_of_lt lt) (by rw [size_push']; exact Nat.lt_succ_of_lt lt)).trans (Heap.get?_push_of_some _ z)
end
section
variable {X : Cx}
/-- sorted(a set of texts) -/
def rSortX (w : World) : List V → Hp → VK → Prop := fun vs H Q => ∃ (a : Addr) (L : List Str), vs = [V.ref a] ∧ H a = some (SetTO w a L) ∧ ∀ (ys : List Str) (p : Addr), ys.Perm L → sortedS ys = true → H p = none → Q (.ref p) (upd H p (.lst (ys.map V.str)))
theorem cr_sortX (hc : X.calm = true) : CallR X (.builtin "sorted") (rSortX X.w) := by
  intro pins s σ H vs us Q I r h
  obtain ⟨a, L, rfl, ha, q⟩ := h
  have R := txo_get I ha
  have few : L.length < scanBound := by
    obtain ⟨_, _, _, _, _, _, _, T⟩ := R
    exact T.few
  rw [Vals.ref1 r]
  refine sorted_tx R (I.ok.hd hc) fun s' p out c ys k g o hp hg hi pm so => ?_
  have len : (ys.map V.str).length ≤ sizeLine := by
    rw [List.length_map, pm.length_eq]
    exact fits_of_scanBound few
  have hn : H p = none := I.hok.fresh hp
  have J : Inv X pins σ (upd H p (.lst (ys.map V.str))) { s with heap := s'.heap, gens := s'.gens, drawn := s'.drawn, toks := s'.toks } := I.call (ch := []) (Un.laid k hp hn) (I.hok.laid k hp ⟨len, out.toList, c, vals_of_strs hi, hg⟩) (by rw [g]; exact I.bare) (fun _ z => nomatch z)
  have e : s' = { s with heap := s'.heap, gens := s'.gens, drawn := s'.drawn, toks := s'.toks } := by
    cases s'
    cases s
    cases o
    rfl
  rw [e]
  exact ⟨.ref p, _, J, rfl, q ys p pm so hn⟩
end
end OM

namespace OM
open PySem PySem.Spec PyProof.Rows L2
def firsts (L : List Str) (xs : List Str) : List Str := xs.foldl addX L
theorem mem_addX {L : List Str} {x y : Str} : y ∈ addX L x ↔ y ∈ L ∨ y = x := by
  unfold addX
  split
  · rename_i h
    exact ⟨.inl, fun z => z.elim id fun e => e ▸ h⟩
  · rw [List.mem_cons]
    exact Or.comm
theorem len_addX (L : List Str) (x : Str) : (addX L x).length ≤ L.length + 1 := by
  unfold addX
  split
  · exact Nat.le_succ _
  · exact Nat.le_refl _
theorem nodup_addX {L : List Str} (h : L.Nodup) (x : Str) : (addX L x).Nodup := by
  unfold addX
  split
  · exact h
  · exact List.nodup_cons.mpr ⟨by assumption, h⟩
theorem mem_firsts {y : Str} : ∀ {xs L : List Str}, y ∈ firsts L xs ↔ y ∈ L ∨ y ∈ xs
  | [], L => by simp [firsts]
  | x :: r, L => by
    show y ∈ firsts (addX L x) r ↔ _
    rw [mem_firsts, mem_addX, List.mem_cons, or_assoc]
theorem len_firsts : ∀ (xs L : List Str), (firsts L xs).length ≤ L.length + xs.length
  | [], L => Nat.le_refl _
  | x :: r, L => by
    have h1 := len_firsts r (addX L x)
    have h2 := len_addX L x
    show (firsts (addX L x) r).length ≤ L.length + (r.length + 1)
    omega
theorem nodup_firsts : ∀ (xs : List Str) {L : List Str}, L.Nodup → (firsts L xs).Nodup
  | [], _, h => h
  | x :: r, _, h => nodup_firsts r (nodup_addX h x)
section
variable {P : Program} {w : World} {A : Around} {I : Addr} {fp wr : List Addr} {G : Array GenState → Array GenState → Prop} {n : Nat} {Pv : Nat → Value → Prop} {St : Nat → Shared → Prop} {R : Result → Shared → Prop}
/-- the loop of set.update over texts -/
theorem update_tx (W : WalksS P w A.in1 I fp wr G n Pv St) (S : Addr) (apart : S ∉ fp) (xs : List Str) (hn : xs.length = n) (val : ∀ i v, Pv i v → ∃ t, v = .str (xs.getD i Str.empty) t) : ∀ (k i : Nat) (s : Shared) (L : List Str), n - i = k → i ≤ n → St i s → SetTx w s.heap S L → L.length + k < scanBound →
    (∀ s', Moved (S :: wr) G s s' → SetTx w s'.heap S (firsts L (xs.drop i)) → R (.ok (.ret .none)) s') → codeAny (model P w) A (.builtin "set.update.loop" ⟨[.ref S, .ref I], []⟩) R s := by
  have nw : S ∉ wr := fun h => apart (W.sub _ h)
  have wider : ∀ b ∈ wr, b ∈ S :: wr := fun b hb => List.mem_cons_of_mem _ hb
  intro k
  induction k with
  | zero =>
    intro i s L hk hi st hS room fin
    obtain rfl : i = n := by omega
    refine codeAny_builtin F.entry_set_update_loop ?_
    rw [Around.under_plainId F.plain_set_update_loop _]
    show wpAny _ A.in1 (pyNext (.ref I) >>= _) _ _ s
    refine wpAny_bind <| W.done s _ _ st fun s' hm => ?_
    show wpAny _ A.in1 (ret Value.none) _ _ s'
    refine wpAny_pure <| fin s' (hm.mono wider) ?_
    rw [← hn, List.drop_length]
    exact hS.mv fun o e => hm.heap S o nw e
  | succ k ih =>
    intro i s L hk hi st hS room fin
    have lt : i < n := by omega
    refine codeAny_builtin F.entry_set_update_loop ?_
    rw [Around.under_plainId F.plain_set_update_loop _]
    show wpAny _ A.in1 (pyNext (.ref I) >>= _) _ _ s
    refine wpAny_bind <| W.item i s _ _ lt st fun v s' hP st' hm => ?_
    obtain ⟨tk, rfl⟩ := val i v hP
    have hS' : SetTx w s'.heap S L := hS.mv fun o e => hm.heap S o nw e
    have hx : xs.drop i = xs.getD i Str.empty :: xs.drop (i + 1) := by
      have h1 : i < xs.length := by omega
      rw [List.getD_eq_getElem?_getD, List.getElem?_eq_getElem h1]
      exact List.drop_eq_getElem_cons h1
    rw [hx] at fin
    revert fin
    generalize xs.getD i Str.empty = x
    intro fin
    show wpAny _ A.in1 (holding [Value.str x tk] (setAdd S (.str x tk)) >>= _) _ _ s'
    refine wpAny_bind <| wpAny_holding ?_
    unfold setAdd
    refine wpAny_holding <| wpAny_bind <| (strKind P w).pyHash (k := x) (beq_self_eq_true x) ?_
    refine tx_hashed (s := { s' with toks := s'.toks + 1 }) hS' (by omega) fun b h' sb r => ?_
    have la := len_addX L x
    refine wpAny_pure ⟨plainId_quiet F.plain_set_update_loop _, ih (i + 1) _ (addX L x) (by omega) lt (W.frame _ s' _ _ st' (Nat.le_succ _) fun b hb o e => ?_) r (by omega) fun s'' hm'' r'' => fin s'' (Moved.trans W.gtrans ((hm.mono wider).then_heap (Nat.le_succ _) fun b o hb e => ?_) hm'') r''⟩
    · exact (sb.2 b fun z => apart (by rw [← z]; exact hb)).trans e
    · exact (sb.2 b fun z => hb (by rw [z]; exact List.mem_cons_self)).trans e
end
end OM

namespace OM
open PySem PySem.Spec PyProof.Rows L2
abbrev blankSet (w : World) : Obj := { cls := .type "set", dict := none, data := .set #[] 0 (.fresh 0 0 (!w.params.followText "set-order")) }
section
variable {P : Program} {w : World} {A : Around} {E : Value → Shared → Prop} {s : Shared}
/-- set(x), by what its __init__ makes of the blank set -/
theorem set_made {x : Value} {Q : Value → Shared → Prop} {Z : Shared → Prop}
    (hT : codeAny (model P w) A.in1 (.call (.builtin "set.__init__") ⟨[.ref s.heap.objs.size, x], []⟩) (wants (fun r s2 => r = .none ∧ Z s2) E) { s with heap := s.heap.push (blankSet w) })
    (fin : ∀ s2, Z s2 → Q (.ref s.heap.objs.size) s2) : wpAny (model P w) A (call (.type "set") [x]) Q E s := by
  obtain ⟨c, tl, hmro⟩ := F.called_set.mro
  have f1 := F.called_set.made
  have f2 := F.called_set.sub
  refine wpAny_call <| codeAny_of_tree ?_
  show wpAny _ _ (callAny (.type "set") _) _ _ _
  refine wpAny_pure ⟨Code.quiet_builtin _ (by decide +kernel), codeAny_builtin F.entry_type_call ?_⟩
  rw [Around.under_plain (weight_type_call_type "set" [x] []) rfl]
  have f3 := F.called_set.notType
  have f4 := F.called_set.canCreate
  have f5 := F.typeCall_set_1 x
  repeat (any_goals (first | assumption | wp_step))
  refine codeAny_mono (code_set_led1 x (E := E) (Q₁ := fun obj s1 => obj = .ref s.heap.objs.size ∧ s1 = { s with heap := s.heap.push (blankSet w) }) ⟨rfl, rfl⟩) fun r s1 hr => ?_
  cases r with
  | error e => exact hr
  | ok fl =>
    cases fl with
    | ret obj =>
      obtain ⟨rfl, rfl⟩ := hr
      have at_ : (s.heap.push (blankSet w)).get? s.heap.objs.size = some (blankSet w) := Heap.get?_push_size _ rfl
      have ty : Shared.TypeIs { s with heap := s.heap.push (blankSet w) } (.ref s.heap.objs.size) "set" := ⟨_, at_, rfl⟩
      have f6 := F.called_set.init.lookup
      have f7 := F.called_set.init.bind (.ref s.heap.objs.size)
      repeat (any_goals (first | assumption | wp_step))
      refine codeAny_mono hT fun r2 s2 hr2 => ?_
      cases r2 with
      | error e => exact hr2
      | ok fl2 =>
        cases fl2 with
        | ret r =>
          obtain ⟨rfl, z⟩ := hr2
          have q := fin s2 z
          repeat (any_goals (first | assumption | wp_step))
        | _ => exact hr2.elim
    | _ => exact hr.elim
/-- set(xs), xs a list or a tuple of texts -/
theorem set_list {l : Addr} {items : Array Value} {xs : List Str} {Q : Value → Shared → Prop} (hh : A.handled = none) (hl : s.heap.IsList l items) (hi : StrsAre items.toList xs) (few : xs.length < scanBound)
    (fin : ∀ (h' : Heap) (tk : Nat), SetTx w h' s.heap.objs.size (firsts [] xs) → (∀ b o, b < s.heap.objs.size → s.heap.get? b = some o → h'.get? b = some o) → Q (.ref s.heap.objs.size) { s with heap := h', toks := tk }) : wpAny (model P w) A (call (.type "set") [.ref l]) Q E s := by
  refine set_made (Z := fun s2 => ∃ h' tk, s2 = { s with heap := h', toks := tk } ∧ SetTx w h' s.heap.objs.size (firsts [] xs) ∧ ∀ b o, b < s.heap.objs.size → s.heap.get? b = some o → h'.get? b = some o) ?_ fun s2 ⟨h', tk, e, a, b⟩ => by rw [e]; exact fin h' tk a b
  have at_ : (s.heap.push (blankSet w)).get? s.heap.objs.size = some (blankSet w) := Heap.get?_push_size _ rfl
  have ty : Shared.TypeIs { s with heap := s.heap.push (blankSet w) } (.ref s.heap.objs.size) "set" := ⟨_, at_, rfl⟩
  have hl1 : (s.heap.push (blankSet w)).IsList l items := hl.push _
  have size : (s.heap.push (blankSet w)).objs.size = s.heap.objs.size + 1 := Heap.size_push ..
  obtain ⟨ol, hol, hcl, nl, hdl⟩ := hl
  have lt := Heap.lt_size hol
  obtain ⟨ocls, odict, odata, oslots⟩ := ol
  simp only at hcl hdl
  subst hcl
  subst hdl
  have hol' : (s.heap.push (blankSet w)).get? l = some { cls := .type "list", dict := odict, data := .seq items nl, slots := oslots } := Heap.get?_push_of_some _ hol
  have g1 := F.sub_list_set
  have g2 := F.sub_list_frozenset
  have g3 : (Value.type "list" == Value.type "dict") = false := by decide
  refine codeAny_call_builtin F.called_set.init.plain F.entry_set_init (check_set_init_1 ty ?_)
  unfold Builtin.«set.__init__» noKeywords Builtin.Frozenset.updateFrom
  generalize iter : pyIter = it0
  wp_walk
  subst iter
  refine wpAny_pyIter_list hl1 <| wpAny_bind <| wpAny_runValue ?_
  have n1 : l ≠ (s.heap.push (blankSet w)).objs.size := by
    rw [Heap.size_push]
    exact Nat.ne_of_lt (Nat.lt_succ_of_lt lt)
  have n2 : s.heap.objs.size ∉ [(s.heap.push (blankSet w)).objs.size, l] := by
    rw [Heap.size_push]
    simp only [List.mem_cons, List.not_mem_nil, or_false, not_or]
    exact ⟨Nat.ne_of_lt (Nat.lt_succ_self _), Nat.ne_of_gt lt⟩
  have sz : xs.length = items.size := by rw [← StrsAre.len_eq hi, Array.length_toList]
  refine update_tx ((Walks.list (by simp [hh]) _ l n1 items).toS) s.heap.objs.size n2 xs sz (fun i v hv => SS.strs_at hi i v (by rw [Array.getElem?_toList]; exact hv)) (items.size - 0) 0 _ [] (by omega) (Nat.zero_le _) ⟨⟨_, Heap.get?_push_size _ rfl, rfl, rfl⟩, hl1.push _⟩ ?_ (by rw [← sz]; simpa using few) fun s' hm r => ?_
  · exact (tx_fresh (h := s.heap) w).mv fun o e => Heap.get?_push_of_some _ e
  · obtain ⟨h', g', d', tk', os'⟩ := s'
    obtain rfl : g' = s.gens := hm.gens
    obtain rfl : d' = s.drawn := hm.drawn
    obtain rfl : os' = s.os := hm.os
    show wpAny _ _ _ _ _ _
    refine wpAny_pure ?_
    show wpAny _ _ (ret Value.none) _ _ _
    refine wpAny_pure ⟨rfl, h', tk', rfl, r, fun b o hb e => hm.heap b o ?_ (Heap.get?_push_of_some _ (Heap.get?_push_of_some _ e))⟩
    rw [Heap.size_push]
    simp only [List.mem_cons, List.not_mem_nil, or_false, not_or]
    exact ⟨Nat.ne_of_lt hb, Nat.ne_of_lt (Nat.lt_succ_of_lt hb)⟩
theorem set_tuple {l : Addr} {items : Array Value} {xs : List Str} {Q : Value → Shared → Prop} (hh : A.handled = none) (hl : s.heap.IsTuple l items) (hi : StrsAre items.toList xs) (few : xs.length < scanBound)
    (fin : ∀ (h' : Heap) (tk : Nat), SetTx w h' s.heap.objs.size (firsts [] xs) → (∀ b o, b < s.heap.objs.size → s.heap.get? b = some o → h'.get? b = some o) → Q (.ref s.heap.objs.size) { s with heap := h', toks := tk }) : wpAny (model P w) A (call (.type "set") [.ref l]) Q E s := by
  refine set_made (Z := fun s2 => ∃ h' tk, s2 = { s with heap := h', toks := tk } ∧ SetTx w h' s.heap.objs.size (firsts [] xs) ∧ ∀ b o, b < s.heap.objs.size → s.heap.get? b = some o → h'.get? b = some o) ?_ fun s2 ⟨h', tk, e, a, b⟩ => by rw [e]; exact fin h' tk a b
  have at_ : (s.heap.push (blankSet w)).get? s.heap.objs.size = some (blankSet w) := Heap.get?_push_size _ rfl
  have ty : Shared.TypeIs { s with heap := s.heap.push (blankSet w) } (.ref s.heap.objs.size) "set" := ⟨_, at_, rfl⟩
  have hl1 : (s.heap.push (blankSet w)).IsTuple l items := hl.push _
  have size : (s.heap.push (blankSet w)).objs.size = s.heap.objs.size + 1 := Heap.size_push ..
  obtain ⟨ol, hol, hcl, nl, hdl⟩ := hl
  have lt := Heap.lt_size hol
  obtain ⟨ocls, odict, odata, oslots⟩ := ol
  simp only at hcl hdl
  subst hcl
  subst hdl
  have hol' : (s.heap.push (blankSet w)).get? l = some { cls := .type "tuple", dict := odict, data := .seq items nl, slots := oslots } := Heap.get?_push_of_some _ hol
  have g1 := F.sub_tuple_set
  have g2 := F.sub_tuple_frozenset
  have g3 : (Value.type "tuple" == Value.type "dict") = false := by decide
  refine codeAny_call_builtin F.called_set.init.plain F.entry_set_init (check_set_init_1 ty ?_)
  unfold Builtin.«set.__init__» noKeywords Builtin.Frozenset.updateFrom
  generalize iter : pyIter = it0
  wp_walk
  subst iter
  refine wpAny_pyIter_tuple hl1 <| wpAny_bind <| wpAny_runValue ?_
  have n1 : l ≠ (s.heap.push (blankSet w)).objs.size := by
    rw [Heap.size_push]
    exact Nat.ne_of_lt (Nat.lt_succ_of_lt lt)
  have n2 : s.heap.objs.size ∉ [(s.heap.push (blankSet w)).objs.size, l] := by
    rw [Heap.size_push]
    simp only [List.mem_cons, List.not_mem_nil, or_false, not_or]
    exact ⟨Nat.ne_of_lt (Nat.lt_succ_self _), Nat.ne_of_gt lt⟩
  have sz : xs.length = items.size := by rw [← StrsAre.len_eq hi, Array.length_toList]
  refine update_tx ((Walks.tuple (by simp [hh]) _ l n1 items).toS) s.heap.objs.size n2 xs sz (fun i v hv => SS.strs_at hi i v (by rw [Array.getElem?_toList]; exact hv)) (items.size - 0) 0 _ [] (by omega) (Nat.zero_le _) ⟨⟨_, Heap.get?_push_size _ rfl, rfl, rfl⟩, hl1.push _⟩ ?_ (by rw [← sz]; simpa using few) fun s' hm r => ?_
  · exact (tx_fresh (h := s.heap) w).mv fun o e => Heap.get?_push_of_some _ e
  · obtain ⟨h', g', d', tk', os'⟩ := s'
    obtain rfl : g' = s.gens := hm.gens
    obtain rfl : d' = s.drawn := hm.drawn
    obtain rfl : os' = s.os := hm.os
    show wpAny _ _ _ _ _ _
    refine wpAny_pure ?_
    show wpAny _ _ (ret Value.none) _ _ _
    refine wpAny_pure ⟨rfl, h', tk', rfl, r, fun b o hb e => hm.heap b o ?_ (Heap.get?_push_of_some _ (Heap.get?_push_of_some _ e))⟩
    rw [Heap.size_push]
    simp only [List.mem_cons, List.not_mem_nil, or_false, not_or]
    exact ⟨Nat.ne_of_lt hb, Nat.ne_of_lt (Nat.lt_succ_of_lt hb)⟩
end
section
variable {X : Cx}
/-- set(xs), xs a list or a tuple of texts -/
def rSetX (K : PySem.W.Frag) (w : World) : List V → Hp → VK → Prop := fun vs H Q => ∃ (l : Addr) (xs : List Str), vs = [V.ref l] ∧ (SqL K H l (xs.map V.str) ∨ SqT K H l (xs.map V.str)) ∧ xs.length < scanBound ∧ ∀ p, H p = none → Q (.ref p) (upd H p (SetTO w p (firsts [] xs)))
theorem cr_setX (hc : X.calm = true) : CallR X (.type "set") (rSetX X.K X.w) := by
  intro pins s σ H vs us Q I r h
  obtain ⟨l, xs, rfl, hq, few, q⟩ := h
  rw [Vals.ref1 r]
  have hn : H s.heap.objs.size = none := I.hok.fresh (Nat.le_refl _)
  have fin : ∀ (h' : Heap) (tk : Nat), SetTx X.w h' s.heap.objs.size (firsts [] xs) → (∀ b o, b < s.heap.objs.size → s.heap.get? b = some o → h'.get? b = some o) → EP X pins σ Q (.ref s.heap.objs.size) { s with heap := h', toks := tk } := fun h' tk R k =>
    ⟨.ref s.heap.objs.size, upd H s.heap.objs.size (SetTO X.w s.heap.objs.size (firsts [] xs)), I.laid (t' := tk) (fun b o e => k b o (Heap.lt_size e) e) (Nat.le_refl _) (txo_new R), rfl, q _ hn⟩
  rcases hq with hq | hq
  · obtain ⟨its, rv, pl, hz⟩ := I.list hq
    exact set_list (I.ok.hd hc) pl.isList (by simpa using rv.strs) few fin
  · obtain ⟨its, rv, pl, hz⟩ := I.tuple hq
    exact set_tuple (I.ok.hd hc) pl (by simpa using rv.strs) few fin
/-- len of a set of texts -/
def rLenX (w : World) : List V → Hp → VK → Prop := fun vs H Q => ∃ (a : Addr) (L : List Str), vs = [V.ref a] ∧ H a = some (SetTO w a L) ∧ Q (.int L.length) H
theorem cr_lenX : CallR X (.builtin "len") (rLenX X.w) := by
  intro pins s σ H vs us Q I r h
  obtain ⟨a, L, rfl, ha, q⟩ := h
  rw [Vals.ref1 r]
  obtain ⟨o, es, ep, t, ho, hex, hd, T⟩ := txo_get I ha
  have hf : (es.size : Int) < 2 ^ 63 := by
    have h1 := T.bound
    have h2 : scanBound < 2 ^ 62 := by decide
    omega
  refine call_len_set ho hex hd T.fit hf ⟨.int L.length, H, I.tok _, ⟨_, by rw [T.size]⟩, q⟩
end
end OM

namespace OM
open PySem PySem.Spec PyProof.Rows L2
/-- found.extend(t), t a tuple -/
def rExtT (K : PySem.W.Frag) : V → List V → Hp → VK → Prop := fun x vs H Q => ∃ (l b : Addr) (xs zs : List V), x = .ref l ∧ vs = [.ref b] ∧ H l = some (.lst xs) ∧ SqT K H b zs ∧ xs.length + zs.length ≤ sizeLine ∧ Q .non (upd H l (.lst (xs ++ zs)))
theorem mt_extT {X : Cx} : MtM X "list.extend" (rExtT X.K) := by
  intro pins s σ H x vs v us Q I rx rv h
  obtain ⟨l, b, xs, zs, rfl, rfl, hH, hB, hz, q⟩ := h
  cases rx
  obtain ⟨u, rfl, ru⟩ := rv.one
  cases ru
  obtain ⟨z, its, n, r, hl, e⟩ := I.lstM hH
  obtain ⟨its2, r2, ⟨o, ho, hc, n2, hd⟩, z2⟩ := I.tuple hB
  have l1 := r.length
  have l2 := r2.length
  refine wpAny_call_entry F.slot_list_extend ⟨_, e, rfl⟩ F.entry_list_extend ?_ (F.args_list_extend_2 _ _)
  show wpAny _ _ (Builtin.List.listExtendWith (.ref l) (.ref b) .none) _ _ _
  unfold Builtin.List.listExtendWith
  refine wpAny_bind (wpAny_typeOf ⟨o, ho, hc⟩ ?_)
  have t1 : (Builtin.List.listSameRef (.ref l) (.ref b) || Value.type "tuple" == Value.type "list" || Value.type "tuple" == Value.type "tuple") = true := by simp
  simp only [t1, if_true]
  refine wpAny_bind ?_
  unfold Builtin.List.listItems
  refine wpAny_bind (wpAny_seqItems ho hd (wpAny_pure ?_))
  refine wpAny_bind ?_
  refine wpAny_bind (wpAny_seqItems e rfl (wpAny_pure ?_))
  have long : (!its.toArray.isEmpty && Builtin.List.listTooLong (its.toArray.size + its2.toArray.size)) = false := by
    rw [notLongL (by rw [List.size_toArray, List.size_toArray]; omega), Bool.and_false]
  simp only [long, Bool.false_eq_true, if_false]
  show wpAny _ _ (updateSeq l (· ++ its2.toArray) >>= fun _ => ret Value.none) _ _ _
  refine wpAny_bind (wpAny_updateSeq e rfl (wpAny_pure ⟨_, rfl, .non, _, I.lset (its' := its ++ its2) hH e (by simp) (r.append r2) ?_, rfl, q⟩))
  rw [List.length_append]
  omega
theorem maxOf_spec : ∀ (ys : List Int) (y : Int), PySem.W.maxOf y ys ∈ y :: ys ∧ ∀ z ∈ y :: ys, z ≤ PySem.W.maxOf y ys
  | [], y => ⟨List.mem_cons_self, fun z h => by
      rw [List.mem_singleton.mp h]
      exact Int.le_refl _⟩
  | a :: r, y => by
    obtain ⟨h1, h2⟩ := maxOf_spec r (if decide (y < a) = true then a else y)
    have e : PySem.W.maxOf y (a :: r) = PySem.W.maxOf (if decide (y < a) = true then a else y) r := rfl
    rw [e]
    have h3 := h2 _ List.mem_cons_self
    constructor
    · rcases List.mem_cons.mp h1 with z | z
      · rw [z]
        split
        · exact List.mem_cons_of_mem _ List.mem_cons_self
        · exact List.mem_cons_self
      · exact List.mem_cons_of_mem _ (List.mem_cons_of_mem _ z)
    · intro z hz
      have ya : y ≤ (if decide (y < a) = true then a else y) ∧ a ≤ (if decide (y < a) = true then a else y) := by
        split
        · rename_i h
          have := of_decide_eq_true h
          omega
        · rename_i h
          have : ¬ y < a := fun z => h (decide_eq_true z)
          omega
      rcases List.mem_cons.mp hz with q | q
      · rw [q]
        omega
      · rcases List.mem_cons.mp q with q | q
        · rw [q]
          omega
        · exact h2 z (List.mem_cons_of_mem _ q)
theorem hold_ints {h : Heap} : ∀ {vs : List Value} {ns : List Int}, IntsAre vs ns → PySem.W.HoldAll h vs ns
  | _, _, .nil => PySem.W.HoldAll.nil
  | _, _, .cons n t r => PySem.W.HoldAll.cons ⟨_, .int _ _⟩ (hold_ints r)
/-- max(xs, default=d), ints -/
def rMaxDef (K : PySem.W.Frag) : List V → List V → Hp → VK → Prop := fun vs zs H Q => ∃ (a : Addr) (ns : List Int) (d : Int), vs = [.ref a] ∧ zs = [.int d] ∧ SqL K H a (ns.map V.int) ∧ (ns = [] → Q (.int d) H) ∧ ∀ m, m ∈ ns → (∀ y ∈ ns, y ≤ m) → Q (.int m) H
theorem cr_maxDef {X : Cx} (hc : X.calm = true) (hu : X.A.units + 1 < cLine) : CallRK X (.builtin "max") ["default"] (rMaxDef X.K) := by
  intro pins s σ H xs zs us ws Q I rx rz h
  obtain ⟨a, ns, d, rfl, rfl, hs, q0, q1⟩ := h
  obtain ⟨u, rfl, ru⟩ := rz.one
  obtain ⟨tk, rfl⟩ := ru
  rw [Vals.ref1 rx]
  obtain ⟨its, r, pl, _⟩ := I.list hs
  have hi : IntsAre its ns := by simpa using r.ints
  refine PySem.W.max_list_datum_default (α := Int) (xs := ns) (I.ok.hd hc) pl.isList (by simpa using hold_ints hi) hu (fun e h' tk k => ⟨.int d, H, I.kept k, ⟨_, rfl⟩, q0 e⟩) fun y ys i v h' tk e hv hh k => ?_
  subst e
  obtain ⟨m1, m2⟩ := maxOf_spec ys y
  obtain ⟨as, hr⟩ := hh
  refine ⟨.int (PySem.W.maxOf y ys), H, I.kept k, ?_, q1 _ m1 m2⟩
  have hr : Reads h' v (.int (PySem.W.maxOf y ys)) as := hr
  cases hr
  exact ⟨_, rfl⟩
/-! ### statements, one behind the other -/
def inner2 : PyData → List (List PyData)
  | .tuple [.str w, _, _, .tuple ys, .tuple ns] => if w = "if" then [ys, ns] else []
  | _ => []
/-- a statement and those in it -/
def flatS : Nat → PyData → List PyData
  | 0, d => [d]
  | n + 1, d => d :: (inner2 d).flatMap fun c => c.flatMap (flatS n)
def flatN (n : Nat) (ds : List PyData) : List PyData := ds.flatMap (flatS n)
/-- what code at depth n holds of a row -/
theorem rowD_shape {cd : PyData → Bool} {d : PyData} (h : rowD cd d = true) : ∃ (w : Str) (rest : List PyData) (rs : List Str), d = .tuple (.str w :: rest) ∧ formOf w = some rs ∧ rest.length = rs.length ∧ (List.zipWith (fitD cd) rest rs).all id = true := by
  unfold rowD at h
  split at h
  · rename_i w rest
    split at h
    · rename_i rs e
      obtain ⟨h1, h2⟩ := Bool.and_eq_true_iff.mp h
      exact ⟨w, rest, rs, rfl, e, of_decide_eq_true h1, h2⟩
    · cases h
  · cases h
theorem code_tup {n : Nat} {d : PyData} (h : codeD n d = true) : ∃ ds, d = .tuple ds ∧ ds.all (rowD (cdOf n)) = true := by
  cases d with
  | tuple ds => exact ⟨ds, rfl, by rw [← codeD_tup]; exact h⟩
  | _ => cases n <;> cases h
theorem cdOf_tup {n : Nat} {d : PyData} (h : cdOf n d = true) : ∃ m ds, n = m + 1 ∧ d = .tuple ds ∧ ds.all (rowD (cdOf m)) = true := by
  cases n with
  | zero => cases h
  | succ m =>
    obtain ⟨ds, e, q⟩ := code_tup (n := m) h
    exact ⟨m, ds, rfl, e, q⟩
/-- an if: five parts, two of them code; else no inner code -/
theorem row_iff {n : Nat} {d : PyData} (h : rowD (cdOf n) d = true) : (∃ m p r ys ns, n = m + 1 ∧ d = .tuple [.str "if", p, r, .tuple ys, .tuple ns] ∧ ys.all (rowD (cdOf m)) = true ∧ ns.all (rowD (cdOf m)) = true ∧ isNameD p = true ∧ isNameD r = true) ∨ (∃ w rest, d = .tuple (.str w :: rest) ∧ w ≠ "if" ∧ inner2 d = []) := by
  obtain ⟨w, rest, rs, rfl, e, l, z⟩ := rowD_shape h
  by_cases hw : w = "if"
  · subst hw
    have e4 : formOf "if" = some (["test", "register", "code", "code"] : List Str) := by decide +kernel
    rw [e4] at e
    obtain rfl := (Option.some.inj e).symm
    match rest, l with
    | [p, r, y, x], _ =>
      rw [row_if] at h
      simp only [Bool.and_eq_true, and_true] at h
      obtain ⟨h1, h2, h3, h4⟩ := h
      obtain ⟨m, ys, e1, rfl, q1⟩ := cdOf_tup h3
      obtain ⟨m', ns, e2, rfl, q2⟩ := cdOf_tup h4
      obtain rfl : m = m' := by omega
      exact .inl ⟨m, p, r, ys, ns, e1, rfl, q1, q2, h1, h2⟩
  · refine .inr ⟨w, rest, rfl, hw, ?_⟩
    unfold inner2
    split
    · rename_i w' _ _ _ _ e'
      have : w = w' := by
        injection e' with e'
        injection e' with e' _
        injection e'
      subst this
      exact if_neg hw
    · rfl
end OM

namespace OM
open PySem PySem.Spec PyProof.Rows L2
abbrev sFlat : Stmt := top 29
abbrev sCin : Stmt := top 30
/-- a row as objects: its word first -/
theorem Dt.row {S : Addr → Prop} {H : Hp} {v : V} {w : Str} {rest : List PyData} (h : Dt S H v (.tuple (.str w :: rest))) : ∃ a xr, v = .ref a ∧ H a = some (.tup (.str w :: xr)) ∧ xr.length + 1 ≤ 1000 ∧ DtAll S H xr rest := by
  obtain ⟨a, xs, rfl, ea, hl, hx⟩ := h.tup_of
  cases hx with
  | @cons x0 _ xr _ h0 hr =>
    obtain rfl : x0 = .str w := by
      cases h0 with
      | «at» a => cases a <;> rfl
    exact ⟨a, xr, rfl, ea, hl, hr⟩
def spCin : Sp := fun vs H Q _ => ∃ (S : Addr → Prop) (v : V) (d : PyData) (n : Nat), vs = [v] ∧ Dt S H v d ∧ rowD (cdOf n) d = true ∧ ∀ H' p xs, Same H H' → H p = none → H' p = some (.tup xs) → DtAll S H' xs ((inner2 d).map PyData.tuple) → Q (.ref p) H'
def spFlatAt : Nat → Sp
  | 0 => fun _ _ _ _ => False
  | n + 1 => fun vs H Q _ => ∃ (S : Addr → Prop) (v : V) (ds : List PyData), vs = [v] ∧ Dt S H v (.tuple ds) ∧ ds.all (rowD (cdOf n)) = true ∧ (flatN n ds).length ≤ 500 ∧ ∀ H' p xs, Same H H' → H p = none → H' p = some (.lst xs) → DtAll S H' xs (flatN n ds) → Q (.ref p) H'
theorem cut53 {a b c d e : V} : cutV [a, b, c, d, e] (some 3) none = [d, e] := rfl
theorem DtAll.app {S : Addr → Prop} {H : Hp} : ∀ {xs ys : List V} {ds es : List PyData}, DtAll S H xs ds → DtAll S H ys es → DtAll S H (xs ++ ys) (ds ++ es)
  | _, _, _, _, .nil, k => k
  | _, _, _, _, .cons h r, k => .cons h (DtAll.app r k)
/-- objects of H stay, whatever comes beside them -/
theorem DtAll.base {S : Addr → Prop} {H H1 H2 : Hp} (live : ∀ a, S a → H a ≠ none) (s1 : Same H H1) (s2 : Same H H2) {xs : List V} {ds : List PyData} (h : DtAll S H1 xs ds) : DtAll S H2 xs ds := by
  refine h.mv (fun _ z => z) fun a o s e => ?_
  cases y : H a with
  | none => exact absurd y (live a s)
  | some u =>
    have := s1 a u y
    rw [e] at this
    obtain rfl := (Option.some.inj this).symm
    exact s2 a _ y
theorem Dt.base {S : Addr → Prop} {H H1 H2 : Hp} (live : ∀ a, S a → H a ≠ none) (s1 : Same H H1) (s2 : Same H H2) {x : V} {d : PyData} (h : Dt S H1 x d) : Dt S H2 x d := by
  cases DtAll.base live s1 s2 (.cons h .nil) with
  | cons h _ => exact h
theorem Dt.live {S : Addr → Prop} {H : Hp} {x : V} {d : PyData} (h : Dt S H x d) : Dt (fun a => S a ∧ H a ≠ none) H x d := h.strong fun a o s e => ⟨⟨s, by rw [e]; exact fun z => nomatch z⟩, e⟩
theorem flat_take {n i : Nat} {d : PyData} {ds : List PyData} (h : ds[i]? = some d) : flatN n (ds.take (i + 1)) = flatN n (ds.take i) ++ flatS n d := by
  unfold flatN
  rw [List.take_add_one, h, List.flatMap_append]
  simp
theorem flat_le {n i : Nat} {ds : List PyData} : (flatN n (ds.take i)).length ≤ (flatN n ds).length := by
  unfold flatN
  conv => rhs; rw [← List.take_append_drop i ds, List.flatMap_append, List.length_append]
  exact Nat.le_add_right _ _
theorem part_le {α β : Type} {f : α → List β} {l : List α} {x : α} (h : x ∈ l) : (f x).length ≤ (l.flatMap f).length := by
  obtain ⟨s, t, rfl⟩ := List.append_of_mem h
  rw [List.flatMap_append, List.flatMap_cons, List.length_append, List.length_append]
  omega
theorem row_in {n : Nat} {d : PyData} {cd : List PyData} (row : rowD (cdOf n) d = true) (h : cd ∈ inner2 d) : ∃ m, n = m + 1 ∧ cd.all (rowD (cdOf m)) = true ∧ flatS n d = d :: (inner2 d).flatMap (flatN m) := by
  rcases row_iff row with ⟨m, p, r, ys, ns, rfl, rfl, hy, hn, _, _⟩ | ⟨_, _, _, _, e⟩
  · refine ⟨m, rfl, ?_, rfl⟩
    have e : inner2 (.tuple [.str "if", p, r, .tuple ys, .tuple ns]) = [ys, ns] := rfl
    rw [e] at h
    rcases List.mem_cons.mp h with z | z
    · rw [z]; exact hy
    · rw [List.mem_singleton.mp z]; exact hn
  · rw [e] at h
    cases h
theorem flatS_row {n : Nat} {d : PyData} (row : rowD (cdOf n) d = true) : flatS n d = d :: (inner2 d).flatMap (flatN (n - 1)) := by
  cases n with
  | succ m => rfl
  | zero =>
    rcases row_iff row with ⟨m, _, _, _, _, e, _⟩ | ⟨_, _, _, _, e⟩
    · cases e
    · rw [e]
      rfl
section
variable {P : Program} {w : World} {K : PySem.W.Frag} {mg : Str → Option Value} {base : Heap} {f fC : Addr} {fd dC : FuncData}
theorem scCin : FnScope ["statement"] ["statement"] (defScope sCin) := ⟨rfl, rfl, rfl, by decide +kernel, rfl, by decide +kernel, by decide +kernel⟩
theorem ok_cin (F : Fun K "codes_in" "codes_in" sCin f fd) : FnOk P w K mg base CX0 1 f fd ["statement"] spCin := by
  refine F.ok scCin (fun vs H Q E h => ?_) (fun cdv A outer s H vs Q E hr h => ?_)
  · obtain ⟨S, v, d, n, rfl, _⟩ := h
    rfl
  · obtain ⟨S, v, d, n, rfl, hd, row, q⟩ := h
    refine ⟨_, pss_one (ps_ret (pe_ifExp (pt_cmpR op_eq (pe_ix ix_tup (pv 0) pe_int (fun _ _ => rfl)) pe_str (nomark _)) (pe_slice sl_tupA (pv 0) (po_some pe_int) po_none) (pe_tup pa_nil))), ?_⟩
    rcases row_iff row with ⟨m, p, r, ys, ns, _, rfl, hy, hn, _, _⟩ | ⟨wd, rest, rfl, ne, e0⟩
    · obtain ⟨a, xr, rfl, ea, hl, hx⟩ := hd.row
      refine ⟨_, rfl, a, _, 0, _, rfl, rfl, SqT.of ea, at0, rfl, _, rfl, iteT ?_⟩
      cases hx with
      | @cons x1 _ _ _ h1 hx =>
        cases hx with
        | @cons x2 _ _ _ h2 hx =>
          cases hx with
          | @cons x3 _ _ _ h3 hx =>
            cases hx with
            | @cons x4 _ _ _ h4 hx =>
              cases hx
              refine ⟨_, rfl, 3, rfl, a, _, rfl, SqT.of ea, fun hw => absurd hw.1 (by show ¬ (HT.sIx 5 0 (some 3) = 0); decide), fun _ pc hpc => ?_⟩
              rw [cut53]
              have s := same_upd (o := .tup [x3, x4]) hpc
              refine q _ pc _ s hpc upd_same ?_
              exact .cons (h3.mv (fun _ z => z) fun b o _ e => s b o e) (.cons (h4.mv (fun _ z => z) fun b o _ e => s b o e) .nil)
    · obtain ⟨a, xr, rfl, ea, hl, hx⟩ := hd.row
      refine ⟨_, rfl, a, _, 0, _, rfl, rfl, SqT.of ea, at0, rfl, _, rfl, ?_⟩
      have hne : decide (V.str wd = V.str "if") = false := decide_eq_false fun z => ne (V.str.inj z)
      rw [hne]
      refine iteF ⟨(by show 0 ≤ sizeLine; decide), fun p hp => q _ p [] (same_upd hp) hp upd_same ?_⟩
      rw [e0]
      exact .nil
theorem scFl : FnScope ["code", "found", "statement", "inner"] ["code"] (defScope sFlat) := ⟨rfl, rfl, rfl, by decide +kernel, rfl, by decide +kernel, by decide +kernel⟩
theorem flat_step {n : Nat} (F : Fun K "flattened" "flattened" sFlat f fd) (gF : mg "flattened" = some (.ref f)) (bF : Binds K fd ["code"] []) (G : FnOk P w K mg base CX0 (n + 1) f fd ["code"] (spFlatAt n))
    (FC : Fun K "codes_in" "codes_in" sCin fC dC) (gC : mg "codes_in" = some (.ref fC)) (bC : Binds K dC ["statement"] []) : FnOk P w K mg base CX0 (n + 2) f fd ["code"] (spFlatAt (n + 1)) := by
  have GC : FnOk P w K mg base CX0 1 fC dC ["statement"] spCin := ok_cin FC
  refine F.ok scFl (fun vs H Q E h => ?_) (fun cdv A outer s H vs Q E hr h => ?_)
  · obtain ⟨S, v, ds, rfl, _⟩ := h
    rfl
  · obtain ⟨S, v, ds, rfl, hd, rows, size, q⟩ := h
    refine ⟨_, pss_cons (ps_set (i := 1) scFl.nd rfl (Or.inl rfl) (pe_lst pa_nil))
      (pss_cons (ps_for PassesOwn.never rfl (pi_tup (pv 0)) (pg_name (i := 2) scFl.nd rfl (Or.inl rfl))
        (pss_cons (ps_expr (pe_bm PySem.F.plainAttrs_list PySem.F.slot_list_append PySem.F.type_list_append mt_append (pv 1) (pa_cons (pv 2) pa_nil)))
        (pss_one (ps_for PassesOwn.never rfl (pi_tup (pe_call GC (hr.mono (by omega)) (by rfl) gC FC.kp bC .nil pass0 (pa_cons (pv 2) pa_nil))) (pg_name (i := 3) scFl.nd rfl (Or.inl rfl))
          (pss_one (ps_expr (pe_bm PySem.F.plainAttrs_list PySem.F.slot_list_extend PySem.F.type_list_extend mt_extend (pv 1) (pa_cons (pe_call G hr (by rfl) gF F.kp bF .nil pass0 (pa_cons (pv 3) pa_nil)) pa_nil))))))))
      (pss_one (ps_ret (pv 1)))), ?_⟩
    obtain ⟨a, xs, rfl, ea, hl, hx⟩ := hd.live.tup_of
    refine ⟨(by show 0 ≤ sizeLine; decide), fun p hp => ?_⟩
    have s0 := same_upd (o := .lst []) hp
    have live : ∀ b, (S b ∧ H b ≠ none) → H b ≠ none := fun b z => z.2
    refine ⟨_, rfl, a, rfl, ⟨xs, SqT.of (s0 _ _ ea)⟩, for_tup (fun i σ H' => (∃ x2 x3, σ = [some (.ref a), some (.ref p), x2, x3]) ∧ Same H H' ∧ ∃ acc, H' p = some (.lst acc) ∧ DtAll (fun b => S b ∧ H b ≠ none) H' acc (flatN n (ds.take i)))
      ⟨⟨_, _, rfl⟩, s0, [], upd_same, .nil⟩ (fun i σ H' _ h => SqT.of (h.2.1 _ _ ea)) (fun i x σ H' hi h => ?_) (fun σ H' h => ?_)⟩
    · obtain ⟨⟨x2, x3, rfl⟩, s1, acc, ep, da⟩ := h
      obtain ⟨d, hdi, hdt⟩ := hx.get hi
      have row : rowD (cdOf n) d = true := List.all_eq_true.mp rows d (List.mem_of_getElem? hdi)
      have la := da.length
      have le1 : (flatN n (ds.take (i + 1))).length ≤ 500 := Nat.le_trans flat_le size
      rw [flat_take hdi, List.length_append] at le1
      have line : (1000 : Nat) < sizeLine := by decide
      refine ⟨_, rfl, .inl ⟨rfl, acc, SqL.of ep⟩, _, rfl, p, acc, x, rfl, rfl, ep, by omega, ?_⟩
      have s2 : Same H (upd H' p (.lst (acc ++ [x]))) := same_put hp s1
      refine ⟨_, rfl, _, x, d, n, rfl, hdt.base live (Same.refl H) s2, row, fun H3 pc cs s3 hpc epc dc => ⟨pc, rfl, ⟨cs, SqT.of epc⟩, ?_⟩⟩
      have s13 : Same H H3 := s2.trans s3
      have ep3 := s3 _ _ (upd_same (H := H') (a := p))
      rw [flatS_row row, List.length_cons] at le1
      refine for_tup (fun j σ' H4 => (∃ y3, σ' = [some (.ref a), some (.ref p), some x, y3]) ∧ Same H H4 ∧ H4 pc = some (.tup cs) ∧ ∃ acc, H4 p = some (.lst acc) ∧ DtAll (fun b => S b ∧ H b ≠ none) H4 acc (flatN n (ds.take i) ++ d :: ((inner2 d).take j).flatMap (flatN (n - 1))))
        ⟨⟨_, rfl⟩, s13, epc, _, ep3, ?_⟩ (fun j σ' H4 _ h => SqT.of h.2.2.1) (fun j c σ' H4 hj h => ?_) (fun σ' H4 h => ?_)
      · have e : flatN n (ds.take i) ++ d :: ((inner2 d).take 0).flatMap (flatN (n - 1)) = flatN n (ds.take i) ++ [d] := rfl
        rw [e]
        exact (da.base live s1 s13).snoc (hdt.base live (Same.refl H) s13)
      · obtain ⟨⟨y3, rfl⟩, s4, epc4, acc4, ep4, da4⟩ := h
        obtain ⟨cdt, hcd, hct⟩ := dc.get hj
        rw [List.getElem?_map] at hcd
        obtain ⟨cd, hc2, rfl⟩ := Option.map_eq_some_iff.mp hcd
        have hin := List.mem_of_getElem? hc2
        obtain ⟨m, rfl, rows', _⟩ := row_in row hin
        have le2 : (flatN m cd).length ≤ ((inner2 d).flatMap (flatN m)).length := part_le hin
        have le3 : ((inner2 d).take (j + 1)).flatMap (flatN m) = ((inner2 d).take j).flatMap (flatN m) ++ flatN m cd := by
          rw [List.take_add_one, hc2, List.flatMap_append]
          simp
        have le4 : (((inner2 d).take (j + 1)).flatMap (flatN m)).length ≤ ((inner2 d).flatMap (flatN m)).length := by
          conv => rhs; rw [← List.take_append_drop (j + 1) (inner2 d), List.flatMap_append, List.length_append]
          exact Nat.le_add_right _ _
        rw [le3, List.length_append] at le4
        have la4 := da4.length
        have m1 : m + 1 - 1 = m := rfl
        rw [m1] at la4 le1
        rw [List.length_append, List.length_cons] at la4
        refine ⟨_, rfl, .inl ⟨rfl, acc4, SqL.of ep4⟩, _, rfl, _, c, cd, rfl, hct.base live s13 s4, rows', by omega, fun H5 p5 xs5 s5 hp5 e5 d5 => ?_⟩
        have s15 := s4.trans s5
        have ep5 := s5 _ _ ep4
        have la5 := d5.length
        refine ⟨p, p5, acc4, xs5, rfl, rfl, ep5, e5, by omega, ⟨_, rfl⟩, same_put hp s15, ?_, acc4 ++ xs5, upd_same, ?_⟩
        · rw [upd_ne (fun z => by rw [z, ep4] at epc4; cases epc4)]
          exact s5 _ _ epc4
        · rw [m1, le3, ← List.cons_append, ← List.append_assoc]
          exact (da4.base live s4 (same_put hp s15)).app (d5.base live s15 (same_put hp s15))
      · obtain ⟨⟨y3, rfl⟩, s4, epc4, acc4, ep4, da4⟩ := h
        refine ⟨⟨_, _, rfl⟩, s4, acc4, ep4, ?_⟩
        have lc := dc.length
        rw [List.length_map] at lc
        rw [flat_take hdi, flatS_row row]
        rw [lc, List.take_length] at da4
        exact da4
    · obtain ⟨⟨x2, x3, rfl⟩, s1, acc, ep, da⟩ := h
      rw [hx.length, List.take_length] at da
      exact ⟨_, rfl, q _ p acc s1 hp ep (da.mv (fun _ z => z.1) fun _ _ _ z => z)⟩
end
end OM

namespace OM
open PySem PySem.Spec PyProof.Rows L2
abbrev sNamesIn : Stmt := top 31
abbrev sNamesOf : Stmt := top 32
def roles4 : List Str := ["cell", "register", "function", "test"]
def strD : PyData → Str
  | .str x => x
  | _ => ""
def strsD : PyData → List Str
  | .tuple ds => ds.map strD
  | _ => []
def nmD (role : Str) (part : PyData) (known : Str) : List Str := if known = role then [strD part] else if known = "registers" ∧ role = "register" then strsD part else []
/-- the names that a statement itself has in a role -/
def namesD (role : Str) : PyData → List Str
  | .tuple (.str w :: rest) => match formOf w with
    | some rs => (List.zipWith (nmD role) rest rs).flatten
    | none => []
  | _ => []
theorem dt_names {S : Addr → Prop} {H : Hp} : ∀ {xs : List V} {ds : List PyData}, DtAll S H xs ds → ds.all isNameD = true → xs = (ds.map strD).map V.str
  | _, _, .nil, _ => rfl
  | _, _, .cons h r, e => by
    rw [List.all_cons, Bool.and_eq_true] at e
    have q := dt_names r e.2
    cases h with
    | «at» a =>
      cases a with
      | str x =>
        rw [q]
        rfl
      | _ => cases e.1
    | _ => cases e.1
/-- for a, b in zip of two tuples -/
theorem for_zipT {K : PySem.W.Frag} {a b : Addr} {xs ys : List V} {g : TG} {tb : TS} {D : Ends} {σ : L2.St} {H : Hp} (hlen : xs.length = ys.length) (Pv : Nat → L2.St → Hp → Prop) (h0 : Pv 0 σ H) (hl : ∀ i σ H, Pv i σ H → SqT K H a xs ∧ SqT K H b ys)
    (hs : ∀ i x y T σ H, xs[i]? = some x → ys[i]? = some y → Pv i σ H → H T = none → g (.ref T) σ (upd H T (.tup [x, y])) fun σ2 H2 => tb { D with nx := Pv (i + 1), ct := Pv (i + 1), bk := D.nx } σ2 H2) (hd : ∀ σ H, Pv xs.length σ H → D.nx σ H) :
    ∃ W : Nat → Nat → L2.St → Hp → Prop, (∃ m, W 0 m σ H) ∧ ∀ i m σ H, W i m σ H → ((RZ.ItzT K a b).stop i H ∧ D.nx σ H) ∨ ((RZ.ItzT K a b).go i H ∧ ∃ N : L2.St → Hp → Prop, (∀ σ' H', N σ' H' → ∃ m', m' < m ∧ W (i + 1) m' σ' H') ∧ ∀ x H', (RZ.ItzT K a b).yld i H x H' → g x σ H' fun σ2 H2 => tb { D with nx := N, ct := N, bk := D.nx } σ2 H2) := by
  refine ⟨fun i m σ H => i ≤ xs.length ∧ m = xs.length - i ∧ Pv i σ H, ⟨_, Nat.zero_le _, rfl, h0⟩, ?_⟩
  rintro i m σ H ⟨hi, rfl, p⟩
  obtain ⟨qx, qy⟩ := hl i σ H p
  rcases Nat.lt_or_ge i xs.length with hlt | hge
  · have hx : xs[i]? = some xs[i] := List.getElem?_eq_getElem hlt
    have hy : ys[i]? = some (ys[i]'(by omega)) := List.getElem?_eq_getElem (by omega)
    refine .inr ⟨⟨xs, ys, _, _, qx, qy, hx, hy⟩, Pv (i + 1), fun σ' H' p' => ⟨xs.length - (i + 1), by omega, hlt, rfl, p'⟩, ?_⟩
    rintro v H' ⟨T, x', y', rfl, hT, rfl, f1, f2⟩
    exact hs i x' y' T σ H (f1 xs qx) (f2 ys qy) p hT
  · obtain rfl : i = xs.length := by omega
    exact .inl ⟨⟨xs, ys, qx, qy, .inl (Nat.le_refl _)⟩, hd σ H p⟩
def spNamesOf : Sp := fun vs H Q _ => ∃ (S : Addr → Prop) (v : V) (d : PyData) (n : Nat) (role : Str), vs = [v, .str role] ∧ role ∈ roles4 ∧ Dt S H v d ∧ rowD (cdOf n) d = true ∧ ∀ H' p, Same H H' → H p = none → H' p = some (.lst ((namesD role d).map V.str)) → (namesD role d).length ≤ 8 → Q (.ref p) H'
theorem role_part {n : Nat} {part : PyData} {known role : Str} (h : fitD (cdOf n) part known = true) (hr : role ∈ roles4) (e : known = role) : isNameD part = true := by
  subst e
  have n1 : known ≠ "code" := fun z => by rw [z] at hr; exact absurd hr (by decide +kernel)
  have n2 : known ≠ "registers" := fun z => by rw [z] at hr; exact absurd hr (by decide +kernel)
  unfold fitD at h
  rw [if_neg n1, if_neg n2] at h
  exact h
theorem role_args {n : Nat} {part : PyData} {known : Str} (h : fitD (cdOf n) part known = true) (e : known = "registers") : argsD part = true := by
  subst e
  unfold fitD at h
  rw [if_neg (by decide +kernel), if_pos rfl] at h
  exact h
theorem nm_few {n : Nat} {part : PyData} {known role : Str} (h : fitD (cdOf n) part known = true) : (nmD role part known).length ≤ 2 := by
  unfold nmD
  split
  · exact Nat.le_succ _
  · split
    · rename_i z
      have q := role_args h z.1
      cases part with
      | tuple ds =>
        have q : (decide (ds.length ≤ 2) && ds.all isNameD) = true := q
        have := of_decide_eq_true (Bool.and_eq_true_iff.mp q).1
        show (ds.map strD).length ≤ 2
        rw [List.length_map]
        exact this
      | _ => cases q
    · exact Nat.zero_le _
theorem flat_few {α : Type} : ∀ {l : List (List α)} {k : Nat}, (∀ x ∈ l, x.length ≤ k) → l.flatten.length ≤ k * l.length
  | [], _, _ => Nat.zero_le _
  | x :: r, k, h => by
    have h1 := h x List.mem_cons_self
    have h2 := flat_few (l := r) fun y hy => h y (List.mem_cons_of_mem _ hy)
    rw [List.flatten_cons, List.length_append, List.length_cons, Nat.mul_succ]
    omega
section
variable {P : Program} {w : World} {K : PySem.W.Frag} {mg : Str → Option Value} {base : Heap} {f fC : Addr} {fd dC : FuncData}
theorem scNO : FnScope ["statement", "role", "found", "part", "known"] ["statement", "role"] (defScope sNamesOf) := ⟨rfl, rfl, rfl, by decide +kernel, rfl, by decide +kernel, by decide +kernel⟩
theorem ok_namesof (F : Fun K "_names_of" "_names_of" sNamesOf f fd) (TF : TxtF K w mg) : FnOk P w K mg base CX0 1 f fd ["statement", "role"] spNamesOf := by
  refine F.ok scNO (fun vs H Q E h => ?_) (fun cdv A outer s H vs Q E hr h => ?_)
  · obtain ⟨S, v, d, n, role, rfl, _⟩ := h
    rfl
  · obtain ⟨S, v, d, n, role, rfl, hrole, hd, row, q⟩ := h
    obtain ⟨fa, es, nn, gM, KD, hno, _, hyes⟩ := TF.forms
    refine ⟨_, pss_cons (ps_set (i := 2) scNO.nd rfl (Or.inl rfl) (pe_lst pa_nil))
      (pss_cons (ps_for PassesOwn.never rfl (RZ.pi_zipA (by rfl) TF.zip (pa_cons (pe_slice sl_tupA (pv 0) (po_some pe_int) po_none) (pa_cons (pe_ix ix_kdict (pe_glob (v := .ref fa) (by rfl) gM rfl) (pe_ix ix_tup (pv 0) pe_int (fun _ _ => rfl)) (fun _ _ => rfl)) pa_nil)))
          (pg_tup rfl (pgs_cons (pg_name (i := 3) scNO.nd rfl (Or.inl rfl)) (pgs_cons (pg_name (i := 4) scNO.nd rfl (Or.inl rfl)) pgs_nil)))
        (pss_one (ps_if (pt_cmpR op_eq (pv 4) (pv 1) (nomark _)) (pss_one (ps_expr (pe_bm PySem.F.plainAttrs_list PySem.F.slot_list_append PySem.F.type_list_append mt_append (pv 2) (pa_cons (pv 3) pa_nil))))
          (pss_one (ps_if (PW.pt (pw_and (pt_cmpR op_eq (pv 4) pe_str (nomark _)) (pw_and1 (pt_cmpR op_eq (pv 1) pe_str (nomark _))))) (pss_one (ps_expr (pe_bm PySem.F.plainAttrs_list PySem.F.slot_list_extend PySem.F.type_list_extend mt_extT (pv 2) (pa_cons (pv 3) pa_nil)))) pss_nil)))))
      (pss_one (ps_ret (pv 2)))), ?_⟩
    obtain ⟨w0, rest, rs, rfl, hf, hlen, fits⟩ := rowD_shape row
    obtain ⟨a, xr, rfl, ea, hl, hx⟩ := hd.row
    obtain ⟨pf, hnf, hsf⟩ := hyes w0 rs hf
    have eL : namesD role (.tuple (.str w0 :: rest)) = (List.zipWith (nmD role) rest rs).flatten := by
      show (match formOf w0 with | some rs => (List.zipWith (nmD role) rest rs).flatten | none => []) = _
      rw [hf]
    rw [eL] at q
    have xl := hx.length
    have rl := form_len hf
    have each : ∀ {i : Nat} {part : PyData} {r0 : Str}, rest[i]? = some part → rs[i]? = some r0 → fitD (cdOf n) part r0 = true := fun {i part r0} h1 h2 => by
      have e : (List.zipWith (fitD (cdOf n)) rest rs)[i]? = some (fitD (cdOf n) part r0) := by rw [List.getElem?_zipWith, h1, h2]
      exact List.all_eq_true.mp fits _ (List.mem_of_getElem? e)
    have few : (List.zipWith (nmD role) rest rs).flatten.length ≤ 8 := by
      refine Nat.le_trans (flat_few (k := 2) fun x hx => ?_) ?_
      · obtain ⟨i, hi⟩ := List.getElem?_of_mem hx
        rw [List.getElem?_zipWith] at hi
        cases h1 : rest[i]? with
        | none => rw [h1] at hi; cases hi
        | some part =>
          cases h2 : rs[i]? with
          | none => rw [h1, h2] at hi; cases hi
          | some r0 =>
            rw [h1, h2] at hi
            rw [← Option.some.inj hi]
            exact nm_few (each h1 h2)
      · rw [List.length_zipWith]
        omega
    generalize eLL : List.zipWith (nmD role) rest rs = L at q few eL
    refine ⟨(by show 0 ≤ sizeLine; decide), fun p hp => ?_⟩
    have s0 := same_upd (o := .lst []) hp
    refine ⟨_, rfl, 1, rfl, a, _, rfl, SqT.of (s0 _ _ ea), fun hw => absurd hw cut_part, fun _ pc hpc => ?_⟩
    rw [cut_tail]
    have s1 := s0.trans (same_upd (o := .tup xr) hpc)
    have ppc : p ≠ pc := fun z => by
      rw [← z, upd_same] at hpc
      cases hpc
    refine ⟨_, rfl, a, _, 0, _, rfl, rfl, SqT.of (s1 _ _ ea), at0, fa, w0, .ref pf, rfl, rfl, ⟨es, nn, _, KD.at_, KD.lit, hnf, rfl⟩, ?_⟩
    refine ⟨pc, pf, xr, rs.map V.str, rfl, .inr ⟨SqT.of upd_same, hsf _, for_zipT (by rw [List.length_map]; omega) (fun i σ G => (∃ x3 x4, σ = [some (.ref a), some (.str role), some (.ref p), x3, x4]) ∧ Same H G ∧ G pc = some (.tup xr) ∧ G p = some (.lst ((L.take i).flatten.map V.str)))
      ⟨⟨_, _, rfl⟩, s1, upd_same, by rw [upd_ne ppc]; exact upd_same⟩ (fun i σ G h => ⟨SqT.of h.2.2.1, hsf _⟩) (fun i x y T σ G hxi hyi h hT => ?_) (fun σ G h => ?_)⟩⟩
    · obtain ⟨⟨x3, x4, rfl⟩, s2, epc, ep⟩ := h
      obtain ⟨part, hpi, hpt⟩ := hx.get hxi
      rw [List.getElem?_map] at hyi
      obtain ⟨r0, hr0, rfl⟩ := Option.map_eq_some_iff.mp hyi
      have fit := each hpi hr0
      have eLi : L[i]? = some (nmD role part r0) := by rw [← eLL, List.getElem?_zipWith, hpi, hr0]
      have take : (L.take (i + 1)).flatten = (L.take i).flatten ++ nmD role part r0 := by
        rw [List.take_add_one, eLi, List.flatten_append]
        simp
      have sT := same_upd (o := .tup [x, .str r0]) hT
      have s3 := s2.trans sT
      have ep3 := sT _ _ ep
      have epc3 := sT _ _ epc
      have le : (L.take (i + 1)).flatten.length ≤ 8 := by
        refine Nat.le_trans ?_ few
        conv => rhs; rw [← List.take_append_drop (i + 1) L, List.flatten_append, List.length_append]
        exact Nat.le_add_right _ _
      rw [take, List.length_append] at le
      have line : (1000 : Nat) < sizeLine := by decide
      have lm : ((L.take i).flatten.map V.str).length = (L.take i).flatten.length := List.length_map _
      refine ⟨T, _, rfl, SqT.of upd_same, rfl, _, _, rfl, _, _, rfl, rfl, ?_⟩
      refine ⟨_, rfl, _, rfl, rfl, _, rfl, ite2 (fun h1 => ?_) (fun h1 => ?_)⟩
      · have e1 : r0 = role := V.str.inj (of_decide_eq_true h1)
        have nm := role_part fit hrole e1
        cases part with
        | str z =>
          obtain rfl : x = .str z := by
            cases hpt with
            | «at» a => cases a <;> rfl
          refine ⟨_, rfl, .inl ⟨rfl, _, SqL.of ep3⟩, _, rfl, p, _, .str z, rfl, rfl, ep3, by omega, ⟨_, _, rfl⟩, same_put hp s3, by rw [upd_ne (Ne.symm ppc)]; exact epc3, ?_⟩
          rw [upd_same, take, List.map_append]
          have : nmD role (.str z) r0 = [z] := if_pos e1
          rw [this]
          rfl
        | _ => cases nm
      · have n1 : r0 ≠ role := fun z => h1 (decide_eq_true (by rw [z]))
        have stay : nmD role part r0 = [] → (∃ x3' x4', [some (V.ref a), some (.str role), some (.ref p), some x, some (.str r0)] = [some (V.ref a), some (.str role), some (.ref p), x3', x4']) ∧ Same H (upd G T (.tup [x, .str r0])) ∧ (upd G T (.tup [x, .str r0])) pc = some (.tup xr) ∧ (upd G T (.tup [x, .str r0])) p = some (.lst ((L.take (i + 1)).flatten.map V.str)) := fun e => by
          refine ⟨⟨_, _, rfl⟩, s3, epc3, ?_⟩
          rw [take, e, List.append_nil]
          exact ep3
        refine ⟨_, rfl, rfl, _, rfl, ite2 (fun h2 => ?_) (fun h2 => ?_)⟩
        · have e2 : r0 = "registers" := V.str.inj (of_decide_eq_true h2)
          refine ⟨_, rfl, rfl, _, rfl, ite2 (fun h3 => ?_) (fun h3 => ?_)⟩
          · have e3 : role = "register" := V.str.inj (of_decide_eq_true h3)
            have ar := role_args fit e2
            cases part with
            | tuple ds =>
              have ar : (decide (ds.length ≤ 2) && ds.all isNameD) = true := ar
              obtain ⟨b, zs, rfl, eb, bl, hz⟩ := hpt.tup_of
              have ez := dt_names hz (Bool.and_eq_true_iff.mp ar).2
              have em : nmD role (.tuple ds) r0 = ds.map strD := by
                unfold nmD
                rw [if_neg n1, if_pos ⟨e2, e3⟩]
                rfl
              rw [em, List.length_map] at le
              have lz : zs.length = ds.length := hz.length
              refine ⟨_, rfl, .inl ⟨rfl, _, SqL.of ep3⟩, _, rfl, p, b, _, zs, rfl, rfl, ep3, SqT.of (s3 _ _ eb), by omega, ⟨_, _, rfl⟩, same_put hp s3, by rw [upd_ne (Ne.symm ppc)]; exact epc3, ?_⟩
              rw [upd_same, take, List.map_append, em, ez]
            | _ => cases ar
          · exact stay (by
              unfold nmD
              rw [if_neg n1, if_neg fun z => h3 (decide_eq_true (by rw [z.2]))])
        · exact iteF (stay (by
            unfold nmD
            rw [if_neg n1, if_neg fun z => h2 (decide_eq_true (by rw [z.1]))]))
    · obtain ⟨⟨x3, x4, rfl⟩, s2, epc, ep⟩ := h
      have lL : L.length = xr.length := by
        rw [← eLL, List.length_zipWith]
        omega
      rw [← lL, List.take_length] at ep
      exact ⟨_, rfl, q _ p s2 hp ep few⟩
end
end OM

namespace OM
open PySem PySem.Spec PyProof.Rows L2
theorem goes_list {K : PySem.W.Frag} {a : Addr} {xs : List V} {H0 : Hp} {Z : Hp → Prop} {step : V → Hp → (Hp → Prop) → Prop} (Pv : Nat → Hp → Prop) (h0 : Pv 0 H0) (hl : ∀ i H, Pv i H → SqL K H a xs) (hs : ∀ i x H, xs[i]? = some x → Pv i H → step x H (Pv (i + 1))) (hd : ∀ H, Pv xs.length H → Z H) :
    ∃ W : Nat → Nat → Hp → Prop, (∃ m, W 0 m H0) ∧ goes (Itl K a) W Z step := by
  refine ⟨fun i m H => m = xs.length - i ∧ i ≤ xs.length ∧ Pv i H, ⟨_, rfl, Nat.zero_le _, h0⟩, ?_⟩
  rintro i m H ⟨rfl, hi, p⟩
  have q := hl i H p
  rcases Nat.lt_or_ge i xs.length with hlt | hge
  · refine .inr ⟨⟨xs, xs[i], q, by simp [hlt]⟩, Pv (i + 1), fun H' p' => ⟨xs.length - (i + 1), by omega, rfl, hlt, p'⟩, fun x H' y => ?_⟩
    obtain ⟨rfl, y⟩ := y
    exact hs i x _ (y xs q) p
  · obtain rfl : i = xs.length := by omega
    exact .inl ⟨⟨xs, q, Nat.le_refl _⟩, hd H p⟩
theorem pi_listK {X : Cx} {K : PySem.W.Frag} {tg l : Expr} {tl : TE} (hK : X.K = K) (hl : PE X l tl) : PI X tg l (iList K tl) := by
  subst hK
  exact pi_list hl
theorem firsts_snoc (l : List Str) (z : Str) : firsts [] (l ++ [z]) = addX (firsts [] l) z := by
  unfold firsts
  rw [List.foldl_append]
  rfl
theorem flatMap_few {α β : Type} {f : α → List β} {k : Nat} : ∀ {l : List α}, (∀ x ∈ l, (f x).length ≤ k) → (l.flatMap f).length ≤ k * l.length
  | [], _ => Nat.zero_le _
  | x :: r, h => by
    have h1 := h x List.mem_cons_self
    have h2 := flatMap_few (l := r) fun y hy => h y (List.mem_cons_of_mem _ hy)
    rw [List.flatMap_cons, List.length_append, List.length_cons, Nat.mul_succ]
    omega
theorem names_few {n : Nat} {d : PyData} {role : Str} (row : rowD (cdOf n) d = true) : (namesD role d).length ≤ 8 := by
  obtain ⟨w0, rest, rs, rfl, hf, hlen, fits⟩ := rowD_shape row
  have eL : namesD role (.tuple (.str w0 :: rest)) = (List.zipWith (nmD role) rest rs).flatten := by
    show (match formOf w0 with | some rs => (List.zipWith (nmD role) rest rs).flatten | none => []) = _
    rw [hf]
  have rl := form_len hf
  rw [eL]
  refine Nat.le_trans (flat_few (k := 2) fun x hx => ?_) ?_
  · obtain ⟨i, hi⟩ := List.getElem?_of_mem hx
    rw [List.getElem?_zipWith] at hi
    cases h1 : rest[i]? with
    | none => rw [h1] at hi; cases hi
    | some part =>
      cases h2 : rs[i]? with
      | none => rw [h1, h2] at hi; cases hi
      | some r0 =>
        rw [h1, h2] at hi
        rw [← Option.some.inj hi]
        have e : (List.zipWith (fitD (cdOf n)) rest rs)[i]? = some (fitD (cdOf n) part r0) := by rw [List.getElem?_zipWith, h1, h2]
        exact nm_few (n := n) (List.all_eq_true.mp fits _ (List.mem_of_getElem? e))
  · rw [List.length_zipWith]
    omega
structure TxtS (mg : Str → Option Value) : Prop where
  sorted : mg "sorted" = none
  tuple : mg "tuple" = none
  sum : mg "sum" = none
  max : mg "max" = none
  len : mg "len" = none
def spNamesIn : Sp := fun vs H Q _ => ∃ (S : Addr → Prop) (v : V) (ds : List PyData) (role : Str), vs = [v, .str role] ∧ role ∈ roles4 ∧ Dt S H v (.tuple ds) ∧ ds.all (rowD (cdOf 3)) = true ∧ (flatN 3 ds).length ≤ 400 ∧ ∀ H' p ys, Same H H' → H p = none → H' p = some (.tup (ys.map V.str)) → ys.Perm (firsts [] ((flatN 3 ds).flatMap (namesD role))) → sortedS ys = true → Q (.ref p) H'
theorem rows_flatS {n : Nat} : ∀ {d : PyData}, rowD (cdOf n) d = true → ∀ e ∈ flatS n d, ∃ m, rowD (cdOf m) e = true := by
  induction n with
  | zero =>
    intro d row e he
    rw [List.mem_singleton.mp he]
    exact ⟨0, row⟩
  | succ n ih =>
    intro d row e he
    rcases List.mem_cons.mp he with rfl | he
    · exact ⟨n + 1, row⟩
    · obtain ⟨c, hc, he⟩ := List.mem_flatMap.mp he
      obtain ⟨d', hd', he⟩ := List.mem_flatMap.mp he
      obtain ⟨m, em, rows, _⟩ := row_in row hc
      obtain rfl : n = m := by omega
      exact ih (List.all_eq_true.mp rows d' hd') e he
section
variable {P : Program} {w : World} {K : PySem.W.Frag} {mg : Str → Option Value} {base : Heap} {f fC fF fO : Addr} {fd dC dF dO : FuncData}
/-- flattened, codes_in, _names_of as they stand -/
structure FlatF (K : PySem.W.Frag) (mg : Str → Option Value) (fF fC fO : Addr) (dF dC dO : FuncData) : Prop where
  FF : Fun K "flattened" "flattened" sFlat fF dF
  FC : Fun K "codes_in" "codes_in" sCin fC dC
  FO : Fun K "_names_of" "_names_of" sNamesOf fO dO
  gF : mg "flattened" = some (.ref fF)
  gC : mg "codes_in" = some (.ref fC)
  gO : mg "_names_of" = some (.ref fO)
  bF : Binds K dF ["code"] []
  bC : Binds K dC ["statement"] []
  bO : Binds K dO ["statement", "role"] []
theorem ok_flat (C : FlatF K mg fF fC fO dF dC dO) : ∀ n, FnOk P w K mg base CX0 (n + 1) fF dF ["code"] (spFlatAt n)
  | 0 => ⟨fun _ _ _ _ h => h.elim, fun _ _ _ _ _ _ _ _ _ _ _ _ _ h => h.elim⟩
  | n + 1 => flat_step C.FF C.gF C.bF (ok_flat C n) C.FC C.gC C.bC
theorem scNI : FnScope ["code", "role", "name", "statement"] ["code", "role"] (defScope sNamesIn) := ⟨rfl, rfl, rfl, by decide +kernel, rfl, by decide +kernel, by decide +kernel⟩
theorem ok_namesin (F : Fun K "names_in" "names_in" sNamesIn f fd) (TF : TxtF K w mg) (TS : TxtS mg) (C : FlatF K mg fF fC fO dF dC dO) : FnOk P w K mg base CX0 6 f fd ["code", "role"] spNamesIn := by
  have GF : FnOk P w K mg base CX0 5 fF dF ["code"] (spFlatAt 4) := ok_flat C 4
  have GO : FnOk P w K mg base CX0 1 fO dO ["statement", "role"] spNamesOf := ok_namesof C.FO TF
  refine F.ok scNI (fun vs H Q E h => ?_) (fun cdv A outer s H vs Q E hr h => ?_)
  · obtain ⟨S, v, ds, role, rfl, _⟩ := h
    rfl
  · obtain ⟨S, v, ds, role, rfl, hrole, hd, rows, size, q⟩ := h
    refine ⟨_, pss_one (ps_ret (pe_callTy call_tuple_of (by rfl) TS.tuple (by decide +kernel) (pa_cons (pe_callB (cr_sortX rfl) (by rfl) TS.sorted (by decide +kernel) (pa_cons (pe_sx2 (own := [("name", 2), ("statement", 3)]) (vs1 := [2]) rfl scNI.nd
      (pi_list (pe_call GF hr (by rfl) C.gF C.FF.kp C.bF .nil pass0 (pa_cons (pv 0) pa_nil))) (blkOk_by (N := ["code", "role", "name", "statement"]) (sc := defScope sNamesIn) (by decide +kernel)) (by simp)
      (fun _ _ _ _ _ => pg_name (i := 3) scNI.nd rfl (Or.inl rfl)) (fun _ _ _ _ _ => pts_nil)
      (fun _ _ _ _ _ => pi_listK (K := K) rfl (pe_call GO (hr.mono (by decide)) (by rfl) C.gO C.FO.kp C.bO .nil pass0 (pa_cons (pv 3) (pa_cons (pv 1) pa_nil)))) (fun _ _ _ _ _ => pg_name (i := 2) scNI.nd rfl (Or.inl rfl)) (fun _ _ _ _ _ => pts_nil)
      (fun _ _ _ _ _ => pv 2)) pa_nil)) pa_nil))), ?_⟩
    have live : ∀ b, (S b ∧ H b ≠ none) → H b ≠ none := fun b z => z.2
    refine ⟨_, rfl, _, v, ds, rfl, hd.live, rows, Nat.le_trans size (by decide), fun H1 pl xs s1 hpl epl dl => ⟨pl, rfl, ⟨xs, SqL.of epl⟩, fun D hD => goes_list (xs := xs) (fun i H' => Same H1 H' ∧ H' D = some (SetTO w D (firsts [] (((flatN 3 ds).take i).flatMap (namesD role))))) ⟨same_upd hD, upd_same⟩ (fun i H' h => SqL.of (h.1 _ _ epl)) (fun i x H' hx h => ?_) (fun H' h => ?_)⟩⟩
    · obtain ⟨s2, eD⟩ := h
      obtain ⟨d, hdi, hdt⟩ := dl.get hx
      obtain ⟨d0, hd0, hmem⟩ := List.mem_flatMap.mp (List.mem_of_getElem? hdi)
      obtain ⟨m, row⟩ := rows_flatS (List.all_eq_true.mp rows d0 hd0) d hmem
      have take : ((flatN 3 ds).take (i + 1)).flatMap (namesD role) = ((flatN 3 ds).take i).flatMap (namesD role) ++ namesD role d := by
        rw [List.take_add_one, hdi, List.flatMap_append]
        simp
      refine ⟨rfl, _, rfl, _, rfl, _, x, d, m, role, rfl, hrole, hdt.base live s1 (s1.trans s2), row, fun H3 pn s3 hpn epn few => ⟨pn, rfl, ⟨_, SqL.of epn⟩, goes_list (xs := (namesD role d).map V.str) (fun j H4 => Same H1 H4 ∧ H4 pn = some (.lst ((namesD role d).map V.str)) ∧ H4 D = some (SetTO w D (firsts [] (((flatN 3 ds).take i).flatMap (namesD role) ++ (namesD role d).take j)))) ⟨s2.trans s3, epn, by rw [List.take_zero, List.append_nil]; exact s3 _ _ eD⟩ (fun j H4 h => SqL.of h.2.1) (fun j y H4 hy h => ?_) (fun H4 h => ?_)⟩⟩
      · obtain ⟨s4, en4, eD4⟩ := h
        rw [List.getElem?_map] at hy
        obtain ⟨z, hz, rfl⟩ := Option.map_eq_some_iff.mp hy
        refine ⟨rfl, _, rfl, z, _, rfl, eD4, ?_, same_put hD s4, ?_, ?_⟩
        · have l1 := len_firsts (((flatN 3 ds).take i).flatMap (namesD role) ++ (namesD role d).take j) []
          have l2 : (((flatN 3 ds).take i).flatMap (namesD role)).length ≤ 8 * ((flatN 3 ds).take i).length := flatMap_few fun e he => by
            obtain ⟨d1, hd1, hm1⟩ := List.mem_flatMap.mp (List.mem_of_mem_take he)
            obtain ⟨m1, row1⟩ := rows_flatS (List.all_eq_true.mp rows d1 hd1) e hm1
            exact names_few row1
          have l3 : ((flatN 3 ds).take i).length ≤ (flatN 3 ds).length := List.length_take_le' _ _
          have l4 : ((namesD role d).take j).length ≤ (namesD role d).length := List.length_take_le' _ _
          have l5 : scanBound = 4096 := rfl
          rw [List.length_append] at l1
          simp only [List.length_nil] at l1
          omega
        · rw [upd_ne (fun z => by rw [z, eD4] at en4; cases en4)]
          exact en4
        · rw [upd_same, List.take_add_one, hz, ← List.append_assoc]
          show _ = some (SetTO w D (firsts [] (_ ++ [z])))
          rw [firsts_snoc]
          rfl
      · obtain ⟨s4, en4, eD4⟩ := h
        refine ⟨s4, ?_⟩
        rw [List.length_map, List.take_length, ← take] at eD4
        exact eD4
    · obtain ⟨s2, eD⟩ := h
      rw [dl.length, List.take_length] at eD
      refine ⟨D, _, rfl, eD, fun ys p3 pm so hp3 => ⟨p3, _, rfl, .inl ⟨SqL.of upd_same, fun p4 hp4 => ?_⟩⟩⟩
      have s3 := (s1.trans s2).trans (same_upd (o := .lst (ys.map V.str)) hp3)
      exact q _ p4 ys (s3.trans (same_upd hp4)) (s3.free hp4) upd_same pm so
end
end OM

namespace OM
open PySem PySem.Spec PyProof.Rows L2
abbrev sMost : Stmt := top 33
abbrev sMostAt : Stmt := top 34
abbrev sKind : Stmt := top 35
/-- what a statement counts as on a path -/
def kindD : PyData → Str
  | .tuple (.str w :: rest) => if w = "get" ∨ w = "put" then "letter" else if w = "set" then (match rest with | [_, _, .tuple []] => "constant" | _ => "set") else w
  | _ => ""
def ownD (k : Str) (d : PyData) : Nat := if kindD d = k then 1 else 0
def maxL : List Nat → Nat
  | [] => 0
  | x :: r => max x (maxL r)
def mostS : Nat → Str → PyData → Nat
  | 0, k, d => ownD k d
  | n + 1, k, d => ownD k d + maxL ((inner2 d).map fun c => (c.map (mostS n k)).sum)
def mostN (n : Nat) (k : Str) (ds : List PyData) : Nat := (ds.map (mostS n k)).sum
theorem inV_two (x a b : Str) : inV (.str x) [.str a, .str b] = true ↔ x = a ∨ x = b := by
  have h : ∀ y : Str, (y == x) = decide (x = y) := fun y => by
    rw [Bool.eq_iff_iff, beq_iff_eq, decide_eq_true_iff, eq_comm]
  unfold inV
  simp only [List.any_cons, List.any_nil, eqV, h, Bool.or_false, Bool.or_eq_true, decide_eq_true_iff]
def spKind : Sp := fun vs H Q _ => ∃ (S : Addr → Prop) (v : V) (d : PyData) (n : Nat), vs = [v] ∧ Dt S H v d ∧ rowD (cdOf n) d = true ∧ ∀ H', Same H H' → Q (.str (kindD d)) H'
def spMostAt (n : Nat) : Sp := fun vs H Q _ => ∃ (S : Addr → Prop) (v : V) (d : PyData) (k : Str), vs = [v, .str k] ∧ Dt S H v d ∧ rowD (cdOf n) d = true ∧ ∀ H', Same H H' → Q (.int (mostS n k d)) H'
def spMost : Nat → Sp
  | 0 => fun _ _ _ _ => False
  | n + 1 => fun vs H Q _ => ∃ (S : Addr → Prop) (v : V) (ds : List PyData) (k : Str), vs = [v, .str k] ∧ Dt S H v (.tuple ds) ∧ ds.all (rowD (cdOf n)) = true ∧ ∀ H', Same H H' → Q (.int (mostN n k ds)) H'
section
variable {P : Program} {w : World} {K : PySem.W.Frag} {mg : Str → Option Value} {base : Heap} {f fC fK fA : Addr} {fd dC dK dA : FuncData}
theorem scKd : FnScope ["statement"] ["statement"] (defScope sKind) := ⟨rfl, rfl, rfl, by decide +kernel, rfl, by decide +kernel, by decide +kernel⟩
theorem ok_kind (F : Fun K "_path_kind" "_path_kind" sKind f fd) : FnOk P w K mg base CX0 1 f fd ["statement"] spKind := by
  refine F.ok scKd (fun vs H Q E h => ?_) (fun cdv A outer s H vs Q E hr h => ?_)
  · obtain ⟨S, v, d, n, rfl, _⟩ := h
    rfl
  · obtain ⟨S, v, d, n, rfl, hd, row, q⟩ := h
    refine ⟨_, pss_cons (ps_if (pt_cmpR op_in_seq (pe_ix ix_tup (pv 0) pe_int (fun _ _ => rfl)) (pe_tup (pa_cons pe_str (pa_cons pe_str pa_nil))) (by rfl)) (pss_one (ps_ret pe_str)) pss_nil)
      (pss_cons (ps_if (pt_cmpR op_eq (pe_ix ix_tup (pv 0) pe_int (fun _ _ => rfl)) pe_str (nomark _)) (pss_one (ps_ret (pe_ifExp (pt_truth (pe_ix ix_tup (pv 0) pe_int (fun _ _ => rfl)) (by intro _; rfl)) pe_str pe_str))) pss_nil)
      (pss_one (ps_ret (pe_ix ix_tup (pv 0) pe_int (fun _ _ => rfl))))), ?_⟩
    obtain ⟨w0, rest, rs, rfl, hf, hlen, fits⟩ := rowD_shape row
    obtain ⟨a, xr, rfl, ea, hl, hx⟩ := hd.row
    refine ⟨_, rfl, a, _, 0, _, rfl, rfl, SqT.of ea, at0, (by show 2 ≤ sizeLine; decide), fun pt hpt => ?_⟩
    have s1 := same_upd (o := .tup [.str "get", .str "put"]) hpt
    refine ⟨pt, _, rfl, .inr (SqT.of upd_same), rfl, by decide, _, rfl, ite2 (fun h1 => ?_) (fun h1 => ?_)⟩
    · have e : kindD (.tuple (.str w0 :: rest)) = "letter" := if_pos ((inV_two _ _ _).mp h1)
      have z := q _ s1
      rw [e] at z
      exact z
    · have n1 : ¬ (w0 = "get" ∨ w0 = "put") := fun z => h1 ((inV_two _ _ _).mpr z)
      refine ⟨_, rfl, a, _, 0, _, rfl, rfl, SqT.of (s1 _ _ ea), at0, rfl, _, rfl, ite2 (fun h2 => ?_) (fun h2 => ?_)⟩
      · obtain rfl : w0 = "set" := V.str.inj (of_decide_eq_true h2)
        have e4 : formOf "set" = some (["register", "function", "registers"] : List Str) := by decide +kernel
        rw [e4] at hf
        obtain rfl := (Option.some.inj hf).symm
        match rest, hlen with
        | [d1, d2, d3], _ =>
          rw [row_set] at row
          simp only [Bool.and_eq_true, and_true] at row
          obtain ⟨_, _, ar⟩ := row
          cases d3 with
          | tuple ds =>
            cases hx with
            | @cons x1 _ _ _ k1 hx =>
              cases hx with
              | @cons x2 _ _ _ k2 hx =>
                cases hx with
                | @cons x3 _ _ _ k3 hx =>
                  cases hx
                  obtain ⟨b, zs, rfl, eb, bl, hz⟩ := k3.tup_of
                  have lz := hz.length
                  refine ⟨_, rfl, a, _, 3, .ref b, rfl, rfl, SqT.of (s1 _ _ ea), rfl, !zs.isEmpty, .inr (.inl ⟨zs, SqT.of (s1 _ _ eb), rfl⟩), ?_⟩
                  cases hz with
                  | nil => exact iteF (q _ s1)
                  | cons _ _ => exact iteT (q _ s1)
          | _ => cases ar
      · have n2 : w0 ≠ "set" := fun z => h2 (decide_eq_true (by rw [z]))
        have e : kindD (.tuple (.str w0 :: rest)) = w0 := by
          show (if _ then _ else _) = _
          rw [if_neg n1, if_neg n2]
        have z := q _ s1
        rw [e] at z
        exact ⟨_, rfl, a, _, 0, _, rfl, rfl, SqT.of (s1 _ _ ea), at0, z⟩
theorem scMA : FnScope ["statement", "kind", "own", "inner"] ["statement", "kind"] (defScope sMostAt) := ⟨rfl, rfl, rfl, by decide +kernel, rfl, by decide +kernel, by decide +kernel⟩
theorem scMo : FnScope ["code", "kind", "statement"] ["code", "kind"] (defScope sMost) := ⟨rfl, rfl, rfl, by decide +kernel, rfl, by decide +kernel, by decide +kernel⟩
/-- a list of numbers that grows -/
def PvI (H : Hp) (D : Addr) (bs : List Nat) (i : Nat) (H' : Hp) : Prop := Same H H' ∧ H' D = some (.lst ((bs.take i).map fun n : Nat => V.int (n : Int)))
theorem PvI.step {H H3 H4 : Hp} {D : Addr} {bs : List Nat} {i b : Nat} (hD : H D = none) (hl : bs.length ≤ 1000) (hb : bs[i]? = some b) (p : PvI H D bs i H3) (s : Same H3 H4) : ∃ acc, H4 D = some (.lst acc) ∧ acc.length < sizeLine ∧ PvI H D bs (i + 1) (upd H4 D (.lst (acc ++ [V.int (b : Int)]))) := by
  refine ⟨_, s _ _ p.2, ?_, same_put hD (p.1.trans s), ?_⟩
  · rw [List.length_map, List.length_take]
    have : (1000 : Nat) < sizeLine := by decide
    omega
  · rw [upd_same, List.take_add_one, hb, List.map_append]
    rfl
theorem PvI.all {H H5 : Hp} {D : Addr} {bs : List Nat} {n : Nat} (p : PvI H D bs n H5) (hn : n = bs.length) : Same H H5 ∧ H5 D = some (.lst ((bs.map fun n : Nat => (n : Int)).map V.int)) := by
  have e := p.2
  rw [hn, List.take_length] at e
  rw [List.map_map]
  exact ⟨p.1, e⟩
theorem sum_nat (bs : List Nat) : (bs.map fun n : Nat => (n : Int)).sum = ((bs.sum : Nat) : Int) := by
  induction bs with
  | nil => rfl
  | cons b r ih =>
    rw [List.map_cons, List.sum_cons, List.sum_cons, ih]
    omega
theorem maxL_of (bs : List Nat) {m : Int} (h : m ∈ (bs.map fun n : Nat => (n : Int))) (hm : ∀ y ∈ (bs.map fun n : Nat => (n : Int)), y ≤ m) : m = ((maxL bs : Nat) : Int) := by
  have le : ∀ bs : List Nat, ∀ b ∈ bs, b ≤ maxL bs := fun bs => by
    induction bs with
    | nil => intro b h; cases h
    | cons x r ih =>
      intro b h
      show b ≤ max x (maxL r)
      rcases List.mem_cons.mp h with rfl | h
      · omega
      · have := ih b h
        omega
  have mem : ∀ bs : List Nat, bs ≠ [] → maxL bs ∈ bs := fun bs => by
    induction bs with
    | nil => intro h; exact absurd rfl h
    | cons x r ih =>
      intro _
      show max x (maxL r) ∈ x :: r
      cases r with
      | nil =>
        show max x 0 ∈ [x]
        rw [Nat.max_zero]
        exact List.mem_cons_self
      | cons y r =>
        have := ih (by simp)
        rcases Nat.le_total x (maxL (y :: r)) with h | h
        · rw [Nat.max_eq_right h]
          exact List.mem_cons_of_mem _ this
        · rw [Nat.max_eq_left h]
          exact List.mem_cons_self
  obtain ⟨b, hb, rfl⟩ := List.mem_map.mp h
  have h1 := le bs b hb
  have h2 := hm _ (List.mem_map.mpr ⟨maxL bs, mem bs (fun z => by rw [z] at hb; cases hb), rfl⟩)
  omega
theorem mostS_row {n : Nat} {k : Str} {d : PyData} (row : rowD (cdOf n) d = true) : mostS n k d = ownD k d + maxL ((inner2 d).map fun c => (c.map (mostS (n - 1) k)).sum) := by
  cases n with
  | succ m => rfl
  | zero =>
    rcases row_iff row with ⟨m, _, _, _, _, e, _⟩ | ⟨_, _, _, _, e⟩
    · cases e
    · rw [e]
      rfl
theorem most_step {n j : Nat} (F : Fun K "most_on_path" "most_on_path" sMost f fd) (TS : TxtS mg) (gA : mg "_most_at" = some (.ref fA)) (kA : PySem.W.keepIn K (.ref fA) = true) (bA : Binds K dA ["statement", "kind"] []) (GA : FnOk P w K mg base CX0 j fA dA ["statement", "kind"] (spMostAt n)) :
    FnOk P w K mg base CX0 (j + 1) f fd ["code", "kind"] (spMost (n + 1)) := by
  refine F.ok scMo (fun vs H Q E h => ?_) (fun cdv A outer s H vs Q E hr h => ?_)
  · obtain ⟨S, v, ds, k, rfl, _⟩ := h
    rfl
  · obtain ⟨S, v, ds, k, rfl, hd, rows, q⟩ := h
    refine ⟨_, pss_one (ps_ret (pe_callB (cr_sum rfl) (by rfl) TS.sum (by decide +kernel) (pa_cons (pe_lc (own := [("statement", 2)]) rfl scMo.nd (pi_tup (pv 0)) (blkOk_by (N := ["code", "kind", "statement"]) (sc := defScope sMost) (by decide +kernel))
      (fun _ _ _ _ _ => pg_name (i := 2) scMo.nd rfl (Or.inl rfl)) (fun _ _ _ _ _ => pts_nil) (fun _ _ _ _ _ => pe_call GA hr (by rfl) gA kA bA .nil pass0 (pa_cons (pv 2) (pa_cons (pv 1) pa_nil)))) pa_nil))), ?_⟩
    obtain ⟨a, xs, rfl, ea, hl, hx⟩ := hd.live.tup_of
    have live : ∀ b, (S b ∧ H b ≠ none) → H b ≠ none := fun b z => z.2
    refine ⟨_, rfl, a, rfl, ⟨xs, SqT.of ea⟩, fun Dl hD => lc_tup (PvI H Dl (ds.map (mostS n k))) ⟨same_upd hD, upd_same⟩ (fun i H' _ p => SqT.of (p.1 _ _ ea)) (fun i x H3 hi p => ?_) (fun H5 p => ?_)⟩
    · obtain ⟨d, hdi, hdt⟩ := hx.get hi
      have := hx.length
      refine ⟨rfl, _, rfl, _, rfl, _, x, d, k, rfl, hdt.base live (Same.refl H) p.1, List.all_eq_true.mp rows d (List.mem_of_getElem? hdi), fun H4 s4 => p.step hD (by rw [List.length_map]; omega) (by rw [List.getElem?_map, hdi]; rfl) s4⟩
    · obtain ⟨s5, e5⟩ := p.all (by rw [List.length_map]; exact hx.length)
      refine ⟨Dl, _, rfl, SqL.of e5, ?_⟩
      have z := q _ s5
      rw [sum_nat]
      exact z
theorem mostat_ok {n j : Nat} (F : Fun K "_most_at" "_most_at" sMostAt fA dA) (TS : TxtS mg) (gM : mg "most_on_path" = some (.ref f)) (kM : PySem.W.keepIn K (.ref f) = true) (bM : Binds K fd ["code", "kind"] []) (GM : FnOk P w K mg base CX0 (j + 1) f fd ["code", "kind"] (spMost n))
    (FC : Fun K "codes_in" "codes_in" sCin fC dC) (gC : mg "codes_in" = some (.ref fC)) (bC : Binds K dC ["statement"] []) (FK : Fun K "_path_kind" "_path_kind" sKind fK dK) (gK : mg "_path_kind" = some (.ref fK)) (bK : Binds K dK ["statement"] []) :
    FnOk P w K mg base CX0 (j + 2) fA dA ["statement", "kind"] (spMostAt n) := by
  have GC : FnOk P w K mg base CX0 1 fC dC ["statement"] spCin := ok_cin FC
  have GK : FnOk P w K mg base CX0 1 fK dK ["statement"] spKind := ok_kind FK
  refine F.ok scMA (fun vs H Q E h => ?_) (fun cdv A outer s H vs Q E hr h => ?_)
  · obtain ⟨S, v, d, k, rfl, _⟩ := h
    rfl
  · obtain ⟨S, v, d, k, rfl, hd, row, q⟩ := h
    have hu : (A.deeper (envOfC "_most_at" (defScope sMostAt) s.heap.objs.size fA cdv)).units + 1 < cLine := by
      have := hr.un
      omega
    refine ⟨_, pss_cons (ps_set (i := 2) scMA.nd rfl (Or.inl rfl) (pe_ifExp (pt_cmpR op_eq (pe_call GK (hr.mono (by omega)) (by rfl) gK FK.kp bK .nil pass0 (pa_cons (pv 0) pa_nil)) (pv 1) (nomark _)) pe_int pe_int))
      (pss_one (ps_ret (pe_op op_add (pv 2) (pe_callBK (cr_maxDef rfl hu) (by rfl) TS.max (by decide +kernel) (pa_cons (pe_lc (own := [("inner", 3)]) rfl scMA.nd (pi_tup (pe_call GC (hr.mono (by omega)) (by rfl) gC FC.kp bC .nil pass0 (pa_cons (pv 0) pa_nil))) (blkOk_by (N := ["statement", "kind", "own", "inner"]) (sc := defScope sMostAt) (by decide +kernel))
        (fun _ _ _ _ _ => pg_name (i := 3) scMA.nd rfl (Or.inl rfl)) (fun _ _ _ _ _ => pts_nil) (fun _ _ _ _ _ => pe_call GM hr (by rfl) gM kM bM .nil pass0 (pa_cons (pv 3) (pa_cons (pv 1) pa_nil)))) pa_nil) (pk_cons pe_int pk_nil))))), ?_⟩
    have live : ∀ b, (S b ∧ H b ≠ none) → H b ≠ none := fun b z => z.2
    refine ⟨_, rfl, S, v, d, n, rfl, hd, row, fun H1 s1 => ⟨_, rfl, rfl, _, rfl, ite2 (fun h1 => ?_) (fun h1 => ?_)⟩⟩
    all_goals
      refine ⟨_, rfl, _, rfl, _, v, d, n, rfl, hd.live.base live (Same.refl H) s1, row, fun H3 pc cs s3 hpc epc dc => ⟨pc, rfl, ⟨cs, SqT.of epc⟩, fun Dl hD => lc_tup (PvI H3 Dl ((inner2 d).map fun c => (c.map (mostS (n - 1) k)).sum)) ⟨same_upd hD, upd_same⟩ (fun i H' _ p => SqT.of (p.1 _ _ epc)) (fun i x H4 hi p => ?_) (fun H5 p => ?_)⟩⟩
      · obtain ⟨cdt, hcd, hct⟩ := dc.get hi
        rw [List.getElem?_map] at hcd
        obtain ⟨cd, hc2, rfl⟩ := Option.map_eq_some_iff.mp hcd
        obtain ⟨m, rfl, rows', _⟩ := row_in row (List.mem_of_getElem? hc2)
        have two : (inner2 d).length ≤ 2 := by
          rcases row_iff row with ⟨_, _, _, _, _, _, rfl, _⟩ | ⟨_, _, _, _, e⟩
          · exact Nat.le_refl 2
          · rw [e]
            exact Nat.zero_le _
        refine ⟨rfl, _, rfl, _, rfl, _, x, cd, k, rfl, hct.base live (s1.trans s3) ((s1.trans s3).trans p.1), rows', fun H6 s6 => p.step (b := mostN m k cd) hD (by rw [List.length_map]; omega) (by rw [List.getElem?_map, hc2]; rfl) s6⟩
      · obtain ⟨s5, e5⟩ := p.all (by rw [List.length_map, dc.length, List.length_map])
        have fin : ∀ M : Nat, M = maxL ((inner2 d).map fun c => (c.map (mostS (n - 1) k)).sum) → Q (.int (((ownD k d : Nat) : Int) + (M : Int))) H5 := fun M e => by
          have z := q _ ((s1.trans s3).trans s5)
          rw [mostS_row row, ← e, Int.natCast_add] at z
          exact z
        first
          | (have eo : ((ownD k d : Nat) : Int) = 1 := by
              unfold ownD
              rw [if_pos (V.str.inj (of_decide_eq_true h1))]
              rfl)
          | (have eo : ((ownD k d : Nat) : Int) = 0 := by
              unfold ownD
              rw [if_neg fun z => h1 (decide_eq_true (by rw [z]))]
              rfl)
        rw [eo] at fin
        refine ⟨Dl, _, 0, rfl, rfl, SqL.of e5, fun e => ⟨_, _, rfl, rfl, ?_⟩, fun M hM hle => ⟨_, _, rfl, rfl, ?_⟩⟩
        · have e0 : (inner2 d).map (fun c => (c.map (mostS (n - 1) k)).sum) = [] := List.map_eq_nil_iff.mp e
          exact fin 0 (by rw [e0]; rfl)
        · rw [maxL_of _ hM hle]
          exact fin _ rfl
end
end OM

namespace OM
open PySem PySem.Spec PyProof.Rows L2
abbrev sIsSet : Stmt := top 22
abbrev sKept : Stmt := top 51
abbrev sBounded : Stmt := top 50
def ltS (a b : Str) : Bool := decide (a.cps.toList < b.cps.toList)
/-- a set of names: ascending -/
def setD : PyData → Bool
  | .tuple ds => ds.all isNameD && (List.zipWith ltS (ds.map strD) (ds.map strD).tail).all id
  | _ => false
def keptD : PyData → Bool
  | .tuple ds => setD (.tuple ds) && decide (ds.length ≤ 4)
  | _ => false
def spSet : Sp := fun vs H Q _ => ∃ (S : Addr → Prop) (v : V) (d : PyData), vs = [v] ∧ Dt S H v d ∧ smlD d = true ∧ ∀ H', Same H H' → Q (.bl (setD d)) H'
def spKept : Sp := fun vs H Q _ => ∃ (S : Addr → Prop) (v : V) (d : PyData), vs = [v] ∧ Dt S H v d ∧ smlD d = true ∧ ∀ H', Same H H' → Q (.bl (keptD d)) H'
/-- over two tuples side by side, the second one shorter -/
theorem lc_zipS {K : PySem.W.Frag} {a b : Addr} {xs ys : List V} {g : TG} {tt : TT} {te : TE} {vs : List Nat} {σ : L2.St} {H1 : Hp} {D : Addr} {Qd : Hp → Prop} (hlen : ys.length ≤ xs.length) (Pv : Nat → Hp → Prop) (h0 : Pv 0 (upd H1 D (.lst []))) (hl : ∀ i H, Pv i H → SqT K H a xs ∧ SqT K H b ys)
    (hs : ∀ i x y T H, xs[i]? = some x → ys[i]? = some y → Pv i H → H T = none → g (.ref T) (wipe σ vs) (upd H T (.tup [x, y])) fun σ2 H2 => wipe σ2 vs = wipe σ vs ∧ tt σ2 H2 fun b H3 =>
      if b = true then te σ2 H3 fun y H4 => ∃ acc, H4 D = some (.lst acc) ∧ acc.length < sizeLine ∧ Pv (i + 1) (upd H4 D (.lst (acc ++ [y]))) else Pv (i + 1) H3) (hd : ∀ H, Pv ys.length H → Qd H) :
    ∃ W : Nat → Nat → Hp → Prop, (∃ m, W 0 m (upd H1 D (.lst []))) ∧ ∀ i m H, W i m H →
      ((RZ.ItzT K a b).stop i H ∧ Qd H) ∨ ((RZ.ItzT K a b).go i H ∧ ∃ Nx : Hp → Prop, (∀ H', Nx H' → ∃ m', m' < m ∧ W (i + 1) m' H') ∧ ∀ v H', (RZ.ItzT K a b).yld i H v H' → g v (wipe σ vs) H' fun σ2 H2 => wipe σ2 vs = wipe σ vs ∧ tt σ2 H2 fun b H3 =>
        if b = true then te σ2 H3 fun y H4 => ∃ acc, H4 D = some (.lst acc) ∧ acc.length < sizeLine ∧ Nx (upd H4 D (.lst (acc ++ [y]))) else Nx H3) := by
  refine ⟨fun i m H => i ≤ ys.length ∧ m = ys.length - i ∧ Pv i H, ⟨_, Nat.zero_le _, rfl, h0⟩, ?_⟩
  rintro i m H ⟨hi, rfl, p⟩
  obtain ⟨qx, qy⟩ := hl i H p
  rcases Nat.lt_or_ge i ys.length with hlt | hge
  · have hx : xs[i]? = some (xs[i]'(by omega)) := List.getElem?_eq_getElem (by omega)
    have hy : ys[i]? = some ys[i] := List.getElem?_eq_getElem hlt
    refine .inr ⟨⟨xs, ys, _, _, qx, qy, hx, hy⟩, Pv (i + 1), fun H' p' => ⟨ys.length - (i + 1), by omega, hlt, rfl, p'⟩, ?_⟩
    rintro v H' ⟨T, x', y', rfl, hT, rfl, f1, f2⟩
    exact hs i x' y' T H (f1 xs qx) (f2 ys qy) p hT
  · obtain rfl : i = ys.length := by omega
    exact .inl ⟨⟨xs, ys, qx, qy, .inr (Nat.le_refl _)⟩, hd H p⟩
theorem zipWith_idx {α β γ : Type} {f : α → β → γ} {l : List α} {r : List β} {i : Nat} {x : α} {y : β} (h1 : l[i]? = some x) (h2 : r[i]? = some y) : (List.zipWith f l r)[i]? = some (f x y) := by
  rw [List.getElem?_zipWith, h1, h2]
theorem tail_strs (ls : List Str) : (ls.map V.str).tail = ls.tail.map V.str := by cases ls <;> rfl
section
variable {P : Program} {w : World} {K : PySem.W.Frag} {mg : Str → Option Value} {base : Heap} {f fI fS : Addr} {fd dI dS : FuncData}
theorem scSet : FnScope ["value", "name", "after"] ["value"] (defScope sIsSet) := ⟨rfl, rfl, rfl, by decide +kernel, rfl, by decide +kernel, by decide +kernel⟩
theorem ok_isset (F : Fun K "is_set" "is_set" sIsSet f fd) (T : TxtN K mg) (TF : TxtF K w mg) (gI : mg "is_name" = some (.ref fI)) (FI : Fun K "is_name" "is_name" sIsName fI dI) (bI : Binds K dI ["value"] []) : FnOk P w K mg base CX0 2 f fd ["value"] spSet := by
  have GI : FnOk P w K mg base CX0 1 fI dI ["value"] spName := ok_isname FI T
  refine F.ok scSet (fun vs H Q E h => ?_) (fun cdv A outer s H vs Q E hr h => ?_)
  · obtain ⟨S, v, d, rfl, _⟩ := h
    rfl
  · obtain ⟨S, v, d, rfl, hd, sm, q⟩ := h
    refine ⟨_, pss_one (ps_ret (pe_and (pe_callB call_isi (by rfl) T.isi (by decide +kernel) (pa_cons (pv 0) (pa_cons (pe_bltn (v := .ty "tuple") (u := .type "tuple") (by rfl) TF.tup (by decide +kernel) rfl) pa_nil)))
      (pe_and (pe_callB (cr_all rfl) (by rfl) T.all (by decide +kernel) (pa_cons (pe_lc (own := [("name", 1)]) rfl scSet.nd (pi_tup (pv 0)) (blkOk_by (N := ["value", "name", "after"]) (sc := defScope sIsSet) (by decide +kernel))
            (fun _ _ _ _ _ => pg_name (i := 1) scSet.nd rfl (Or.inl rfl)) (fun _ _ _ _ _ => pts_nil) (fun _ _ _ _ _ => pe_call GI hr (by rfl) gI FI.kp bI .nil pass0 (pa_cons (pv 1) pa_nil))) pa_nil))
      (pe_one (pe_callB (cr_all rfl) (by rfl) T.all (by decide +kernel) (pa_cons (pe_lc (g := gTup K 2 (gCons (gName 1) (gCons (gName 2) gNil))) (own := [("name", 1), ("after", 2)]) rfl scSet.nd (RZ.pi_zipA (by rfl) TF.zip (pa_cons (pv 0) (pa_cons (pe_slice sl_tupA (pv 0) (po_some pe_int) po_none) pa_nil))) (blkOk_by (N := ["value", "name", "after"]) (sc := defScope sIsSet) (by decide +kernel))
            (fun _ _ _ _ _ => pg_tup rfl (pgs_cons (pg_name (i := 1) scSet.nd rfl (Or.inl rfl)) (pgs_cons (pg_name (i := 2) scSet.nd rfl (Or.inl rfl)) pgs_nil))) (fun _ _ _ _ _ => pts_nil) (fun _ _ _ _ _ => pe_cmpR op_lt_str (pv 1) (pv 2) (nomark _))) pa_nil)))))), ?_⟩
    cases ht : isTupD d with
    | false =>
      have e : setD d = false := by cases d <;> first | rfl | cases ht
      refine isi_te (x := v) rfl hd.tyx ((kit_tup d).trans (congrArg some ht)) ⟨_, rfl, iteF ?_⟩
      have z := q H (Same.refl _)
      rw [e] at z
      exact z
    | true =>
      cases d with
      | tuple ds =>
        obtain ⟨a, xs, rfl, ea, hl, hx⟩ := hd.tup_of
        have sa : smlAll ds = true := by
          unfold smlD at sm
          exact sm
        have xl := hx.length
        refine isi_te (x := .ref a) rfl (.base (.tup ea)) (kit_tup (.tuple ds)) ⟨_, rfl, iteT ?_⟩
        refine ⟨_, rfl, a, rfl, ⟨xs, SqT.of ea⟩, fun Dl hD => lc_tup (PvM H Dl (ds.map isNameD)) (PvM.zero hD) (fun i H' _ p => SqT.of (p.1 _ _ ea)) (fun i x H3 hi p => ?_) (fun H5 p => ?_)⟩
        · obtain ⟨e, he, hde⟩ := hx.get hi
          exact ⟨rfl, _, rfl, S, x, e, rfl, hde.mv (fun _ z => z) (fun b o _ eb => p.1 b o eb), sml_get sa he, fun H4 s4 => p.step hD (by rw [List.length_map]; omega) (by rw [List.getElem?_map, he]; rfl) s4⟩
        · obtain ⟨s5, e5⟩ := p.all (by rw [List.length_map]; exact xl)
          refine ⟨Dl, _, rfl, SqL.of e5, _, rfl, ite2 (fun h1 => ?_) (fun h1 => ?_)⟩
          · rw [all_map_id] at h1
            have exs := dt_names hx h1
            have ll : (ds.map strD).length = ds.length := List.length_map _
            have q' : ∀ H', Same H5 H' → Q (.bl ((List.zipWith ltS (ds.map strD) (ds.map strD).tail).all id)) H' := fun H' s' => by
              have z := q H' (s5.trans s')
              rw [show setD (.tuple ds) = (ds.all isNameD && (List.zipWith ltS (ds.map strD) (ds.map strD).tail).all id) from rfl, h1, Bool.true_and] at z
              exact z
            generalize ds.map strD = ls at exs ll q'
            have ea5 := s5 _ _ ea
            subst exs
            cases ls with
            | nil =>
              refine ⟨_, rfl, _, rfl, 1, rfl, a, _, rfl, SqT.of ea5, fun hw => ?_, fun hn => absurd (And.intro rfl rfl) hn⟩
              refine ⟨a, a, [], [], rfl, .inr ⟨SqT.of ea5, SqT.of ea5, fun D2 hD2 => lc_zipS (Nat.le_refl _) (PvM H5 D2 []) (PvM.zero hD2) (fun i H' p => ⟨SqT.of (p.1 _ _ ea5), SqT.of (p.1 _ _ ea5)⟩) (fun i x y T H3 hi _ _ _ => by simp at hi) (fun H6 p => ?_)⟩⟩
              exact ⟨D2, [], rfl, SqL.of p.2, q' _ p.1⟩
            | cons z0 r =>
              refine ⟨_, rfl, _, rfl, 1, rfl, a, _, rfl, SqT.of ea5, fun hw => absurd hw cut_part, fun _ pc hpc => ?_⟩
              rw [show cutV ((z0 :: r).map V.str) (some 1) none = r.map V.str from cut_tail]
              have sc := same_upd (o := .tup (r.map V.str)) hpc
              refine ⟨a, pc, (z0 :: r).map V.str, r.map V.str, rfl, .inr ⟨SqT.of (sc _ _ ea5), SqT.of upd_same, fun D2 hD2 => lc_zipS (by simp) (PvM _ D2 (List.zipWith ltS (z0 :: r) r)) (PvM.zero hD2) (fun i H' p => ⟨SqT.of (p.1 _ _ (sc _ _ ea5)), SqT.of (p.1 _ _ upd_same)⟩) (fun i x y T H3 hi hj p hT => ?_) (fun H6 p => ?_)⟩⟩
              · rw [List.getElem?_map] at hi hj
                obtain ⟨s1, g1, rfl⟩ := Option.map_eq_some_iff.mp hi
                obtain ⟨s2, g2, rfl⟩ := Option.map_eq_some_iff.mp hj
                refine ⟨T, _, rfl, SqT.of upd_same, rfl, _, _, rfl, _, _, rfl, rfl, rfl, _, rfl, _, rfl, s1, s2, rfl, rfl, ?_⟩
                refine p.step (b := ltS s1 s2) hD2 ?_ (zipWith_idx g1 g2) (same_upd hT)
                rw [List.length_zipWith]
                simp only [List.length_map, List.length_cons] at hl xl ⊢
                omega
              · obtain ⟨s7, e7⟩ := p.all (by rw [List.length_zipWith]; simp)
                exact ⟨D2, _, rfl, SqL.of e7, q' _ (sc.trans s7)⟩
          · have z := q _ s5
            rw [all_map_id] at h1
            have e0 : ds.all isNameD = false := by
              cases y : ds.all isNameD with
              | false => rfl
              | true => exact absurd y h1
            rw [show setD (.tuple ds) = (ds.all isNameD && (List.zipWith ltS (ds.map strD) (ds.map strD).tail).all id) from rfl, e0, Bool.false_and] at z
            exact z
      | _ => cases ht
theorem scKp : FnScope ["value"] ["value"] (defScope sKept) := ⟨rfl, rfl, rfl, by decide +kernel, rfl, by decide +kernel, by decide +kernel⟩
theorem ok_kept (F : Fun K "is_kept" "is_kept" sKept f fd) (T : TxtN K mg) (TF : TxtF K w mg) (gI : mg "is_name" = some (.ref fI)) (FI : Fun K "is_name" "is_name" sIsName fI dI) (bI : Binds K dI ["value"] []) (gS : mg "is_set" = some (.ref fS)) (FS : Fun K "is_set" "is_set" sIsSet fS dS) (bS : Binds K dS ["value"] []) (gM : ∃ t, mg "MAX_KEPT" = some (.int 4 t)) :
    FnOk P w K mg base CX0 3 f fd ["value"] spKept := by
  have GS : FnOk P w K mg base CX0 2 fS dS ["value"] spSet := ok_isset FS T TF gI FI bI
  obtain ⟨t, g4⟩ := gM
  refine F.ok scKp (fun vs H Q E h => ?_) (fun cdv A outer s H vs Q E hr h => ?_)
  · obtain ⟨S, v, d, rfl, _⟩ := h
    rfl
  · obtain ⟨S, v, d, rfl, hd, sm, q⟩ := h
    refine ⟨_, pss_one (ps_ret (pe_and (pe_call GS hr (by rfl) gS FS.kp bS .nil pass0 (pa_cons (pv 0) pa_nil)) (pe_one (pe_cmpR op_le (pe_callB call_len_seq (by rfl) T.len PySem.boot_len (pa_cons (pv 0) pa_nil)) (pe_glob (v := .int 4) (by rfl) g4 ⟨t, rfl⟩) (nomark _))))), ?_⟩
    refine ⟨_, rfl, S, v, d, rfl, hd, sm, fun H1 s1 => ⟨_, rfl, ?_⟩⟩
    cases hs : setD d with
    | false =>
      have e : keptD d = false := by
        cases d with
        | tuple ds =>
          show (setD (.tuple ds) && _) = false
          rw [hs, Bool.false_and]
        | _ => rfl
      have z := q _ s1
      rw [e] at z
      exact iteF z
    | true =>
      cases d with
      | tuple ds =>
        obtain ⟨a, xs, rfl, ea, hl, hx⟩ := hd.tup_of
        have e : keptD (.tuple ds) = decide ((xs.length : Int) ≤ 4) := by
          show (setD (.tuple ds) && decide (ds.length ≤ 4)) = _
          rw [hs, Bool.true_and, hx.length]
          exact decide_eq_decide.mpr (by omega)
        have z := q _ s1
        rw [e] at z
        exact iteT ⟨_, rfl, a, xs, rfl, .inr (SqT.of (s1 _ _ ea)), _, _, rfl, rfl, z⟩
      | _ => cases hs
end
end OM

namespace OM
open PySem PySem.Spec PyProof.Rows L2
/-- a statement within a class -/
abbrev inStK (i j : Nat) : Stmt := (match top i with
  | .ClassDef (body := b) .. => b
  | _ => []).getD j (.Pass ⟨0, 0, 0, 0⟩)
abbrev sMI : Stmt := inStK 2 0
abbrev sSI : Stmt := inStK 48 0
/-- an object that is being made: nothing stands in it yet -/
def Raw (K : PySem.W.Frag) (B : String) (fs : List Str) (a C : Addr) (H : Hp) : Prop := ∃ tail : List Value, OexB K C tail ∧ tail.contains (.type B) = true ∧ H a = some (exo a C none) ∧ ∀ f ∈ fs, PySem.W.findIn K (.ref C) f = some none
/-- __init__ of a class without fields -/
def spI0 (K : PySem.W.Frag) (B : String) : Sp := fun vs H Q _ => ∃ (a C : Addr) (x : V), vs = [.ref a, x] ∧ Raw K B [] a C H ∧ Q .non H
/-- a built-in class's name and its __init__ -/
structure BIn (K : PySem.W.Frag) (mg : Str → Option Value) (x : Str) (B initId : String) : Prop where
  mg : mg x = none
  v : PySem.W.findCls K (.type B) (.type "type") "__init__" = some (.val (.builtin initId))
/-- a class of the package, as it is made -/
structure KCls (K : PySem.W.Frag) (C fI : Addr) (B : String) (fs : List Str) : Prop where
  made : ∃ tail, MkB K C fI tail ∧ tail.contains (.type B) = true
  no : ∀ f ∈ fs, PySem.W.findIn K (.ref C) f = some none
theorem KCls.raw {K : PySem.W.Frag} {C fI a : Addr} {B : String} {fs : List Str} {H : Hp} (k : KCls K C fI B fs) (e : H a = some (exo a C none)) : Raw K B fs a C H := by
  obtain ⟨tail, M, hB⟩ := k.made
  exact ⟨tail, M.T, hB, e, k.no⟩
/-- what is let out -/
def OutN (E : XK) (C : Addr) (H : Hp) : Prop := ∀ H', Same H H' → E (.ref C) none H'
theorem same_del {H : Hp} {a : Addr} {o : HO} (h : H a = none) : Same H (del (upd H a o) a) := fun b u e => by
  have nb := ne_of_none e h
  rw [del_ne nb, upd_ne nb]
  exact e
theorem mk0 {K : PySem.W.Frag} {E : XK} {H : Hp} {C fI : Addr} {x : V} (k : KCls K C fI "ValueError" []) (q : OutN E C H) : [x].length ≤ 1000 ∧ ∀ a, H a = none → spI0 K "ValueError" (.ref a :: ([x] ++ [])) (upd H a (exo a C none)) (fun v H2 => v = .non ∧ MkR C H E a H2) E0 :=
  ⟨(by show 1 ≤ 1000; decide), fun a h => ⟨a, C, x, rfl, k.raw upd_same, rfl, .inl ⟨upd_same, q _ (same_del h)⟩⟩⟩
/-- the bounds of a stretch -/
def bndD (ds : List PyData) : Bool := decide ((flatN 3 ds).length ≤ 24) && (decide ((firsts [] ((flatN 3 ds).flatMap (namesD "cell"))).length ≤ 4) && (decide (mostN 3 "letter" ds ≤ 6) && (decide (mostN 3 "set" ds ≤ 6) && decide (mostN 3 "if" ds ≤ 3))))
def itemsD : PyData → List PyData
  | .tuple ds => ds
  | _ => []
/-- what Stretch takes -/
def okD (c k : PyData) : Bool := codeD 3 c && (bndD (itemsD c) && keptD k)
def spBnd : Sp := fun vs H Q _ => ∃ (S : Addr → Prop) (v : V) (ds : List PyData), vs = [v] ∧ Dt S H v (.tuple ds) ∧ ds.all (rowD (cdOf 3)) = true ∧ (flatN 3 ds).length ≤ 400 ∧ ∀ H', Same H H' → Q (.bl (bndD ds)) H'
section
variable {P : Program} {w : World} {K : PySem.W.Frag} {mg : Str → Option Value} {base : Heap} {f fF fC fO fM fA fK fN : Addr} {fd dF dC dO dM dA dK dN : FuncData}
theorem scMI : FnScope ["self", "why"] ["self", "why"] (defScope sMI) := ⟨rfl, rfl, rfl, by decide +kernel, rfl, by decide +kernel, by decide +kernel⟩
theorem ok_iM {dvs : List V} (F : FunD K "__init__" "MoveError.__init__" (defArgs sMI) (defBody sMI) (defScope sMI) dvs [] f fd) (b : BIn K mg "ValueError" "ValueError" "ValueError.__init__") : FnOk P w K mg base CX0 1 f fd ["self", "why"] (spI0 K "ValueError") := by
  refine F.ok scMI (fun vs H Q E h => ?_) (fun cdv A outer s H vs Q E hr h => ?_)
  · obtain ⟨a, C, x, rfl, _⟩ := h
    rfl
  · obtain ⟨a, C, x, rfl, ⟨tail, T, hB, ea, _⟩, q⟩ := h
    refine ⟨_, pss_one (ps_expr (pe_binit base_VE (by rfl) b.mg (by decide +kernel) b.v (by decide +kernel) (pa_cons (pv 0) (pa_cons (pv 1) pa_nil)))), ?_⟩
    exact ⟨_, rfl, _, rfl, a, C, tail, [x], rfl, (by show 1 ≤ 1000; decide), T, hB, ea, q⟩
/-- most_on_path and the two below it -/
structure MostF (K : PySem.W.Frag) (mg : Str → Option Value) (fM fA fK : Addr) (dM dA dK : FuncData) : Prop where
  FM : Fun K "most_on_path" "most_on_path" sMost fM dM
  FA : Fun K "_most_at" "_most_at" sMostAt fA dA
  FK : Fun K "_path_kind" "_path_kind" sKind fK dK
  gM : mg "most_on_path" = some (.ref fM)
  gA : mg "_most_at" = some (.ref fA)
  gK : mg "_path_kind" = some (.ref fK)
  bM : Binds K dM ["code", "kind"] []
  bA : Binds K dA ["statement", "kind"] []
  bK : Binds K dK ["statement"] []
theorem ok_most (M : MostF K mg fM fA fK dM dA dK) (C : FlatF K mg fF fC fO dF dC dO) (TS : TxtS mg) : ∀ n, FnOk P w K mg base CX0 (2 * n + 1) fM dM ["code", "kind"] (spMost n)
  | 0 => ⟨fun _ _ _ _ h => h.elim, fun _ _ _ _ _ _ _ _ _ _ _ _ _ h => h.elim⟩
  | n + 1 => most_step M.FM TS M.gA M.FA.kp M.bA (mostat_ok (j := 2 * n) M.FA TS M.gM M.FM.kp M.bM (ok_most M C TS n) C.FC C.gC C.bC M.FK M.gK M.bK)
/-- the bounds, as the module tells them -/
structure TxtB (mg : Str → Option Value) : Prop where
  st : ∃ t, mg "MAX_STATEMENTS" = some (.int 24 t)
  ce : ∃ t, mg "MAX_CELLS" = some (.int 4 t)
  le : ∃ t, mg "MAX_LETTERS_SENT" = some (.int 6 t)
  se : ∃ t, mg "MAX_SETS" = some (.int 6 t)
  te : ∃ t, mg "MAX_TESTS" = some (.int 3 t)
theorem scBd : FnScope ["code"] ["code"] (defScope sBounded) := ⟨rfl, rfl, rfl, by decide +kernel, rfl, by decide +kernel, by decide +kernel⟩
theorem dec_3 {a : Nat} : decide ((a : Int) ≤ 3) = decide (a ≤ 3) := decide_eq_decide.mpr (by omega)
theorem dec_4 {a : Nat} : decide ((a : Int) ≤ 4) = decide (a ≤ 4) := decide_eq_decide.mpr (by omega)
theorem dec_6 {a : Nat} : decide ((a : Int) ≤ 6) = decide (a ≤ 6) := decide_eq_decide.mpr (by omega)
theorem dec_24 {a : Nat} : decide ((a : Int) ≤ 24) = decide (a ≤ 24) := decide_eq_decide.mpr (by omega)
theorem ok_bounded (F : Fun K "is_bounded" "is_bounded" sBounded f fd) (TF : TxtF K w mg) (TS : TxtS mg) (TB : TxtB mg) (C : FlatF K mg fF fC fO dF dC dO) (M : MostF K mg fM fA fK dM dA dK) (gN : mg "names_in" = some (.ref fN)) (FN : Fun K "names_in" "names_in" sNamesIn fN dN) (bN : Binds K dN ["code", "role"] []) :
    FnOk P w K mg base CX0 10 f fd ["code"] spBnd := by
  have GF : FnOk P w K mg base CX0 5 fF dF ["code"] (spFlatAt 4) := ok_flat C 4
  have GN : FnOk P w K mg base CX0 6 fN dN ["code", "role"] spNamesIn := ok_namesin FN TF TS C
  have GM : FnOk P w K mg base CX0 9 fM dM ["code", "kind"] (spMost 4) := ok_most M C TS 4
  obtain ⟨t1, g1⟩ := TB.st
  obtain ⟨t2, g2⟩ := TB.ce
  obtain ⟨t3, g3⟩ := TB.le
  obtain ⟨t4, g4⟩ := TB.se
  obtain ⟨t5, g5⟩ := TB.te
  refine F.ok scBd (fun vs H Q E h => ?_) (fun cdv A outer s H vs Q E hr h => ?_)
  · obtain ⟨S, v, ds, rfl, _⟩ := h
    rfl
  · obtain ⟨S, v, ds, rfl, hd, rows, size, q⟩ := h
    refine ⟨_, pss_one (ps_ret (pe_and (pe_cmpR op_le (pe_callB call_len_seq (by rfl) TS.len PySem.boot_len (pa_cons (pe_call GF (hr.mono (by decide)) (by rfl) C.gF C.FF.kp C.bF .nil pass0 (pa_cons (pv 0) pa_nil)) pa_nil)) (pe_glob (v := .int 24) (by rfl) g1 ⟨t1, rfl⟩) (nomark _))
      (pe_and (pe_cmpR op_le (pe_callB call_len_seq (by rfl) TS.len PySem.boot_len (pa_cons (pe_call GN (hr.mono (by decide)) (by rfl) gN FN.kp bN .nil pass0 (pa_cons (pv 0) (pa_cons pe_str pa_nil))) pa_nil)) (pe_glob (v := .int 4) (by rfl) g2 ⟨t2, rfl⟩) (nomark _))
      (pe_and (pe_cmpR op_le (pe_call GM hr (by rfl) M.gM M.FM.kp M.bM .nil pass0 (pa_cons (pv 0) (pa_cons pe_str pa_nil))) (pe_glob (v := .int 6) (by rfl) g3 ⟨t3, rfl⟩) (nomark _))
      (pe_and (pe_cmpR op_le (pe_call GM hr (by rfl) M.gM M.FM.kp M.bM .nil pass0 (pa_cons (pv 0) (pa_cons pe_str pa_nil))) (pe_glob (v := .int 6) (by rfl) g4 ⟨t4, rfl⟩) (nomark _))
      (pe_one (pe_cmpR op_le (pe_call GM hr (by rfl) M.gM M.FM.kp M.bM .nil pass0 (pa_cons (pv 0) (pa_cons pe_str pa_nil))) (pe_glob (v := .int 3) (by rfl) g5 ⟨t5, rfl⟩) (nomark _)))))))), ?_⟩
    have live : ∀ b, (S b ∧ H b ≠ none) → H b ≠ none := fun b z => z.2
    have hd := hd.live
    unfold bndD at q
    refine ⟨_, rfl, _, v, ds, rfl, hd, rows, Nat.le_trans size (by decide), fun H1 p1 xs1 s1 hp1 e1 d1 => ⟨p1, _, rfl, .inl (SqL.of e1), _, _, rfl, rfl, _, rfl, ?_⟩⟩
    rw [d1.length, dec_24]
    refine ite2 (fun k1 => ?_) (fun k1 => ?_)
    · rw [k1, Bool.true_and] at q
      refine ⟨_, rfl, _, v, ds, "cell", rfl, by decide +kernel, hd.base live (Same.refl H) s1, rows, size, fun H2 p2 ys s2 hp2 e2 pm so => ⟨p2, _, rfl, .inr (SqT.of e2), _, _, rfl, rfl, _, rfl, ?_⟩⟩
      rw [List.length_map, pm.length_eq, dec_4]
      have s12 := s1.trans s2
      refine ite2 (fun k2 => ?_) (fun k2 => ?_)
      · rw [k2, Bool.true_and] at q
        refine ⟨_, rfl, _, v, ds, "letter", rfl, hd.base live (Same.refl H) s12, rows, fun H3 s3 => ⟨_, _, rfl, rfl, _, rfl, ?_⟩⟩
        rw [dec_6]
        have s13 := s12.trans s3
        refine ite2 (fun k3 => ?_) (fun k3 => ?_)
        · rw [k3, Bool.true_and] at q
          refine ⟨_, rfl, _, v, ds, "set", rfl, hd.base live (Same.refl H) s13, rows, fun H4 s4 => ⟨_, _, rfl, rfl, _, rfl, ?_⟩⟩
          rw [dec_6]
          have s14 := s13.trans s4
          refine ite2 (fun k4 => ?_) (fun k4 => ?_)
          · rw [k4, Bool.true_and] at q
            refine ⟨_, rfl, _, v, ds, "if", rfl, hd.base live (Same.refl H) s14, rows, fun H5 s5 => ⟨_, _, rfl, rfl, ?_⟩⟩
            show Q (.bl (decide (((mostN 3 "if" ds : Nat) : Int) ≤ 3))) H5
            rw [dec_3]
            exact q _ (s14.trans s5)
          · rw [Bool.eq_false_iff.mpr k4, Bool.false_and] at q
            exact q _ s14
        · rw [Bool.eq_false_iff.mpr k3, Bool.false_and] at q
          exact q _ s13
      · rw [Bool.eq_false_iff.mpr k2, Bool.false_and] at q
        exact q _ s12
    · rw [Bool.eq_false_iff.mpr k1, Bool.false_and] at q
      exact q _ s1
/-- the class Stretch, as it is made -/
structure StrT (K : PySem.W.Frag) (mg : Str → Option Value) (C : Addr) : Prop where
  cl : Cls K C
  nc : NoAttr K C "_code"
  nk : NoAttr K C "_keeps"
/-- Stretch(code, keeps): its fields, or InvalidStretch -/
def spSI (C cS : Addr) : Sp := fun vs H Q E => ∃ (S : Addr → Prop) (p dx : Addr) (c k : V) (dc dk : PyData), vs = [.ref p, c, k] ∧ H p = some (.ins C dx []) ∧ Dt S H c dc ∧ Dt S H k dk ∧ smlD dc = true ∧ smlD dk = true ∧ (codeD 3 dc = true → (flatN 3 (itemsD dc)).length ≤ 400) ∧
  (okD dc dk = true → ∀ H', But p H H' → H' p = some (.ins C dx [("_code", c), ("_keeps", k)]) → Q .non H') ∧ (okD dc dk = false → OutN E cS H)
theorem scSI : FnScope ["self", "code", "keeps"] ["self", "code", "keeps"] (defScope sSI) := ⟨rfl, rfl, rfl, by decide +kernel, rfl, by decide +kernel, by decide +kernel⟩
theorem ok_sinit {dvs : List V} {C cS fI fIC fB fKp : Addr} {dI dIC dB dKp : FuncData} (F : FunD K "__init__" "Stretch.__init__" (defArgs sSI) (defBody sSI) (defScope sSI) dvs [] f fd) (T : StrT K mg C) (kS : KCls K cS fI "ValueError" []) (gcS : mg "InvalidStretch" = some (.ref cS))
    (GI : FnOk P w K mg base CX0 1 fI dI ["self", "why"] (spI0 K "ValueError")) (bI : Binds K dI ["self", "why"] []) (gIC : mg "is_code" = some (.ref fIC)) (kIC : PySem.W.keepIn K (.ref fIC) = true) (bIC : Binds K dIC ["value"] []) (GIC : FnOk P w K mg base CX0 14 fIC dIC ["value"] spIsCode)
    (gB : mg "is_bounded" = some (.ref fB)) (kB : PySem.W.keepIn K (.ref fB) = true) (bB : Binds K dB ["code"] []) (GB : FnOk P w K mg base CX0 10 fB dB ["code"] spBnd) (gKp : mg "is_kept" = some (.ref fKp)) (kKp : PySem.W.keepIn K (.ref fKp) = true) (bKp : Binds K dKp ["value"] []) (GKp : FnOk P w K mg base CX0 3 fKp dKp ["value"] spKept) :
    FnOk P w K mg base (L2.CX P w) 15 f fd ["self", "code", "keeps"] (spSI C cS) := by
  refine F.ok scSI (fun vs H Q E h => ?_) (fun cdv A outer s H vs Q E hr h => ?_)
  · obtain ⟨S, p, dx, c, k, dc, dk, rfl, _⟩ := h
    rfl
  · obtain ⟨S, p, dx, c, k, dc, dk, rfl, hp, hc, hk, sc, sk, size, q, e⟩ := h
    refine ⟨_, pss_cons (ps_if (pt_not (pt_val (pe_call GIC hr (by rfl) gIC kIC bIC .nil pass0 (pa_cons (pv 1) pa_nil)))) (pss_one (ps_raise rfl (takes_of rfl rfl rfl rfl) (pmk_B (Classical.choose_spec kS.made).1 GI (hr.mono (by decide)) (by rfl) gcS bI .nil pass0 (pa_cons pe_str pa_nil)))) pss_nil)
      (pss_cons (ps_if (pt_not (pt_val (pe_call GB (hr.mono (by decide)) (by rfl) gB kB bB .nil pass0 (pa_cons (pv 1) pa_nil)))) (pss_one (ps_raise rfl (takes_of rfl rfl rfl rfl) (pmk_B (Classical.choose_spec kS.made).1 GI (hr.mono (by decide)) (by rfl) gcS bI .nil pass0 (pa_cons pe_str pa_nil)))) pss_nil)
      (pss_cons (ps_if (pt_not (pt_val (pe_call GKp (hr.mono (by decide)) (by rfl) gKp kKp bKp .nil pass0 (pa_cons (pv 2) pa_nil)))) (pss_one (ps_raise rfl (takes_of rfl rfl rfl rfl) (pmk_B (Classical.choose_spec kS.made).1 GI (hr.mono (by decide)) (by rfl) gcS bI .nil pass0 (pa_cons pe_str pa_nil)))) pss_nil)
      (pss_cons (ps_fld (pv 0) (pv 1) rfl) (pss_one (ps_fld (pv 0) (pv 2) rfl))))), ?_⟩
    have out : ∀ {H1 : Hp}, Same H H1 → okD dc dk = false → OutN E cS H1 := fun s1 z H' s' => e z H' (s1.trans s')
    refine ⟨_, rfl, S, c, dc, rfl, hc, sc, fun H1 s1 => ⟨_, rfl, ?_⟩⟩
    cases h1 : codeD 3 dc with
    | false =>
      have z : okD dc dk = false := by
        unfold okD
        rw [h1, Bool.false_and]
      exact iteT (mk0 kS (out s1 z))
    | true =>
      refine iteF ?_
      obtain ⟨ds, rfl, rows⟩ := code_tup h1
      refine ⟨_, rfl, S, c, ds, rfl, hc.mv (fun _ z => z) (fun b o _ z => s1 b o z), rows, size h1, fun H2 s2 => ⟨_, rfl, ?_⟩⟩
      have s12 := s1.trans s2
      cases h2 : bndD ds with
      | false =>
        have z : okD (.tuple ds) dk = false := by
          unfold okD itemsD
          rw [h2, Bool.false_and, Bool.and_false]
        exact iteT (mk0 kS (out s12 z))
      | true =>
        refine iteF ⟨_, rfl, S, k, dk, rfl, hk.mv (fun _ z => z) (fun b o _ z => s12 b o z), sk, fun H3 s3 => ⟨_, rfl, ?_⟩⟩
        have s13 := s12.trans s3
        cases h3 : keptD dk with
        | false =>
          have z : okD (.tuple ds) dk = false := by
            unfold okD
            rw [h3, Bool.and_false, Bool.and_false]
          exact iteT (mk0 kS (out s13 z))
        | true =>
          have z : okD (.tuple ds) dk = true := by
            unfold okD itemsD
            rw [h1, h2, h3]
            rfl
          refine iteF ⟨_, rfl, _, rfl, p, C, dx, [], rfl, s13 _ _ hp, T.cl, T.nc, (by show 0 < 1000; decide), _, rfl, _, rfl, p, C, dx, _, rfl, upd_same, T.cl, T.nk, (by show 1 < 1000; decide), ?_⟩
          refine q z _ (fun b o hb eb => ?_) upd_same
          rw [upd_ne hb, upd_ne hb]
          exact s13 b o eb
end
end OM

namespace OM
open PySem PySem.Spec PyProof.Rows L2
/-! ### weights of tuples, taken over all of a datum -/
mutual
def tot (φ : List PyData → Nat) : PyData → Nat
  | .tuple ds => φ ds + totL φ ds
  | _ => 0
def totL (φ : List PyData → Nat) : List PyData → Nat
  | [] => 0
  | d :: r => tot φ d + totL φ r
end
theorem totL_app (φ : List PyData → Nat) : ∀ (a b : List PyData), totL φ (a ++ b) = totL φ a + totL φ b
  | [], b => by
    show totL φ b = totL φ [] + totL φ b
    unfold totL
    omega
  | d :: r, b => by
    show tot φ d + totL φ (r ++ b) = _
    rw [totL_app φ r b]
    show _ = tot φ d + totL φ r + totL φ b
    omega
theorem totL_cons (φ : List PyData → Nat) (d : PyData) (r : List PyData) : totL φ (d :: r) = tot φ d + totL φ r := rfl
theorem tot_tup (φ : List PyData → Nat) (ds : List PyData) : tot φ (.tuple ds) = φ ds + totL φ ds := by
  unfold tot
  rfl
def wsum (ψ : PyData → Nat) (l : List PyData) : Nat := (l.map ψ).sum
theorem wsum_app (ψ : PyData → Nat) (a b : List PyData) : wsum ψ (a ++ b) = wsum ψ a + wsum ψ b := by
  unfold wsum
  rw [List.map_append, List.sum_append]
theorem wsum_cons (ψ : PyData → Nat) (d : PyData) (b : List PyData) : wsum ψ (d :: b) = ψ d + wsum ψ b := rfl
/-- the statements of code lie apart in it -/
def tupW (φ : List PyData → Nat) : PyData → Nat
  | .tuple ds => φ ds
  | _ => 0
theorem flat_tot (φ : List PyData → Nat) : ∀ n : Nat, (∀ d, wsum (tupW φ) (flatS n d) ≤ tot φ d) ∧ ∀ ds, wsum (tupW φ) (flatN n ds) ≤ totL φ ds := by
  have lift : ∀ n, (∀ d, wsum (tupW φ) (flatS n d) ≤ tot φ d) → ∀ ds, wsum (tupW φ) (flatN n ds) ≤ totL φ ds := fun n h ds => by
    induction ds with
    | nil => exact Nat.zero_le _
    | cons d r ih =>
      have e : flatN n (d :: r) = flatS n d ++ flatN n r := List.flatMap_cons
      rw [e, wsum_app, totL_cons]
      have := h d
      omega
  have one : ∀ d, tupW φ d ≤ tot φ d := fun d => by
    cases d with
    | tuple ds =>
      rw [tot_tup]
      exact Nat.le_add_right _ _
    | _ => exact Nat.zero_le _
  intro n
  induction n with
  | zero =>
    have h : ∀ d, wsum (tupW φ) (flatS 0 d) ≤ tot φ d := fun d => one d
    exact ⟨h, lift 0 h⟩
  | succ n ih =>
    have h : ∀ d, wsum (tupW φ) (flatS (n + 1) d) ≤ tot φ d := fun d => by
      show wsum _ (d :: (inner2 d).flatMap (flatN n)) ≤ _
      rw [wsum_cons]
      unfold inner2
      split
      · rename_i w p r ys ns
        rw [tot_tup]
        by_cases hw : w = "if"
        · rw [if_pos hw, List.flatMap_cons, List.flatMap_cons, List.flatMap_nil, List.append_nil, wsum_app]
          have h1 := ih.2 ys
          have h2 := ih.2 ns
          rw [totL_cons, totL_cons, totL_cons, totL_cons, totL_cons, tot_tup, tot_tup]
          show φ [.str w, p, r, .tuple ys, .tuple ns] + _ ≤ _
          omega
        · rw [if_neg hw]
          exact Nat.le_add_right _ _
      · exact Nat.le_trans (Nat.le_of_eq (Nat.add_zero _)) (one d)
    exact ⟨h, lift (n + 1) h⟩
theorem most_sum (k : Str) : ∀ n : Nat, (∀ d, mostS n k d ≤ wsum (ownD k) (flatS n d)) ∧ ∀ ds, mostN n k ds ≤ wsum (ownD k) (flatN n ds) := by
  have lift : ∀ n, (∀ d, mostS n k d ≤ wsum (ownD k) (flatS n d)) → ∀ ds, mostN n k ds ≤ wsum (ownD k) (flatN n ds) := fun n h ds => by
    induction ds with
    | nil => exact Nat.zero_le _
    | cons d r ih =>
      have e : flatN n (d :: r) = flatS n d ++ flatN n r := List.flatMap_cons
      rw [e, wsum_app]
      have := h d
      show mostS n k d + mostN n k r ≤ _
      omega
  intro n
  induction n with
  | zero =>
    have h : ∀ d, mostS 0 k d ≤ wsum (ownD k) (flatS 0 d) := fun d => Nat.le_refl _
    exact ⟨h, lift 0 h⟩
  | succ n ih =>
    have mx : ∀ l : List (List PyData), maxL (l.map fun c => (c.map (mostS n k)).sum) ≤ wsum (ownD k) (l.flatMap (flatN n)) := fun l => by
      induction l with
      | nil => exact Nat.zero_le _
      | cons c r ihl =>
        rw [List.flatMap_cons, wsum_app]
        show max _ (maxL (r.map _)) ≤ _
        have h1 : (c.map (mostS n k)).sum ≤ wsum (ownD k) (flatN n c) := ih.2 c
        exact Nat.max_le.mpr ⟨Nat.le_trans h1 (Nat.le_add_right _ _), Nat.le_trans ihl (Nat.le_add_left _ _)⟩
    have h : ∀ d, mostS (n + 1) k d ≤ wsum (ownD k) (flatS (n + 1) d) := fun d => by
      show ownD k d + _ ≤ wsum _ (d :: (inner2 d).flatMap (flatN n))
      rw [wsum_cons]
      have := mx (inner2 d)
      omega
    exact ⟨h, lift (n + 1) h⟩
theorem wsum_le {ψ χ : PyData → Nat} {l : List PyData} (h : ∀ e ∈ l, ψ e ≤ χ e) : wsum ψ l ≤ wsum χ l := by
  induction l with
  | nil => exact Nat.le_refl _
  | cons d r ih =>
    rw [wsum_cons, wsum_cons]
    have h1 := h d List.mem_cons_self
    have h2 := ih fun e he => h e (List.mem_cons_of_mem _ he)
    omega
/-! ### spoils -/
def odds : List PyData := [.none, .int 0, .bool true, .str "", .str "A", .str "if", .str "get", .str "read", .str "show", .tuple [], .list [], .dict [], .tuple [.str "a"], .str "abcdefghi", .str "a", .tuple [.str "show", .str "a"]]
inductive SpR : PyData → PyData → Prop where
  | odd {d o : PyData} (h : o ∈ odds) : SpR d o
  | del {ds : List PyData} (i : Nat) : SpR (.tuple ds) (.tuple (ds.take i ++ ds.drop (i + 1)))
  | ins {ds : List PyData} {o : PyData} (i : Nat) (h : o ∈ odds) : SpR (.tuple ds) (.tuple (ds.take i ++ o :: ds.drop i))
  | lst {ds : List PyData} : SpR (.tuple ds) (.list ds)
  | sub {ds : List PyData} {d d' : PyData} (i : Nat) (hi : ds[i]? = some d) (h : SpR d d') : SpR (.tuple ds) (.tuple (ds.take i ++ d' :: ds.drop (i + 1)))
/-- a weight that one spoil moves by one at most -/
structure Lip (φ : List PyData → Nat) : Prop where
  nil : φ [] ≤ 1
  odd : ∀ o ∈ odds, tot φ o ≤ 1
  oddL : ∀ o ∈ odds, totL φ (itemsD o) ≤ 1
  del : ∀ (a b : List PyData) (d : PyData), φ (a ++ b) ≤ φ (a ++ d :: b) + 1
  ins : ∀ (a b : List PyData), ∀ o ∈ odds, φ (a ++ o :: b) + tot φ o ≤ φ (a ++ b) + 1
  tup : ∀ (a b : List PyData) (xs ys : List PyData), φ (a ++ .tuple ys :: b) ≤ φ (a ++ .tuple xs :: b)
  put : ∀ (a b : List PyData) (d : PyData), ∀ o ∈ odds, φ (a ++ o :: b) + tot φ o ≤ φ (a ++ d :: b) + 1
  lst : ∀ (a b : List PyData) (xs ys : List PyData), φ (a ++ .list ys :: b) ≤ φ (a ++ .tuple xs :: b) + 1
theorem cut_at {ds : List PyData} {i : Nat} {d : PyData} (h : ds[i]? = some d) : ds = ds.take i ++ d :: ds.drop (i + 1) := by
  obtain ⟨hl, e⟩ := List.getElem?_eq_some_iff.mp h
  rw [← e, ← List.drop_eq_getElem_cons hl, List.take_append_drop]
theorem drop_case (ds : List PyData) (i : Nat) : (∃ d, ds = ds.take i ++ d :: ds.drop (i + 1)) ∨ ds.take i ++ ds.drop (i + 1) = ds := by
  rcases Nat.lt_or_ge i ds.length with h | h
  · exact .inl ⟨ds[i], cut_at (List.getElem?_eq_getElem h)⟩
  · right
    rw [List.take_of_length_le h, List.drop_of_length_le (by omega), List.append_nil]
theorem SpR.tot {φ : List PyData → Nat} (L : Lip φ) : ∀ {d d' : PyData}, SpR d d' → OM.tot φ d' ≤ OM.tot φ d + 1 ∧ totL φ (itemsD d') ≤ totL φ (itemsD d) + 1
  | _, _, .odd h => ⟨Nat.le_trans (L.odd _ h) (Nat.le_add_left _ _), Nat.le_trans (L.oddL _ h) (Nat.le_add_left _ _)⟩
  | _, _, .del (ds := ds) i => by
    rcases drop_case ds i with ⟨d, e⟩ | e
    · have h1 := L.del (ds.take i) (ds.drop (i + 1)) d
      rw [← e] at h1
      have h2 : totL φ ds = totL φ (ds.take i) + (OM.tot φ d + totL φ (ds.drop (i + 1))) := by
        conv => lhs; rw [e, totL_app, totL_cons]
      rw [tot_tup, tot_tup]
      show _ ∧ totL φ (ds.take i ++ ds.drop (i + 1)) ≤ totL φ ds + 1
      rw [totL_app]
      omega
    · rw [e]
      exact ⟨Nat.le_succ _, Nat.le_succ _⟩
  | _, _, .ins (ds := ds) (o := o) i h => by
    have h1 := L.ins (ds.take i) (ds.drop i) o h
    have h3 := L.odd o h
    rw [List.take_append_drop] at h1
    have h2 : totL φ ds = totL φ (ds.take i) + totL φ (ds.drop i) := by
      conv => lhs; rw [← List.take_append_drop i ds, totL_app]
    rw [tot_tup, tot_tup]
    show _ ∧ totL φ (ds.take i ++ o :: ds.drop i) ≤ totL φ ds + 1
    rw [totL_app, totL_cons]
    omega
  | _, _, .lst => ⟨Nat.zero_le _, Nat.zero_le _⟩
  | _, _, .sub (ds := ds) (d := d) (d' := d') i hi h => by
    have e := cut_at hi
    have ih := SpR.tot L h
    have h2 : totL φ ds = totL φ (ds.take i) + (OM.tot φ d + totL φ (ds.drop (i + 1))) := by
      conv => lhs; rw [e, totL_app, totL_cons]
    have key : φ (ds.take i ++ d' :: ds.drop (i + 1)) + OM.tot φ d' ≤ φ ds + OM.tot φ d + 1 := by
      cases h with
      | odd ho =>
        have := L.put (ds.take i) (ds.drop (i + 1)) d d' ho
        rw [← e] at this
        omega
      | @del xs j =>
        have := L.tup (ds.take i) (ds.drop (i + 1)) xs (xs.take j ++ xs.drop (j + 1))
        rw [← e] at this
        have := ih.1
        omega
      | @ins xs o j ho =>
        have := L.tup (ds.take i) (ds.drop (i + 1)) xs (xs.take j ++ o :: xs.drop j)
        rw [← e] at this
        have := ih.1
        omega
      | @lst xs =>
        have := L.lst (ds.take i) (ds.drop (i + 1)) xs xs
        rw [← e] at this
        show _ + 0 ≤ _
        omega
      | @sub xs y y' j hj hy =>
        have := L.tup (ds.take i) (ds.drop (i + 1)) xs (xs.take j ++ y' :: xs.drop (j + 1))
        rw [← e] at this
        have := ih.1
        omega
    rw [tot_tup, tot_tup]
    show _ ∧ totL φ (ds.take i ++ d' :: ds.drop (i + 1)) ≤ totL φ ds + 1
    rw [totL_app, totL_cons]
    have := ih.1
    omega
/-! ### the four weights -/
def headW (P : Str → Bool) : List PyData → Nat
  | .str w :: _ => if P w = true then 1 else 0
  | _ => 0
theorem headW_le (P : Str → Bool) (ds : List PyData) : headW P ds ≤ 1 := by
  unfold headW
  split
  · split
    · exact Nat.le_refl _
    · exact Nat.zero_le _
  · exact Nat.zero_le _
theorem odds_all {p : PyData → Prop} (h0 : p .none) (h1 : p (.int 0)) (h2 : p (.bool true)) (hs : ∀ x, p (.str x)) (ht : p (.tuple [])) (hl : p (.list [])) (hd : p (.dict [])) (ha : p (.tuple [.str "a"])) (hw : p (.tuple [.str "show", .str "a"])) : ∀ o ∈ odds, p o := by
  intro o ho
  unfold odds at ho
  simp only [List.mem_cons, List.not_mem_nil, or_false] at ho
  rcases ho with rfl | rfl | rfl | rfl | rfl | rfl | rfl | rfl | rfl | rfl | rfl | rfl | rfl | rfl | rfl | rfl <;> first | assumption | exact hs _
theorem lip_head (P : Str → Bool) (ha : P "a" = false) (hs : P "show" = false) : Lip (headW P) := by
  have z : ∀ o ∈ odds, tot (headW P) o = 0 := odds_all rfl rfl rfl (fun _ => rfl) rfl rfl rfl (by
    rw [tot_tup]
    show (if P "a" = true then 1 else 0) + _ = 0
    rw [ha]
    rfl) (by
    rw [tot_tup]
    show (if P "show" = true then 1 else 0) + _ = 0
    rw [hs]
    rfl)
  have zl : ∀ o ∈ odds, totL (headW P) (itemsD o) = 0 := odds_all rfl rfl rfl (fun _ => rfl) rfl rfl rfl rfl rfl
  have le := headW_le P
  refine ⟨le _, fun o h => by rw [z o h]; exact Nat.zero_le _, fun o h => by rw [zl o h]; exact Nat.zero_le _, fun a b d => ?_, fun a b o h => ?_, fun a b xs ys => ?_, fun a b d o h => ?_, fun a b xs ys => ?_⟩
  · have := le (a ++ b)
    omega
  · have := le (a ++ o :: b)
    rw [z o h]
    omega
  · cases a with
    | nil => exact Nat.zero_le _
    | cons x r => cases x <;> exact Nat.le_refl _
  · have := le (a ++ o :: b)
    rw [z o h]
    omega
  · have := le (a ++ .list ys :: b)
    omega
theorem lip_one : Lip fun _ => 1 := by
  have z : ∀ o ∈ odds, tot (fun _ => 1) o ≤ 1 := odds_all (Nat.zero_le _) (Nat.zero_le _) (Nat.zero_le _) (fun _ => Nat.zero_le _) (Nat.le_refl _) (Nat.zero_le _) (Nat.zero_le _) (Nat.le_refl _) (Nat.le_refl _)
  have zl : ∀ o ∈ odds, totL (fun _ => 1) (itemsD o) = 0 := odds_all rfl rfl rfl (fun _ => rfl) rfl rfl rfl rfl rfl
  refine ⟨Nat.le_refl _, z, fun o h => by rw [zl o h]; exact Nat.zero_le _, fun a b d => (by omega), fun a b o h => ?_, fun a b xs ys => Nat.le_refl _, fun a b d o h => ?_, fun a b xs ys => (by omega)⟩
  · have := z o h
    omega
  · have := z o h
    omega
def isIfD : PyData → Bool
  | .str w => w == "if"
  | _ => false
/-- how near a tuple is to an if -/
def ifW (ds : List PyData) : Nat := min (min 2 (ds.countP isTupD) + min 1 (ds.countP isIfD) - 1) (min 2 (ds.length - 3))
theorem one_tup (d : PyData) : ((if isTupD d = true then 1 else 0) + (if isIfD d = true then 1 else 0) : Nat) ≤ 1 := by
  cases d with
  | str w =>
    show 0 + _ ≤ 1
    split <;> omega
  | tuple ds => exact Nat.le_refl 1
  | _ => exact Nat.zero_le _
theorem lip_if : Lip ifW := by
  have z : ∀ o ∈ odds, tot ifW o = 0 := odds_all rfl rfl rfl (fun _ => rfl) rfl rfl rfl rfl rfl
  have zl : ∀ o ∈ odds, totL ifW (itemsD o) = 0 := odds_all rfl rfl rfl (fun _ => rfl) rfl rfl rfl rfl rfl
  refine ⟨Nat.zero_le _, fun o h => by rw [z o h]; exact Nat.zero_le _, fun o h => by rw [zl o h]; exact Nat.zero_le _, fun a b d => ?_, fun a b o h => ?_, fun a b xs ys => ?_, fun a b d o h => ?_, fun a b xs ys => ?_⟩
  · unfold ifW
    rw [List.countP_append, List.countP_append, List.countP_append, List.countP_append, List.countP_cons, List.countP_cons, List.length_append, List.length_append, List.length_cons]
    have := one_tup d
    omega
  · rw [z o h]
    unfold ifW
    rw [List.countP_append, List.countP_append, List.countP_append, List.countP_append, List.countP_cons, List.countP_cons, List.length_append, List.length_append, List.length_cons]
    have := one_tup o
    omega
  · unfold ifW
    rw [List.countP_append, List.countP_append, List.countP_append, List.countP_append, List.countP_cons, List.countP_cons, List.countP_cons, List.countP_cons, List.length_append, List.length_append, List.length_cons, List.length_cons]
    exact Nat.le_refl _
  · rw [z o h]
    unfold ifW
    rw [List.countP_append, List.countP_append, List.countP_append, List.countP_append, List.countP_cons, List.countP_cons, List.countP_cons, List.countP_cons, List.length_append, List.length_append, List.length_cons, List.length_cons]
    have h1 := one_tup o
    have h2 := one_tup d
    omega
  · unfold ifW
    rw [List.countP_append, List.countP_append, List.countP_append, List.countP_append, List.countP_cons, List.countP_cons, List.countP_cons, List.countP_cons, List.length_append, List.length_append, List.length_cons, List.length_cons]
    show min (min 2 (_ + (_ + 0)) + min 1 (_ + (_ + 0)) - 1) _ ≤ min (min 2 (_ + (_ + 1)) + min 1 (_ + (_ + 0)) - 1) _ + 1
    omega
def isLet (w : Str) : Bool := decide (w = "get" ∨ w = "put")
def isSet (w : Str) : Bool := decide (w = "set")
end OM

namespace OM
open PySem PySem.Spec PyProof.Rows L2
theorem totL_strs (φ : List PyData → Nat) : ∀ l : List Str, totL φ (l.map PyData.str) = 0
  | [] => rfl
  | x :: r => by
    show 0 + totL φ (r.map PyData.str) = 0
    rw [totL_strs φ r]
theorem regs_plain : ∀ a ∈ regs4, isLet a = false ∧ isSet a = false ∧ (a == "if") = false := by decide +kernel
theorem cells_plain : ∀ a ∈ cells3, isLet a = false ∧ isSet a = false ∧ (a == "if") = false := by decide +kernel
theorem ifW_short {ds : List PyData} (h : ds.length ≤ 3) : ifW ds = 0 := by
  unfold ifW
  have : ds.length - 3 = 0 := by omega
  rw [this]
  simp
theorem head_regs {P : Str → Bool} {as : List Str} (h : ∀ a ∈ as, P a = false) : headW P (as.map PyData.str) = 0 := by
  cases as with
  | nil => rfl
  | cons a r =>
    show (if P a = true then 1 else 0) = 0
    rw [h a List.mem_cons_self]
    rfl
theorem head_no {P : Str → Bool} {w : Str} {r : List PyData} (h : P w = false) : headW P (.str w :: r) = 0 := by
  show (if P w = true then 1 else 0) = 0
  rw [h]
  rfl
theorem CoD.head {n : Nat} {ds : List PyData} {l s t z : Nat} (h : CoD n ds l s t z) (P : Str → Bool) : headW P ds = 0 := by
  cases h with
  | nil => rfl
  | cons h r => cases h <;> rfl
def Bd (d : PyData) (l s t z : Nat) : Prop := tot (headW isLet) d ≤ l ∧ tot (headW isSet) d ≤ s ∧ tot (fun _ => 1) d ≤ z + 2 * t + s ∧ tot ifW d ≤ 2 * t ∧ z ≤ 1 + 4 * t
def BdL (ds : List PyData) (l s t z : Nat) : Prop := totL (headW isLet) ds ≤ l ∧ totL (headW isSet) ds ≤ s ∧ totL (fun _ => 1) ds ≤ z + 2 * t + s ∧ totL ifW ds ≤ 2 * t ∧ z ≤ ds.length + 4 * t
mutual
theorem StD.w : ∀ {n : Nat} {d : PyData} {l s t z : Nat}, StD n d l s t z → Bd d l s t z
  | _, _, _, _, _, _, .read (r := r) (x := x) hr hx => by
    refine ⟨?_, ?_, ?_, ?_, by omega⟩ <;> rw [tot_tup]
    · rw [head_no (by decide +kernel)]
      exact Nat.le_refl 0
    · rw [head_no (by decide +kernel)]
      exact Nat.le_refl 0
    · exact Nat.le_refl 1
    · rw [ifW_short (by show 3 ≤ 3; decide)]
      exact Nat.le_refl 0
  | _, _, _, _, _, _, .write (r := r) (x := x) hx hr => by
    refine ⟨?_, ?_, ?_, ?_, by omega⟩ <;> rw [tot_tup]
    · rw [head_no (by decide +kernel)]
      exact Nat.le_refl 0
    · rw [head_no (by decide +kernel)]
      exact Nat.le_refl 0
    · exact Nat.le_refl 1
    · rw [ifW_short (by show 3 ≤ 3; decide)]
      exact Nat.le_refl 0
  | _, _, _, _, _, _, .copy (r := r) (a := a) hr ha => by
    refine ⟨?_, ?_, ?_, ?_, by omega⟩ <;> rw [tot_tup]
    · rw [head_no (by decide +kernel)]
      exact Nat.le_refl 0
    · rw [head_no (by decide +kernel)]
      exact Nat.le_refl 0
    · exact Nat.le_refl 1
    · rw [ifW_short (by show 3 ≤ 3; decide)]
      exact Nat.le_refl 0
  | _, _, _, _, _, _, .letter (w := w) (r := r) hw hr => by
    refine ⟨?_, ?_, ?_, ?_, by omega⟩ <;> rw [tot_tup]
    · have := headW_le isLet [.str w, .str r]
      show _ + 0 ≤ 1
      omega
    · rw [head_no (by rcases hw with rfl | rfl <;> decide +kernel)]
      exact Nat.le_refl 0
    · exact Nat.le_refl 1
    · rw [ifW_short (by show 2 ≤ 3; decide)]
      exact Nat.le_refl 0
  | _, _, _, _, _, _, .set (r := r) (f := f) (as := as) hr hf ha hl => by
    have e : ∀ φ : List PyData → Nat, tot φ (.tuple [.str "set", .str r, .str f, .tuple (as.map PyData.str)]) = φ [.str "set", .str r, .str f, .tuple (as.map PyData.str)] + φ (as.map PyData.str) := fun φ => by
      rw [tot_tup]
      show _ + (0 + (0 + (0 + (tot φ (.tuple (as.map PyData.str)) + 0)))) = _
      rw [tot_tup, totL_strs]
      omega
    refine ⟨?_, ?_, ?_, ?_, by omega⟩ <;> rw [e]
    · rw [head_no (by decide +kernel), head_regs fun a h => (regs_plain a (ha a h)).1]
      exact Nat.le_refl 0
    · have := headW_le isSet [.str "set", .str r, .str f, .tuple (as.map PyData.str)]
      rw [head_regs fun a h => (regs_plain a (ha a h)).2.1]
      exact this
    · exact Nat.le_refl 2
    · rw [ifW_short (ds := as.map PyData.str) (by rw [List.length_map]; omega)]
      have h1 := (regs_plain r hr).2.2
      have h2 : (f == "if") = false := by rcases hf with rfl | rfl <;> decide +kernel
      have h3 : ("set" == ("if" : Str)) = false := by decide +kernel
      have c1 : [PyData.str "set", .str r, .str f, .tuple (as.map PyData.str)].countP isIfD = 0 := by
        simp [List.countP_cons, isIfD, h1, h2, h3]
      have c2 : [PyData.str "set", .str r, .str f, .tuple (as.map PyData.str)].countP isTupD = 1 := by
        simp [List.countP_cons, isTupD]
      unfold ifW
      rw [c1, c2]
      exact Nat.le_of_eq (by simp)
  | _, _, _, _, _, _, .iff (p := p) (r := r) (ys := ys) (ns := ns) hp hr hy hyl hn hnl => by
    have e : ∀ φ : List PyData → Nat, tot φ (.tuple [.str "if", .str p, .str r, .tuple ys, .tuple ns]) = φ [.str "if", .str p, .str r, .tuple ys, .tuple ns] + ((φ ys + totL φ ys) + (φ ns + totL φ ns)) := fun φ => by
      rw [tot_tup]
      show _ + (0 + (0 + (0 + (tot φ (.tuple ys) + (tot φ (.tuple ns) + 0))))) = _
      rw [tot_tup, tot_tup]
      omega
    obtain ⟨a1, a2, a3, a4, a5⟩ := CoD.w hy
    obtain ⟨b1, b2, b3, b4, b5⟩ := CoD.w hn
    refine ⟨?_, ?_, ?_, ?_, by omega⟩
    · rw [e, head_no (by decide +kernel), hy.head, hn.head]
      omega
    · rw [e, head_no (by decide +kernel), hy.head, hn.head]
      omega
    · rw [e]
      show 1 + ((1 + totL (fun _ => 1) ys) + (1 + totL (fun _ => 1) ns)) ≤ _
      omega
    · rw [e, ifW_short (ds := ys) (by omega), ifW_short (ds := ns) (by omega)]
      have : ifW [.str "if", .str p, .str r, .tuple ys, .tuple ns] ≤ 2 := by
        unfold ifW
        exact Nat.le_trans (Nat.min_le_right _ _) (Nat.min_le_left _ _)
      omega
theorem CoD.w : ∀ {n : Nat} {ds : List PyData} {l s t z : Nat}, CoD n ds l s t z → BdL ds l s t z
  | _, _, _, _, _, _, .nil => ⟨Nat.le_refl 0, Nat.le_refl 0, Nat.le_refl 0, Nat.le_refl 0, Nat.le_refl 0⟩
  | _, _, _, _, _, _, .cons h r => by
    obtain ⟨a1, a2, a3, a4, a5⟩ := StD.w h
    obtain ⟨b1, b2, b3, b4, b5⟩ := CoD.w r
    refine ⟨?_, ?_, ?_, ?_, ?_⟩
    · rw [totL_cons]; omega
    · rw [totL_cons]; omega
    · rw [totL_cons]; omega
    · rw [totL_cons]; omega
    · rw [List.length_cons]; omega
end
/-- drawn code, and what comes of it by one spoil or two -/
inductive Rch (c : PyData) : PyData → Prop where
  | zero : Rch c c
  | one {d : PyData} (h : SpR c d) : Rch c d
  | two {m d : PyData} (h : SpR c m) (k : SpR m d) : Rch c d
theorem Rch.le {φ : List PyData → Nat} (L : Lip φ) {c d : PyData} (r : Rch c d) : totL φ (itemsD d) ≤ totL φ (itemsD c) + 2 := by
  cases r with
  | zero => omega
  | one h =>
    have := (h.tot L).2
    omega
  | two h k =>
    have h1 := (h.tot L).2
    have h2 := (k.tot L).2
    omega
def kindW (w : Str) (rest : List PyData) : Str := if w = "get" ∨ w = "put" then "letter" else if w = "set" then (match rest with | [_, _, .tuple []] => "constant" | _ => "set") else w
theorem row_own {n : Nat} {e : PyData} (row : rowD (cdOf n) e = true) : ownD "letter" e ≤ tupW (headW isLet) e ∧ ownD "set" e ≤ tupW (headW isSet) e ∧ 2 * ownD "if" e ≤ tupW ifW e ∧ 1 ≤ tupW (fun _ => 1) e := by
  obtain ⟨w, rest, rs, rfl, hf, hlen, fits⟩ := rowD_shape row
  have kd : kindD (.tuple (.str w :: rest)) = kindW w rest := rfl
  refine ⟨?_, ?_, ?_, Nat.le_refl 1⟩
  · unfold ownD
    split
    · rename_i h
      rw [kd] at h
      unfold kindW at h
      split at h
      · rename_i g
        show 1 ≤ (if isLet w = true then 1 else 0)
        rw [if_pos (show isLet w = true from decide_eq_true g)]
        exact Nat.le_refl 1
      · split at h
        · split at h <;> exact absurd h (by decide +kernel)
        · rw [h, show formOf "letter" = none by decide +kernel] at hf
          cases hf
    · exact Nat.zero_le _
  · unfold ownD
    split
    · rename_i h
      rw [kd] at h
      unfold kindW at h
      split at h
      · exact absurd h (by decide +kernel)
      · split at h
        · rename_i g
          show 1 ≤ (if isSet w = true then 1 else 0)
          rw [if_pos (show isSet w = true from decide_eq_true g)]
          exact Nat.le_refl 1
        · rename_i g
          exact absurd h g
    · exact Nat.zero_le _
  · unfold ownD
    split
    · rename_i h
      rw [kd] at h
      unfold kindW at h
      split at h
      · exact absurd h (by decide +kernel)
      · split at h
        · split at h <;> exact absurd h (by decide +kernel)
        · subst h
          rcases row_iff row with ⟨m, p, r, ys, ns, _, e, _⟩ | ⟨w', rest', e, ne, _⟩
          · rw [e]
            show 2 * 1 ≤ ifW [.str "if", p, r, .tuple ys, .tuple ns]
            unfold ifW
            have c1 : 1 ≤ [PyData.str "if", p, r, .tuple ys, .tuple ns].countP isIfD := by
              rw [List.countP_cons]
              have : isIfD (.str "if") = true := by decide +kernel
              rw [this]
              simp
            have c2 : 2 ≤ [PyData.str "if", p, r, .tuple ys, .tuple ns].countP isTupD := by
              rw [List.countP_cons, List.countP_cons, List.countP_cons, List.countP_cons, List.countP_cons]
              have : ∀ zs, isTupD (.tuple zs) = true := fun _ => rfl
              rw [this, this]
              simp
              omega
            show 2 ≤ min (_ - 1) (min 2 (5 - 3))
            omega
          · have : w' = "if" := by
              injection e with e
              injection e with e _
              injection e with e
              exact e.symm
            exact absurd this ne
    · exact Nat.zero_le _
theorem wsum_two (ψ : PyData → Nat) (l : List PyData) : wsum (fun e => 2 * ψ e) l = 2 * wsum ψ l := by
  induction l with
  | nil => rfl
  | cons d r ih =>
    rw [wsum_cons, wsum_cons, ih]
    omega
theorem wsum_len (l : List PyData) : wsum (fun _ => 1) l = l.length := by
  induction l with
  | nil => rfl
  | cons d r ih =>
    rw [wsum_cons, ih, List.length_cons]
    omega
/-- code that came of drawn code by two spoils keeps every bound but the cells' -/
theorem reach_ok {ds0 : List PyData} {l s t z : Nat} {d : PyData} (cd : CoD 2 ds0 l s t z) (hlen : ds0.length ≤ 6) (hl : l ≤ 4) (hs : s ≤ 3) (ht : t ≤ 2) (r : Rch (.tuple ds0) d) (h : codeD 3 d = true) :
    (flatN 3 (itemsD d)).length ≤ 24 ∧ mostN 3 "letter" (itemsD d) ≤ 6 ∧ mostN 3 "set" (itemsD d) ≤ 6 ∧ mostN 3 "if" (itemsD d) ≤ 3 := by
  obtain ⟨w1, w2, w3, w4, w5⟩ := cd.w
  have r1 := r.le (lip_head isLet (by decide +kernel) (by decide +kernel))
  have r2 := r.le (lip_head isSet (by decide +kernel) (by decide +kernel))
  have r3 := r.le lip_one
  have r4 := r.le lip_if
  obtain ⟨ds, rfl, rows⟩ := code_tup h
  have good : ∀ e ∈ flatN 3 ds, ∃ m, rowD (cdOf m) e = true := fun e he => by
    obtain ⟨d0, hd0, hm⟩ := List.mem_flatMap.mp he
    exact rows_flatS (List.all_eq_true.mp rows d0 hd0) e hm
  have f1 := (flat_tot (headW isLet) 3).2 ds
  have f2 := (flat_tot (headW isSet) 3).2 ds
  have f3 := (flat_tot (fun _ => 1) 3).2 ds
  have f4 := (flat_tot ifW 3).2 ds
  have m1 := (most_sum "letter" 3).2 ds
  have m2 := (most_sum "set" 3).2 ds
  have m4 := (most_sum "if" 3).2 ds
  have o1 : wsum (ownD "letter") (flatN 3 ds) ≤ wsum (tupW (headW isLet)) (flatN 3 ds) := wsum_le fun e he => by obtain ⟨m, row⟩ := good e he; exact (row_own row).1
  have o2 : wsum (ownD "set") (flatN 3 ds) ≤ wsum (tupW (headW isSet)) (flatN 3 ds) := wsum_le fun e he => by obtain ⟨m, row⟩ := good e he; exact (row_own row).2.1
  have o4 : wsum (fun e => 2 * ownD "if" e) (flatN 3 ds) ≤ wsum (tupW ifW) (flatN 3 ds) := wsum_le fun e he => by obtain ⟨m, row⟩ := good e he; exact (row_own row).2.2.1
  have o3 : wsum (fun _ => 1) (flatN 3 ds) ≤ wsum (tupW fun _ => 1) (flatN 3 ds) := wsum_le fun e he => by obtain ⟨m, row⟩ := good e he; exact (row_own row).2.2.2
  rw [wsum_two] at o4
  rw [wsum_len] at o3
  have i0 : itemsD (.tuple ds0) = ds0 := rfl
  have i1 : itemsD (.tuple ds) = ds := rfl
  rw [i0, i1] at r1 r2 r3 r4
  rw [i1]
  exact ⟨by omega, by omega, by omega, by omega⟩
end OM

namespace OM
open PySem PySem.Spec PyProof.Rows L2
/-! ### weights of code -/
def W (ψ : PyData → Nat) (n : Nat) (ds : List PyData) : Nat := wsum ψ (flatN n ds)
def one : PyData → Nat := fun _ => 1
theorem flatN_ap (n : Nat) (a b : List PyData) : flatN n (a ++ b) = flatN n a ++ flatN n b := by
  unfold flatN
  rw [List.flatMap_append]
theorem flatN_cons (n : Nat) (d : PyData) (r : List PyData) : flatN n (d :: r) = flatS n d ++ flatN n r := rfl
theorem W_ap (ψ : PyData → Nat) (n : Nat) (a b : List PyData) : W ψ n (a ++ b) = W ψ n a + W ψ n b := by
  unfold W
  rw [flatN_ap, wsum_app]
theorem W_cons (ψ : PyData → Nat) (n : Nat) (d : PyData) (r : List PyData) : W ψ n (d :: r) = wsum ψ (flatS n d) + W ψ n r := by
  unfold W
  rw [flatN_cons, wsum_app]
theorem W_one (n : Nat) (ds : List PyData) : W one n ds = (flatN n ds).length := wsum_len _
theorem leafS {n : Nat} {d : PyData} (row : rowD (cdOf n) d = true) (h : inner2 d = []) : flatS n d = [d] := by
  rw [flatS_row row, h]
  rfl
theorem ifS {m : Nat} {p r : PyData} {ys ns : List PyData} (row : rowD (cdOf (m + 1)) (.tuple [.str "if", p, r, .tuple ys, .tuple ns]) = true) : flatS (m + 1) (.tuple [.str "if", p, r, .tuple ys, .tuple ns]) = .tuple [.str "if", p, r, .tuple ys, .tuple ns] :: (flatN m ys ++ flatN m ns) := by
  rw [flatS_row row]
  show _ :: [ys, ns].flatMap (flatN m) = _
  rw [List.flatMap_cons, List.flatMap_cons, List.flatMap_nil, List.append_nil]
theorem W_if {ψ : PyData → Nat} {m : Nat} {p r : PyData} {ys ns : List PyData} (row : rowD (cdOf (m + 1)) (.tuple [.str "if", p, r, .tuple ys, .tuple ns]) = true) : wsum ψ (flatS (m + 1) (.tuple [.str "if", p, r, .tuple ys, .tuple ns])) = ψ (.tuple [.str "if", p, r, .tuple ys, .tuple ns]) + (W ψ m ys + W ψ m ns) := by
  rw [ifS row, wsum_cons, wsum_app]
  rfl
theorem if_row {m : Nat} {p r : PyData} {ys ns : List PyData} (hp : isNameD p = true) (hr : isNameD r = true) (hy : ys.all (rowD (cdOf m)) = true) (hn : ns.all (rowD (cdOf m)) = true) : rowD (cdOf (m + 1)) (.tuple [.str "if", p, r, .tuple ys, .tuple ns]) = true := by
  have cy : cdOf (m + 1) (.tuple ys) = true := (codeD_tup m ys).trans hy
  have cn : cdOf (m + 1) (.tuple ns) = true := (codeD_tup m ns).trans hn
  rw [row_if, hp, hr, cy, cn]
  rfl
theorem leaf_any {n m : Nat} {w : Str} {rest : List PyData} (h : rowD (cdOf n) (.tuple (.str w :: rest)) = true) (ni : w ≠ "if") : rowD (cdOf m) (.tuple (.str w :: rest)) = true := by
  by_cases hs : w = "set"
  · subst hs
    by_cases hl : rest.length = 3
    · match rest, hl with
      | [a, b, c], _ =>
        rw [row_set] at h ⊢
        exact h
    · rw [row_set_len hl] at h
      cases h
  · rw [row_plain ni hs] at h ⊢
    exact h
/-- code stays code at a greater depth, with the same statements -/
theorem row_up : ∀ (n : Nat) {d : PyData}, rowD (cdOf n) d = true → rowD (cdOf (n + 1)) d = true ∧ flatS (n + 1) d = flatS n d := by
  intro n
  induction n with
  | zero =>
    intro d h
    rcases row_iff h with ⟨m, p, r, ys, ns, e, _⟩ | ⟨w, rest, rfl, ni, i0⟩
    · cases e
    · have h1 := leaf_any (m := 1) h ni
      exact ⟨h1, by rw [leafS h i0, leafS h1 i0]⟩
  | succ n ih =>
    intro d h
    rcases row_iff h with ⟨m, p, r, ys, ns, e, rfl, hy, hn, hp, hr⟩ | ⟨w, rest, rfl, ni, i0⟩
    · obtain rfl : m = n := by omega
      have up : ∀ {l : List PyData}, l.all (rowD (cdOf m)) = true → l.all (rowD (cdOf (m + 1))) = true ∧ flatN (m + 1) l = flatN m l := by
        intro l
        induction l with
        | nil => exact fun _ => ⟨rfl, rfl⟩
        | cons x l il =>
          intro hl
          rw [List.all_cons, Bool.and_eq_true] at hl
          obtain ⟨a1, a2⟩ := ih hl.1
          obtain ⟨b1, b2⟩ := il hl.2
          rw [List.all_cons, a1, b1, flatN_cons, flatN_cons, a2, b2]
          exact ⟨rfl, rfl⟩
      have h2 := if_row hp hr (up hy).1 (up hn).1
      exact ⟨h2, by rw [ifS h, ifS h2, (up hy).2, (up hn).2]⟩
    · have h1 := leaf_any (m := n + 2) h ni
      exact ⟨h1, by rw [leafS h i0, leafS h1 i0]⟩
theorem rows_up {n : Nat} : ∀ {l : List PyData}, l.all (rowD (cdOf n)) = true → l.all (rowD (cdOf (n + 1))) = true ∧ flatN (n + 1) l = flatN n l
  | [], _ => ⟨rfl, rfl⟩
  | x :: l, hl => by
    rw [List.all_cons, Bool.and_eq_true] at hl
    obtain ⟨a1, a2⟩ := row_up n hl.1
    obtain ⟨b1, b2⟩ := rows_up hl.2
    rw [List.all_cons, a1, b1, flatN_cons, flatN_cons, a2, b2]
    exact ⟨rfl, rfl⟩
theorem W_up {ψ : PyData → Nat} {n : Nat} {l : List PyData} (h : l.all (rowD (cdOf n)) = true) : W ψ (n + 1) l = W ψ n l := by
  unfold W
  rw [(rows_up h).2]
theorem own_if {p r y x : PyData} : ownD "if" (.tuple [.str "if", p, r, y, x]) = 1 := by
  unfold ownD
  rw [if_pos (by
    unfold kindD
    dsimp only
    rw [if_neg (by decide +kernel), if_neg (by decide +kernel)])]
/-- few ifs: not deep -/
theorem row_down : ∀ (n k : Nat) {d : PyData}, rowD (cdOf n) d = true → wsum (ownD "if") (flatS n d) ≤ k → rowD (cdOf k) d = true ∧ flatS k d = flatS n d := by
  intro n
  induction n with
  | zero =>
    intro k d h _
    rcases row_iff h with ⟨m, p, r, ys, ns, e, _⟩ | ⟨w, rest, rfl, ni, i0⟩
    · cases e
    · have h1 := leaf_any (m := k) h ni
      exact ⟨h1, by rw [leafS h i0, leafS h1 i0]⟩
  | succ n ih =>
    intro k d h hk
    rcases row_iff h with ⟨m, p, r, ys, ns, e, rfl, hy, hn, hp, hr⟩ | ⟨w, rest, rfl, ni, i0⟩
    · obtain rfl : m = n := by omega
      rw [W_if h, own_if] at hk
      obtain ⟨j, rfl⟩ : ∃ j, k = j + 1 := ⟨k - 1, by omega⟩
      have dn : ∀ {l : List PyData}, l.all (rowD (cdOf m)) = true → W (ownD "if") m l ≤ j → l.all (rowD (cdOf j)) = true ∧ flatN j l = flatN m l := by
        intro l
        induction l with
        | nil => exact fun _ _ => ⟨rfl, rfl⟩
        | cons x l il =>
          intro hl hw
          rw [List.all_cons, Bool.and_eq_true] at hl
          rw [W_cons] at hw
          obtain ⟨a1, a2⟩ := ih j hl.1 (by omega)
          obtain ⟨b1, b2⟩ := il hl.2 (by omega)
          rw [List.all_cons, a1, b1, flatN_cons, flatN_cons, a2, b2]
          exact ⟨rfl, rfl⟩
      have h2 := if_row hp hr (dn hy (by omega)).1 (dn hn (by omega)).1
      exact ⟨h2, by rw [ifS h, ifS h2, (dn hy (by omega)).2, (dn hn (by omega)).2]⟩
    · have h1 := leaf_any (m := k) h ni
      exact ⟨h1, by rw [leafS h i0, leafS h1 i0]⟩
theorem rows_down {n k : Nat} : ∀ {l : List PyData}, l.all (rowD (cdOf n)) = true → W (ownD "if") n l ≤ k → l.all (rowD (cdOf k)) = true ∧ flatN k l = flatN n l
  | [], _, _ => ⟨rfl, rfl⟩
  | x :: l, hl, hw => by
    rw [List.all_cons, Bool.and_eq_true] at hl
    rw [W_cons] at hw
    obtain ⟨a1, a2⟩ := row_down n k hl.1 (by omega)
    obtain ⟨b1, b2⟩ := rows_down (k := k) hl.2 (by omega)
    rw [List.all_cons, a1, b1, flatN_cons, flatN_cons, a2, b2]
    exact ⟨rfl, rfl⟩
/-! ### what a change does -/
def cellOk (x : PyData) : Prop := ∀ c ∈ namesD "cell" x, c ∈ cells3
def cellsOk (n : Nat) (ds : List PyData) : Prop := ∀ x ∈ flatN n ds, cellOk x
structure Gain (n : Nat) (ds e : List PyData) : Prop where
  rows : e.all (rowD (cdOf n)) = true
  lt : W (ownD "letter") n e ≤ W (ownD "letter") n ds
  st : W (ownD "set") n e ≤ W (ownD "set") n ds
  cel : cellsOk n ds → cellsOk n e
  g : (W one n e ≤ W one n ds + 2 ∧ W (ownD "if") n ds + 1 ≤ W (ownD "if") n e) ∨ (W one n e ≤ W one n ds + 1 ∧ W (ownD "if") n ds ≤ W (ownD "if") n e) ∨ W one n e ≤ W one n ds
theorem cells_ap {n : Nat} {a b : List PyData} : cellsOk n (a ++ b) ↔ cellsOk n a ∧ cellsOk n b := by
  unfold cellsOk
  rw [flatN_ap]
  constructor
  · exact fun h => ⟨fun x hx => h x (List.mem_append_left _ hx), fun x hx => h x (List.mem_append_right _ hx)⟩
  · rintro ⟨h1, h2⟩ x hx
    rcases List.mem_append.mp hx with z | z
    · exact h1 x z
    · exact h2 x z
theorem all_ap {p : PyData → Bool} {a b : List PyData} : (a ++ b).all p = true ↔ a.all p = true ∧ b.all p = true := by
  rw [List.all_append, Bool.and_eq_true]
theorem Gain.ctx {n : Nat} {a b m m' : List PyData} (h : Gain n m m') (ha : a.all (rowD (cdOf n)) = true) (hb : b.all (rowD (cdOf n)) = true) : Gain n (a ++ m ++ b) (a ++ m' ++ b) := by
  obtain ⟨h1, h2, h3, h4, h5⟩ := h
  refine ⟨all_ap.mpr ⟨all_ap.mpr ⟨ha, h1⟩, hb⟩, ?_, ?_, ?_, ?_⟩
  · simp only [W_ap]
    omega
  · simp only [W_ap]
    omega
  · simp only [cells_ap]
    exact fun ⟨⟨x, y⟩, z⟩ => ⟨⟨x, h4 y⟩, z⟩
  · simp only [W_ap]
    omega
theorem Gain.inY {m : Nat} {p r : PyData} {ys ys' ns : List PyData} (h : Gain m ys ys') (hp : isNameD p = true) (hr : isNameD r = true) (hy : ys.all (rowD (cdOf m)) = true) (hn : ns.all (rowD (cdOf m)) = true) : Gain (m + 1) [.tuple [.str "if", p, r, .tuple ys, .tuple ns]] [.tuple [.str "if", p, r, .tuple ys', .tuple ns]] := by
  obtain ⟨h1, h2, h3, h4, h5⟩ := h
  have r1 := if_row hp hr hy hn
  have r2 := if_row hp hr h1 hn
  have k : ∀ (k : Str) (y x : PyData), ownD k (.tuple [.str "if", p, r, y, x]) = ownD k (.tuple [.str "if", .none, .none, .none, .none]) := fun k y x => by
    unfold ownD kindD
    rfl
  have w : ∀ ψ : PyData → Nat, W ψ (m + 1) [] = 0 := fun _ => rfl
  refine ⟨by rw [List.all_cons, r2]; rfl, ?_, ?_, ?_, ?_⟩
  · rw [W_cons, W_cons, W_if r1, W_if r2, k, k "letter" (.tuple ys), w]
    omega
  · rw [W_cons, W_cons, W_if r1, W_if r2, k, k "set" (.tuple ys), w]
    omega
  · unfold cellsOk at h4 ⊢
    rw [flatN_cons, flatN_cons, ifS r1, ifS r2]
    intro h x hx
    have hx' : x ∈ PyData.tuple [.str "if", p, r, .tuple ys', .tuple ns] :: (flatN m ys' ++ flatN m ns) := by simpa [flatN] using hx
    rcases List.mem_cons.mp hx' with rfl | hx'
    · have := h (.tuple [.str "if", p, r, .tuple ys, .tuple ns]) (by simp)
      intro c hc
      exact this c hc
    · rcases List.mem_append.mp hx' with z | z
      · exact h4 (fun y hy => h y (by simp [hy])) x z
      · exact h x (by simp [z])
  · rw [W_cons, W_cons, W_cons, W_cons, W_if r1, W_if r2, W_if r1, W_if r2, own_if, own_if, w, w]
    show (1 + _ + 0 ≤ 1 + _ + 0 + 2 ∧ _) ∨ (1 + _ + 0 ≤ 1 + _ + 0 + 1 ∧ _) ∨ 1 + _ + 0 ≤ 1 + _ + 0
    omega
end OM

namespace OM
open PySem PySem.Spec PyProof.Rows L2
theorem W_perm {ψ : PyData → Nat} {n : Nat} {a b : List PyData} (h : a.Perm b) : W ψ n a = W ψ n b := by
  induction h with
  | nil => rfl
  | cons x _ ih => rw [W_cons, W_cons, ih]
  | swap x y l =>
    rw [W_cons, W_cons, W_cons, W_cons]
    omega
  | trans _ _ h1 h2 => exact h1.trans h2
theorem Gain.perm {n : Nat} {ds e : List PyData} (h : ds.Perm e) (rows : ds.all (rowD (cdOf n)) = true) : Gain n ds e := by
  refine ⟨?_, Nat.le_of_eq (W_perm h).symm, Nat.le_of_eq (W_perm h).symm, fun c x hx => ?_, .inr (.inr (Nat.le_of_eq (W_perm h).symm))⟩
  · rw [List.all_eq_true] at rows ⊢
    exact fun x hx => rows x (h.mem_iff.mpr hx)
  · unfold flatN at hx
    obtain ⟨y, hy, hx⟩ := List.mem_flatMap.mp hx
    exact c x (List.mem_flatMap.mpr ⟨y, h.mem_iff.mpr hy, hx⟩)
theorem Gain.drop {n : Nat} {a b : List PyData} {r : PyData} (rows : (a ++ [r] ++ b).all (rowD (cdOf n)) = true) : Gain n (a ++ [r] ++ b) (a ++ b) := by
  obtain ⟨h1, h2⟩ := all_ap.mp rows
  obtain ⟨h3, h4⟩ := all_ap.mp h1
  refine ⟨all_ap.mpr ⟨h3, h2⟩, ?_, ?_, ?_, .inr (.inr ?_)⟩
  · simp only [W_ap]
    omega
  · simp only [W_ap]
    omega
  · simp only [cells_ap]
    exact fun ⟨⟨x, y⟩, z⟩ => ⟨x, z⟩
  · simp only [W_ap]
    omega
/-- a plain statement: no letter, no set, no if -/
structure Leaf (e : PyData) : Prop where
  row : ∀ n, rowD (cdOf n) e = true
  inn : inner2 e = []
  l0 : ownD "letter" e = 0
  s0 : ownD "set" e = 0
  i0 : ownD "if" e = 0
theorem Leaf.s {e : PyData} (h : Leaf e) (n : Nat) : flatS n e = [e] := leafS (h.row n) h.inn
theorem Leaf.w {e : PyData} (h : Leaf e) (n : Nat) (ψ : PyData → Nat) : W ψ n [e] = ψ e := by
  rw [W_cons, h.s n]
  show ψ e + 0 + 0 = _
  omega
theorem leaf_of {n : Nat} {w : Str} {rest : List PyData} (row : rowD (cdOf n) (.tuple (.str w :: rest)) = true) (h1 : w ≠ "if") (h2 : w ≠ "get") (h3 : w ≠ "put") (h4 : w ≠ "set") : Leaf (.tuple (.str w :: rest)) := by
  have k : kindD (.tuple (.str w :: rest)) = w := by
    unfold kindD
    dsimp only
    rw [if_neg (fun z => z.elim h2 h3), if_neg h4]
  have hw : formOf w ≠ none := by
    intro z
    rw [rowD_no z] at row
    cases row
  have wl : w ≠ "letter" := fun z => hw (by rw [z]; decide +kernel)
  refine ⟨fun m => leaf_any row h1, ?_, ?_, ?_, ?_⟩
  · rcases row_iff row with ⟨m, p, r, ys, ns, e, ed, _⟩ | ⟨w', rest', ed, ni, i0⟩
    · injection ed with ed
      injection ed with e1 _
      injection e1 with e1
      exact absurd e1 h1
    · exact i0
  · unfold ownD
    rw [k, if_neg wl]
  · unfold ownD
    rw [k, if_neg h4]
  · unfold ownD
    rw [k, if_neg h1]
theorem leaf_std {e : PyData} {l s t z : Nat} (h : StD 0 e l s t z) (hl : l ≤ 0) (hs : s ≤ 0) : Leaf e ∧ cellOk e := by
  have key : (∀ r ∈ regs4, ∀ x ∈ cells3, rowD (cdOf 0) (.tuple [.str "read", .str r, .str x]) = true ∧ rowD (cdOf 0) (.tuple [.str "write", .str x, .str r]) = true ∧ (∀ c ∈ namesD "cell" (.tuple [.str "read", .str r, .str x]), c ∈ cells3) ∧ (∀ c ∈ namesD "cell" (.tuple [.str "write", .str x, .str r]), c ∈ cells3)) := by decide +kernel
  have key2 : (∀ r ∈ regs4, ∀ x ∈ regs4, rowD (cdOf 0) (.tuple [.str "copy", .str r, .str x]) = true ∧ (∀ c ∈ namesD "cell" (.tuple [.str "copy", .str r, .str x]), c ∈ cells3)) := by decide +kernel
  cases h with
  | read hr hx => exact ⟨leaf_of (key _ hr _ hx).1 (by decide +kernel) (by decide +kernel) (by decide +kernel) (by decide +kernel), (key _ hr _ hx).2.2.1⟩
  | write hx hr => exact ⟨leaf_of (key _ hr _ hx).2.1 (by decide +kernel) (by decide +kernel) (by decide +kernel) (by decide +kernel), (key _ hr _ hx).2.2.2⟩
  | copy hr ha => exact ⟨leaf_of (key2 _ hr _ ha).1 (by decide +kernel) (by decide +kernel) (by decide +kernel) (by decide +kernel), (key2 _ hr _ ha).2⟩
  | letter hw hr => omega
  | set hr hf ha hl => omega
theorem Gain.add {n : Nat} {a b : List PyData} {e : PyData} (rows : (a ++ b).all (rowD (cdOf n)) = true) (L : Leaf e) (c : cellsOk n (a ++ b) → cellOk e) : Gain n (a ++ b) (a ++ [e] ++ b) := by
  obtain ⟨h1, h2⟩ := all_ap.mp rows
  refine ⟨all_ap.mpr ⟨all_ap.mpr ⟨h1, by rw [List.all_cons, L.row n]; rfl⟩, h2⟩, ?_, ?_, fun z => ?_, .inr (.inl ?_)⟩
  · simp only [W_ap, L.w, L.l0]
    omega
  · simp only [W_ap, L.w, L.s0]
    omega
  · have ce := c z
    simp only [cells_ap] at z ⊢
    refine ⟨⟨z.1, fun x hx => ?_⟩, z.2⟩
    rw [flatN_cons, L.s n] at hx
    have : x = e := by simpa [flatN] using hx
    rw [this]
    exact ce
  · simp only [W_ap, L.w, L.i0]
    show _ + 1 + _ ≤ _ ∧ _
    omega
theorem Gain.wrap {n : Nat} {a b : List PyData} {e p r : PyData} (rows : (a ++ [e] ++ b).all (rowD (cdOf (n + 1))) = true) (L : Leaf e) (hp : isNameD p = true) (hr : isNameD r = true) : Gain (n + 1) (a ++ [e] ++ b) (a ++ [.tuple [.str "if", p, r, .tuple [e], .tuple [e]]] ++ b) := by
  obtain ⟨h1, h2⟩ := all_ap.mp rows
  obtain ⟨h3, h4⟩ := all_ap.mp h1
  have re : [e].all (rowD (cdOf n)) = true := by
    rw [List.all_cons, L.row n]
    rfl
  have ri := if_row hp hr re re
  have k : ∀ k : Str, k ≠ "if" → ownD k (.tuple [.str "if", p, r, .tuple [e], .tuple [e]]) = 0 := fun k hk => by
    unfold ownD
    rw [if_neg (by
      unfold kindD
      dsimp only
      rw [if_neg (by decide +kernel), if_neg (by decide +kernel)]
      exact fun z => hk z.symm)]
  have w : ∀ ψ : PyData → Nat, W ψ (n + 1) [.tuple [.str "if", p, r, .tuple [e], .tuple [e]]] = ψ (.tuple [.str "if", p, r, .tuple [e], .tuple [e]]) + (ψ e + ψ e) := fun ψ => by
    rw [W_cons, W_if ri, L.w]
    rfl
  refine ⟨all_ap.mpr ⟨all_ap.mpr ⟨h3, by rw [List.all_cons, ri]; rfl⟩, h2⟩, ?_, ?_, fun z => ?_, .inl ?_⟩
  · simp only [W_ap, L.w, w, L.l0, k "letter" (by decide +kernel)]
    omega
  · simp only [W_ap, L.w, w, L.s0, k "set" (by decide +kernel)]
    omega
  · simp only [cells_ap] at z ⊢
    refine ⟨⟨z.1.1, fun x hx => ?_⟩, z.2⟩
    have ze : cellOk e := z.1.2 e (by rw [flatN_cons, L.s]; simp)
    rw [flatN_cons, ifS ri, flatN_cons, L.s] at hx
    have hx' : x = .tuple [.str "if", p, r, .tuple [e], .tuple [e]] ∨ x = e := by simpa [flatN] using hx
    rcases hx' with rfl | rfl
    · intro c hc
      have e4 : formOf "if" = some (["test", "register", "code", "code"] : List Str) := by decide +kernel
      have : namesD "cell" (.tuple [.str "if", p, r, .tuple [e], .tuple [e]]) = [] := by
        show (match formOf "if" with | some rs => (List.zipWith (nmD "cell") [p, r, .tuple [e], .tuple [e]] rs).flatten | none => []) = _
        rw [e4]
        show (nmD "cell" p "test" ++ (nmD "cell" r "register" ++ (nmD "cell" (.tuple [e]) "code" ++ (nmD "cell" (.tuple [e]) "code" ++ [])))) = []
        unfold nmD
        rw [if_neg (by decide +kernel), if_neg (by decide +kernel), if_neg (by decide +kernel), if_neg (by decide +kernel), if_neg (by decide +kernel), if_neg (by decide +kernel)]
        rfl
      rw [this] at hc
      cases hc
    · exact ze
  · simp only [W_ap, L.w, w, L.i0, own_if]
    show _ + (1 + (1 + 1)) + _ ≤ _ + 1 + _ + 2 ∧ _
    omega
theorem Gain.inN {m : Nat} {p r : PyData} {ys ns ns' : List PyData} (h : Gain m ns ns') (hp : isNameD p = true) (hr : isNameD r = true) (hy : ys.all (rowD (cdOf m)) = true) (hn : ns.all (rowD (cdOf m)) = true) : Gain (m + 1) [.tuple [.str "if", p, r, .tuple ys, .tuple ns]] [.tuple [.str "if", p, r, .tuple ys, .tuple ns']] := by
  obtain ⟨h1, h2, h3, h4, h5⟩ := h
  have r1 := if_row hp hr hy hn
  have r2 := if_row hp hr hy h1
  have k : ∀ (k : Str) (y x : PyData), ownD k (.tuple [.str "if", p, r, y, x]) = ownD k (.tuple [.str "if", .none, .none, .none, .none]) := fun k y x => by
    unfold ownD kindD
    rfl
  have w : ∀ ψ : PyData → Nat, W ψ (m + 1) [] = 0 := fun _ => rfl
  refine ⟨by rw [List.all_cons, r2]; rfl, ?_, ?_, ?_, ?_⟩
  · rw [W_cons, W_cons, W_if r1, W_if r2, k, k "letter" _ (.tuple ns), w]
    omega
  · rw [W_cons, W_cons, W_if r1, W_if r2, k, k "set" _ (.tuple ns), w]
    omega
  · unfold cellsOk at h4 ⊢
    rw [flatN_cons, flatN_cons, ifS r1, ifS r2]
    intro h x hx
    have hx' : x ∈ PyData.tuple [.str "if", p, r, .tuple ys, .tuple ns'] :: (flatN m ys ++ flatN m ns') := by simpa [flatN] using hx
    rcases List.mem_cons.mp hx' with rfl | hx'
    · have := h (.tuple [.str "if", p, r, .tuple ys, .tuple ns]) (by simp)
      intro c hc
      exact this c hc
    · rcases List.mem_append.mp hx' with z | z
      · exact h x (by simp [z])
      · exact h4 (fun y hy => h y (by simp [hy])) x z
  · rw [W_cons, W_cons, W_cons, W_cons, W_if r1, W_if r2, W_if r1, W_if r2, own_if, own_if, w, w]
    show (1 + _ + 0 ≤ 1 + _ + 0 + 2 ∧ _) ∨ (1 + _ + 0 ≤ 1 + _ + 0 + 1 ∧ _) ∨ 1 + _ + 0 ≤ 1 + _ + 0
    omega
theorem Gain.up {n : Nat} {ds e : List PyData} (h : Gain n ds e) (rows : ds.all (rowD (cdOf n)) = true) : Gain (n + 1) ds e := by
  obtain ⟨h1, h2, h3, h4, h5⟩ := h
  have u := rows_up rows
  have v := rows_up h1
  refine ⟨v.1, ?_, ?_, ?_, ?_⟩
  · rw [W_up rows, W_up h1]
    exact h2
  · rw [W_up rows, W_up h1]
    exact h3
  · unfold cellsOk at h4 ⊢
    rw [u.2, v.2]
    exact h4
  · rw [W_up rows, W_up h1, W_up rows, W_up h1]
    exact h5
end OM

namespace OM
open PySem PySem.Spec PyProof.Rows L2
/-- t[lo:hi], as one way -/
theorem sl_one {K : PySem.W.Frag} {a : Addr} {xs : List V} {lo hi : Option Int} {H : Hp} {Q : VK} (ea : H a = some (.tup xs)) (q : ∀ c H', Same H H' → (c = a ∨ H c = none) → H' c = some (.tup (cutV xs lo hi)) → Q (.ref c) H') : rSlA K (.ref a) lo hi H Q := by
  refine ⟨a, xs, rfl, SqT.of ea, fun hw => ?_, fun _ p hp => q p _ (same_upd hp) (.inr hp) upd_same⟩
  have e : cutV xs lo hi = xs := by
    unfold cutV
    rw [hw.1, hw.2, List.drop_zero, Nat.sub_zero, List.take_length]
  exact q a H (Same.refl H) (.inl rfl) (by rw [e]; exact ea)
/-- t + u, as one way -/
theorem cat_one {K : PySem.W.Frag} {a b : Addr} {xs ys : List V} {H : Hp} {Q : VK} (ea : H a = some (.tup xs)) (eb : H b = some (.tup ys)) (sz : xs.length + ys.length ≤ sizeLine) (q : ∀ c H', Same H H' → (c = a ∨ c = b ∨ H c = none) → H' c = some (.tup (xs ++ ys)) → Q (.ref c) H') : rCatA K (.ref a) (.ref b) H Q := by
  refine ⟨a, b, xs, ys, rfl, rfl, SqT.of ea, SqT.of eb, sz, fun e => q b H (Same.refl H) (.inr (.inl rfl)) (by rw [e]; exact eb), fun _ e => q a H (Same.refl H) (.inl rfl) (by rw [e, List.append_nil]; exact ea), fun _ _ p hp => q p _ (same_upd hp) (.inr (.inr hp)) upd_same⟩
theorem cut_take (xs : List V) {i : Nat} (h : i ≤ xs.length) : cutV xs none (some (i : Int)) = xs.take i := by
  unfold cutV
  rw [HT.sIx_nat, HT.sIx_none, List.drop_zero, Nat.sub_zero, Nat.min_eq_left h]
theorem cut_drop (xs : List V) {i : Nat} (h : i ≤ xs.length) : cutV xs (some (i : Int)) none = xs.drop i := by
  unfold cutV
  rw [HT.sIx_nat, HT.sIx_none, Nat.min_eq_left h, ← List.length_drop, List.take_length]
mutual
/-- the longest list or tuple in a datum -/
def widN : PyData → Nat
  | .list xs => max xs.length (widL xs)
  | .tuple xs => max xs.length (widL xs)
  | _ => 0
def widL : List PyData → Nat
  | [] => 0
  | x :: r => max (widN x) (widL r)
end
theorem depthAll_cons (x : PyData) (r : List PyData) : PyData.depthAll (x :: r) = max x.depth (PyData.depthAll r) := by rw [PyData.depthAll]
theorem smlAll_cons (x : PyData) (r : List PyData) : smlAll (x :: r) = (smlD x && smlAll r) := by rw [smlAll]
theorem widL_cons (x : PyData) (r : List PyData) : widL (x :: r) = max (widN x) (widL r) := by rw [widL]
theorem widL_app : ∀ (a b : List PyData), widL (a ++ b) = max (widL a) (widL b)
  | [], b => (Nat.zero_max _).symm
  | x :: r, b => by
    show max (widN x) (widL (r ++ b)) = max (max (widN x) (widL r)) (widL b)
    rw [widL_app r b, Nat.max_assoc]
theorem wid_tup (ds : List PyData) : widN (.tuple ds) = max ds.length (widL ds) := by unfold widN; rfl
theorem wid_lst (ds : List PyData) : widN (.list ds) = max ds.length (widL ds) := by unfold widN; rfl
theorem depthAll_app : ∀ (a b : List PyData), PyData.depthAll (a ++ b) = max (PyData.depthAll a) (PyData.depthAll b)
  | [], b => (Nat.zero_max _).symm
  | x :: r, b => by
    show PyData.depthAll (x :: (r ++ b)) = max (PyData.depthAll (x :: r)) (PyData.depthAll b)
    rw [depthAll_cons, depthAll_cons, depthAll_app r b, Nat.max_assoc]
theorem dep_tup (ds : List PyData) : PyData.depth (.tuple ds) = PyData.depthAll ds + 1 := by unfold PyData.depth; first | rfl | omega
theorem dep_lst (ds : List PyData) : PyData.depth (.list ds) = PyData.depthAll ds + 1 := by unfold PyData.depth; first | rfl | omega
theorem smlAll_app : ∀ (a b : List PyData), smlAll (a ++ b) = (smlAll a && smlAll b)
  | [], b => rfl
  | x :: r, b => by
    show smlAll (x :: (r ++ b)) = (smlAll (x :: r) && smlAll b)
    rw [smlAll_cons, smlAll_cons, smlAll_app r b, Bool.and_assoc]
theorem sml_tup (ds : List PyData) : smlD (.tuple ds) = smlAll ds := by unfold smlD; rfl
theorem sml_lst (ds : List PyData) : smlD (.list ds) = smlAll ds := by unfold smlD; rfl
theorem odds_small : ∀ o ∈ odds, widN o ≤ 2 ∧ o.depth ≤ 1 ∧ smlD o = true := by
  intro o ho
  unfold odds at ho
  simp only [List.mem_cons, List.not_mem_nil, or_false] at ho
  rcases ho with rfl | rfl | rfl | rfl | rfl | rfl | rfl | rfl | rfl | rfl | rfl | rfl | rfl | rfl | rfl | rfl <;> decide +kernel
/-- a spoil leaves things about as small -/
theorem SpR.small : ∀ {d d' : PyData}, SpR d d' → widN d' ≤ widN d + 2 ∧ d'.depth ≤ d.depth + 2 ∧ (smlD d = true → smlD d' = true)
  | _, _, .odd h => by
    obtain ⟨h1, h2, h3⟩ := odds_small _ h
    exact ⟨by omega, by omega, fun _ => h3⟩
  | _, _, .del (ds := ds) i => by
    rcases drop_case ds i with ⟨d, e⟩ | e
    · have w : widL ds = max (widL (ds.take i)) (max (widN d) (widL (ds.drop (i + 1)))) := by
        conv => lhs; rw [e, widL_app, widL_cons]
      have p : PyData.depthAll ds = max (PyData.depthAll (ds.take i)) (max d.depth (PyData.depthAll (ds.drop (i + 1)))) := by
        conv => lhs; rw [e, depthAll_app, depthAll_cons]
      have l : ds.length = (ds.take i).length + ((ds.drop (i + 1)).length + 1) := by
        conv => lhs; rw [e, List.length_append, List.length_cons]
      have m : smlAll ds = (smlAll (ds.take i) && (smlD d && smlAll (ds.drop (i + 1)))) := by
        conv => lhs; rw [e, smlAll_app, smlAll_cons]
      rw [wid_tup, wid_tup, dep_tup, dep_tup, sml_tup, sml_tup, widL_app, depthAll_app, smlAll_app, List.length_append, m]
      refine ⟨by omega, by omega, fun h => ?_⟩
      simp only [Bool.and_eq_true] at h ⊢
      exact ⟨h.1, h.2.2⟩
    · rw [e]
      exact ⟨by omega, by omega, id⟩
  | _, _, .ins (ds := ds) (o := o) i h => by
    obtain ⟨h1, h2, h3⟩ := odds_small _ h
    have w : widL ds = max (widL (ds.take i)) (widL (ds.drop i)) := by conv => lhs; rw [← List.take_append_drop i ds, widL_app]
    have p : PyData.depthAll ds = max (PyData.depthAll (ds.take i)) (PyData.depthAll (ds.drop i)) := by conv => lhs; rw [← List.take_append_drop i ds, depthAll_app]
    have l : ds.length = (ds.take i).length + (ds.drop i).length := by conv => lhs; rw [← List.take_append_drop i ds, List.length_append]
    have m : smlAll ds = (smlAll (ds.take i) && smlAll (ds.drop i)) := by conv => lhs; rw [← List.take_append_drop i ds, smlAll_app]
    rw [wid_tup, wid_tup, dep_tup, dep_tup, sml_tup, sml_tup, widL_app, depthAll_app, smlAll_app, widL_cons, depthAll_cons, smlAll_cons, List.length_append, List.length_cons, m, h3]
    refine ⟨by omega, by omega, fun h => ?_⟩
    simpa using h
  | _, _, .lst (ds := ds) => by
    rw [wid_tup, wid_lst, dep_tup, dep_lst, sml_tup, sml_lst]
    exact ⟨by omega, by omega, id⟩
  | _, _, .sub (ds := ds) (d := d) (d' := d') i hi h => by
    have e := cut_at hi
    obtain ⟨h1, h2, h3⟩ := SpR.small h
    have w : widL ds = max (widL (ds.take i)) (max (widN d) (widL (ds.drop (i + 1)))) := by
      conv => lhs; rw [e, widL_app, widL_cons]
    have p : PyData.depthAll ds = max (PyData.depthAll (ds.take i)) (max d.depth (PyData.depthAll (ds.drop (i + 1)))) := by
      conv => lhs; rw [e, depthAll_app, depthAll_cons]
    have l : ds.length = (ds.take i).length + ((ds.drop (i + 1)).length + 1) := by
      conv => lhs; rw [e, List.length_append, List.length_cons]
    have m : smlAll ds = (smlAll (ds.take i) && (smlD d && smlAll (ds.drop (i + 1)))) := by
      conv => lhs; rw [e, smlAll_app, smlAll_cons]
    rw [wid_tup, wid_tup, dep_tup, dep_tup, sml_tup, sml_tup, widL_app, depthAll_app, smlAll_app, widL_cons, depthAll_cons, smlAll_cons, List.length_append, List.length_cons, m]
    refine ⟨by omega, by omega, fun h => ?_⟩
    simp only [Bool.and_eq_true] at h ⊢
    exact ⟨h.1, h3 h.2.1, h.2.2⟩
def spSpoilt : Nat → Sp
  | 0 => fun _ _ _ _ => False
  | n + 1 => fun vs H Q _ => ∃ (S : Addr → Prop) (d : Addr) (v : V) (e : PyData), vs = [.ref d, v] ∧ Dice H d ∧ Dt S H v e ∧ (∀ b, S b → b ≠ d) ∧ e.depth ≤ n ∧ widN e ≤ 900 ∧ ∀ H' v' e', But d H H' → Dice H' d → SpR e e' → Dt (fun b => S b ∨ H b = none) H' v' e' → Q v' H'
end OM

namespace OM
open PySem PySem.Spec PyProof.Rows L2
theorem sl_two {K : PySem.W.Frag} {a : Addr} {xs : List V} {lo : Option Int} {H : Hp} {Q : VK} {σ : L2.St} (ea : H a = some (.tup xs)) (q : ∀ c H', Same H H' → (c = a ∨ H c = none) → H' c = some (.tup (cutV xs lo none)) → Q (.ref c) H') : tNoPart σ H fun u H3 => rSlA K (.ref a) lo u H3 Q := sl_one ea q
theorem Dice.mv {H H' : Hp} {d : Addr} (s : Same H H') (h : Dice H d) : Dice H' d := by
  obtain ⟨a1, a2, a3, e⟩ := h
  exact ⟨a1, a2, a3, s _ _ e⟩
theorem But.tr {d : Addr} {H H1 H2 : Hp} (x : But d H H1) (y : But d H1 H2) : But d H H2 := fun b o hb e => y b o hb (x b o hb e)
theorem s_bt {d : Addr} {H H1 : Hp} (x : Same H H1) : But d H H1 := fun b o _ e => x b o e
/-- what was free stays free behind -/
theorem But.free {d : Addr} {H H1 : Hp} (x : But d H H1) (dn : H1 d ≠ none) {b : Addr} (h : H1 b = none) : H b = none := by
  cases y : H b with
  | none => rfl
  | some o =>
    by_cases e : b = d
    · rw [e] at h
      exact absurd h dn
    · rw [x b o e y] at h
      cases h
theorem dta_take {S : Addr → Prop} {H : Hp} : ∀ {xs : List V} {ds : List PyData} (i : Nat), DtAll S H xs ds → DtAll S H (xs.take i) (ds.take i)
  | _, _, 0, _ => .nil
  | _, _, i + 1, .nil => .nil
  | _, _, i + 1, .cons h r => .cons h (dta_take i r)
theorem dta_drop {S : Addr → Prop} {H : Hp} : ∀ {xs : List V} {ds : List PyData} (i : Nat), DtAll S H xs ds → DtAll S H (xs.drop i) (ds.drop i)
  | _, _, 0, h => h
  | _, _, i + 1, .nil => .nil
  | _, _, i + 1, .cons h r => dta_drop i r
section
variable {P : Program} {w : World} {K : PySem.W.Frag} {mg : Str → Option Value} {base : Heap} {f fR fO : Addr} {fd fdR fdO : FuncData}
end
end OM

namespace OM
open PySem PySem.Spec PyProof.Rows L2
theorem key_reads {h : Heap} {k : Key} {u : Value} (e : keyIs k u = true) : Reads h u (kD k) [] := by
  rcases keyIs_shape e with ⟨i, t, rfl, rfl⟩ | ⟨x, t, rfl, rfl⟩
  · exact .int i t
  · exact .str x t
theorem At.reads {h : Heap} {v : V} {u : Value} {d : PyData} (a : At v d) (r : RelV v u) : Reads h u d [] := by
  cases a with
  | non =>
    obtain rfl : u = Value.none := r
    exact .none
  | bl b =>
    obtain rfl : u = Value.bool b := r
    exact .bool b
  | int i =>
    obtain ⟨t, rfl⟩ : ∃ t, u = Value.int i t := r
    exact .int i t
  | str x =>
    obtain ⟨t, rfl⟩ : ∃ t, u = Value.str x t := r
    exact .str x t
section
variable {P : Program} {w : World} {H : Hp} {h : Heap} {S : Addr → Prop}
mutual
theorem Dt.reads (hok : HOk P w H h) : ∀ {v : V} {d : PyData} {u : Value}, Dt S H v d → RelV v u → ∃ as, Reads h u d as ∧ ∀ b ∈ as, H b ≠ none
  | _, _, _, .at a, r => ⟨[], a.reads r, fun _ z => nomatch z⟩
  | _, _, u, @Dt.lst _ _ a xs ds s e hl hx, r => by
    obtain rfl : u = Value.ref a := r
    obtain ⟨_, its, n, rv, eo⟩ := (show ObjOk P w H h a (.lst xs) from hok a _ e)
    obtain ⟨as, ra, na⟩ := DtAll.reads hok hx rv
    refine ⟨a :: as, .list eo rfl rfl (by simpa using ra), fun b hb => ?_⟩
    rcases List.mem_cons.mp hb with rfl | hb
    · rw [e]
      exact fun z => nomatch z
    · exact na b hb
  | _, _, u, @Dt.tup _ _ a xs ds s e hl hx, r => by
    obtain rfl : u = Value.ref a := r
    obtain ⟨_, its, rv, o, eo, ec, n, ed⟩ := (show ObjOk P w H h a (.tup xs) from hok a _ e)
    obtain ⟨as, ra, na⟩ := DtAll.reads hok hx rv
    exact ⟨as, .tuple eo ec ed (by simpa using ra), na⟩
  | _, _, u, @Dt.dic0 _ _ a s e, r => by
    obtain rfl : u = Value.ref a := r
    obtain ⟨_, _, vs, kv, o, es, ep, eo, ex, ed, ks, ps, _⟩ := (show ObjOk P w H h a (.dK []) from hok a _ e)
    cases kv
    have hes : es.toList = [] := by
      have := ps.length
      simpa using this
    refine ⟨a :: [] ++ [], .dict (kvs := []) eo ex.1 ed (by rw [hes]; exact .nil) (by rw [hes]; exact .nil), fun b hb => ?_⟩
    obtain rfl : b = a := by simpa using hb
    rw [e]
    exact fun z => nomatch z
  | _, _, u, @Dt.dic1 _ _ a k v d s e hd, r => by
    obtain rfl : u = Value.ref a := r
    obtain ⟨_, _, vs, kv, o, es, ep, eo, ex, ed, ks, ps, _⟩ := (show ObjOk P w H h a (.dK [(k, v)]) from hok a _ e)
    cases kv with
    | @cons _ q _ _ hq tl =>
      cases tl
      obtain ⟨ek, rv⟩ := hq
      have key : ∀ l, Pairs (mixKind P w) l [q] → ∃ e1, l = [e1] ∧ (mixKind P w).is q.1 e1.key = true ∧ e1.val = q.2 := fun l p => by
        cases p with
        | cons a b c =>
          cases c
          exact ⟨_, rfl, a, b⟩
      obtain ⟨e1, hes, hk, hv⟩ := key _ ps
      have ek' : k = q.1 := ek
      have hk' : keyIs k e1.key = true := by rw [ek']; exact hk
      have rv' : RelV v e1.val := by rw [hv]; exact rv
      refine ⟨a :: ([] ++ []) ++ ([] ++ []), .dict (kvs := [(kD k, d)]) eo ex.1 ed (by rw [hes]; exact .cons (key_reads hk') .nil) (by rw [hes]; exact .cons (hd.reads rv') .nil), fun b hb => ?_⟩
      obtain rfl : b = a := by simpa using hb
      rw [e]
      exact fun z => nomatch z
theorem DtAll.reads (hok : HOk P w H h) : ∀ {vs : List V} {ds : List PyData} {us : List Value}, DtAll S H vs ds → Vals vs us → ∃ as, ReadsAll h us ds as ∧ ∀ b ∈ as, H b ≠ none
  | _, _, _, .nil, .nil => ⟨[], .nil, fun _ z => nomatch z⟩
  | _, _, _, .cons hd tl, .cons r rs => by
    obtain ⟨as, ra, na⟩ := Dt.reads hok hd r
    obtain ⟨bs, rb, nb⟩ := DtAll.reads hok tl rs
    refine ⟨as ++ bs, .cons ra rb, fun b hb => ?_⟩
    rcases List.mem_append.mp hb with hb | hb
    · exact na b hb
    · exact nb b hb
end
end
/-- repr(x) of a datum -/
def rRep : List V → Hp → VK → Prop := fun xs H Q => ∃ (x : V) (d : PyData) (S : Addr → Prop), xs = [x] ∧ Dt S H x d ∧ d.showable = true ∧ d.depth ≤ 20 ∧ d.shown.length ≤ sizeLine ∧ Q (.str d.shown) H
theorem call_rep {X : Cx} (hg : X.A.guards = some []) (hu : X.A.units + 25 < cLine) (hs : ∃ o, X.base.get? sysModules = some o) : CallR X (.builtin "repr") rRep := by
  intro pins s σ H xs us Q I r h
  obtain ⟨x, d, S, rfl, hd, sh, dep, hz, q⟩ := h
  obtain ⟨u, rfl, ru⟩ := vals1 r
  obtain ⟨hp, g, dr, tk, os⟩ := s
  obtain ⟨as, rd, na⟩ := hd.reads I.hok ru
  obtain ⟨om, hom⟩ := hs
  have hns : sysModules ∉ as := fun z => na _ z (I.bs _ _ hom).2
  have big : ∀ {a : Addr}, u = Value.ref a → wpAny (model X.prog X.w) X.A (call (.builtin "repr") [u]) (EP X pins σ Q) X.xe ⟨hp, g, dr, tk, os⟩ := fun {a} e => by
    subst e
    exact repr_of_reads' rd sh (fun _ => hns) hg (by omega) (fun _ _ z => z) (fun h' u tk2 hk => ⟨.str d.shown, H, I.kept (t' := tk2) hk, ⟨_, rfl⟩, q⟩) hz
  cases hd with
  | «at» h =>
    cases h with
    | non =>
      obtain rfl : u = Value.none := ru
      exact PySem.P.repr_of_none ⟨.str _, H, I.tok _, ⟨_, rfl⟩, q⟩
    | bl b =>
      obtain rfl : u = Value.bool b := ru
      cases b with
      | true => exact PySem.P.repr_of_bool ⟨.str _, H, I.tok _, ⟨_, rfl⟩, q⟩
      | false => exact PySem.P.repr_of_bool ⟨.str _, H, I.tok _, ⟨_, rfl⟩, q⟩
    | int i =>
      obtain ⟨t, rfl⟩ : ∃ t, u = Value.int i t := ru
      have sh' : i.natAbs.log2 < 1920 := by
        unfold PyData.showable at sh
        exact of_decide_eq_true sh
      exact PySem.P.repr_of_int sh' ⟨.str _, H, I.tok _, ⟨_, rfl⟩, q⟩
    | str y =>
      obtain ⟨t, rfl⟩ : ∃ t, u = Value.str y t := ru
      exact PySem.P.repr_of_str ⟨.str _, H, I.tok _, ⟨_, rfl⟩, q⟩ hz
  | lst s e hl h => exact big ru
  | tup s e hl h => exact big ru
  | dic0 s e => exact big ru
  | dic1 s e h => exact big ru
end OM

namespace OM
open PySem PySem.Spec PyProof.Rows L2
/-- a function's promise, wherever no text is being shown around it -/
structure GFn (P : Program) (w : World) (K : PySem.W.Frag) (mg : Str → Option Value) (base : Heap) (n : Nat) (g : Addr) (gd : FuncData) (names : List Str) (sp : Sp) : Prop where
  cnt : ∀ xs H Q E, sp xs H Q E → xs.length = names.length
  go : ∀ (B : Around) (out : List Env) (z : Shared) (H : Hp) (ar : Args) (ws : List Value) (xs : List V) (Q : VK) (E : XK), B.guards = some [] → Room n B → Env0 P w K mg base B out z H → BindsTo z gd ar (names.zip ws) → Vals xs ws → sp xs H Q E →
    codeAny (model P w) B (.call (.ref g) ar) (CR CX0 out P w H z Q E) z
section
variable {P : Program} {w : World} {K : PySem.W.Frag} {mg : Str → Option Value} {base : Heap}
theorem gfn_of {x qual : Str} {st : Stmt} {g : Addr} {gd : FuncData} {N names : List Str} {n : Nat} {sp : Sp} (F : Fun K x qual st g gd) (S : FnScope N names (defScope st)) (cnt : ∀ xs H Q E, sp xs H Q E → xs.length = names.length)
    (bd : ∀ (cv : Value) (B : Around) (out : List Env) (z : Shared) (H : Hp) (xs : List V) (Q : VK) (E : XK), B.guards = some [] → Room n (B.deeper (envOfC qual (defScope st) z.heap.objs.size g cv)) → sp xs H Q E →
      ∃ t, PSs (cxOf CX0 P w K mg base N qual (defScope st) g cv B out z H E).nox (defBody st) t ∧ t { nx := fun _ H' => Q .non H', rt := Q } (start N xs) H) : GFn P w K mg base (n + 1) g gd names sp := by
  obtain ⟨oc, od, kV, doc, pm, an, cv, ct, osl, rfl, lk, hcd⟩ := F.ex
  refine ⟨cnt, fun B out z H ar ws xs Q E hg hr e0 hb rv hs => ?_⟩
  have kz : ∀ b o, base.get? b = some o → z.heap.get? b = some o := fun b o e => (e0.bs b o e).1
  have Kz : K.In z.heap := e0.mod.kin.keeps kz
  have hkinds : ∀ y ∈ names.zip ws, (defScope st).names.lookup y.1 = some .local ∨ ((defScope st).names.lookup y.1 = some .cell ∧ ((cellsFrom (z.heap.objs.size + 1) (defScope st).names []).lookup y.1).isSome = true) := by
    rintro ⟨m, v⟩ hy
    refine (S.par m (List.of_mem_zip hy).1).imp id fun c => ⟨c, PySem.W.cellsFrom_some _ _ _ (.inl c)⟩
  refine codeAny_call_function hr.depth (Kz _ _ lk) rfl S.co S.gen rfl (PySem.W.codeRec_of Kz hcd) (hb _ _ _ _ ?_)
  refine wpAny_newFunctionEnv_cells S.kind hkinds fun ev hev z1 ic => ?_
  subst hev
  refine ⟨(e0.mod.nolimit.keeps kz).keeps ic.toInCall.keep, codeAny_func ?_⟩
  obtain ⟨t, ht, hq⟩ := bd cv B out z H xs Q E hg (hr.deeper _) hs
  refine wpAny_mono (ht.nox.run [] z1 (start N xs) H _ (inv_start (CX := CX0) (E := E) S hr.hd e0 (cnt _ _ _ _ hs) rv ic) hq) (fun fl z2 h2 => ?_) fun _ _ h2 => h2
  cases fl with
  | ret u =>
    obtain ⟨v, σ2, H2, J, r2, q2⟩ := h2
    exact ⟨v, H2, J.os, J.bare, J.base, J.hok, r2, q2⟩
  | next =>
    obtain ⟨σ2, H2, J, q2⟩ := h2
    exact ⟨V.non, H2, J.os, J.bare, J.base, J.hok, (show RelV V.non Value.none from rfl), q2⟩
  | brk =>
    obtain ⟨_, _, _, q2⟩ := h2
    cases q2
  | cont =>
    obtain ⟨_, _, _, q2⟩ := h2
    cases q2
end
section
variable {X : Cx} {n : Nat} {g : Addr} {gd : FuncData} {names : List Str} {sp : Sp} {x : Str} {p pos : Pos} {e : Expr} {es : List Expr} {t : TA}
theorem pe_callG (G : GFn X.prog X.w X.K X.mg X.base n g gd names sp) (hgd : X.A.guards = some []) (hr : Room n X.A) (hg : Gl X x) (hm : X.mg x = some (.ref g)) (hk : PySem.W.keepIn X.K (.ref g) = true) (hb : Binds X.K gd names [])
    (ha : PA X (e :: es) t) (hdb : (x == ("__debug__" : Str)) = false := by decide) (h1 : starEach (e :: es) X.env = (false, eval e X.env) :: starEach es X.env := by rfl) (h2 : (backTo pos (starEach es X.env)).any (·.1) = false := by rfl) :
    PE X (.Call (.Name x p) (e :: es) [] pos) (tCall sp [] E0 t) := by
  refine ⟨fun pins s σ H Q I h => ?_⟩
  refine wpAny_Call_Name_kw (ld_glob I hg hm ?_ hdb)
  refine PySem.W.callWith_K (h₀ := X.base) I.ok.mod.kin hk (thn (ha.run pos pins s σ H _ I h) fun us z ⟨vs, H1, I1, r, q⟩ => ⟨I1.kIn, ?_⟩) h1 h2
  have q0 : sp (vs ++ []) H1 Q E0 := q
  rw [List.append_nil] at q0
  have hl : (us ++ []).length = names.length := by
    rw [List.append_nil, ← r.length]
    exact G.cnt _ _ _ _ q0
  have hbt := hb z us I1.kIn hl
  rw [List.append_nil] at hbt
  show wpAny (model X.prog X.w) X.A (call (.ref g) us) _ _ _
  refine wpAny_call (codeAny_mono (G.go X.A X.stack z H1 ⟨us, []⟩ us vs Q E0 hgd hr I1.env0 hbt r q0) fun res z' hq => ?_)
  match res, hq with
  | .ok (.ret u), hq => exact I1.after hq
  | .error er, hq => exact hq.elim
end
/-- the script is known, or held as it is; nothing else is -/
def Scr (K : PySem.W.Frag) (a : Addr) (H : Hp) : Prop := ∀ b u, H b = some u → b = a ∧ K.lookup a = none ∧ ∃ ob xs, u = HO.frz ob (.lst xs)
theorem run_law {P : Program} {w : World} {K : PySem.W.Frag} {mg mb : Str → Option Value} {n : Nat} {fa a : Addr} {gd : FuncData} {x : Str} {sp : Sp} {z : Shared} {vs : List Value} {H : Hp} (Kz : K.In z.heap) (ng : z.heap.Ns mainGlobals mg) (nb : z.heap.Ns builtinsNs mb)
    (bb : ∀ y : Str, y ≠ "__name__" → mb y = bootBuiltins y) (lim : z.heap.NoLimit) (sm : ∃ mm, z.heap.Ns sysModules mm) (hg : z.gens = #[]) (ha : z.heap.get? a = some { cls := .type "list", data := .seq vs.toArray }) (hr : Room n callerA)
    (F : ∀ base : Heap, K.In base → base.Ns mainGlobals mg → (∃ o, base.get? sysModules = some o) → GFn P w K mg base n fa gd [x] sp) (hbind : ∀ (s : Shared) (u : Value), BindsTo s gd ⟨[u], []⟩ [(x, u)])
    (hS : Scr K a H) (hok : HOk P w H z.heap) (hsp : sp [.ref a] H (fun v _ => v = .bl true) E0) :
    codeAny (model P w) callerA (.call (.ref fa) ⟨[.ref a], []⟩) (fun r z' => r = .ok (.ret (.bool true)) ∧ OldK z.heap z'.heap ∧ z'.os = z.os ∧ AllBare z'.gens) z := by
  have toB : ∀ {b : Addr} {m : Str → Option Value}, z.heap.Ns b m → (hidT z.heap H).Ns b m := by
    rintro b m ⟨o, es, ep, e, d, r⟩
    refine ⟨o, es, ep, hidT_get e ?_, d, r⟩
    cases q : H b with
    | none => rfl
    | some u =>
      obtain ⟨rfl, _⟩ := hS _ _ q
      rw [ha] at e
      cases e
      cases (show Data.seq vs.toArray _ = Data.dict es ep from d)
  have Kb : K.In (hidT z.heap H) := fun b o e => hidT_get (Kz b o e) (by
    cases q : H b with
    | none => rfl
    | some u =>
      obtain ⟨rfl, z0, _⟩ := hS _ _ q
      rw [z0] at e
      cases e)
  have M : Mod K mg (hidT z.heap H) := ⟨Kb, toB ng, ⟨mb, toB nb, bb⟩, by
    obtain ⟨mc, h1, h2⟩ := lim
    exact ⟨mc, toB h1, h2⟩⟩
  have hs : ∃ o, (hidT z.heap H).get? sysModules = some o := by
    obtain ⟨mm, q⟩ := sm
    obtain ⟨o, _, _, e, _⟩ := toB q
    exact ⟨o, e⟩
  have e0 : Env0 P w K mg (hidT z.heap H) callerA [] z H := ⟨rfl, M, fun b o e => of_hidT e, Nat.le_of_eq (hidT_size _ _), trivial, (fun b hb => by cases (show b ∈ ([] : List Addr) from hb)), hok, .of_eq hg⟩
  refine codeAny_mono ((F _ Kb (toB ng) hs).go callerA [] z H ⟨[.ref a], []⟩ [.ref a] [.ref a] _ _ rfl hr e0 (hbind z (.ref a)) (.cons rfl .nil) hsp) fun res z' q => ?_
  match res, q with
  | .error e, q => exact q.elim
  | .ok (.ret u), q =>
    obtain ⟨v, H', os, bare, un, hok', r', q'⟩ := q
    subst q'
    obtain rfl : u = Value.bool true := r'
    refine ⟨rfl, OldK.of_keep fun b o e => ?_, os, bare⟩
    cases y : H b with
    | none => exact un.keep b o e y (fun k => by cases (show b ∈ ([] : List Addr) from k)) (fun k => by cases (show b ∈ ([] : List Addr) from k))
    | some u =>
      obtain ⟨rfl, _, ob, xs, rfl⟩ := hS _ _ y
      have h1 := (hok b _ y).1
      have h2 := (hok' b _ (un.frzs b ob _ y)).1
      rw [e] at h1
      cases h1
      exact h2
theorem walkG {l : PySem.W.OpenLaw} {n k : Nat} {q : Program} {loose : List Str} {XP : (Str → Option Value) → Heap → Prop} {YP : World → Heap → Prop} {d : DefRec} {K : Params → PySem.W.Frag} {sp : PySem.W.Frag → Sp} {x : Str} (hn : l.most = some n) (hn2 : n ≤ sizeLine)
    (hdf : d.params.defaults = []) (hi : importsNone q = true) (hr : Room k callerA) (hY : ∀ (w : World) (h : Heap), YP w h → (K w.params).In h)
    (F : ∀ (w : World) (mg : Str → Option Value) (fa : Addr) (h : Heap), (K w.params).In h → h.Ns mainGlobals mg → mg d.name = some (.ref fa) → ∃ gd : FuncData, (∀ (s : Shared) (u : Value), BindsTo s gd ⟨[u], []⟩ [(x, u)]) ∧
      ∀ base : Heap, (K w.params).In base → base.Ns mainGlobals mg → (∃ o, base.get? sysModules = some o) → GFn l.prog w (K w.params) mg base k fa gd [x] (sp (K w.params)))
    (hsp : ∀ (K : PySem.W.Frag) (H : Hp) (a : Addr) (ns : List Int), ns.length ≤ n → SqL K H a (ns.map V.int) → sp K [.ref a] H (fun v _ => v = .bl true) E0) : PySem.W.WalkO q loose XP YP l.row.toRowW d [] (fun f vs => PySem.call f vs) := by
  refine Att.attach_call hn hdf fun w s₀ z mg mb fa o pm cd doc a vs ns G Y ho hd hcd hmg hobj hints hlen hg => ?_
  have Kz := hY w _ Y
  obtain ⟨gd, hb, hF⟩ := F w mg fa _ Kz G.T.g hmg
  have sm : ∃ mm, z.heap.Ns sysModules mm := by
    obtain ⟨mm, h1, _⟩ := (G.T.seer hi).mods
    exact ⟨mm, h1⟩
  have rv := vals_ints hints
  have hl : (ns.map V.int).length ≤ sizeLine := by
    rw [List.length_map]
    omega
  cases hk : (K w.params).lookup a with
  | some o1 =>
    have e := Kz a o1 hk
    rw [hobj] at e
    cases e
    exact run_law (H := fun _ => none) Kz G.T.g G.T.b G.T.builtins G.T.nolimit sm hg hobj hr hF hb (fun b u y => by cases y) (fun b u y => by cases y)
      (hsp _ _ a ns hlen (.inr ⟨_, vs.toArray, _, hk, rfl, rfl, rfl, by rw [List.size_toArray, ← rv.length]; exact hl, by simpa using rv⟩))
  | none =>
    refine run_law (H := fun b => if b = a then some (.frz { cls := .type "list", data := .seq vs.toArray } (.lst (ns.map V.int))) else none) Kz G.T.g G.T.b G.T.builtins G.T.nolimit sm hg hobj hr hF hb (fun b u y => ?_) (fun b u y => ?_)
      (hsp _ _ a ns hlen (.inl (.inr ⟨{ cls := .type "list", data := .seq vs.toArray }, if_pos rfl⟩)))
    · have y1 : (if b = a then some (HO.frz { cls := .type "list", data := .seq vs.toArray } (.lst (ns.map V.int))) else none) = some u := y
      by_cases hb : b = a
      · rw [if_pos hb] at y1
        cases y1
        subst hb
        exact ⟨rfl, hk, _, _, rfl⟩
      · rw [if_neg hb] at y1
        cases y1
    · have y1 : (if b = a then some (HO.frz { cls := .type "list", data := .seq vs.toArray } (.lst (ns.map V.int))) else none) = some u := y
      by_cases hb : b = a
      · rw [if_pos hb] at y1
        cases y1
        subst hb
        exact ⟨hobj, hl, vs, _, rv, hobj⟩
      · rw [if_neg hb] at y1
        cases y1
end OM

namespace OM
open PySem PySem.Spec PyProof.Rows L2 LamX
/-- what stays as objects are laid -/
structure Stays (R : L2.St → Hp → Prop) : Prop where
  st : ∀ σ H H', Same H H' → R σ H → R σ H'
/-- an expression that stands for the datum d, built anew -/
def tLit (R : L2.St → Hp → Prop) (d : PyData) : TE := fun σ H Q => R σ H ∧ ∀ v H', Same H H' → Dt (fun _ => True) H' v d → Q v H'
def tLits (R : L2.St → Hp → Prop) (ds : List PyData) : TA := fun σ H Q => R σ H ∧ ∀ vs H', Same H H' → DtAll (fun _ => True) H' vs ds → Q vs H'
def tYes (R : L2.St → Hp → Prop) (b : Bool) : TE := fun σ H Q => R σ H ∧ ∀ H', Same H H' → Q (.bl b) H'
def tYess (R : L2.St → Hp → Prop) (bs : List Bool) : TA := fun σ H Q => R σ H ∧ ∀ H', Same H H' → Q (bs.map V.bl) H'
def tBls (R : L2.St → Hp → Prop) (bs : List Bool) : TE := fun σ H Q => R σ H ∧ ∀ p H', Same H H' → H' p = some (.lst (bs.map V.bl)) → Q (.ref p) H'
section
variable {X : Cx} {R : L2.St → Hp → Prop} {e : Expr} {es : List Expr} {j k : Nat} {pos p : Pos} {x : Str}
theorem PE.imp {t t' : TE} (h : PE X e t) (f : ∀ σ H Q, t' σ H Q → t σ H Q) : PE X e t' := ⟨fun pins s σ H Q I q => h.run pins s σ H Q I (f σ H Q q)⟩
theorem PA.imp {t t' : TA} (h : PA X es t) (f : ∀ σ H Q, t' σ H Q → t σ H Q) : PA X es t' := ⟨fun pos pins s σ H Q I q => h.run pos pins s σ H Q I (f σ H Q q)⟩
theorem pe_ls : PE X (.Constant (.str x) j pos) (tLit R (.str x)) := PE.imp pe_str fun σ H Q q => q.2 _ H (Same.refl H) (.at (.str x))
theorem pa_ln : PA X [] (tLits R []) := PA.imp pa_nil fun σ H Q q => q.2 _ H (Same.refl H) .nil
theorem pa_lc (S : Stays R) {d : PyData} {ds : List PyData} (h : PE X e (tLit R d)) (r : PA X es (tLits R ds)) (he : starEach (e :: es) X.env = (false, eval e X.env) :: starEach es X.env := by rfl) : PA X (e :: es) (tLits R (d :: ds)) :=
  PA.imp (pa_cons h r he) fun σ H Q q => ⟨q.1, fun v H1 s1 d1 => ⟨S.st _ _ _ s1 q.1, fun vs H2 s2 d2 => q.2 _ H2 (s1.trans s2) (.cons (d1.mv (fun _ z => z) fun b o _ z => s2 b o z) d2)⟩⟩
theorem pe_lt {ds : List PyData} (h : PA X es (tLits R ds)) (hl : ds.length ≤ 1000 := by decide) : PE X (.Tuple es k pos) (tLit R (.tuple ds)) :=
  PE.imp (pe_tup h) fun σ H Q q => ⟨q.1, fun vs H1 s1 d1 => by
    have l := d1.length
    have : (1000 : Nat) < sizeLine := by decide
    refine ⟨by omega, fun p hp => q.2 _ _ (s1.trans (same_upd hp)) (.tup trivial upd_same (by omega) (d1.mv (fun _ z => z) fun b o _ z => same_upd hp b o z))⟩⟩
theorem pe_isc {f : Addr} {fd : FuncData} {n : Nat} {d : PyData} {b : Bool} (G : FnOk X.prog X.w X.K X.mg X.base CX0 n f fd ["value"] spIsCode) (hr : Room n X.A) (hg : Gl X "is_code") (gF : X.mg "is_code" = some (.ref f)) (kF : PySem.W.keepIn X.K (.ref f) = true) (bF : Binds X.K fd ["value"] [])
    (h : PE X e (tLit R d)) (hd : smlD d = true ∧ codeD 3 d = b) (he : starEach [e] X.env = (false, eval e X.env) :: starEach [] X.env := by rfl) (hpl : (backTo pos (starEach [] X.env)).any (·.1) = false := by rfl) : PE X (.Call (.Name "is_code" p) [e] [] pos) (tYes R b) :=
  PE.imp (pe_call G hr hg gF kF bF .nil pass0 (pa_cons h pa_nil he) (he := he) (hpl := hpl)) fun σ H Q q => ⟨q.1, fun v H1 s1 d1 => ⟨_, v, d, rfl, d1, hd.1, fun H2 s2 => by
    rw [hd.2]
    exact q.2 _ (s1.trans s2)⟩⟩
theorem pa_yn : PA X [] (tYess R []) := PA.imp pa_nil fun σ H Q q => q.2 H (Same.refl H)
theorem pa_yc (S : Stays R) {b : Bool} {bs : List Bool} (h : PE X e (tYes R b)) (r : PA X es (tYess R bs)) (he : starEach (e :: es) X.env = (false, eval e X.env) :: starEach es X.env := by rfl) : PA X (e :: es) (tYess R (b :: bs)) :=
  PA.imp (pa_cons h r he) fun σ H Q q => ⟨q.1, fun H1 s1 => ⟨S.st _ _ _ s1 q.1, fun H2 s2 => q.2 H2 (s1.trans s2)⟩⟩
theorem pe_bs {bs : List Bool} (h : PA X es (tYess R bs)) (hl : bs.length ≤ 1000 := by decide) : PE X (.List es pos) (tBls R bs) :=
  PE.imp (pe_lst h) fun σ H Q q => ⟨q.1, fun H1 s1 => by
    have : (1000 : Nat) < sizeLine := by decide
    refine ⟨by rw [List.length_map]; omega, fun p hp => q.2 p _ (s1.trans (same_upd hp)) upd_same⟩⟩
theorem pe_yb {b : Bool} : PE X (.Constant (.bool b) j pos) (tYes R b) := PE.imp pe_bl fun σ H Q q => q.2 H (Same.refl H)
/-- a variable that holds the datum d -/
def RV (i : Nat) (d : PyData) : L2.St → Hp → Prop := fun σ H => ∃ v, σ[i]? = some (some v) ∧ Dt (fun _ => True) H v d
theorem rv_st {i : Nat} {d : PyData} : Stays (RV i d) := ⟨fun σ H H' s ⟨v, e, h⟩ => ⟨v, e, h.mv (fun _ z => z) fun b o _ z => s b o z⟩⟩
theorem true_st : Stays (fun _ _ => True) := ⟨fun _ _ _ _ _ => trivial⟩
theorem pe_lv (i : Nat) {d : PyData} (hN : X.N[i]? = some x := by rfl) (hv : Vis X.env.scope x := by first | exact Or.inl rfl | exact Or.inr (Or.inl rfl) | exact Or.inr (Or.inr rfl)) (hd : (x == ("__debug__" : Str)) = false := by decide)
    (hcd : (x == ("__classdict__" : Str)) = false := by decide) : PE X (.Name x pos) (tLit (RV i d) d) := PE.imp (pv i hN hv hd hcd) fun σ H Q q => by
  obtain ⟨⟨v, e, h⟩, q⟩ := q
  exact ⟨v, e, q v H (Same.refl H) h⟩
end
/-- three ifs, one in another -/
def threeD : PyData := .tuple [.tuple [.str "if", .str "p", .str "a", .tuple [.tuple [.str "if", .str "p", .str "a", .tuple [], .tuple [.tuple [.str "if", .str "q", .str "b", .tuple [.tuple [.str "put", .str "a"]], .tuple []]]]], .tuple []]]
end OM

namespace OM
open PySem PySem.Spec PyProof.Rows L2
theorem DtAll.get' {S : Addr → Prop} {H : Hp} : ∀ {vs : List V} {ds : List PyData} {i : Nat} {d : PyData}, DtAll S H vs ds → ds[i]? = some d → ∃ v, vs[i]? = some v ∧ Dt S H v d
  | _, _, _, _, .nil, e => by simp at e
  | _, _, 0, _, .cons h _, e => by
    simp at e
    subst e
    exact ⟨_, rfl, h⟩
  | _, _, i + 1, _, .cons _ r, e => DtAll.get' (i := i) r (by simpa using e)
/-! ### expressions that stand for data, by what the variables hold -/
theorem pe_ex2 {X : Cx} {e : Expr} {α : Type} {t : α → TE} (h : ∀ c, PE X e (t c)) : PE X e (fun σ H Q => ∃ c, t c σ H Q) := ⟨fun pins s σ H Q I ⟨c, q⟩ => (h c).run pins s σ H Q I q⟩
/-- a number, from the variables -/
def tIn (R : L2.St → Hp → Prop) (k : Nat) : TE := fun σ H Q => R σ H ∧ Q (.int (k : Int)) H
section
variable {X : Cx} {R : L2.St → Hp → Prop} {a b c e : Expr} {pos p p2 : Pos} {x : Str}
theorem pe_ii (i : Nat) {k : Nat} (hR : ∀ σ H, R σ H → σ[i]? = some (some (.int (k : Int)))) (hN : X.N[i]? = some x := by rfl) (hv : Vis X.env.scope x := by first | exact Or.inl rfl | exact Or.inr (Or.inl rfl) | exact Or.inr (Or.inr rfl)) (hd : (x == ("__debug__" : Str)) = false := by decide)
    (hcd : (x == ("__classdict__" : Str)) = false := by decide) : PE X (.Name x pos) (tIn R k) := PE.imp (pv i hN hv hd hcd) fun σ H Q q => ⟨_, hR _ _ q.1, q.2⟩
theorem pe_ip {k m : Nat} {j : Nat} {p3 : Pos} (h : PE X a (tIn R k)) : PE X (.BinOp a .Add (.Constant (.int (m : Int)) j p3) pos) (tIn R (k + m)) := PE.imp (pe_op op_add h pe_int) fun σ H Q q => ⟨q.1, _, _, rfl, rfl, q.2⟩
theorem pe_ct (S : Stays R) {xs ys : List PyData} (ha : PE X a (tLit R (.tuple xs))) (hb : PE X b (tLit R (.tuple ys))) (hl : ∀ σ H, R σ H → xs.length + ys.length ≤ 1000) : PE X (.BinOp a .Add b pos) (tLit R (.tuple (xs ++ ys))) :=
  PE.imp (pe_op op_catA ha hb) fun σ H Q q => ⟨q.1, fun v H1 s1 d1 => ⟨S.st _ _ _ s1 q.1, fun u H2 s2 d2 => by
    obtain ⟨l, ls, rfl, el, lx, dx⟩ := d1.tup_of
    obtain ⟨m, ms, rfl, em, ly, dy⟩ := d2.tup_of
    have := hl _ _ q.1
    have l1 := dx.length
    have l2 := dy.length
    have line : (8200000 : Nat) < sizeLine := by decide
    refine cat_one (K := X.K) (s2 _ _ el) em (by omega) fun c H3 s3 _ ec => q.2 _ _ ((s1.trans s2).trans s3) (.tup trivial ec (by rw [List.length_append]; omega) (((dx.mv (fun _ z => z) fun b o _ z => s2 b o z).app dy).mv (fun _ z => z) fun b o _ z => s3 b o z))⟩⟩
theorem pe_slT {ds : List PyData} {k : Nat} (h : PE X a (tLit R (.tuple ds))) (S : Stays R) (hb : PE X b (tIn R k)) (h0 : ∀ σ H, R σ H → k ≤ ds.length) : PE X (.Subscript a (.Slice none (some b) none p2) pos) (tLit R (.tuple (ds.take k))) :=
  PE.imp (pe_slice sl_tupA h po_none (po_some hb)) fun σ H Q q => ⟨q.1, fun v H1 s1 d1 => ⟨S.st _ _ _ s1 q.1, k, rfl, by
    obtain ⟨l, ls, rfl, el, lx, dx⟩ := d1.tup_of
    have := h0 _ _ q.1
    have l1 := dx.length
    refine sl_one (K := X.K) el fun c H3 s3 _ ec => q.2 _ _ (s1.trans s3) ?_
    rw [cut_take ls (by omega)] at ec
    exact .tup trivial ec (by rw [List.length_take]; omega) ((dta_take k dx).mv (fun _ z => z) fun b o _ z => s3 b o z)⟩⟩
theorem cut_dropG (xs : List V) (i : Nat) : cutV xs (some (i : Int)) none = xs.drop i := by
  rcases Nat.le_total i xs.length with z | z
  · exact cut_drop xs z
  · unfold cutV
    rw [HT.sIx_nat, HT.sIx_none, show min i xs.length = xs.length by omega, List.drop_of_length_le z, List.drop_of_length_le (Nat.le_refl _), List.take_nil]
theorem pe_slDG {ds : List PyData} {k : Nat} (h : PE X a (tLit R (.tuple ds))) (S : Stays R) (hb : PE X b (tIn R k)) : PE X (.Subscript a (.Slice (some b) none none p2) pos) (tLit R (.tuple (ds.drop k))) :=
  PE.imp (pe_slice sl_tupA h (po_some hb) po_none) fun σ H Q q => ⟨q.1, fun v H1 s1 d1 => ⟨S.st _ _ _ s1 q.1, k, rfl, by
    obtain ⟨l, ls, rfl, el, lx, dx⟩ := d1.tup_of
    have l1 := dx.length
    refine sl_two (K := X.K) el fun c H3 s3 _ ec => q.2 _ _ (s1.trans s3) ?_
    rw [cut_dropG] at ec
    exact .tup trivial ec (by rw [List.length_drop]; omega) ((dta_drop k dx).mv (fun _ z => z) fun b o _ z => s3 b o z)⟩⟩
theorem pe_slD {ds : List PyData} {k : Nat} (h : PE X a (tLit R (.tuple ds))) (S : Stays R) (hb : PE X b (tIn R k)) (h0 : ∀ σ H, R σ H → k ≤ ds.length) : PE X (.Subscript a (.Slice (some b) none none p2) pos) (tLit R (.tuple (ds.drop k))) :=
  PE.imp (pe_slice sl_tupA h (po_some hb) po_none) fun σ H Q q => ⟨q.1, fun v H1 s1 d1 => ⟨S.st _ _ _ s1 q.1, k, rfl, by
    obtain ⟨l, ls, rfl, el, lx, dx⟩ := d1.tup_of
    have := h0 _ _ q.1
    have l1 := dx.length
    refine sl_two (K := X.K) el fun c H3 s3 _ ec => q.2 _ _ (s1.trans s3) ?_
    rw [cut_drop ls (by omega)] at ec
    exact .tup trivial ec (by rw [List.length_drop]; omega) ((dta_drop k dx).mv (fun _ z => z) fun b o _ z => s3 b o z)⟩⟩
theorem cut_mid (xs : List V) {i j : Nat} (h : i ≤ xs.length) (hj : i ≤ j) : cutV xs (some (i : Int)) (some (j : Int)) = (xs.drop i).take (j - i) := by
  unfold cutV
  rw [HT.sIx_nat, HT.sIx_nat]
  have e1 : min i xs.length = i := by omega
  rw [e1]
  rcases Nat.le_total j xs.length with z | z
  · rw [show min j xs.length = j by omega]
  · rw [show min j xs.length = xs.length by omega, List.take_of_length_le (by rw [List.length_drop]; omega), List.take_of_length_le (by rw [List.length_drop]; omega)]
theorem pe_slM {ds : List PyData} {k m : Nat} (h : PE X a (tLit R (.tuple ds))) (S : Stays R) (hb : PE X b (tIn R k)) (hc : PE X c (tIn R m)) (h0 : ∀ σ H, R σ H → k ≤ ds.length ∧ k ≤ m) : PE X (.Subscript a (.Slice (some b) (some c) none p2) pos) (tLit R (.tuple ((ds.drop k).take (m - k)))) :=
  PE.imp (pe_slice sl_tupA h (po_some hb) (po_some hc)) fun σ H Q q => ⟨q.1, fun v H1 s1 d1 => ⟨S.st _ _ _ s1 q.1, k, rfl, S.st _ _ _ s1 q.1, m, rfl, by
    obtain ⟨l, ls, rfl, el, lx, dx⟩ := d1.tup_of
    have := h0 _ _ q.1
    have l1 := dx.length
    refine sl_one (K := X.K) el fun c H3 s3 _ ec => q.2 _ _ (s1.trans s3) ?_
    rw [cut_mid ls (by omega) this.2] at ec
    exact .tup trivial ec (by rw [List.length_take, List.length_drop]; omega) ((dta_take _ (dta_drop k dx)).mv (fun _ z => z) fun b o _ z => s3 b o z)⟩⟩
theorem pe_lp (i : Nat) {d : PyData} (hR : ∀ σ H, R σ H → RV i d σ H) (hN : X.N[i]? = some x := by rfl) (hv : Vis X.env.scope x := by first | exact Or.inl rfl | exact Or.inr (Or.inl rfl) | exact Or.inr (Or.inr rfl)) (hd : (x == ("__debug__" : Str)) = false := by decide)
    (hcd : (x == ("__classdict__" : Str)) = false := by decide) : PE X (.Name x pos) (tLit R d) := PE.imp (pv i hN hv hd hcd) fun σ H Q q => by
  obtain ⟨v, e, h⟩ := hR _ _ q.1
  exact ⟨v, e, q.2 v H (Same.refl H) h⟩
/-- t[k], a literal place -/
theorem pe_it {ds : List PyData} {d : PyData} {k : Nat} {j : Nat} {p3 : Pos} (h : PE X a (tLit R (.tuple ds))) (hk : ds[k]? = some d) : PE X (.Subscript a (.Constant (.int (k : Int)) j p3) pos) (tLit R d) :=
  PE.imp (pe_ix ix_tup h pe_int (fun _ _ => rfl)) fun σ H Q q => ⟨q.1, fun v H1 s1 d1 => by
    obtain ⟨l, ls, rfl, el, lx, dx⟩ := d1.tup_of
    obtain ⟨x, hx, hd⟩ := dx.get' hk
    exact ⟨l, ls, (k : Int), x, rfl, rfl, SqT.of el, atI_nat hx, q.2 _ _ s1 hd⟩⟩
end
end OM

namespace OM
open PySem PySem.Spec PyProof.Rows L2
mutual
/-- texts and tuples alone -/
def pureD : PyData → Bool
  | .str _ => true
  | .tuple xs => pureAll xs
  | _ => false
def pureAll : List PyData → Bool
  | [] => true
  | x :: r => pureD x && pureAll r
end
mutual
theorem lay_pure : ∀ d : PyData, pureD d = true → smlD d = true → PyData.canLay0 d = true
  | .str x, _, h => by
    unfold smlD at h
    rw [Bool.and_eq_true] at h
    unfold PyData.canLay0
    exact h.2
  | .tuple xs, h1, h2 => by
    unfold pureD at h1
    rw [sml_tup] at h2
    unfold PyData.canLay0
    exact lay_pureAll xs h1 h2
  | .none, h, _ => by unfold pureD at h; cases h
  | .bool _, h, _ => by unfold pureD at h; cases h
  | .int _, h, _ => by unfold pureD at h; cases h
  | .list _, h, _ => by unfold pureD at h; cases h
  | .dict _, h, _ => by unfold pureD at h; cases h
theorem lay_pureAll : ∀ xs : List PyData, pureAll xs = true → smlAll xs = true → PyData.canLayAll0 xs = true
  | [], _, _ => rfl
  | x :: r, h1, h2 => by
    unfold pureAll at h1
    rw [Bool.and_eq_true] at h1
    rw [smlAll_cons, Bool.and_eq_true] at h2
    show (PyData.canLay0 x && PyData.canLayAll0 r) = true
    rw [lay_pure x h1.1 h2.1, lay_pureAll r h1.2 h2.2]
    rfl
end
section
variable {S : Addr → Prop} {H : Hp} {K : PySem.W.Frag}
mutual
theorem Dt.dp : ∀ {v : V} {d : PyData}, pureD d = true → Dt S H v d → Dp K H v d
  | _, _, p, .at h => by
    cases h with
    | str x => exact .str x
    | _ => unfold pureD at p; cases p
  | _, _, p, .tup s e hl h => .tup (SqT.of e) (DtAll.dp (by unfold pureD at p; exact p) h)
  | _, _, p, .lst s e hl h => by unfold pureD at p; cases p
  | _, _, p, .dic0 s e => by unfold pureD at p; cases p
  | _, _, p, .dic1 s e h => by unfold pureD at p; cases p
theorem DtAll.dp : ∀ {vs : List V} {ds : List PyData}, pureAll ds = true → DtAll S H vs ds → DpAll K H vs ds
  | _, _, _, .nil => .nil
  | _, _, p, .cons h r => by
    unfold pureAll at p
    rw [Bool.and_eq_true] at p
    exact .cons (Dt.dp p.1 h) (DtAll.dp p.2 r)
end
end
theorem name_pure {d : PyData} (h : isNameD d = true) : pureD d = true ∧ d.depth = 0 := by
  cases d with
  | str x => exact ⟨by unfold pureD; rfl, rfl⟩
  | _ => cases h
theorem names_pure : ∀ {ds : List PyData}, ds.all isNameD = true → pureAll ds = true ∧ PyData.depthAll ds = 0
  | [], _ => ⟨rfl, rfl⟩
  | d :: r, h => by
    rw [List.all_cons, Bool.and_eq_true] at h
    obtain ⟨a, b⟩ := name_pure h.1
    obtain ⟨c, e⟩ := names_pure h.2
    unfold pureAll
    rw [depthAll_cons, a, b, c, e]
    exact ⟨rfl, rfl⟩
theorem pure_tup {ds : List PyData} (h : pureAll ds = true) : pureD (.tuple ds) = true := by
  unfold pureD
  exact h
theorem zip_all {p : PyData → Prop} {g : PyData → Str → Bool} (hg : ∀ d r, g d r = true → p d) : ∀ {ds : List PyData} {rs : List Str}, ds.length = rs.length → (List.zipWith g ds rs).all id = true → ∀ d ∈ ds, p d
  | [], _, _, _ => fun d h => by cases h
  | _ :: _, [], h, _ => by cases h
  | d :: ds, r :: rs, h, z => by
    rw [List.zipWith_cons_cons, List.all_cons, Bool.and_eq_true] at z
    intro e he
    rcases List.mem_cons.mp he with rfl | he
    · exact hg _ _ z.1
    · exact zip_all hg (by simpa using h) z.2 e he
theorem all_pure {m : Nat} : ∀ {ds : List PyData}, (∀ d ∈ ds, pureD d = true ∧ d.depth ≤ m) → pureAll ds = true ∧ PyData.depthAll ds ≤ m
  | [], _ => ⟨rfl, Nat.zero_le _⟩
  | d :: r, h => by
    obtain ⟨a, b⟩ := h d (by simp)
    obtain ⟨c, e⟩ := all_pure (ds := r) fun x hx => h x (List.mem_cons_of_mem _ hx)
    unfold pureAll
    rw [depthAll_cons, a, c]
    exact ⟨rfl, by omega⟩
/-- code is made of texts and tuples, not deep -/
theorem row_pure : ∀ (n : Nat) (d : PyData), rowD (cdOf n) d = true → pureD d = true ∧ d.depth ≤ 2 * n + 2 := by
  intro n
  induction n with
  | zero =>
    intro d h
    obtain ⟨w, rest, rs, rfl, hf, hlen, fits⟩ := rowD_shape h
    have hp : ∀ x ∈ rest, pureD x = true ∧ x.depth ≤ 1 := zip_all (fun x r hx => by
      unfold fitD at hx
      split at hx
      · cases hx
      · split at hx
        · unfold argsD at hx
          split at hx
          · rw [Bool.and_eq_true] at hx
            obtain ⟨a, b⟩ := names_pure hx.2
            exact ⟨pure_tup a, by rw [dep_tup, b]; exact Nat.le_refl _⟩
          · cases hx
        · obtain ⟨a, b⟩ := name_pure hx
          exact ⟨a, by omega⟩) hlen fits
    obtain ⟨a, b⟩ := all_pure hp
    refine ⟨pure_tup (by unfold pureAll; rw [a]; unfold pureD; rfl), ?_⟩
    rw [dep_tup, depthAll_cons]
    have : (PyData.str w).depth = 0 := rfl
    omega
  | succ m ih =>
    intro d h
    obtain ⟨w, rest, rs, rfl, hf, hlen, fits⟩ := rowD_shape h
    have hp : ∀ x ∈ rest, pureD x = true ∧ x.depth ≤ 2 * m + 3 := zip_all (fun x r hx => by
      unfold fitD at hx
      split at hx
      · obtain ⟨ys, rfl, rows⟩ := code_tup (n := m) (show codeD m x = true from hx)
        obtain ⟨a, b⟩ := all_pure (ds := ys) fun y hy => ih y (List.all_eq_true.mp rows y hy)
        exact ⟨pure_tup a, by rw [dep_tup]; omega⟩
      · split at hx
        · unfold argsD at hx
          split at hx
          · rw [Bool.and_eq_true] at hx
            obtain ⟨a, b⟩ := names_pure hx.2
            exact ⟨pure_tup a, by rw [dep_tup, b]; omega⟩
          · cases hx
        · obtain ⟨a, b⟩ := name_pure hx
          exact ⟨a, by omega⟩) hlen fits
    obtain ⟨a, b⟩ := all_pure hp
    refine ⟨pure_tup (by unfold pureAll; rw [a]; unfold pureD; rfl), ?_⟩
    rw [dep_tup, depthAll_cons]
    have : (PyData.str w).depth = 0 := rfl
    omega
theorem code_pure {ds : List PyData} (h : ds.all (rowD (cdOf 3)) = true) : pureAll ds = true ∧ PyData.depthAll ds ≤ 8 := all_pure fun d hd => row_pure 3 d (List.all_eq_true.mp h d hd)
theorem code_shaped {ds : List PyData} (h : ds.all (rowD (cdOf 3)) = true) (s : smlAll ds = true) : SeqAt.shaped (.tuple ds) = true := by
  obtain ⟨a, b⟩ := code_pure h
  have c := lay_pure (.tuple ds) (pure_tup a) (by rw [sml_tup]; exact s)
  show (PyData.canLay0 (.tuple ds) && decide ((PyData.tuple ds).depth ≤ 64)) = true
  rw [c, decide_eq_true (show (PyData.tuple ds).depth ≤ 64 by rw [dep_tup]; omega)]
  rfl
mutual
theorem eqv_pure : ∀ d : PyData, pureD d = true → PyData.eqv d d = true
  | .str x, _ => by unfold PyData.eqv; simp
  | .tuple xs, h => by
    unfold pureD at h
    unfold PyData.eqv
    exact eqv_pureAll xs h
  | .none, h => by unfold pureD at h; cases h
  | .bool _, h => by unfold pureD at h; cases h
  | .int _, h => by unfold pureD at h; cases h
  | .list _, h => by unfold pureD at h; cases h
  | .dict _, h => by unfold pureD at h; cases h
theorem eqv_pureAll : ∀ xs : List PyData, pureAll xs = true → PyData.eqvAll xs xs = true
  | [], _ => by unfold PyData.eqvAll; rfl
  | x :: r, h => by
    unfold pureAll at h
    rw [Bool.and_eq_true] at h
    unfold PyData.eqvAll
    rw [eqv_pure x h.1, eqv_pureAll r h.2]
    rfl
end
section
variable {S : Addr → Prop} {H H' : Hp} {d : Addr} {acc : List V}
mutual
/-- data of texts and tuples outlive what happens to a list -/
theorem Dt.butL (e : H d = some (.lst acc)) (b : But d H H') : ∀ {v : V} {x : PyData}, pureD x = true → Dt S H v x → Dt S H' v x
  | _, _, _, .at h => .at h
  | _, _, p, .tup (a := a) s y hl h => .tup s (b _ _ (fun z => by
      rw [z, e] at y
      cases y) y) hl (DtAll.butL e b (by unfold pureD at p; exact p) h)
  | _, _, p, .lst s y hl h => by unfold pureD at p; cases p
  | _, _, p, .dic0 s y => by unfold pureD at p; cases p
  | _, _, p, .dic1 s y h => by unfold pureD at p; cases p
theorem DtAll.butL (e : H d = some (.lst acc)) (b : But d H H') : ∀ {vs : List V} {xs : List PyData}, pureAll xs = true → DtAll S H vs xs → DtAll S H' vs xs
  | _, _, _, .nil => .nil
  | _, _, p, .cons h r => by
    unfold pureAll at p
    rw [Bool.and_eq_true] at p
    exact .cons (Dt.butL e b p.1 h) (DtAll.butL e b p.2 r)
end
theorem Dt.butD (e : Dice H d) (b : But d H H') {v : V} {x : PyData} (p : pureD x = true) (h : Dt S H v x) : Dt S H' v x := by
  obtain ⟨_, _, _, e⟩ := e
  exact h.butL e b p
end
theorem rows_pure {n : Nat} {ds : List PyData} (h : ds.all (rowD (cdOf n)) = true) : pureD (.tuple ds) = true := pure_tup (all_pure (m := 2 * n + 2) fun d hd => row_pure n d (List.all_eq_true.mp h d hd)).1
end OM

namespace OM
open PySem PySem.Spec PyProof.Rows L2
def leS (a b : Str) : Prop := ltCps b.cps.toList a.cps.toList = false
theorem leS_iff {a b : Str} : leS a b ↔ a.cps.toList ≤ b.cps.toList := by
  unfold leS
  rw [ltCps_eq, decide_eq_false_iff_not, List.not_lt]
theorem leS_trans {a b c : Str} (h : leS a b) (k : leS b c) : leS a c := leS_iff.mpr (List.le_trans (leS_iff.mp h) (leS_iff.mp k))
theorem leS_anti {a b : Str} (h : leS a b) (k : leS b a) : a = b := by
  have e := List.le_antisymm (leS_iff.mp h) (leS_iff.mp k)
  cases a with
  | mk x =>
    cases b with
    | mk y =>
      have : x = y := Array.ext' e
      rw [this]
theorem pair_of_rising : ∀ {p : Str} {l : List Str}, risingS p l = true → (p :: l).Pairwise leS
  | p, [], _ => List.pairwise_singleton _ _
  | p, x :: r, h => by
    have h : (!ltCps x.cps.toList p.cps.toList && risingS x r) = true := h
    obtain ⟨h1, h2⟩ := Bool.and_eq_true_iff.mp h
    have ih := pair_of_rising h2
    have hp : leS p x := by
      unfold leS
      simpa using h1
    refine List.pairwise_cons.mpr ⟨fun y hy => ?_, ih⟩
    rcases List.mem_cons.mp hy with rfl | hy
    · exact hp
    · exact leS_trans hp ((List.pairwise_cons.mp ih).1 y hy)
theorem pair_of_sorted {l : List Str} (h : sortedS l = true) : l.Pairwise leS := by
  cases l with
  | nil => exact List.Pairwise.nil
  | cons x r => exact pair_of_rising h
theorem sorted_uniq {xs ys : List Str} (h : sortedS xs = true) (k : sortedS ys = true) (p : xs.Perm ys) : xs = ys :=
  p.eq_of_pairwise (fun _ _ _ _ => leS_anti) (pair_of_sorted h) (pair_of_sorted k)
/-- the names of l, each once, ascending -/
def IsSet (ys l : List Str) : Prop := sortedS ys = true ∧ ys.Perm (firsts [] l)
theorem firsts_perm {l k : List Str} (h : ∀ x, x ∈ l ↔ x ∈ k) : (firsts [] l).Perm (firsts [] k) :=
  (List.perm_ext_iff_of_nodup (nodup_firsts _ List.nodup_nil) (nodup_firsts _ List.nodup_nil)).mpr fun x => by
    rw [mem_firsts, mem_firsts, h x]
theorem IsSet.uniq {xs ys l k : List Str} (h : IsSet xs l) (h2 : IsSet ys k) (e : ∀ x, x ∈ l ↔ x ∈ k) : xs = ys := sorted_uniq h.1 h2.1 ((h.2.trans (firsts_perm e)).trans h2.2.symm)
theorem IsSet.mem {ys l : List Str} (h : IsSet ys l) {x : Str} : x ∈ ys ↔ x ∈ l := by
  rw [h.2.mem_iff, mem_firsts]
  simp
noncomputable def theOne (p : List Str → Prop) : List Str := open Classical in if h : ∃ ys, p ys then Classical.choose h else []
/-- the set of names of l, written down -/
noncomputable def canon (l : List Str) : List Str := theOne fun ys => IsSet ys l
theorem IsSet.canon {ys l : List Str} (h : IsSet ys l) : ys = canon l := by
  unfold OM.canon theOne
  rw [dif_pos ⟨ys, h⟩]
  exact h.uniq (Classical.choose_spec (⟨ys, h⟩ : ∃ ys, IsSet ys l)) fun _ => Iff.rfl
theorem canon_congr {l k : List Str} (h : ∀ x, x ∈ l ↔ x ∈ k) : canon l = canon k :=
  congrArg theOne (funext fun ys => propext ⟨fun z => ⟨z.1, z.2.trans (firsts_perm h)⟩, fun z => ⟨z.1, z.2.trans (firsts_perm h).symm⟩⟩)
end OM

namespace OM
open PySem PySem.Spec PyProof.Rows L2
def rTupO (K : PySem.W.Frag) : List V → Hp → VK → Prop := fun xs H Q => ∃ p ys, xs = [.ref p] ∧ ((SqL K H p ys ∧ ∀ l, H l = none → Q (.ref l) (upd H l (.tup ys))) ∨ (SqT K H p ys ∧ Q (.ref p) H))
def strT (l : List Str) : PyData := .tuple (l.map PyData.str)
theorem dt_strL {S : Addr → Prop} {H : Hp} : ∀ {xs : List V} {l : List Str}, DtAll S H xs (l.map PyData.str) → xs = l.map V.str
  | [], [], _ => rfl
  | x :: xs, a :: l, h => by
    cases h with
    | cons h r =>
      rw [dt_strL r]
      cases h with
      | «at» a => cases a <;> rfl
theorem dt_str1 {S : Addr → Prop} {H : Hp} {v : V} {x : Str} (h : Dt S H v (.str x)) : v = .str x := by
  cases h with
  | «at» a => cases a <;> rfl
theorem dt_ofStrs {S : Addr → Prop} {H : Hp} : ∀ l : List Str, DtAll S H (l.map V.str) (l.map PyData.str)
  | [] => .nil
  | x :: l => .cons (.at (.str x)) (dt_ofStrs l)
theorem isS {d : PyData} (h : isNameD d = true) : ∃ x, d = .str x := by
  cases d with
  | str x => exact ⟨x, rfl⟩
  | _ => cases h
end OM

namespace OM
open PySem PySem.Spec PyProof.Rows L2
section
variable {X : Cx} {k : Nat} {C f : Addr} {fd : FuncData} {sp : Sp}
/-- a + b of two objects of an own class -/
theorem op_addI (hs : PySem.W.findIn X.K (.ref C) "__add__" = some (some (.ref f))) (hf : PySem.W.isFn X.K (.ref f) = true) (hc : PySem.W.selfFirst X.K C = true) (F : FnOk X.prog X.w X.K X.mg X.base CX0 k f fd ["self", "other"] sp) (hr : Room k X.A) (hb : Binds X.K fd ["self", "other"] []) :
    OpR X (binaryOp .Add) (fun x y H Q => ∃ (a b dx dy : Addr) (fs gs : List (Str × V)), x = .ref a ∧ y = .ref b ∧ H a = some (.ins C dx fs) ∧ H b = some (.ins C dy gs) ∧ sp [.ref a, .ref b] H (fun v H' => (∃ r, v = .ref r) ∧ Q v H') E0) := by
  intro pins s σ H x y v u Q I rx ry h
  obtain ⟨a, b, dx, dy, fs, gs, rfl, rfl, ea, eb, q⟩ := h
  obtain rfl : v = Value.ref a := rx
  obtain rfl : u = Value.ref b := ry
  obtain ⟨_, O, _⟩ := ins_get I.hok ea
  obtain ⟨_, O2, _⟩ := ins_get I.hok eb
  obtain ⟨od, J, _⟩ := O.look
  obtain ⟨od2, J2, _⟩ := O2.look
  obtain ⟨m, fr⟩ := I.fr
  refine PySem.W.binop_K fr I.ok.mod.kin J J2.type hc hs hf ?_
  have hbt := hb s [.ref a, .ref b] I.kIn rfl
  refine wpAny_call (codeAny_mono (F.run X.A X.stack s H ⟨[.ref a, .ref b], []⟩ [.ref a, .ref b] [.ref a, .ref b] _ E0 hr I.env0 (by simpa using hbt) (.cons rfl (.cons rfl .nil)) q) fun res z' hq => ?_)
  match res, hq with
  | .ok (.ret w), hq =>
    obtain ⟨v, H', I3, rv, ⟨r, er⟩, q3⟩ := I.after hq
    subst er
    obtain rfl : w = Value.ref r := rv
    exact ⟨.ref r, H', I3, rfl, q3⟩
  | .error er, hq => exact hq.elim
end
end OM

namespace OM
open PySem PySem.Spec PyProof.Rows L2
/-- the written empty tuple: a default -/
def Emp (K : PySem.W.Frag) (a : Addr) : Prop := ∃ (o : Obj) (n : Nat), K.lookup a = some o ∧ o.cls = .type "tuple" ∧ o.data = .seq #[] n
theorem Emp.seq {K : PySem.W.Frag} {a : Addr} {H : Hp} (h : Emp K a) : SqT K H a [] := by
  obtain ⟨o, n, h1, h2, h3⟩ := h
  exact .inr ⟨o, #[], n, h1, h2, h3, by decide, .nil⟩
theorem Emp.ty {K : PySem.W.Frag} {a : Addr} {H : Hp} (h : Emp K a) : TyX K H (.ref a) (.type "tuple") := by
  obtain ⟨o, n, h1, h2, h3⟩ := h
  exact .kTuple h1 h2
def spSet0 (K : PySem.W.Frag) : Sp := fun vs H Q _ => ∃ a : Addr, vs = [.ref a] ∧ Emp K a ∧ ∀ H', Same H H' → Q (.bl true) H'
def spKept0 (K : PySem.W.Frag) : Sp := fun vs H Q _ => ∃ a : Addr, vs = [.ref a] ∧ Emp K a ∧ ∀ H', Same H H' → Q (.bl true) H'
def spSI0 (K : PySem.W.Frag) (C cS : Addr) : Sp := fun vs H Q E => ∃ (S : Addr → Prop) (p dx k0 : Addr) (c : V) (dc : PyData), vs = [.ref p, c, .ref k0] ∧ H p = some (.ins C dx []) ∧ Dt S H c dc ∧ Emp K k0 ∧ smlD dc = true ∧ (codeD 3 dc = true → (flatN 3 (itemsD dc)).length ≤ 400) ∧
  (okD dc (.tuple []) = true → ∀ H', But p H H' → H' p = some (.ins C dx [("_code", c), ("_keeps", .ref k0)]) → Q .non H') ∧ (okD dc (.tuple []) = false → OutN E cS H)
section
variable {P : Program} {w : World} {K : PySem.W.Frag} {mg : Str → Option Value} {base : Heap} {f fI fS : Addr} {fd dI dS : FuncData}
theorem ok_isset0 (F : Fun K "is_set" "is_set" sIsSet f fd) (T : TxtN K mg) (TF : TxtF K w mg) (gI : mg "is_name" = some (.ref fI)) (FI : Fun K "is_name" "is_name" sIsName fI dI) (bI : Binds K dI ["value"] []) : FnOk P w K mg base CX0 2 f fd ["value"] (spSet0 K) := by
  have GI : FnOk P w K mg base CX0 1 fI dI ["value"] spName := ok_isname FI T
  refine F.ok scSet (fun vs H Q E h => ?_) (fun cdv A outer s H vs Q E hr h => ?_)
  · obtain ⟨a, rfl, _⟩ := h
    rfl
  · obtain ⟨a, rfl, ea, q⟩ := h
    refine ⟨_, pss_one (ps_ret (pe_and (pe_callB call_isi (by rfl) T.isi (by decide +kernel) (pa_cons (pv 0) (pa_cons (pe_bltn (v := .ty "tuple") (u := .type "tuple") (by rfl) TF.tup (by decide +kernel) rfl) pa_nil)))
      (pe_and (pe_callB (cr_all rfl) (by rfl) T.all (by decide +kernel) (pa_cons (pe_lc (own := [("name", 1)]) rfl scSet.nd (pi_tup (pv 0)) (blkOk_by (N := ["value", "name", "after"]) (sc := defScope sIsSet) (by decide +kernel))
            (fun _ _ _ _ _ => pg_name (i := 1) scSet.nd rfl (Or.inl rfl)) (fun _ _ _ _ _ => pts_nil) (fun _ _ _ _ _ => pe_call GI hr (by rfl) gI FI.kp bI .nil pass0 (pa_cons (pv 1) pa_nil))) pa_nil))
      (pe_one (pe_callB (cr_all rfl) (by rfl) T.all (by decide +kernel) (pa_cons (pe_lc (g := gTup K 2 (gCons (gName 1) (gCons (gName 2) gNil))) (own := [("name", 1), ("after", 2)]) rfl scSet.nd (RZ.pi_zipA (by rfl) TF.zip (pa_cons (pv 0) (pa_cons (pe_slice sl_tupA (pv 0) (po_some pe_int) po_none) pa_nil))) (blkOk_by (N := ["value", "name", "after"]) (sc := defScope sIsSet) (by decide +kernel))
            (fun _ _ _ _ _ => pg_tup rfl (pgs_cons (pg_name (i := 1) scSet.nd rfl (Or.inl rfl)) (pgs_cons (pg_name (i := 2) scSet.nd rfl (Or.inl rfl)) pgs_nil))) (fun _ _ _ _ _ => pts_nil) (fun _ _ _ _ _ => pe_cmpR op_lt_str (pv 1) (pv 2) (nomark _))) pa_nil)))))), ?_⟩
    refine isi_te (x := .ref a) rfl ea.ty (kit_tup (.tuple [])) ⟨_, rfl, iteT ?_⟩
    refine ⟨_, rfl, a, rfl, ⟨[], ea.seq⟩, fun Dl hD => lc_tup (PvM H Dl []) (PvM.zero hD) (fun i H' _ p => ea.seq) (fun i x H3 hi p => by simp at hi) (fun H5 p => ?_)⟩
    refine ⟨Dl, [], rfl, SqL.of p.2, _, rfl, iteT ?_⟩
    refine ⟨_, rfl, _, rfl, 1, rfl, a, [], rfl, ea.seq, fun hw => ?_, fun hn => absurd (And.intro rfl rfl) hn⟩
    refine ⟨a, a, [], [], rfl, .inr ⟨ea.seq, ea.seq, fun D2 hD2 => lc_zipS (Nat.le_refl _) (PvM H5 D2 []) (PvM.zero hD2) (fun i H' p => ⟨ea.seq, ea.seq⟩) (fun i x y T H3 hi _ _ _ => by simp at hi) (fun H6 p6 => ?_)⟩⟩
    exact ⟨D2, [], rfl, SqL.of p6.2, q _ (p.1.trans p6.1)⟩
theorem ok_kept0 (F : Fun K "is_kept" "is_kept" sKept f fd) (T : TxtN K mg) (TF : TxtF K w mg) (gI : mg "is_name" = some (.ref fI)) (FI : Fun K "is_name" "is_name" sIsName fI dI) (bI : Binds K dI ["value"] []) (gS : mg "is_set" = some (.ref fS)) (FS : Fun K "is_set" "is_set" sIsSet fS dS) (bS : Binds K dS ["value"] []) (gM : ∃ t, mg "MAX_KEPT" = some (.int 4 t)) :
    FnOk P w K mg base CX0 3 f fd ["value"] (spKept0 K) := by
  have GS : FnOk P w K mg base CX0 2 fS dS ["value"] (spSet0 K) := ok_isset0 FS T TF gI FI bI
  obtain ⟨t, g4⟩ := gM
  refine F.ok scKp (fun vs H Q E h => ?_) (fun cdv A outer s H vs Q E hr h => ?_)
  · obtain ⟨a, rfl, _⟩ := h
    rfl
  · obtain ⟨a, rfl, ea, q⟩ := h
    refine ⟨_, pss_one (ps_ret (pe_and (pe_call GS hr (by rfl) gS FS.kp bS .nil pass0 (pa_cons (pv 0) pa_nil)) (pe_one (pe_cmpR op_le (pe_callB call_len_seq (by rfl) T.len PySem.boot_len (pa_cons (pv 0) pa_nil)) (pe_glob (v := .int 4) (by rfl) g4 ⟨t, rfl⟩) (nomark _))))), ?_⟩
    exact ⟨_, rfl, a, rfl, ea, fun H1 s1 => ⟨_, rfl, iteT ⟨_, rfl, a, [], rfl, .inr ea.seq, _, _, rfl, rfl, q _ s1⟩⟩⟩
end
section
variable {P : Program} {w : World} {K : PySem.W.Frag} {mg : Str → Option Value} {base : Heap} {f : Addr} {fd : FuncData}
theorem ok_sinit0 {dvs : List V} {C cS fI fIC fB fKp : Addr} {dI dIC dB dKp : FuncData} (F : FunD K "__init__" "Stretch.__init__" (defArgs sSI) (defBody sSI) (defScope sSI) dvs [] f fd) (T : StrT K mg C) (kS : KCls K cS fI "ValueError" []) (gcS : mg "InvalidStretch" = some (.ref cS))
    (GI : FnOk P w K mg base CX0 1 fI dI ["self", "why"] (spI0 K "ValueError")) (bI : Binds K dI ["self", "why"] []) (gIC : mg "is_code" = some (.ref fIC)) (kIC : PySem.W.keepIn K (.ref fIC) = true) (bIC : Binds K dIC ["value"] []) (GIC : FnOk P w K mg base CX0 14 fIC dIC ["value"] spIsCode)
    (gB : mg "is_bounded" = some (.ref fB)) (kB : PySem.W.keepIn K (.ref fB) = true) (bB : Binds K dB ["code"] []) (GB : FnOk P w K mg base CX0 10 fB dB ["code"] spBnd) (gKp : mg "is_kept" = some (.ref fKp)) (kKp : PySem.W.keepIn K (.ref fKp) = true) (bKp : Binds K dKp ["value"] []) (GKp : FnOk P w K mg base CX0 3 fKp dKp ["value"] (spKept0 K)) :
    FnOk P w K mg base (L2.CX P w) 15 f fd ["self", "code", "keeps"] (spSI0 K C cS) := by
  refine F.ok scSI (fun vs H Q E h => ?_) (fun cdv A outer s H vs Q E hr h => ?_)
  · obtain ⟨S, p, dx, k0, c, dc, rfl, _⟩ := h
    rfl
  · obtain ⟨S, p, dx, k0, c, dc, rfl, hp, hc, hk, sc, size, q, e⟩ := h
    refine ⟨_, pss_cons (ps_if (pt_not (pt_val (pe_call GIC hr (by rfl) gIC kIC bIC .nil pass0 (pa_cons (pv 1) pa_nil)))) (pss_one (ps_raise rfl (takes_of rfl rfl rfl rfl) (pmk_B (Classical.choose_spec kS.made).1 GI (hr.mono (by decide)) (by rfl) gcS bI .nil pass0 (pa_cons pe_str pa_nil)))) pss_nil)
      (pss_cons (ps_if (pt_not (pt_val (pe_call GB (hr.mono (by decide)) (by rfl) gB kB bB .nil pass0 (pa_cons (pv 1) pa_nil)))) (pss_one (ps_raise rfl (takes_of rfl rfl rfl rfl) (pmk_B (Classical.choose_spec kS.made).1 GI (hr.mono (by decide)) (by rfl) gcS bI .nil pass0 (pa_cons pe_str pa_nil)))) pss_nil)
      (pss_cons (ps_if (pt_not (pt_val (pe_call GKp (hr.mono (by decide)) (by rfl) gKp kKp bKp .nil pass0 (pa_cons (pv 2) pa_nil)))) (pss_one (ps_raise rfl (takes_of rfl rfl rfl rfl) (pmk_B (Classical.choose_spec kS.made).1 GI (hr.mono (by decide)) (by rfl) gcS bI .nil pass0 (pa_cons pe_str pa_nil)))) pss_nil)
      (pss_cons (ps_fld (pv 0) (pv 1) rfl) (pss_one (ps_fld (pv 0) (pv 2) rfl))))), ?_⟩
    have out : ∀ {H1 : Hp}, Same H H1 → okD dc (.tuple []) = false → OutN E cS H1 := fun s1 z H' s' => e z H' (s1.trans s')
    refine ⟨_, rfl, S, c, dc, rfl, hc, sc, fun H1 s1 => ⟨_, rfl, ?_⟩⟩
    cases h1 : codeD 3 dc with
    | false =>
      have z : okD dc (.tuple []) = false := by
        unfold okD
        rw [h1, Bool.false_and]
      exact iteT (mk0 kS (out s1 z))
    | true =>
      refine iteF ?_
      obtain ⟨ds, rfl, rows⟩ := code_tup h1
      refine ⟨_, rfl, S, c, ds, rfl, hc.mv (fun _ z => z) (fun b o _ z => s1 b o z), rows, size h1, fun H2 s2 => ⟨_, rfl, ?_⟩⟩
      have s12 := s1.trans s2
      cases h2 : bndD ds with
      | false =>
        have z : okD (.tuple ds) (.tuple []) = false := by
          unfold okD itemsD
          rw [h2, Bool.false_and, Bool.and_false]
        exact iteT (mk0 kS (out s12 z))
      | true =>
        refine iteF ⟨_, rfl, k0, rfl, hk, fun H3 s3 => ⟨_, rfl, ?_⟩⟩
        have s13 := s12.trans s3
        have h3 : keptD (.tuple []) = true := by decide +kernel
        have z : okD (.tuple ds) (.tuple []) = true := by
          unfold okD itemsD
          rw [h1, h2, h3]
          rfl
        refine iteF ⟨_, rfl, _, rfl, p, C, dx, [], rfl, s13 _ _ hp, T.cl, T.nc, (by show 0 < 1000; decide), _, rfl, _, rfl, p, C, dx, _, rfl, upd_same, T.cl, T.nk, (by show 1 < 1000; decide), ?_⟩
        refine q z _ (fun b o hb eb => ?_) upd_same
        rw [upd_ne hb, upd_ne hb]
        exact s13 b o eb
end
end OM

namespace OM
open PySem PySem.Spec PyProof.Rows L2
abbrev sStretchOf : Stmt := top 49
abbrev sCodeP : Stmt := inStK 48 1
abbrev sAddM : Stmt := inStK 48 11
/-- what the class Stretch must have -/
structure StrC (K : PySem.W.Frag) (mg : Str → Option Value) (C fS aS : Addr) (dS : FuncData) : Prop where
  T : StrT K mg C
  MS : Mk K C fS
  gSt : mg "Stretch" = some (.ref C)
  bS1 : ∃ ds, Vals [V.ref aS] ds ∧ Binds K dS ["self", "code", "keeps"] ds
  emp : Emp K aS
  ha : PySem.W.findIn K (.ref C) "__class__" = some (some (.builtin "object.__class__"))
  hn : PySem.W.specialIn K (.builtin "object.__class__") "__get__" = some (some (.builtin "getset_descriptor.__get__"))
  htk : PySem.W.takesIn K (.builtin "object.__class__") = some true
  hm : PySem.W.mroIn K C (.type "object") = some true
  kit : PySem.W.kitOne K (.ref C) (.ref C) = some true
def insS (C dx : Addr) (c k : V) : HO := .ins C dx [("_code", c), ("_keeps", k)]
def spOf (C : Addr) : Sp := fun vs H Q _ => ∃ c k : V, vs = [c, k] ∧ ∀ H' x dx, Same H H' → H x = none → H' x = some (insS C dx c k) → Q (.ref x) H'
def spAdd (K : PySem.W.Frag) (C : Addr) : Sp := fun vs H Q _ => ∃ (a b dx dy ca cb : Addr) (ka kb : V) (xs ys : List V), vs = [.ref a, .ref b] ∧ H a = some (insS C dx (.ref ca) ka) ∧ H b = some (insS C dy (.ref cb) kb) ∧ H ca = some (.tup xs) ∧ H cb = some (.tup ys) ∧ xs ≠ [] ∧ ys ≠ [] ∧ xs.length + ys.length ≤ sizeLine ∧
  ∀ H' x dz cz, Same H H' → H x = none → H cz = none → H' x = some (insS C dz (.ref cz) kb) → H' cz = some (.tup (xs ++ ys)) → Q (.ref x) H'
section
variable {P : Program} {w : World} {K : PySem.W.Frag} {mg : Str → Option Value} {base : Heap} {f fS fO C cS aS : Addr} {fd dS dO : FuncData}
theorem scOf : FnScope ["code", "keeps", "made"] ["code", "keeps"] (defScope sStretchOf) := ⟨rfl, rfl, rfl, by decide +kernel, rfl, by decide +kernel, by decide +kernel⟩
theorem ok_of (F : Fun K "stretch_of" "stretch_of" sStretchOf f fd) (R : StrC K mg C fS aS dS) (GS : FnOk P w K mg base (L2.CX P w) 15 fS dS ["self", "code", "keeps"] (spSI0 K C cS)) : FnOk P w K mg base CX0 17 f fd ["code", "keeps"] (spOf C) := by
  obtain ⟨dsv, hv, bS⟩ := R.bS1
  refine F.ok scOf (fun vs H Q E h => ?_) (fun cdv A outer s H vs Q E hr h => ?_)
  · obtain ⟨c, k, rfl, _⟩ := h
    rfl
  · obtain ⟨c, k, rfl, q⟩ := h
    refine ⟨_, pss_cons (ps_set (i := 2) scOf.nd rfl (Or.inl rfl) (pe_make R.MS GS hr (by rfl) R.gSt bS hv (passes_call L2.takes0 (fun _ _ _ _ h => h)) (pa_cons (pe_tup pa_nil) pa_nil)))
      (pss_cons (ps_fld (pv 2) (pv 0) rfl) (pss_cons (ps_fld (pv 2) (pv 1) rfl) (pss_one (ps_ret (pv 2))))), ?_⟩
    refine ⟨(by show 0 ≤ sizeLine; decide), fun pt hpt x dx hx hdx ne => ?_⟩
    have s1 := same_upd (o := .tup []) hpt
    have ndx : upd (upd H pt (.tup [])) dx (.own x) x = none := by
      rw [upd_ne (fun z => ne z.symm)]
      exact hx
    have s2 := (same_upd (o := .own x) hdx).trans (same_upd (o := .ins C dx []) ndx)
    refine ⟨fun _ => True, x, dx, aS, .ref pt, .tuple [], rfl, upd_same, .tup trivial (s2 _ _ upd_same) (by decide) .nil, R.emp, by decide +kernel, fun _ => by decide +kernel, fun _ H2 b2 e2 => ⟨rfl, ?_⟩, fun z => absurd z (by decide +kernel)⟩
    refine ⟨_, rfl, _, rfl, x, C, dx, _, rfl, e2, R.T.cl, R.T.nc, (by show 2 < 1000; decide), _, rfl, _, rfl, x, C, dx, _, rfl, upd_same, R.T.cl, R.T.nk, (by show 2 < 1000; decide), _, rfl, ?_⟩
    refine q _ x dx (fun b o eo => ?_) (s1.free hx) upd_same
    have nb : b ≠ x := ne_of_none eo (s1.free hx)
    rw [upd_ne nb, upd_ne nb]
    exact b2 b o nb (s2 _ _ (s1 _ _ eo))
theorem scAd : FnScope ["self", "other"] ["self", "other"] (defScope sAddM) := ⟨rfl, rfl, rfl, by decide +kernel, rfl, by decide +kernel, by decide +kernel⟩
theorem ok_add (F : Fun K "__add__" "Stretch.__add__" sAddM f fd) (R : StrC K mg C fS aS dS) (isi : mg "isinstance" = none) (gO : mg "stretch_of" = some (.ref fO)) (kO : PySem.W.keepIn K (.ref fO) = true) (bO : Binds K dO ["code", "keeps"] []) (GO : FnOk P w K mg base CX0 17 fO dO ["code", "keeps"] (spOf C)) :
    FnOk P w K mg base CX0 18 f fd ["self", "other"] (spAdd K C) := by
  refine F.ok scAd (fun vs H Q E h => ?_) (fun cdv A outer s H vs Q E hr h => ?_)
  · obtain ⟨a, b, dx, dy, ca, cb, ka, kb, xs, ys, rfl, _⟩ := h
    rfl
  · obtain ⟨a, b, dx, dy, ca, cb, ka, kb, xs, ys, rfl, ea, eb, eca, ecb, nx, ny, sz, q⟩ := h
    refine ⟨_, pss_cons (ps_if (pt_not (pt_val (pe_callB call_isi (by rfl) isi (by decide +kernel) (pa_cons (pv 1) (pa_cons (pe_glob (v := .ref C) (by rfl) R.gSt rfl) pa_nil))))) pss_never pss_nil)
      (pss_one (ps_ret (pe_call GO hr (by rfl) gO kO bO .nil pass0 (pa_cons (pe_op op_catA (pe_fld (pv 0) rfl) (pe_fld (pv 1) rfl)) (pa_cons (pe_fld (pv 1) rfl) pa_nil))))), ?_⟩
    refine ⟨_, rfl, .ref b, .ref C, .ref C, .ref C, true, rfl, .own C, .base (.ins eb R.T.cl R.ha R.hn R.htk R.hm), R.kit, _, rfl, iteF ?_⟩
    refine ⟨_, rfl, a, C, dx, _, _, rfl, ea, R.T.cl, R.T.nc, rfl, _, rfl, b, C, dy, _, _, rfl, eb, R.T.cl, R.T.nc, rfl, ca, cb, xs, ys, rfl, rfl, SqT.of eca, SqT.of ecb, sz, fun e => absurd e nx, fun _ e => absurd e ny, fun _ _ p hp => ?_⟩
    have sp := same_upd (o := .tup (xs ++ ys)) hp
    refine ⟨_, rfl, b, C, dy, _, _, rfl, sp _ _ eb, R.T.cl, R.T.nk, rfl, .ref p, kb, rfl, fun H' x dz s' nx' e' => ?_⟩
    exact q H' x dz p (sp.trans s') (sp.free nx') hp e' (s' _ _ upd_same)
end
end OM

namespace OM
open PySem PySem.Spec PyProof.Rows L2
section
variable {X : Cx} {k : Nat} {C f : Addr} {fd : FuncData} {sp : Sp}
/-- an own method of a class, as the rules ask for it -/
structure Own (X : Cx) (C f : Addr) (fd : FuncData) (name : Str) (k : Nat) (ps : List Str) (sp : Sp) : Prop where
  hs : PySem.W.findIn X.K (.ref C) name = some (some (.ref f))
  hf : PySem.W.isFn X.K (.ref f) = true
  F : FnOk X.prog X.w X.K X.mg X.base CX0 k f fd ps sp
  hb : Binds X.K fd ps []
theorem bind_at {X : Cx} {fd : FuncData} {ps : List Str} (hb : Binds X.K fd ps []) {pins : List (Addr × Obj)} {σ : L2.St} {H : Hp} {s : Shared} (I : Inv X pins σ H s) (us : List Value) (hl : us.length = ps.length) : BindsTo s fd ⟨us, []⟩ (ps.zip us) := by
  have q := hb s us I.kIn (by rw [List.append_nil]; exact hl)
  rw [List.append_nil] at q
  exact q
/-- len(x), by an own __len__ -/
theorem len_own {p : Str} (O : Own X C f fd "__len__" k [p] sp) (hr : Room (k + 1) X.A) :
    CallR X (.builtin "len") (fun xs H Q => ∃ (a dx : Addr) (fs : List (Str × V)), xs = [.ref a] ∧ H a = some (.ins C dx fs) ∧ sp [.ref a] H (fun v H' => ∃ n : Nat, v = .int n ∧ n < 1000 ∧ Q v H') E0) := by
  intro pins s σ H xs us Q I r h
  obtain ⟨a, dx, fs, rfl, ea, q⟩ := h
  obtain ⟨u, rfl, ru⟩ := vals1 r
  obtain rfl : u = Value.ref a := ru
  obtain ⟨_, Ob, _⟩ := ins_get I.hok ea
  obtain ⟨od, J, _⟩ := Ob.look
  obtain ⟨m, fr⟩ := I.fr
  refine PySem.W.len_K fr I.ok.mod.kin J O.hs O.hf ?_
  refine wpAny_call (codeAny_mono (O.F.run X.A.in1 X.stack s H ⟨[.ref a], []⟩ [.ref a] [.ref a] _ E0 hr.in1 I.env0.in1 (bind_at O.hb I _ rfl) (.cons rfl .nil) q) fun res z' hq => ?_)
  match res, hq with
  | .ok (.ret w), hq =>
    obtain ⟨v, H', I3, rv, ⟨n, er, hn, q3⟩⟩ := I.after hq
    subst er
    obtain ⟨t, rfl⟩ : ∃ t, w = Value.int (n : Int) t := rv
    have h2 : ((1000 : Nat) : Int) < 2 ^ 63 := by decide
    exact ⟨⟨by omega, by omega⟩, .int n, H', I3.tok _, ⟨_, rfl⟩, q3⟩
  | .error er, hq => exact hq.elim
/-- str(x), by an own __str__ -/
theorem str_own {p : Str} (O : Own X C f fd "__str__" k [p] sp) (hr : Room (k + 2) X.A) :
    CallR X (.type "str") (fun xs H Q => ∃ (a dx : Addr) (fs : List (Str × V)), xs = [.ref a] ∧ H a = some (.ins C dx fs) ∧ sp [.ref a] H (fun v H' => ∃ z : Str, v = .str z ∧ Q v H') E0) := by
  intro pins s σ H xs us Q I r h
  obtain ⟨a, dx, fs, rfl, ea, q⟩ := h
  obtain ⟨u, rfl, ru⟩ := vals1 r
  obtain rfl : u = Value.ref a := ru
  obtain ⟨_, Ob, _⟩ := ins_get I.hok ea
  obtain ⟨od, J, _⟩ := Ob.look
  have hu : X.A.in1.in1.units < cLine := by
    have := hr.un
    show X.A.units + 1 + 1 < _
    omega
  refine PySem.W.kso_call hu I.kIn J O.hs O.hf ?_
  refine wpAny_call (codeAny_mono (O.F.run X.A.in1.in1 X.stack s H ⟨[.ref a], []⟩ [.ref a] [.ref a] _ E0 hr.in1.in1 I.env0.in1.in1 (bind_at O.hb I _ rfl) (.cons rfl .nil) q) fun res z' hq => ?_)
  match res, hq with
  | .ok (.ret w), hq =>
    obtain ⟨v, H', I3, rv, ⟨z, er, q3⟩⟩ := I.after hq
    subst er
    obtain ⟨t, rfl⟩ : ∃ t, w = Value.str z t := rv
    exact ⟨.str z, H', I3, ⟨_, rfl⟩, q3⟩
  | .error er, hq => exact hq.elim
/-- x[i], by an own __getitem__ -/
theorem pe_ixOwn {e i : Expr} {pos : Pos} {te ti : TE} (O : Own X C f fd "__getitem__" k ["self", "at"] sp) (hfn : PySem.W.fnIn X.K f = true) (hr : Room (k + 1) X.A) (he : PE X e te) (hi : PE X i ti)
    (hsl : ∀ (a : Addr) (u : Value), subscripted i true (.ref a) u = runValue (.builtin "lifetime.subscript" ⟨[.ref a, u], []⟩) := by intro _ _; with_unfolding_all rfl) :
    PE X (.Subscript e i pos) (tOp (fun x y H Q => ∃ (a dx : Addr) (fs : List (Str × V)), x = .ref a ∧ H a = some (.ins C dx fs) ∧ sp [.ref a, y] H Q E0) te ti) := by
  refine ⟨fun pins s σ H Q I h => ?_⟩
  refine Subscript_ (binT he hi I h fun v u s2 x y H2 I2 rx ry q => ?_)
  obtain ⟨a, dx, fs, rfl, ea, q⟩ := q
  obtain rfl : v = Value.ref a := rx
  obtain ⟨_, Ob, _⟩ := ins_get I2.hok ea
  obtain ⟨od, J, _⟩ := Ob.look
  obtain ⟨m, fr⟩ := I2.fr
  refine PySem.W.sub_K fr I2.ok.mod.kin J O.hs hfn O.hf ?_ (hsl _ _)
  refine wpAny_call (codeAny_mono (O.F.run X.A.in1 X.stack s2 H2 ⟨[.ref a, u], []⟩ [.ref a, u] [.ref a, y] _ E0 hr.in1 I2.env0.in1 (bind_at O.hb I2 _ rfl) (.cons rfl (.cons ry .nil)) q) fun res z' hq => ?_)
  match res, hq with
  | .ok (.ret w), hq => exact I2.after hq
  | .error er, hq => exact hq.elim
/-- y in x, by an own __contains__ that answers a truth -/
theorem in_own {p : Str} (O : Own X C f fd "__contains__" k ["self", p] sp) (hr : Room k X.A) :
    OpR X (compareOp .In) (fun y x H Q => ∃ (a dx : Addr) (fs : List (Str × V)), x = .ref a ∧ H a = some (.ins C dx fs) ∧ sp [.ref a, y] H (fun v H' => ∃ b, v = .bl b ∧ Q v H') E0) := by
  intro pins s σ H y x u v Q I ry rx h
  obtain ⟨a, dx, fs, rfl, ea, q⟩ := h
  obtain rfl : v = Value.ref a := rx
  obtain ⟨_, Ob, _⟩ := ins_get I.hok ea
  obtain ⟨od, J, _⟩ := Ob.look
  obtain ⟨m, fr⟩ := I.fr
  refine PySem.W.in_K fr I.ok.mod.kin J O.hs O.hf ?_
  refine wpAny_call (codeAny_mono (O.F.run X.A X.stack s H ⟨[.ref a, u], []⟩ [.ref a, u] [.ref a, y] _ E0 hr I.env0 (bind_at O.hb I _ rfl) (.cons rfl (.cons ry .nil)) q) fun res z' hq => ?_)
  match res, hq with
  | .ok (.ret w), hq =>
    obtain ⟨r, H', I3, rv, ⟨b, er, q3⟩⟩ := I.after hq
    subst er
    obtain rfl : w = Value.bool b := rv
    exact wpAny_truthy_bool ⟨.bl b, H', I3, rfl, q3⟩
  | .error er, hq => exact hq.elim
/-- what an own == asks: the left one an instance, the right one anything that comes later -/
def rEqOwn (K : PySem.W.Frag) (C : Addr) (sp : Sp) (g : Bool → Bool) : V → V → Hp → VK → Prop := fun x y H Q => ∃ (a dx : Addr) (fs : List (Str × V)) (t : Value), x = .ref a ∧ H a = some (.ins C dx fs) ∧ TyX K H y t ∧ PySem.W.notFirst K C t = true ∧
  sp [.ref a, y] H (fun v H' => ∃ b, v = .bl b ∧ Q (.bl (g b)) H') E0
theorem eq_own (O : Own X C f fd "__eq__" k ["self", "other"] sp) (hr : Room k X.A) : OpR X (compareOp .Eq) (rEqOwn X.K C sp id) := by
  intro pins s σ H x y v u Q I rx ry h
  obtain ⟨a, dx, fs, t, rfl, ea, ty, nf, q⟩ := h
  obtain rfl : v = Value.ref a := rx
  obtain ⟨_, Ob, _⟩ := ins_get I.hok ea
  obtain ⟨od, J, _⟩ := Ob.look
  obtain ⟨m, fr⟩ := I.fr
  obtain ⟨P, Z, p, hx⟩ := kit_of I ry ty
  have hu : X.A.units < cLine := by
    have := hr.un
    omega
  unfold compareOp
  refine PySem.W.cmp_K (op := .Eq) hu fr I.ok.mod.kin J (Z.ty _ _ I.kIn p) nf O.hs O.hf ?_
  refine wpAny_call (codeAny_mono (O.F.run X.A X.stack s H ⟨[.ref a, u], []⟩ [.ref a, u] [.ref a, y] _ E0 hr I.env0 (bind_at O.hb I _ rfl) (.cons rfl (.cons ry .nil)) q) fun res z' hq => ?_)
  match res, hq with
  | .ok (.ret w), hq =>
    obtain ⟨r, H', I3, rv, ⟨b, er, q3⟩⟩ := I.after hq
    subst er
    obtain rfl : w = Value.bool b := rv
    exact ⟨.bl b, H', I3, rfl, q3⟩
  | .error er, hq => exact hq.elim
end
end OM

namespace OM
open PySem PySem.Spec PyProof.Rows L2
section
variable {prog : Program} {w : World} {A : Around} {E : Value → Shared → Prop} {s : Shared} {K : PySem.W.Frag} {x C f : Addr} {ox : Obj} {od : Option Obj} {b tb : Value}
open PySem.W in
/-- object.__ne__ by an own __eq__ -/
theorem objNe_K {Q : Fin → Shared → Prop} (hu : A.units < cLine) (X : K.In s.heap) (I : InstAt s.heap x ox C od) (hs : findIn K (.ref C) "__eq__" = some (some (.ref f))) (hf : isFn K (.ref f) = true)
    (h : wpAny (model prog w) A (call (.ref f) [.ref x, b]) (fun v s' => ∃ r, v = .bool r ∧ Q (.done (.ret (.bool (!r)))) s') E s) : wpAny (model prog w) A (Builtin.«object.__ne__» ⟨[.ref x, b], []⟩) Q E s := by
  unfold Builtin.«object.__ne__»
  repeat (first
    | with_reducible refine wpAny_cRoomFor hu ?_
    | (refine wpAny_bind (m := callSpecialIfBound? (.ref x) (Str.ofString "__eq__") [b])
        (ifBound_K X I hs hf (wpAny_mono h (fun r s' hr => by
          obtain ⟨b, rfl, hq⟩ := hr
          repeat (first | exact hq | exact wpAny_pure hq | exact wpAny_truthy_bool hq | (refine wpAny_bind (m := truthy (.bool _)) (wpAny_truthy_bool ?_)) | wp_step)) fun _ _ e => e)))
    | wp_step)
open PySem.W in
theorem boundNe_K {Q : Option Value → Shared → Prop} (hu : A.units + 1 < cLine) (X : K.In s.heap) (I : InstAt s.heap x ox C od) (hne : findIn K (.ref C) "__ne__" = some (some (.builtin "object.__ne__"))) (hin : mroIn K C (.type "object") = some true)
    (hs : findIn K (.ref C) "__eq__" = some (some (.ref f))) (hf : isFn K (.ref f) = true)
    (h : wpAny (model prog w) A.in1 (call (.ref f) [.ref x, b]) (fun v s' => ∃ r, v = .bool r ∧ Q (some (.bool (!r))) s') E s) : wpAny (model prog w) A (callSpecialIfBound? (.ref x) "__ne__" [b]) Q E s := by
  have hcall : wpAny (model prog w) A (call (.builtin "object.__ne__") (.ref x :: [b])) (fun v => Q (some v)) E s := by
    refine wpAny_call (codeAny_call_builtin F.cmp_object.ne.plain F.cmpEntry_ne (check_slot F.cmpKind_ne F.cmpSplit_ne ?_ (F.cmpArgs_ne _ _) (objNe_K (A := A.in1) hu X I hs hf (wpAny_mono h (fun v s' hv => ?_) fun _ _ e => e))))
    · exact I.type.andThen (looks_mroIn X hin)
    · obtain ⟨r, rfl, hq⟩ := hv
      exact ⟨r, rfl, hq⟩
  simp only [callSpecialIfBound?, bindSpecialIfBound?]
  refine wpAny_holding (wpAny_bind (wpAny_bind (wpAny_bind (I.type.here ((looks_findIn X hne).here ?_)))))
  simp only [F.cmp_object.ne.bind]
  refine wpAny_bind (wpAny_askSetting (wpAny_ite ?_))
  have fin : wpAny (model prog w) A (call (.builtin "object.__ne__") ([.ref x] ++ [b]) >>= fun v => pure (some v)) Q E s := wpAny_bind (wpAny_mono hcall (fun v s' h' => wpAny_pure h') fun _ _ h' => h')
  split
  · exact wpAny_bind (wpAny_pure (wpAny_pure fin))
  · exact wpAny_tryCatch (wpAny_bind (wpAny_pure (wpAny_pure fin)))
open PySem.W in
theorem ne_K {Q : Value → Shared → Prop} (hu : A.units + 1 < cLine) (X : K.In s.heap) (I : InstAt s.heap x ox C od) (hb : Looks (model prog w) s.heap (typeOf b) tb) (hn : notFirst K C tb = true) (hne : findIn K (.ref C) "__ne__" = some (some (.builtin "object.__ne__"))) (hin : mroIn K C (.type "object") = some true)
    (hs : findIn K (.ref C) "__eq__" = some (some (.ref f))) (hf : isFn K (.ref f) = true)
    (h : wpAny (model prog w) A.in1 (call (.ref f) [.ref x, b]) (fun v s' => ∃ r, v = .bool r ∧ Q (.bool (!r)) s') E s) : wpAny (model prog w) A (richCompare .NotEq (.ref x) b) Q E s := by
  have one : wpAny (model prog w) A (tryCompare (.ref x) "__ne__" b) (fun r s' => ∃ v, r = some v ∧ Q v s') E s := by
    unfold tryCompare
    refine wpAny_bind (boundNe_K hu X I hne hin hs hf (wpAny_mono h (fun v s' hv => ?_) fun _ _ e => e))
    obtain ⟨r, rfl, hq⟩ := hv
    exact ⟨r, rfl, wpAny_pure ⟨_, rfl, hq⟩⟩
  unfold richCompare
  simp only [oneThing_ref]
  refine wpAny_holding (wpAny_bind (wpAny_cRoomFor (Nat.lt_of_succ_lt hu) ?_))
  rw [cmpInfo_NotEq]
  dsimp only
  refine wpAny_bind (I.type.here (wpAny_bind (hb.here ?_)))
  split
  · rename_i q
    have e : subIn K tb (.ref C) = some false := by
      rcases Bool.or_eq_true_iff.mp hn with e | e
      · rw [beq_iff_eq.mp e] at q; simp at q
      · exact beq_iff_eq.mp e
    refine wpAny_bind ((looks_subIn X e).here ?_)
    simp only [Bool.false_eq_true, if_false]
    refine wpAny_bind (wpAny_mono one (fun r s' z => ?_) fun _ _ e => e)
    obtain ⟨v, rfl, hq⟩ := z
    exact wpAny_pure hq
  · refine wpAny_bind (wpAny_pure ?_)
    simp only [Bool.false_eq_true, if_false]
    refine wpAny_bind (wpAny_mono one (fun r s' z => ?_) fun _ _ e => e)
    obtain ⟨v, rfl, hq⟩ := z
    exact wpAny_pure hq
end
section
variable {X : Cx} {k : Nat} {C f : Addr} {fd : FuncData} {sp : Sp}
theorem ne_own (O : Own X C f fd "__eq__" k ["self", "other"] sp) (hne : PySem.W.findIn X.K (.ref C) "__ne__" = some (some (.builtin "object.__ne__"))) (hin : PySem.W.mroIn X.K C (.type "object") = some true) (hr : Room (k + 1) X.A) : OpR X (compareOp .NotEq) (rEqOwn X.K C sp not) := by
  intro pins s σ H x y v u Q I rx ry h
  obtain ⟨a, dx, fs, t, rfl, ea, ty, nf, q⟩ := h
  obtain rfl : v = Value.ref a := rx
  obtain ⟨_, Ob, _⟩ := ins_get I.hok ea
  obtain ⟨od, J, _⟩ := Ob.look
  obtain ⟨P, Z, p, hx⟩ := kit_of I ry ty
  have hu : X.A.units + 1 < cLine := by
    have := hr.un
    omega
  unfold compareOp
  refine ne_K hu I.kIn J (Z.ty _ _ I.kIn p) nf hne hin O.hs O.hf ?_
  refine wpAny_call (codeAny_mono (O.F.run X.A.in1 X.stack s H ⟨[.ref a, u], []⟩ [.ref a, u] [.ref a, y] _ E0 hr.in1 I.env0.in1 (bind_at O.hb I _ rfl) (.cons rfl (.cons ry .nil)) q) fun res z' hq => ?_)
  match res, hq with
  | .ok (.ret w), hq =>
    obtain ⟨r, H', I3, rv, ⟨b, er, q3⟩⟩ := I.after hq
    subst er
    obtain rfl : w = Value.bool b := rv
    exact ⟨b, rfl, .bl (!b), H', I3, rfl, q3⟩
  | .error er, hq => exact hq.elim
end
end OM

namespace OM
open PySem PySem.Spec PyProof.Rows L2
abbrev sCellsP : Stmt := inStK 48 3
abbrev sRegsP : Stmt := inStK 48 4
abbrev sFunsP : Stmt := inStK 48 5
abbrev sTestsP : Stmt := inStK 48 6
abbrev sStraightP : Stmt := inStK 48 7
abbrev sSizeP : Stmt := inStK 48 8
abbrev sKeeping : Stmt := inStK 48 10
abbrev sLenM : Stmt := inStK 48 14
/-- a stretch as it stands -/
def StI (K : PySem.W.Frag) (C : Addr) (H : Hp) (a : Addr) (ds : List PyData) (ks : List Str) : Prop :=
  ∃ (dx kb : Addr) (c : V), H a = some (insS C dx c (.ref kb)) ∧ Dt (fun _ => True) H c (.tuple ds) ∧ SqT K H kb (ks.map V.str) ∧ ds.all (rowD (cdOf 3)) = true ∧ (flatN 3 ds).length ≤ 100 ∧ keptD (strT ks) = true
theorem kept_len {ks : List Str} (h : keptD (strT ks) = true) : ks.length ≤ 4 := by
  have h : (setD (strT ks) && decide ((ks.map PyData.str).length ≤ 4)) = true := h
  rw [Bool.and_eq_true, decide_eq_true_eq, List.length_map] at h
  exact h.2
theorem StI.mv {K : PySem.W.Frag} {C : Addr} {H H' : Hp} {a : Addr} {ds : List PyData} {ks : List Str} (h : StI K C H a ds ks) (s : Same H H') : StI K C H' a ds ks := by
  obtain ⟨dx, kb, c, e, d, k, r, z, l⟩ := h
  exact ⟨dx, kb, c, s _ _ e, d.mv (fun _ z => z) fun b o _ z => s b o z, L2.SqT.ext k s, r, z, l⟩
def rolesS (role : Str) (ds : List PyData) : List Str := (flatN 3 ds).flatMap (namesD role)
def spRole (K : PySem.W.Frag) (C : Addr) (g : List PyData → List Str → List Str) : Sp := fun vs H Q _ => ∃ (a : Addr) (ds : List PyData) (ks : List Str), vs = [.ref a] ∧ StI K C H a ds ks ∧
  ∀ H' v, Same H H' → Dt (fun _ => True) H' v (strT (canon (g ds ks))) → Q v H'
def isIf : PyData → Bool
  | .tuple (.str w :: _) => decide (w = "if")
  | _ => false
def straightD (ds : List PyData) : Bool := ds.all fun d => !isIf d
def spTell (K : PySem.W.Frag) (C : Addr) (g : List PyData → V) : Sp := fun vs H Q _ => ∃ (a : Addr) (ds : List PyData) (ks : List Str), vs = [.ref a] ∧ StI K C H a ds ks ∧ ∀ H', Same H H' → Q (g ds) H'
theorem dt_strT {H : Hp} {p : Addr} {ys : List Str} (e : H p = some (.tup (ys.map V.str))) (hl : ys.length ≤ 1000) : Dt (fun _ => True) H (.ref p) (strT ys) := .tup trivial e (by rw [List.length_map]; exact hl) (dt_ofStrs ys)
theorem roles_few {role : Str} {ds : List PyData} (rows : ds.all (rowD (cdOf 3)) = true) (size : (flatN 3 ds).length ≤ 100) : (rolesS role ds).length ≤ 800 := by
  have l2 : (rolesS role ds).length ≤ 8 * (flatN 3 ds).length := flatMap_few fun e he => by
    obtain ⟨d1, hd1, hm1⟩ := List.mem_flatMap.mp he
    obtain ⟨m1, row1⟩ := rows_flatS (List.all_eq_true.mp rows d1 hd1) e hm1
    exact names_few row1
  omega
section
variable {P : Program} {w : World} {K : PySem.W.Frag} {mg : Str → Option Value} {base : Heap} {f fN C : Addr} {fd dN : FuncData}
theorem scRole {st : Stmt} (h : st = sCellsP ∨ st = sFunsP ∨ st = sTestsP) : FnScope ["self"] ["self"] (defScope st) := by
  rcases h with rfl | rfl | rfl <;> exact ⟨rfl, rfl, rfl, by decide +kernel, rfl, by decide +kernel, by decide +kernel⟩
theorem scRegs : FnScope ["self"] ["self"] (defScope sRegsP) := ⟨rfl, rfl, rfl, by decide +kernel, rfl, by decide +kernel, by decide +kernel⟩
section
variable (T : StrT K mg C) (gN : mg "names_in" = some (.ref fN)) (kN : PySem.W.keepIn K (.ref fN) = true) (bN : Binds K dN ["code", "role"] []) (GN : FnOk P w K mg base CX0 6 fN dN ["code", "role"] spNamesIn)
include T gN kN bN GN
theorem ok_cellsP (F : Fun K "cells" "Stretch.cells" sCellsP f fd) : FnOk P w K mg base CX0 7 f fd ["self"] (spRole K C fun ds _ => rolesS "cell" ds) := by
  refine F.ok (scRole (.inl rfl)) (fun vs H Q E h => ?_) (fun cdv A outer s H vs Q E hr h => ?_)
  · obtain ⟨a, ds, ks, rfl, _⟩ := h
    rfl
  · obtain ⟨a, ds, ks, rfl, ⟨dx, kb, c, ea, hd, hk, rows, size, lk⟩, q⟩ := h
    refine ⟨_, pss_one (ps_ret (pe_call GN hr (by rfl) gN kN bN .nil pass0 (pa_cons (pe_fld (pv 0) rfl) (pa_cons pe_str pa_nil)))), ?_⟩
    refine ⟨_, rfl, a, C, dx, _, c, rfl, ea, T.cl, T.nc, rfl, _, c, ds, "cell", rfl, by decide +kernel, hd, rows, Nat.le_trans size (by decide), fun H1 p ys s1 hp e1 pm so => ?_⟩
    have hy : ys = canon (rolesS "cell" ds) := IsSet.canon ⟨so, pm⟩
    have few := roles_few (role := "cell") rows size
    have l1 := pm.length_eq
    have l2 := len_firsts (rolesS "cell" ds) []
    refine q H1 _ s1 ?_
    rw [← hy]
    refine dt_strT e1 ?_
    have l3 : ys.length = (firsts [] (rolesS "cell" ds)).length := l1
    simp only [List.length_nil] at l2
    omega
theorem ok_funsP (F : Fun K "functions" "Stretch.functions" sFunsP f fd) : FnOk P w K mg base CX0 7 f fd ["self"] (spRole K C fun ds _ => rolesS "function" ds) := by
  refine F.ok (scRole (.inr (.inl rfl))) (fun vs H Q E h => ?_) (fun cdv A outer s H vs Q E hr h => ?_)
  · obtain ⟨a, ds, ks, rfl, _⟩ := h
    rfl
  · obtain ⟨a, ds, ks, rfl, ⟨dx, kb, c, ea, hd, hk, rows, size, lk⟩, q⟩ := h
    refine ⟨_, pss_one (ps_ret (pe_call GN hr (by rfl) gN kN bN .nil pass0 (pa_cons (pe_fld (pv 0) rfl) (pa_cons pe_str pa_nil)))), ?_⟩
    refine ⟨_, rfl, a, C, dx, _, c, rfl, ea, T.cl, T.nc, rfl, _, c, ds, "function", rfl, by decide +kernel, hd, rows, Nat.le_trans size (by decide), fun H1 p ys s1 hp e1 pm so => ?_⟩
    have hy : ys = canon (rolesS "function" ds) := IsSet.canon ⟨so, pm⟩
    have few := roles_few (role := "function") rows size
    have l1 := pm.length_eq
    have l2 := len_firsts (rolesS "function" ds) []
    refine q H1 _ s1 ?_
    rw [← hy]
    refine dt_strT e1 ?_
    have l3 : ys.length = (firsts [] (rolesS "function" ds)).length := l1
    simp only [List.length_nil] at l2
    omega
theorem ok_regsP (TS : TxtS mg) (hs : mg "set" = none) (F : Fun K "registers" "Stretch.registers" sRegsP f fd) : FnOk P w K mg base CX0 7 f fd ["self"] (spRole K C fun ds ks => ks ++ rolesS "register" ds) := by
  refine F.ok scRegs (fun vs H Q E h => ?_) (fun cdv A outer s H vs Q E hr h => ?_)
  · obtain ⟨a, ds, ks, rfl, _⟩ := h
    rfl
  · obtain ⟨a, ds, ks, rfl, ⟨dx, kb, c, ea, hd, hk, rows, size, lk⟩, q⟩ := h
    refine ⟨_, pss_one (ps_ret (pe_callTy call_tuple_of (by rfl) TS.tuple (by decide +kernel) (pa_cons (pe_callB (cr_sortX rfl) (by rfl) TS.sorted (by decide +kernel) (pa_cons (pe_callTy (cr_setX rfl) (by rfl) hs (by decide +kernel)
      (pa_cons (pe_op op_catA (pe_call GN hr (by rfl) gN kN bN .nil pass0 (pa_cons (pe_fld (pv 0) rfl) (pa_cons pe_str pa_nil))) (pe_fld (pv 0) rfl)) pa_nil)) pa_nil)) pa_nil))), ?_⟩
    refine ⟨_, rfl, a, C, dx, _, c, rfl, ea, T.cl, T.nc, rfl, _, c, ds, "register", rfl, by decide +kernel, hd, rows, Nat.le_trans size (by decide), fun H1 p ys s1 hp e1 pm so => ?_⟩
    have few := roles_few (role := "register") rows size
    have lk := kept_len lk
    have l1 : ys.length = (firsts [] (rolesS "register" ds)).length := pm.length_eq
    have l2 := len_firsts (rolesS "register" ds) []
    simp only [List.length_nil] at l2
    have line : (100000 : Nat) < sizeLine := by decide
    have fin : ∀ (p2 : Addr) (H2 : Hp), Same H H2 → SqT K H2 p2 ((ys ++ ks).map V.str) → rSetX K w [.ref p2] H2 (fun x H3 => rSortX w [x] H3 fun y H4 => rTupO K [y] H4 Q) := fun p2 H2 s2 e2 => by
      refine ⟨p2, ys ++ ks, rfl, .inr e2, ?_, fun p3 hp3 => ⟨p3, _, rfl, upd_same, fun zs p4 pm2 so2 hp4 => ⟨p4, _, rfl, .inl ⟨SqL.of upd_same, fun p5 hp5 => ?_⟩⟩⟩⟩
      · show (ys ++ ks).length < 4096
        rw [List.length_append]
        omega
      · have t3 := same_upd (o := SetTO w p3 (firsts [] (ys ++ ks))) hp3
        have t4 := same_upd (o := .lst (zs.map V.str)) hp4
        have t5 := same_upd (o := .tup (zs.map V.str)) hp5
        have hz : zs = canon (ys ++ ks) := IsSet.canon ⟨so2, pm2⟩
        have hc : canon (ys ++ ks) = canon (ks ++ rolesS "register" ds) := canon_congr fun x => by
          rw [List.mem_append, List.mem_append, pm.mem_iff, mem_firsts]
          show (x ∈ [] ∨ x ∈ rolesS "register" ds) ∨ x ∈ ks ↔ _
          simp [or_comm]
        refine q _ _ (((s2.trans t3).trans t4).trans t5) ?_
        show Dt _ _ _ (strT (canon (ks ++ rolesS "register" ds)))
        rw [← hc, ← hz]
        refine dt_strT upd_same ?_
        have l5 := pm2.length_eq
        have l6 := len_firsts (ys ++ ks) []
        rw [List.length_append] at l6
        simp only [List.length_nil] at l6
        omega
    refine ⟨_, rfl, a, C, dx, _, _, rfl, s1 _ _ ea, T.cl, T.nk, rfl, p, kb, _, _, rfl, rfl, SqT.of e1, L2.SqT.ext hk s1, by rw [List.length_map, List.length_map]; omega, fun z1 => ?_, fun z1 z2 => ?_, fun z1 z2 pc hpc => ?_⟩
    · rw [List.map_eq_nil_iff.mp z1] at fin
      exact fin kb H1 s1 (by simpa using L2.SqT.ext hk s1)
    · have z2 := List.map_eq_nil_iff.mp z2
      refine fin p H1 s1 ?_
      rw [z2, List.append_nil]
      exact SqT.of e1
    · have tc := same_upd (o := .tup (ys.map V.str ++ ks.map V.str)) hpc
      refine fin pc _ (s1.trans tc) (SqT.of ?_)
      rw [upd_same, List.map_append]
end
end
end OM

namespace OM
open PySem PySem.Spec PyProof.Rows L2
open AutoSeq1 (wpAny_loadPart')
open MeetsSeq MeetsSeq2 MeetsSeq3 SeqRoads2
theorem str_eq_inst (b : Str) (u : Tok) (l C dx : Addr) :
    Meets (Builtin.«str.__eq__» ⟨[.str b u, .ref l], []⟩) (fun _ R s => s.heap.get? l = some (PySem.W.instObj C dx) ∧ R (.ok (.ret .notImplemented)) s) :=
  .of_wp fun prog w A R s h => by
    obtain ⟨hp, g, d, tk, os⟩ := s
    obtain ⟨hl, h⟩ := h
    wp_walk using wpAny_loadPart' hl, wpAny_load hl
    exact ⟨_, rfl, h⟩
section
variable {prog : Program} {w : World} {A : Around} {E : Value → Shared → Prop} {s : Shared} {K : PySem.W.Frag} {x C f dx : Addr} {od : Option Obj} {b : Str} {u : Tok}
open PySem.W in
theorem rc_str_own {Q : Value → Shared → Prop} (hu : A.units < cLine) (X : K.In s.heap) (I : InstAt s.heap x (instObj C dx) C od) (hn : mroIn K C (.type "str") = some false)
    (hs : findIn K (.ref C) "__eq__" = some (some (.ref f))) (hf : isFn K (.ref f) = true)
    (h : wpAny (model prog w) A (call (.ref f) [.ref x, .str b u]) (PySem.W.CmpBack Q) E s) : wpAny (model prog w) A (richCompare .Eq (.str b u) (.ref x)) Q E s := by
  have one : wpAny (model prog w) A (tryCompare (.ref x) "__eq__" (.str b u)) (fun r s' => ∃ v, r = some v ∧ Q v s') E s := by
    unfold tryCompare
    refine wpAny_bind (ifBound_K X I hs hf (wpAny_mono h (fun v s' hv => ?_) fun _ _ e => e))
    cases v <;> first | exact hv.elim | exact wpAny_pure ⟨_, rfl, hv⟩
  have hi : oneThing? .Eq (.str b u) (.ref x) = none := rfl
  unfold richCompare
  simp only [hi]
  refine wpAny_holding (wpAny_bind (wpAny_cRoomFor hu ?_))
  refine wpAny_bind (wpAny_typeOf (typeIs_str s b u) (wpAny_bind (I.type.here ?_)))
  rw [if_pos (show (Value.type "str" != Value.ref C) = true from rfl)]
  refine wpAny_bind ((looks_mroIn X hn).here ?_)
  simp only [Bool.false_eq_true, if_false, Bool.not_false, if_true]
  refine wpAny_bind (m := tryCompare (.str b u) _ (.ref x)) (wpAny_tryCompare_declines (typeIs_str s b u) F.slot_str_eq (call_meets F.slot_str_eq (typeIs_str s b u) F.entry_str_eq (F.args_str_eq_2 _ _) (str_eq_inst b u x C dx) ⟨I.at_, rfl, ?_⟩))
  refine wpAny_bind (m := tryCompare (.ref x) _ (.str b u)) (wpAny_mono one (fun r s' z => ?_) fun _ _ e => e)
  obtain ⟨v, rfl, hq⟩ := z
  exact wpAny_pure hq
open PySem.W in
theorem eqBool_str_own {Q : Bool → Shared → Prop} (hu : A.units < cLine) (X : K.In s.heap) (I : InstAt s.heap x (instObj C dx) C od) (hn : mroIn K C (.type "str") = some false)
    (hs : findIn K (.ref C) "__eq__" = some (some (.ref f))) (hf : isFn K (.ref f) = true)
    (h : wpAny (model prog w) A (call (.ref f) [.ref x, .str b u]) (fun v s' => ∃ r, v = .bool r ∧ Q r s') E s) : wpAny (model prog w) A (eqBool (.str b u) (.ref x)) Q E s := by
  unfold eqBool
  refine wpAny_holding ?_
  refine wpAny_ite_split (fun hab => absurd (eq_of_beq hab) nofun) (fun _ => ?_)
  refine wpAny_bind (rc_str_own hu X I hn hs hf (wpAny_mono h (fun v s' hv => ?_) fun _ _ e => e))
  obtain ⟨r, rfl, hq⟩ := hv
  exact wpAny_truthy_bool hq
/-- no item of a tuple equals x, and what asks it keeps J -/
theorem in_tuple_no {l : Addr} {items : Array Value} {y : Value} {Q : Value → Shared → Prop} (J : Shared → Prop) (hl : s.heap.IsTuple l items)
    (he : ∀ z, z ∈ items → ∀ s', J s' → wpAny (model prog w) A.in1 (eqBool z y) (fun r s'' => r = false ∧ J s'') E s') (h0 : J s) (fin : ∀ s', J s' → Q (.bool false) s') : wpAny (model prog w) A (compareOp .In y (.ref l)) Q E s := by
  obtain ⟨⟨cls, dd, data, sl⟩, ho, hc, n, hd⟩ := id hl
  simp only at hc hd
  subst hc hd
  show wpAny _ A (do return .bool (← contains (.ref l) y)) Q E s
  refine wpAny_bind (wpAny_contains_slot ⟨_, ho, rfl⟩ F.slot_tuple_contains (wpAny_mono (GQ.call_here (Q := fun v s' => v = .bool false ∧ J s') F.slot_tuple_contains ⟨_, ho, rfl⟩ F.entry_tuple_contains (F.args_tuple_contains_2 _ _) ?_) (fun v s' hv => ?_) fun _ _ e => e))
  · obtain ⟨hp, g, d, tk, os⟩ := s
    wp_walk using wpAny_loadPart' ho, wpAny_forIn_array _ (fun rest b s' => b.1 = none ∧ J s' ∧ ∀ y, y ∈ rest → y ∈ items) _
    case turn =>
      rintro z rest b s' ⟨hb, hj, hmem⟩
      refine wpAny_bind (wpAny_mono (he z (hmem z (List.mem_cons_self ..)) s' hj) (fun r s2 q => ?_) fun _ _ e => e)
      obtain ⟨rfl, hj2⟩ := q
      obtain ⟨hp2, g2, d2, tk2, os2⟩ := s2
      wp_walk
      exact ⟨rfl, hj2, fun z hz => hmem z (List.mem_cons_of_mem _ hz)⟩
    case fin =>
      rintro ⟨b1, b2⟩ s' ⟨hb, hj, -⟩
      simp only at hb
      subst hb
      obtain ⟨hp2, g2, d2, tk2, os2⟩ := s'
      wp_walk
      exact ⟨rfl, hj⟩
    case h =>
      exact ⟨rfl, h0, fun y hy => by simpa using hy⟩
  · obtain ⟨rfl, hj⟩ := hv
    exact wpAny_truthy_bool (wpAny_pure (fin _ hj))
end
end OM

namespace OM
open PySem PySem.Spec PyProof.Rows L2
open AutoSeq1 (wpAny_loadPart')
open MeetsSeq MeetsSeq2 MeetsSeq3 SeqRoads2
theorem dict_eq_declines_str (l : Addr) (o : Obj) (es : Array DictEntry) (n : Nat) (b : Str) (u : Tok) (hc : o.cls = .type "dict") (hd : o.data = .dict es n) :
    Meets (Builtin.«dict.__eq__» ⟨[.ref l, .str b u], []⟩) (fun _ R s => s.heap.get? l = some o ∧ R (.ok (.ret .notImplemented)) s) :=
  .of_wp fun prog w A R s h => by
    obtain ⟨hp, g, d, tk, os⟩ := s
    obtain ⟨hl, h⟩ := h
    have f1 : isSubtype (.type "str") (.type "dict") = pure false := by rw [isSubtype_type]; kernel_rfl
    obtain ⟨c0, d0, dt0, sl0⟩ := o
    simp only at hc hd
    subst hc hd
    wp_walk using wpAny_loadPart' hl, wpAny_load hl
    exact ⟨_, rfl, h⟩
theorem str_eq_declines_dict (l : Addr) (o : Obj) (es : Array DictEntry) (n : Nat) (b : Str) (u : Tok) (hc : o.cls = .type "dict") (hd : o.data = .dict es n) :
    Meets (Builtin.«str.__eq__» ⟨[.str b u, .ref l], []⟩) (fun _ R s => s.heap.get? l = some o ∧ R (.ok (.ret .notImplemented)) s) :=
  .of_wp fun prog w A R s h => by
    obtain ⟨hp, g, d, tk, os⟩ := s
    obtain ⟨hl, h⟩ := h
    obtain ⟨c0, d0, dt0, sl0⟩ := o
    simp only at hc hd
    subst hc hd
    wp_walk using wpAny_loadPart' hl, wpAny_load hl
    exact ⟨_, rfl, h⟩
theorem eqAt_str_dict {A : Around} {s : Shared} {l : Addr} {o : Obj} {es : Array DictEntry} {n : Nat} (b : Str) (u : Tok) (ho : s.heap.get? l = some o) (hc : o.cls = .type "dict") (hd : o.data = .dict es n) (hu : A.units < cLine) : SeqAt.EqAt A s (.str b u) (.ref l) false := fun prog w E Q h => by
  unfold eqBool
  refine wpAny_holding ?_
  refine wpAny_ite_split (fun hab => absurd (eq_of_beq hab) nofun) (fun _ => ?_)
  have f1 : isSubtype (.type "dict") (.type "str") = pure false := by rw [isSubtype_type]; kernel_rfl
  refine wpAny_bind (SeqAt.rc_eq_decline_or (k := false) (typeIs_str s b u) ⟨_, ho, hc⟩ (by decide) f1 F.slot_str_eq F.slot_dict_eq_refl
    (fun _ hq => call_meets F.slot_str_eq (typeIs_str s b u) F.entry_str_eq (F.args_str_eq_2 _ _) (str_eq_declines_dict l o es n b u hc hd) ⟨ho, hq⟩)
    (fun _ hq => call_meets F.slot_dict_eq_refl ⟨_, ho, hc⟩ F.entry_dict_eq (F.args_dict_eq_2 _ _) (dict_eq_declines_str l o es n b u hc hd) ⟨ho, hq⟩)
    (fun _ hq => wpAny_of_eq (rfl : isSame (.str b u) (.ref l) = pure false) hq) (.inr hu) (wpAny_truthy_bool h))
/-- y in a tuple of texts: y a text, a datum that is none, or an instance that is none by its own == -/
def rInTx (K : PySem.W.Frag) (C : Addr) (sp : Sp) : V → V → Hp → VK → Prop := fun y t H Q => ∃ (p : Addr) (zs : List Str), t = .ref p ∧ SqT K H p (zs.map V.str) ∧
  ((∃ x : Str, y = .str x ∧ Q (.bl (inV (.str x) (zs.map V.str))) H) ∨ (∃ (S : Addr → Prop) (d : PyData), Dt S H y d ∧ (∀ z : Str, d ≠ .str z) ∧ Q (.bl false) H) ∨
    (∃ (a dx : Addr) (fs : List (Str × V)), y = .ref a ∧ H a = some (.ins C dx fs) ∧ (∀ (z : Str) (H' : Hp), Same H H' → sp [.ref a, .str z] H' (fun v H2 => v = .bl false ∧ Same H' H2) E0) ∧ ∀ H', Same H H' → Q (.bl false) H'))
theorem eqAt_str_dt {X : Cx} {pins : List (Addr × Obj)} {σ : L2.St} {H : Hp} {s : Shared} (I : Inv X pins σ H s) {S : Addr → Prop} {y : V} {d : PyData} {u : Value} (hd : Dt S H y d) (no : ∀ z, d ≠ .str z) (ry : RelV y u) (b : Str) (tk : Tok) {A : Around} (hu : A.units < cLine) : SeqAt.EqAt A s (.str b tk) u false := by
  cases hd with
  | «at» h =>
    cases h with
    | non =>
      obtain rfl : u = Value.none := ry
      exact SeqAt.EqAt.str_none b tk
    | bl x =>
      obtain rfl : u = Value.bool x := ry
      exact SeqAt.EqAt.str_bool b tk x
    | int i =>
      obtain ⟨t, rfl⟩ : ∃ t, u = Value.int i t := ry
      exact SeqAt.EqAt.str_int b tk i t
    | str z => exact absurd rfl (no z)
  | lst s e hl h =>
    rename_i a xs ds
    obtain rfl : u = Value.ref a := ry
    obtain ⟨its, r, pl, hz⟩ := I.list (SqL.of e)
    exact SeqAt.EqAt.str_list b tk pl.isList hu
  | tup s e hl h =>
    rename_i a xs ds
    obtain rfl : u = Value.ref a := ry
    obtain ⟨its, r, pl, hz⟩ := I.tuple (SqT.of e)
    exact SeqAt.EqAt.str_tuple b tk pl hu
  | dic0 s e =>
    rename_i a
    obtain rfl : u = Value.ref a := ry
    obtain ⟨_, _, vs, kv, o, es, ep, eo, ex, ed, ks, ps, _⟩ := (show ObjOk X.prog X.w H _ a (.dK []) from I.hok a _ e)
    exact eqAt_str_dict b tk eo ex.1 ed hu
  | dic1 s e h =>
    rename_i a k v d
    obtain rfl : u = Value.ref a := ry
    obtain ⟨_, _, vs, kv, o, es, ep, eo, ex, ed, ks, ps, _⟩ := (show ObjOk X.prog X.w H _ a (.dK [(k, v)]) from I.hok a _ e)
    exact eqAt_str_dict b tk eo ex.1 ed hu
section
variable {X : Cx} {k : Nat} {C f : Addr} {fd : FuncData} {sp : Sp}
theorem in_txt (O : Own X C f fd "__eq__" k ["self", "other"] sp) (hn : PySem.W.mroIn X.K C (.type "str") = some false) (hr : Room (k + 1) X.A) : OpR X (compareOp .In) (rInTx X.K C sp) := by
  intro pins s σ H y t u v Q I ry rt h
  obtain ⟨p, zs, rfl, hq, h⟩ := h
  have un := hr.un
  rcases h with ⟨x, rfl, q⟩ | ⟨S, d, hd, no, q⟩ | ⟨a, dx, fs, rfl, ea, hs, q⟩
  · exact op_in_seq pins s σ H _ _ u v Q I ry rt ⟨p, _, rfl, .inr hq, rfl, List.all_eq_true.mpr fun v hv => by obtain ⟨z, _, rfl⟩ := List.mem_map.mp hv; rfl, q⟩
  · obtain rfl : v = Value.ref p := rt
    obtain ⟨its, r, pl, hz⟩ := I.tuple hq
    refine SeqAt.in_tupleAt (fun _ => false) pl (fun w hw => ?_) ⟨.bl false, H, I, ?_, q⟩
    · obtain ⟨z', tk, rfl⟩ := r.strs.all w (by simpa using hw)
      exact eqAt_str_dt I hd no ry z' tk (by show X.A.units + 1 < _; omega)
    · show Value.bool _ = Value.bool false
      rw [show its.toArray.any (fun _ => false) = false by simp]
  · obtain rfl : v = Value.ref p := rt
    obtain rfl : u = Value.ref a := ry
    obtain ⟨its, r, pl, _⟩ := I.tuple hq
    refine in_tuple_no (fun s' => ∃ H', Inv X pins σ H' s' ∧ Same H H') pl (fun z hz s' hj => ?_) ⟨H, I, Same.refl H⟩ (fun s' hj => ?_)
    · obtain ⟨H', I', s1⟩ := hj
      obtain ⟨z', tk, rfl⟩ := r.strs.all z (by simpa using hz)
      obtain ⟨_, Ob, _⟩ := ins_get I'.hok (s1 _ _ ea)
      obtain ⟨od, J, _⟩ := Ob.look
      refine eqBool_str_own (by show X.A.units + 1 < _; omega) I'.kIn J hn O.hs O.hf ?_
      refine wpAny_call (codeAny_mono (O.F.run X.A.in1 X.stack s' H' ⟨[.ref a, .str z' tk], []⟩ [.ref a, .str z' tk] [.ref a, .str z'] _ E0 hr.in1 I'.env0.in1 (bind_at O.hb I' _ rfl) (.cons rfl (.cons ⟨tk, rfl⟩ .nil)) (hs z' H' s1)) fun res z2 hq => ?_)
      match res, hq with
      | .ok (.ret w), hq =>
        obtain ⟨v, H3, I3, rv, er, s3⟩ := I'.after hq
        subst er
        obtain rfl : w = Value.bool false := rv
        exact ⟨false, rfl, rfl, H3, I3, s1.trans s3⟩
      | .error er, hq => exact hq.elim
    · obtain ⟨H', I', s1⟩ := hj
      exact ⟨.bl false, H', I', rfl, q H' s1⟩
end
end OM

namespace OM
open PySem PySem.Spec PyProof.Rows L2
theorem zip_all2 {p : PyData → Prop} {g : PyData → Str → Bool} : ∀ {ds : List PyData} {rs : List Str}, (∀ d r, r ∈ rs → g d r = true → p d) → ds.length = rs.length → (List.zipWith g ds rs).all id = true → ∀ d ∈ ds, p d
  | [], _, _, _, _ => fun d h => by cases h
  | _ :: _, [], _, h, _ => by cases h
  | d :: ds, r :: rs, hg, h, z => by
    rw [List.zipWith_cons_cons, List.all_cons, Bool.and_eq_true] at z
    intro e he
    rcases List.mem_cons.mp he with rfl | he
    · exact hg _ _ (List.mem_cons_self ..) z.1
    · exact zip_all2 (fun d r hr => hg d r (List.mem_cons_of_mem _ hr)) (by simpa using h) z.2 e he
theorem leaf_roles {w : Str} {rs : List Str} (hf : formOf w = some rs) (ni : w ≠ "if") : ∀ r ∈ rs, r ≠ "code" := by
  unfold formOf at hf
  rw [if_neg ni] at hf
  intro k hk z
  subst z
  repeat (first | (split at hf) | (cases hf; exact absurd hk (by decide +kernel)) | cases hf)
theorem form_word {w : Str} {rs : List Str} (hf : formOf w = some rs) : w.length ≤ 5 ∧ smlD (.str w) = true ∧ rs.length ≤ 4 := by
  have key : ∀ v ∈ (["read", "write", "set", "copy", "get", "put", "if"] : List Str), v.length ≤ 5 ∧ smlD (.str v) = true := by decide +kernel
  have hw : w ∈ (["read", "write", "set", "copy", "get", "put", "if"] : List Str) := by
    unfold formOf at hf
    by_cases h1 : w = "read"
    · rw [h1]; decide +kernel
    by_cases h2 : w = "write"
    · rw [h2]; decide +kernel
    by_cases h3 : w = "set"
    · rw [h3]; decide +kernel
    by_cases h4 : w = "copy"
    · rw [h4]; decide +kernel
    by_cases h5 : w = "get"
    · rw [h5]; decide +kernel
    by_cases h6 : w = "put"
    · rw [h6]; decide +kernel
    by_cases h7 : w = "if"
    · rw [h7]; decide +kernel
    rw [if_neg h1, if_neg h2, if_neg h3, if_neg h4, if_neg h5, if_neg h6, if_neg h7] at hf
    cases hf
  exact ⟨(key w hw).1, (key w hw).2, form_len hf⟩
theorem name_small {d : PyData} (h : isNameD d = true) : smlD d = true ∧ d.weight ≤ 8 := by
  obtain ⟨x, rfl⟩ := isS h
  have h : nameS x = true := h
  unfold nameS at h
  simp only [Bool.and_eq_true, decide_eq_true_eq] at h
  obtain ⟨_, h2, h3, _⟩ := h
  refine ⟨?_, h2⟩
  unfold smlD
  rw [Bool.and_eq_true]
  refine ⟨decide_eq_true (by omega), ?_⟩
  unfold PyData.strOk
  rw [Array.all_eq_true']
  intro c hc
  have := List.all_eq_true.mp h3 c (by simpa using hc)
  simp only [Bool.and_eq_true, decide_eq_true_eq] at this
  exact decide_eq_true (by omega)
theorem weightAll_cons (x : PyData) (r : List PyData) : PyData.weightAll (x :: r) = x.weight + 1 + PyData.weightAll r := by rw [PyData.weightAll]
theorem weight_tup (ds : List PyData) : (PyData.tuple ds).weight = PyData.weightAll ds := by unfold PyData.weight; rfl
theorem all_small {m : Nat} : ∀ {ds : List PyData}, (∀ d ∈ ds, smlD d = true ∧ d.weight ≤ m) → smlAll ds = true ∧ PyData.weightAll ds ≤ (m + 1) * ds.length
  | [], _ => ⟨by unfold smlAll; rfl, Nat.zero_le _⟩
  | d :: r, h => by
    obtain ⟨a, b⟩ := h d (by simp)
    obtain ⟨c, e⟩ := all_small (ds := r) fun x hx => h x (List.mem_cons_of_mem _ hx)
    rw [smlAll_cons, weightAll_cons, a, c, List.length_cons, Nat.mul_succ]
    exact ⟨rfl, by omega⟩
theorem args_small {d : PyData} (h : argsD d = true) : smlD d = true ∧ d.weight ≤ 18 := by
  unfold argsD at h
  split at h
  · rename_i ds
    rw [Bool.and_eq_true, decide_eq_true_eq] at h
    obtain ⟨a, b⟩ := all_small (m := 8) (ds := ds) fun x hx => name_small (List.all_eq_true.mp h.2 x hx)
    rw [sml_tup, weight_tup]
    exact ⟨a, by omega⟩
  · cases h
theorem row_small : ∀ (n : Nat) (d : PyData), rowD (cdOf n) d = true → smlD d = true ∧ d.weight + 1 ≤ 100 * (flatS n d).length := by
  have leaf : ∀ (n : Nat) (w : Str) (rest : List PyData), rowD (cdOf n) (.tuple (.str w :: rest)) = true → w ≠ "if" → smlD (.tuple (.str w :: rest)) = true ∧ (PyData.tuple (.str w :: rest)).weight + 1 ≤ 100 := fun n w rest row ni => by
    obtain ⟨w', rest', rs, e, hf, hlen, fits⟩ := rowD_shape row
    obtain ⟨rfl, rfl⟩ : w = w' ∧ rest = rest' := by
      injection e with e
      injection e with e1 e2
      injection e1 with e1
      exact ⟨e1, e2⟩
    have nc := leaf_roles hf ni
    obtain ⟨w5, ws, r4⟩ := form_word hf
    have hp : ∀ x ∈ rest, smlD x = true ∧ x.weight ≤ 18 := zip_all2 (fun x r hr hx => by
      unfold fitD at hx
      rw [if_neg (nc r hr)] at hx
      split at hx
      · exact args_small hx
      · obtain ⟨a, b⟩ := name_small hx
        exact ⟨a, by omega⟩) hlen fits
    obtain ⟨a, b⟩ := all_small hp
    rw [sml_tup, smlAll_cons, ws, a, weight_tup, weightAll_cons]
    refine ⟨rfl, ?_⟩
    have e1 : (PyData.str w).weight = w.length := rfl
    omega
  intro n
  induction n with
  | zero =>
    intro d h
    rcases row_iff h with ⟨m, _, _, _, _, e, _⟩ | ⟨w, rest, rfl, ni, e0⟩
    · cases e
    · exact leaf 0 w rest h ni
  | succ m ih =>
    intro d h
    rcases row_iff h with ⟨m', p, r, ys, ns, em, rfl, hy, hn, np, nr⟩ | ⟨w, rest, rfl, ni, e0⟩
    · obtain rfl : m = m' := by omega
      have code : ∀ {l : List PyData}, l.all (rowD (cdOf m)) = true → smlAll l = true ∧ PyData.weightAll l ≤ 100 * (flatN m l).length := fun {l} hl => by
        induction l with
        | nil => exact ⟨by unfold smlAll; rfl, Nat.zero_le _⟩
        | cons x t iht =>
          rw [List.all_cons, Bool.and_eq_true] at hl
          obtain ⟨a, b⟩ := ih x hl.1
          obtain ⟨c, e⟩ := iht hl.2
          rw [smlAll_cons, weightAll_cons, a, c]
          refine ⟨rfl, ?_⟩
          have : (flatN m (x :: t)).length = (flatS m x).length + (flatN m t).length := by
            unfold flatN
            rw [List.flatMap_cons, List.length_append]
          omega
      obtain ⟨a1, b1⟩ := code hy
      obtain ⟨a2, b2⟩ := code hn
      obtain ⟨a3, b3⟩ := name_small np
      obtain ⟨a4, b4⟩ := name_small nr
      have e : (flatS (m + 1) (.tuple [.str "if", p, r, .tuple ys, .tuple ns])).length = 1 + ((flatN m ys).length + (flatN m ns).length) := by
        rw [flatS_row h]
        show (_ :: [ys, ns].flatMap (flatN m)).length = _
        rw [List.flatMap_cons, List.flatMap_cons, List.flatMap_nil, List.append_nil, List.length_cons, List.length_append]
        omega
      rw [e, sml_tup, weight_tup]
      simp only [smlAll_cons, weightAll_cons, weight_tup, sml_tup, a1, a2, a3, a4]
      refine ⟨by unfold smlAll; decide +kernel, ?_⟩
      have e1 : (PyData.str "if").weight = 2 := by decide +kernel
      have e2 : PyData.weightAll [] = 0 := by unfold PyData.weightAll; rfl
      omega
    · obtain ⟨a, b⟩ := leaf (m + 1) w rest h ni
      refine ⟨a, ?_⟩
      have e : (flatS (m + 1) (.tuple (.str w :: rest))).length = 1 := by
        rw [flatS_row h, e0]
        rfl
      omega
theorem code_small {n : Nat} {l : List PyData} (hl : l.all (rowD (cdOf n)) = true) : smlAll l = true ∧ PyData.weightAll l ≤ 100 * (flatN n l).length := by
  induction l with
  | nil => exact ⟨by unfold smlAll; rfl, Nat.zero_le _⟩
  | cons x t iht =>
    rw [List.all_cons, Bool.and_eq_true] at hl
    obtain ⟨a, b⟩ := row_small n x hl.1
    obtain ⟨c, e⟩ := iht hl.2
    rw [smlAll_cons, weightAll_cons, a, c]
    refine ⟨rfl, ?_⟩
    have : (flatN n (x :: t)).length = (flatS n x).length + (flatN n t).length := by
      unfold flatN
      rw [List.flatMap_cons, List.length_append]
    omega
mutual
theorem eqv_eq : ∀ d e : PyData, pureD d = true → pureD e = true → PyData.eqv d e = true → d = e
  | .str x, e, _, he, h => by
    cases e with
    | str y =>
      unfold PyData.eqv at h
      rw [beq_iff_eq.mp h]
    | tuple ys => unfold PyData.eqv at h; cases h
    | _ => unfold pureD at he; cases he
  | .tuple xs, e, hd, he, h => by
    cases e with
    | tuple ys =>
      unfold PyData.eqv at h
      unfold pureD at hd he
      rw [eqvAll_eq xs ys hd he h]
    | str y => unfold PyData.eqv at h; cases h
    | _ => unfold pureD at he; cases he
  | .none, _, h, _, _ => by unfold pureD at h; cases h
  | .bool _, _, h, _, _ => by unfold pureD at h; cases h
  | .int _, _, h, _, _ => by unfold pureD at h; cases h
  | .list _, _, h, _, _ => by unfold pureD at h; cases h
  | .dict _, _, h, _, _ => by unfold pureD at h; cases h
theorem eqvAll_eq : ∀ xs ys : List PyData, pureAll xs = true → pureAll ys = true → PyData.eqvAll xs ys = true → xs = ys
  | [], [], _, _, _ => rfl
  | x :: xs, y :: ys, hx, hy, h => by
    unfold pureAll at hx hy
    unfold PyData.eqvAll at h
    rw [Bool.and_eq_true] at hx hy h
    rw [eqv_eq x y hx.1 hy.1 h.1, eqvAll_eq xs ys hx.2 hy.2 h.2]
  | [], _ :: _, _, _, h => by unfold PyData.eqvAll at h; cases h
  | _ :: _, [], _, _, h => by unfold PyData.eqvAll at h; cases h
end
open Classical in
theorem eqv_dec {d e : PyData} (hd : pureD d = true) (he : pureD e = true) : PyData.eqv d e = decide (d = e) := by
  by_cases h : d = e
  · subst h
    rw [eqv_pure d hd, decide_eq_true rfl]
  · rw [decide_eq_false h]
    exact Bool.eq_false_iff.mpr fun z => h (eqv_eq d e hd he z)
end OM

namespace OM
open PySem PySem.Spec PyProof.Rows L2
abbrev sNumber : Stmt := top 19
abbrev sWhole : Stmt := top 20
abbrev sGetItem : Stmt := inStK 48 12
abbrev sContains : Stmt := inStK 48 15
abbrev sEqM : Stmt := inStK 48 16
abbrev sStrM : Stmt := inStK 48 17
theorem code_dp {K : PySem.W.Frag} {S : Addr → Prop} {H : Hp} {v : V} {ds : List PyData} (rows : ds.all (rowD (cdOf 3)) = true) (h : Dt S H v (.tuple ds)) : Dp K H v (.tuple ds) ∧ SeqAt.shaped (.tuple ds) = true :=
  ⟨h.dp (rows_pure rows), code_shaped rows (code_small rows).1⟩
def spWhole : Sp := fun vs H Q _ => ∃ i : Int, vs = [.int i] ∧ ∀ H', Same H H' → Q (.bl true) H'
def spNumber : Sp := fun vs H Q _ => ∃ i lo hi : Int, vs = [.int i, .int lo, .int hi] ∧ lo ≤ i ∧ i ≤ hi ∧ ∀ H', Same H H' → Q (.bl true) H'
def spGetItem (K : PySem.W.Frag) (C : Addr) : Sp := fun vs H Q _ => ∃ (a : Addr) (ds : List PyData) (ks : List Str) (i : Nat) (d : PyData), vs = [.ref a, .int (i : Int)] ∧ StI K C H a ds ks ∧ ds[i]? = some d ∧ ∀ H' v, Same H H' → Dt (fun _ => True) H' v d → Q v H'
section
variable {P : Program} {w : World} {K : PySem.W.Frag} {mg : Str → Option Value} {base : Heap} {f fF fW fN fO fK C : Addr} {fd dF dW dN dO dK : FuncData}
theorem scSelf {st : Stmt} (h : st = sSizeP ∨ st = sLenM ∨ st = sStrM) : FnScope ["self"] ["self"] (defScope st) := by
  rcases h with rfl | rfl | rfl <;> exact ⟨rfl, rfl, rfl, by decide +kernel, rfl, by decide +kernel, by decide +kernel⟩
theorem ok_sizeP (F : Fun K "size" "Stretch.size" sSizeP f fd) (T : StrT K mg C) (ln : mg "len" = none) (gF : mg "flattened" = some (.ref fF)) (kF : PySem.W.keepIn K (.ref fF) = true) (bF : Binds K dF ["code"] []) (GF : FnOk P w K mg base CX0 5 fF dF ["code"] (spFlatAt 4)) :
    FnOk P w K mg base CX0 6 f fd ["self"] (spTell K C fun ds => .int ((flatN 3 ds).length : Nat)) := by
  refine F.ok (scSelf (.inl rfl)) (fun vs H Q E h => ?_) (fun cdv A outer s H vs Q E hr h => ?_)
  · obtain ⟨a, ds, ks, rfl, _⟩ := h
    rfl
  · obtain ⟨a, ds, ks, rfl, ⟨dx, kb, c, ea, hd, hk, rows, size, lk⟩, q⟩ := h
    refine ⟨_, pss_one (ps_ret (pe_callB call_len_seq (by rfl) ln PySem.boot_len (pa_cons (pe_call GF hr (by rfl) gF kF bF .nil pass0 (pa_cons (pe_fld (pv 0) rfl) pa_nil)) pa_nil))), ?_⟩
    refine ⟨_, rfl, a, C, dx, _, c, rfl, ea, T.cl, T.nc, rfl, _, c, ds, rfl, hd, rows, Nat.le_trans size (by decide), fun H1 p xs s1 hp e1 d1 => ⟨p, xs, rfl, .inl (SqL.of e1), ?_⟩⟩
    rw [d1.length]
    exact q H1 s1
theorem ok_lenM (F : Fun K "__len__" "Stretch.__len__" sLenM f fd) (T : StrT K mg C) (ln : mg "len" = none) : FnOk P w K mg base CX0 1 f fd ["self"] (spTell K C fun ds => .int (ds.length : Nat)) := by
  refine F.ok (scSelf (.inr (.inl rfl))) (fun vs H Q E h => ?_) (fun cdv A outer s H vs Q E hr h => ?_)
  · obtain ⟨a, ds, ks, rfl, _⟩ := h
    rfl
  · obtain ⟨a, ds, ks, rfl, ⟨dx, kb, c, ea, hd, hk, rows, size, lk⟩, q⟩ := h
    refine ⟨_, pss_one (ps_ret (pe_callB call_len_seq (by rfl) ln PySem.boot_len (pa_cons (pe_fld (pv 0) rfl) pa_nil))), ?_⟩
    obtain ⟨b, xs, rfl, eb, hl, hx⟩ := hd.tup_of
    refine ⟨_, rfl, a, C, dx, _, _, rfl, ea, T.cl, T.nc, rfl, b, xs, rfl, .inr (SqT.of eb), ?_⟩
    rw [hx.length]
    exact q H (Same.refl H)
theorem scWh : FnScope ["value"] ["value"] (defScope sWhole) := ⟨rfl, rfl, rfl, by decide +kernel, rfl, by decide +kernel, by decide +kernel⟩
theorem ok_whole (F : Fun K "is_whole" "is_whole" sWhole f fd) (isi : mg "isinstance" = none) (it : mg "int" = none) (bo : mg "bool" = none) : FnOk P w K mg base CX0 1 f fd ["value"] spWhole := by
  refine F.ok scWh (fun vs H Q E h => ?_) (fun cdv A outer s H vs Q E hr h => ?_)
  · obtain ⟨i, rfl, _⟩ := h
    rfl
  · obtain ⟨i, rfl, q⟩ := h
    refine ⟨_, pss_one (ps_ret (pe_and (pe_callB call_isi (by rfl) isi (by decide +kernel) (pa_cons (pv 0) (pa_cons (pe_bltn (v := .ty "int") (u := .type "int") (by rfl) it (by decide +kernel) rfl) pa_nil)))
      (pe_one (pe_not (pe_callB call_isi (by rfl) isi (by decide +kernel) (pa_cons (pv 0) (pa_cons (pe_bltn (v := .ty "bool") (u := .type "bool") (by rfl) bo (by decide +kernel) rfl) pa_nil))))))), ?_⟩
    refine isi_te (x := .int i) rfl (Dt.tyx (S := fun _ => True) (.at (.int i))) (r := true) (show kitB "int" "int" = some true by decide +kernel) ⟨_, rfl, iteT ?_⟩
    refine isi_te (x := .int i) rfl (Dt.tyx (S := fun _ => True) (.at (.int i))) (r := false) (show kitB "int" "bool" = some false by decide +kernel) ⟨_, rfl, q H (Same.refl H)⟩
theorem scNu : FnScope ["value", "low", "high"] ["value", "low", "high"] (defScope sNumber) := ⟨rfl, rfl, rfl, by decide +kernel, rfl, by decide +kernel, by decide +kernel⟩
theorem ok_number (F : Fun K "is_number" "is_number" sNumber f fd) (gW : mg "is_whole" = some (.ref fW)) (kW : PySem.W.keepIn K (.ref fW) = true) (bW : Binds K dW ["value"] []) (GW : FnOk P w K mg base CX0 1 fW dW ["value"] spWhole) : FnOk P w K mg base CX0 2 f fd ["value", "low", "high"] spNumber := by
  refine F.ok scNu (fun vs H Q E h => ?_) (fun cdv A outer s H vs Q E hr h => ?_)
  · obtain ⟨i, lo, hi, rfl, _⟩ := h
    rfl
  · obtain ⟨i, lo, hi, rfl, h1, h2, q⟩ := h
    refine ⟨_, pss_one (ps_ret (pe_and (pe_call GW hr (by rfl) gW kW bW .nil pass0 (pa_cons (pv 0) pa_nil)) (pe_one (pe_chain op_le op_le (pv 1) (pv 0) (pv 2))))), ?_⟩
    refine ⟨_, rfl, i, rfl, fun H1 s1 => ⟨_, rfl, iteT ?_⟩⟩
    refine ⟨_, rfl, _, rfl, lo, i, rfl, rfl, _, rfl, ?_⟩
    rw [decide_eq_true h1]
    refine iteT ⟨_, rfl, i, hi, rfl, rfl, ?_⟩
    show Q (.bl (decide (i ≤ hi))) H1
    rw [decide_eq_true h2]
    exact q _ s1
theorem scGI : FnScope ["self", "at"] ["self", "at"] (defScope sGetItem) := ⟨rfl, rfl, rfl, by decide +kernel, rfl, by decide +kernel, by decide +kernel⟩
theorem ok_getitem (F : Fun K "__getitem__" "Stretch.__getitem__" sGetItem f fd) (T : StrT K mg C) (ln : mg "len" = none) (gN : mg "is_number" = some (.ref fN)) (kN : PySem.W.keepIn K (.ref fN) = true) (bN : Binds K dN ["value", "low", "high"] []) (GN : FnOk P w K mg base CX0 2 fN dN ["value", "low", "high"] spNumber) :
    FnOk P w K mg base CX0 3 f fd ["self", "at"] (spGetItem K C) := by
  refine F.ok scGI (fun vs H Q E h => ?_) (fun cdv A outer s H vs Q E hr h => ?_)
  · obtain ⟨a, ds, ks, i, d, rfl, _⟩ := h
    rfl
  · obtain ⟨a, ds, ks, i, d, rfl, ⟨dx, kb, c, ea, hd, hk, rows, size, lk⟩, hi, q⟩ := h
    refine ⟨_, pss_cons (ps_if (pt_not (pt_val (pe_call GN hr (by rfl) gN kN bN .nil pass0 (pa_cons (pv 1) (pa_cons pe_int (pa_cons (pe_op op_sub (pe_callB call_len_seq (by rfl) ln PySem.boot_len (pa_cons (pe_fld (pv 0) rfl) pa_nil)) pe_int) pa_nil)))))) pss_never pss_nil)
      (pss_one (ps_ret (pe_ix ix_tup (pe_fld (pv 0) rfl) (pv 1) (fun _ _ => rfl)))), ?_⟩
    obtain ⟨b, xs, rfl, eb, hl, hx⟩ := hd.tup_of
    have lx := hx.length
    have li : i < ds.length := (List.getElem?_eq_some_iff.mp hi).1
    obtain ⟨x, hxi, hdx⟩ := hx.get' hi
    refine ⟨_, rfl, _, rfl, a, C, dx, _, _, rfl, ea, T.cl, T.nc, rfl, b, xs, rfl, .inr (SqT.of eb), _, _, rfl, rfl, (i : Int), 0, (xs.length : Int) - 1, rfl, by omega, by omega, fun H1 s1 => ⟨_, rfl, iteF ?_⟩⟩
    refine ⟨_, rfl, a, C, dx, _, _, rfl, s1 _ _ ea, T.cl, T.nc, rfl, _, rfl, b, xs, (i : Int), x, rfl, rfl, SqT.of (s1 _ _ eb), atI_nat hxi, q H1 x s1 (hdx.mv (fun _ z => z) fun b o _ z => s1 b o z)⟩
end
/-- own == : code and kept registers -/
def spEqM (K : PySem.W.Frag) (C : Addr) : Sp := fun vs H Q _ => ∃ (a : Addr) (ds : List PyData) (ks : List Str) (y : V), vs = [.ref a, y] ∧ StI K C H a ds ks ∧
  ((∃ (b : Addr) (es : List PyData) (ls : List Str), y = .ref b ∧ StI K C H b es ls ∧ ∀ H', Same H H' → Q (.bl (PyData.eqv (.tuple ds) (.tuple es) && PyData.eqv (strT ks) (strT ls))) H') ∨
    (∃ t : Value, TyX K H y t ∧ PySem.W.kitOne K t (.ref C) = some false ∧ ∀ H', Same H H' → Q (.bl false) H'))
theorem keeps_sh {ks : List Str} (h : keptD (strT ks) = true) : pureD (strT ks) = true ∧ smlD (strT ks) = true ∧ (strT ks).weight ≤ 36 ∧ SeqAt.shaped (strT ks) = true := by
  have h0 := kept_len h
  have h : (setD (strT ks) && decide ((ks.map PyData.str).length ≤ 4)) = true := h
  have h1 : setD (strT ks) = true := (Bool.and_eq_true_iff.mp h).1
  have h2 : (ks.map PyData.str).all isNameD = true := (Bool.and_eq_true_iff.mp h1).1
  obtain ⟨a, b⟩ := names_pure h2
  obtain ⟨c, e⟩ := all_small (m := 8) fun x hx => name_small (List.all_eq_true.mp h2 x hx)
  rw [List.length_map] at e
  have p : pureD (strT ks) = true := pure_tup a
  have sm : smlD (strT ks) = true := (sml_tup _).trans c
  refine ⟨p, sm, ?_, ?_⟩
  · show (PyData.tuple (ks.map PyData.str)).weight ≤ 36
    rw [weight_tup]
    omega
  · have q := lay_pure (strT ks) p sm
    show (PyData.canLay0 (strT ks) && decide ((strT ks).depth ≤ 64)) = true
    rw [q, decide_eq_true (show (strT ks).depth ≤ 64 by unfold strT; rw [dep_tup, b]; decide)]
    rfl
theorem dp_strs {K : PySem.W.Frag} {H : Hp} : ∀ l : List Str, DpAll K H (l.map V.str) (l.map PyData.str)
  | [] => .nil
  | x :: l => .cons (.str x) (dp_strs l)
section
variable {P : Program} {w : World} {K : PySem.W.Frag} {mg : Str → Option Value} {base : Heap} {f fE fC fO fK C : Addr} {fd dE dC dO dK : FuncData}
theorem scEqM : FnScope ["self", "other"] ["self", "other"] (defScope sEqM) := ⟨rfl, rfl, rfl, by decide +kernel, rfl, by decide +kernel, by decide +kernel⟩
theorem ok_eqM {fS aS : Addr} {dS : FuncData} (F : Fun K "__eq__" "Stretch.__eq__" sEqM f fd) (R : StrC K mg C fS aS dS) (isi : mg "isinstance" = none) : FnOk P w K mg base CX0 1 f fd ["self", "other"] (spEqM K C) := by
  refine F.ok scEqM (fun vs H Q E h => ?_) (fun cdv A outer s H vs Q E hr h => ?_)
  · obtain ⟨a, ds, ks, y, rfl, _⟩ := h
    rfl
  · obtain ⟨a, ds, ks, y, rfl, ⟨dx, kb, c, ea, hd, hk, rows, size, lk⟩, q⟩ := h
    have un := hr.un
    have hu : (A.deeper (envOfC "Stretch.__eq__" (defScope sEqM) s.heap.objs.size f cdv)).units + 64 < cLine := by omega
    refine ⟨_, pss_one (ps_ret (pe_and (pe_callB call_isi (by rfl) isi (by decide +kernel) (pa_cons (pv 1) (pa_cons (pe_glob (v := .ref C) (by rfl) R.gSt rfl) pa_nil)))
      (pe_and (pe_cmpR (op_eqD hu) (pe_fld (pv 0) rfl) (pe_fld (pv 1) rfl) (nomark _)) (pe_one (pe_cmpR (op_eqD hu) (pe_fld (pv 0) rfl) (pe_fld (pv 1) rfl) (nomark _)))))), ?_⟩
    obtain ⟨dp1, sh1⟩ := code_dp (K := K) rows hd
    rcases q with ⟨b, es, ls, rfl, ⟨dy, lb, c2, eb, hd2, hk2, rows2, size2, lk2⟩, q⟩ | ⟨t, ty, no, q⟩
    · obtain ⟨dp2, sh2⟩ := code_dp (K := K) rows2 hd2
      refine ⟨_, rfl, .ref b, .ref C, .ref C, .ref C, true, rfl, .own C, .base (.ins eb R.T.cl R.ha R.hn R.htk R.hm), R.kit, _, rfl, iteT ?_⟩
      refine ⟨_, rfl, a, C, dx, _, c, rfl, ea, R.T.cl, R.T.nc, rfl, _, rfl, b, C, dy, _, c2, rfl, eb, R.T.cl, R.T.nc, rfl, .tuple ds, .tuple es, dp1, dp2, sh1, sh2, _, rfl, ?_⟩
      have q := q H (Same.refl H)
      refine ite2 (fun k1 => ?_) (fun k1 => ?_)
      · rw [k1, Bool.true_and] at q
        exact ⟨_, rfl, a, C, dx, _, .ref kb, rfl, ea, R.T.cl, R.T.nk, rfl, _, rfl, b, C, dy, _, .ref lb, rfl, eb, R.T.cl, R.T.nk, rfl, strT ks, strT ls, .tup hk (dp_strs ks), .tup hk2 (dp_strs ls), (keeps_sh lk).2.2.2, (keeps_sh lk2).2.2.2, q⟩
      · rw [Bool.eq_false_iff.mpr k1, Bool.false_and] at q
        exact q
    · refine ⟨_, rfl, y, .ref C, t, .ref C, false, rfl, .own C, ty, no, _, rfl, iteF ?_⟩
      exact q H (Same.refl H)
def spContains (K : PySem.W.Frag) (C : Addr) : Sp := fun vs H Q _ => ∃ (a : Addr) (ds : List PyData) (ks : List Str) (y : V), vs = [.ref a, y] ∧ StI K C H a ds ks ∧
  ((∃ x : Str, y = .str x ∧ ∀ H', Same H H' → Q (.bl ((canon (rolesS "cell" ds)).contains x)) H') ∨ (∃ d : PyData, Dt (fun _ => True) H y d ∧ (∀ z, d ≠ .str z) ∧ ∀ H', Same H H' → Q (.bl false) H') ∨
    (∃ (b : Addr) (es : List PyData) (ls : List Str), y = .ref b ∧ StI K C H b es ls ∧ ∀ H', Same H H' → Q (.bl false) H'))
theorem inV_strs (x : Str) : ∀ l : List Str, inV (.str x) (l.map V.str) = l.contains x
  | [] => rfl
  | y :: l => by
    have h := inV_strs x l
    unfold inV at h ⊢
    rw [List.map_cons, List.any_cons, h, List.contains_cons]
    congr 1
    show (y == x) = (x == y)
    rw [Bool.eq_iff_iff, beq_iff_eq, beq_iff_eq, eq_comm]
theorem scCn : FnScope ["self", "x"] ["self", "x"] (defScope sContains) := ⟨rfl, rfl, rfl, by decide +kernel, rfl, by decide +kernel, by decide +kernel⟩
theorem ok_contains {p : Addr} {str0 : PySem.W.kitOne K (.type "str") (.ref C) = some false} (F : Fun K "__contains__" "Stretch.__contains__" sContains f fd) (T : StrT K mg C) (pC : PropOf K C "cells" p fC) (GC : FnOk P w K mg base CX0 7 fC dC ["self"] (spRole K C fun ds _ => rolesS "cell" ds)) (bC : Binds K dC ["self"] [])
    (hs : PySem.W.findIn K (.ref C) "__eq__" = some (some (.ref fE))) (hf : PySem.W.isFn K (.ref fE) = true) (bE : Binds K dE ["self", "other"] []) (GE : FnOk P w K mg base CX0 1 fE dE ["self", "other"] (spEqM K C)) (hn : PySem.W.mroIn K C (.type "str") = some false) :
    FnOk P w K mg base CX0 9 f fd ["self", "x"] (spContains K C) := by
  refine F.ok scCn (fun vs H Q E h => ?_) (fun cdv A outer s H vs Q E hr h => ?_)
  · obtain ⟨a, ds, ks, y, rfl, _⟩ := h
    rfl
  · obtain ⟨a, ds, ks, y, rfl, st, q⟩ := h
    refine ⟨_, pss_one (ps_ret (pe_cmpR (in_txt (C := C) (f := fE) (fd := dE) (k := 1) (sp := spEqM K C) ⟨hs, hf, GE, bE⟩ hn (hr.mono (by decide))) (pv 1) (pe_prop (E := E0) (pv 0) T.cl pC GC hr bC .nil pass0 (by rfl)) (by rfl))), ?_⟩
    obtain ⟨dx, kb, c, ea, _⟩ := id st
    refine ⟨_, rfl, _, rfl, a, dx, _, rfl, ea, a, ds, ks, rfl, st, fun H1 v s1 dv => ?_⟩
    obtain ⟨t, xs, rfl, et, hl, hx⟩ := dv.tup_of
    obtain rfl := dt_strL hx
    refine ⟨t, _, rfl, SqT.of et, ?_⟩
    rcases q with ⟨x, rfl, q⟩ | ⟨d, hd, no, q⟩ | ⟨b, es, ls, rfl, sb, q⟩
    · refine .inl ⟨x, rfl, ?_⟩
      rw [inV_strs]
      exact q H1 s1
    · exact .inr (.inl ⟨_, d, hd.mv (fun _ z => z) fun b o _ z => s1 b o z, no, q H1 s1⟩)
    · obtain ⟨dy, lb, c2, eb, _⟩ := id sb
      exact .inr (.inr ⟨b, dy, _, rfl, s1 _ _ eb, fun z H2 s2 => ⟨b, es, ls, .str z, rfl, sb.mv (s1.trans s2), .inr ⟨_, .base (.str z), str0, fun H3 s3 => ⟨rfl, s3⟩⟩⟩, fun H2 s2 => q H2 (s1.trans s2)⟩)
end
end OM

namespace OM
open PySem PySem.Spec PyProof.Rows L2
def spKeep (C : Addr) : Sp := fun vs H Q _ => ∃ (a dx nb : Addr) (c k : V) (ns : List Str), vs = [.ref a, .ref nb] ∧ H a = some (insS C dx c k) ∧ H nb = some (.tup (ns.map V.str)) ∧ keptD (strT ns) = true ∧
  ∀ H' x dz, Same H H' → H x = none → H' x = some (insS C dz c (.ref nb)) → Q (.ref x) H'
def numS (n : Nat) : Str := (toString (n : Int) : String)
def txt3 (n c k : Nat) : Str := ((((((("stretch of " : Str) ++ numS n) ++ (" statements, " : Str)) ++ numS c) ++ (" cells, " : Str)) ++ numS k) ++ (" kept" : Str))
def spStrM (K : PySem.W.Frag) (C : Addr) : Sp := fun vs H Q _ => ∃ (a : Addr) (ds : List PyData) (ks : List Str), vs = [.ref a] ∧ StI K C H a ds ks ∧ ∀ H', Same H H' → Q (.str (txt3 (flatN 3 ds).length (canon (rolesS "cell" ds)).length ks.length)) H'
theorem canon_len (l : List Str) : (canon l).length ≤ l.length := by
  unfold canon theOne
  split
  · rename_i h
    have q := (Classical.choose_spec h).2.length_eq
    have l2 := len_firsts l []
    simp only [List.length_nil] at l2
    omega
  · exact Nat.zero_le _
theorem num_small : ∀ n : Nat, n < 1000 → (numS n).length ≤ 3 := by decide +kernel
theorem log_small {n : Nat} (h : n < 1000) : ((n : Int)).natAbs.log2 < 1920 := by
  have h1 : ((n : Int)).natAbs = n := rfl
  rw [h1]
  have h2 : n.log2 ≤ 10 := by
    rcases Nat.eq_zero_or_pos n with z | z
    · rw [z]; decide
    · have := (Nat.log2_lt (by omega : n ≠ 0) (k := 10)).mpr (by omega)
      omega
  omega
section
variable {P : Program} {w : World} {K : PySem.W.Frag} {mg : Str → Option Value} {base : Heap} {f fO fK fZ fC C : Addr} {fd dO dK dZ dC : FuncData}
theorem scKg : FnScope ["self", "names"] ["self", "names"] (defScope sKeeping) := ⟨rfl, rfl, rfl, by decide +kernel, rfl, by decide +kernel, by decide +kernel⟩
end
end OM

namespace OM
open PySem PySem.Spec PyProof.Rows L2 LamX
abbrev sMet : Stmt := top 62
/-- the classes that `_law_met` names -/
structure MetK (mg : Str → Option Value) (c : Nat → Addr) : Prop where
  g0 : mg "InvalidValue" = some (.ref (c 0))
  g1 : mg "InvalidStretch" = some (.ref (c 1))
  g2 : mg "InvalidProgram" = some (.ref (c 2))
  g3 : mg "InvalidOperation" = some (.ref (c 3))
  g4 : mg "ParseError" = some (.ref (c 4))
  g5 : mg "UnknownName" = some (.ref (c 5))
  g6 : mg "Unanswered" = some (.ref (c 6))
  g7 : mg "InvalidNumber" = some (.ref (c 7))
  g8 : mg "TooMany" = some (.ref (c 8))
  g9 : mg "NothingToUndo" = some (.ref (c 9))
  g10 : mg "Refused" = some (.ref (c 10))
/-- what `_law_met` makes of a call that may raise InvalidStretch -/
def TTmet (cS : Addr) : (XK → Hp → VK → Prop) → Hp → VK → Prop := fun tl H Q => tl (fun cls _ H' => cls = .ref cS ∧ Q (.str "stretch") H') H (fun _ H' => Q (.str "fine") H')
theorem pss_never {X : Cx} {b : List Stmt} : PSs X b (fun _ _ _ => False) := ⟨fun _ _ _ _ _ _ h => h.elim⟩
theorem scMe : FnScope ["_law_call", "e"] ["_law_call"] (defScope sMet) := ⟨rfl, rfl, rfl, by decide +kernel, rfl, by decide +kernel, by decide +kernel⟩
section
variable {X : Cx} {g : Addr} {cdg : Value} {q : Str} {c : Nat → Addr}
theorem met_gives (M : MetK X.mg c) (n01 : PySem.W.exmOne X.K (.ref (c 1)) (.ref (c 0)) = some false) (n11 : PySem.W.exmOne X.K (.ref (c 1)) (.ref (c 1)) = some true) :
    GivesTo X ["_law_call", "e"] "_law_met" (defScope sMet) g cdg (defBody sMet) "_law_call" q (TTmet (c 1)) := by
  intro f c' s H Q tl act hc h
  refine ⟨_, pss_cons (ps_try_gen (X := (cxOf CX0 X.prog X.w X.K X.mg X.base ["_law_call", "e"] "_law_met" (defScope sMet) g cdg X.A X.stack s H E0).nox) (Wout := fun _ _ _ _ => False)
      (tb := fun W D σ H => ∃ Ech : XK, (∀ cls d σ' H', Ech cls d H' → W cls d σ' H') ∧ σ[0]? = some (some (.ref f)) ∧ H c' = some (CodeO c' q) ∧ tl Ech H (fun _ H' => D.nx σ H'))
      rfl rfl L2.takes0 (fun W pn xe tk _ => ?_)
      (.cons (tst_one ⟨by rfl, by decide, Or.inl M.g0⟩) (ts := fun _ _ _ => fun _ _ _ => False) (fun _ _ _ _ _ _ _ => pss_never)
      (.cons (tst_one ⟨by rfl, by decide, Or.inl M.g1⟩) (fun _ _ _ _ _ _ _ => pss_one (ps_ret pe_str))
      (.cons (tst_one ⟨by rfl, by decide, Or.inl M.g2⟩) (ts := fun _ _ _ => fun _ _ _ => False) (fun _ _ _ _ _ _ _ => pss_never)
      (.cons (tst_one ⟨by rfl, by decide, Or.inl M.g3⟩) (ts := fun _ _ _ => fun _ _ _ => False) (fun _ _ _ _ _ _ _ => pss_never)
      (.as scMe.nd (i := 1) rfl rfl (tst_one ⟨by rfl, by decide, Or.inl M.g4⟩) (ts := fun _ _ _ => fun _ _ _ => False) (fun _ _ _ _ _ _ _ => pss_never)
      (.as scMe.nd (i := 1) rfl rfl (tst_one ⟨by rfl, by decide, Or.inl M.g5⟩) (ts := fun _ _ _ => fun _ _ _ => False) (fun _ _ _ _ _ _ _ => pss_never)
      (.as scMe.nd (i := 1) rfl rfl (tst_one ⟨by rfl, by decide, Or.inl M.g6⟩) (ts := fun _ _ _ => fun _ _ _ => False) (fun _ _ _ _ _ _ _ => pss_never)
      (.as scMe.nd (i := 1) rfl rfl (tst_one ⟨by rfl, by decide, Or.inl M.g7⟩) (ts := fun _ _ _ => fun _ _ _ => False) (fun _ _ _ _ _ _ _ => pss_never)
      (.as scMe.nd (i := 1) rfl rfl (tst_one ⟨by rfl, by decide, Or.inl M.g8⟩) (ts := fun _ _ _ => fun _ _ _ => False) (fun _ _ _ _ _ _ _ => pss_never)
      (.as scMe.nd (i := 1) rfl rfl (tst_one ⟨by rfl, by decide, Or.inl M.g9⟩) (ts := fun _ _ _ => fun _ _ _ => False) (fun _ _ _ _ _ _ _ => pss_never)
      (.as scMe.nd (i := 1) rfl rfl (tst_one ⟨by rfl, by decide, Or.inl M.g10⟩) (ts := fun _ _ _ => fun _ _ _ => False) (fun _ _ _ _ _ _ _ => pss_never) .nil))))))))))))
    (pss_one (ps_ret pe_str)), ?_⟩
  · refine ⟨fun pins s' σ H' D I h' => ?_⟩
    obtain ⟨Ech, hW, h1, h2, h3⟩ := h'
    exact (pss_one (ps_expr (act W pn xe Ech _ _ tk hW))).run pins s' σ H' D I ⟨h1, h2, h3⟩
  · exact ⟨fun cls _ H' => cls = .ref (c 1) ∧ Q (.str "stretch") H', fun cls d σ' H' ⟨e1, e2⟩ => by
      subst e1
      exact ⟨false, n01, fun z => (nomatch z), fun _ => ⟨true, n11, fun _ a na => e2, fun z => (nomatch z)⟩⟩, rfl, hc, h⟩
end
end OM

namespace OM
open PySem PySem.Spec PyProof.Rows L2 LamX
/-- a def whose code object is known by its address -/
structure FunC (K : PySem.W.Frag) (x qual : Str) (st : Stmt) (f : Addr) (fd : FuncData) (cc : Addr) : Prop where
  ex : ∃ (oc : Value) (od : Option Addr) (kV doc pm : Value) (an : Option Addr) (ct : Value) (osl : Array (Option Value)),
    fd = PySem.W.fnOf x qual (defArgs st) (defBody st) (defScope st) .none kV doc pm an (.ref cc) ct ∧ K.lookup f = some ⟨oc, od, .func fd, osl⟩ ∧ PySem.W.codeIn K (.ref cc) qual = true
  kp : PySem.W.keepIn K (.ref f) = true
theorem FunC.fn {K : PySem.W.Frag} {x qual : Str} {st : Stmt} {f : Addr} {fd : FuncData} {cc : Addr} (F : FunC K x qual st f fd cc) : Fun K x qual st f fd := by
  obtain ⟨oc, od, kV, doc, pm, an, ct, osl, h⟩ := F.ex
  exact ⟨⟨oc, od, kV, doc, pm, an, _, ct, osl, h⟩, F.kp⟩
section
variable {P : Program} {w : World} {K : PySem.W.Frag} {mg : Str → Option Value} {base : Heap}
theorem gfn_ofC {x qual : Str} {st : Stmt} {g cc : Addr} {gd : FuncData} {N names : List Str} {n : Nat} {sp : Sp} (F : FunC K x qual st g gd cc) (S : FnScope N names (defScope st)) (cnt : ∀ xs H Q E, sp xs H Q E → xs.length = names.length)
    (bd : ∀ (B : Around) (out : List Env) (z : Shared) (H : Hp) (xs : List V) (Q : VK) (E : XK), B.guards = some [] → Room n (B.deeper (envOfC qual (defScope st) z.heap.objs.size g (.ref cc))) → sp xs H Q E →
      ∃ t, PSs (cxOf CX0 P w K mg base N qual (defScope st) g (.ref cc) B out z H E).nox (defBody st) t ∧ t { nx := fun _ H' => Q .non H', rt := Q } (start N xs) H) : GFn P w K mg base (n + 1) g gd names sp := by
  obtain ⟨oc, od, kV, doc, pm, an, ct, osl, rfl, lk, hcd⟩ := F.ex
  refine ⟨cnt, fun B out z H ar ws xs Q E hg hr e0 hb rv hs => ?_⟩
  have kz : ∀ b o, base.get? b = some o → z.heap.get? b = some o := fun b o e => (e0.bs b o e).1
  have Kz : K.In z.heap := e0.mod.kin.keeps kz
  have hkinds : ∀ y ∈ names.zip ws, (defScope st).names.lookup y.1 = some .local ∨ ((defScope st).names.lookup y.1 = some .cell ∧ ((cellsFrom (z.heap.objs.size + 1) (defScope st).names []).lookup y.1).isSome = true) := by
    rintro ⟨m, v⟩ hy
    refine (S.par m (List.of_mem_zip hy).1).imp id fun c => ⟨c, PySem.W.cellsFrom_some _ _ _ (.inl c)⟩
  refine codeAny_call_function hr.depth (Kz _ _ lk) rfl S.co S.gen rfl (PySem.W.codeRec_of Kz hcd) (hb _ _ _ _ ?_)
  refine wpAny_newFunctionEnv_cells S.kind hkinds fun ev hev z1 ic => ?_
  subst hev
  refine ⟨(e0.mod.nolimit.keeps kz).keeps ic.toInCall.keep, codeAny_func ?_⟩
  obtain ⟨t, ht, hq⟩ := bd B out z H xs Q E hg (hr.deeper _) hs
  refine wpAny_mono (ht.nox.run [] z1 (start N xs) H _ (inv_start (CX := CX0) (E := E) S hr.hd e0 (cnt _ _ _ _ hs) rv ic) hq) (fun fl z2 h2 => ?_) fun _ _ h2 => h2
  cases fl with
  | ret u =>
    obtain ⟨v, σ2, H2, J, r2, q2⟩ := h2
    exact ⟨v, H2, J.os, J.bare, J.base, J.hok, r2, q2⟩
  | next =>
    obtain ⟨σ2, H2, J, q2⟩ := h2
    exact ⟨V.non, H2, J.os, J.bare, J.base, J.hok, (show RelV V.non Value.none from rfl), q2⟩
  | brk =>
    obtain ⟨_, _, _, q2⟩ := h2
    cases q2
  | cont =>
    obtain ⟨_, _, _, q2⟩ := h2
    cases q2
end
section
variable {S : Addr → Prop} {H H' : Hp}
mutual
theorem Dt.ext (e : ExtN H H') : ∀ {v : V} {d : PyData}, Dt S H v d → Dt S H' v d
  | _, _, .at h => .at h
  | _, _, .lst s q hl h => .lst s (e _ _ q (fun _ z => nomatch z)) hl (DtAll.ext e h)
  | _, _, .tup s q hl h => .tup s (e _ _ q (fun _ z => nomatch z)) hl (DtAll.ext e h)
  | _, _, .dic0 s q => .dic0 s (e _ _ q (fun _ z => nomatch z))
  | _, _, .dic1 s q h => .dic1 s (e _ _ q (fun _ z => nomatch z)) h
theorem DtAll.ext (e : ExtN H H') : ∀ {vs : List V} {ds : List PyData}, DtAll S H vs ds → DtAll S H' vs ds
  | _, _, .nil => .nil
  | _, _, .cons h r => .cons (Dt.ext e h) (DtAll.ext e r)
end
theorem Dice.ext {d : Addr} (e : ExtN H H') (h : Dice H d) : Dice H' d := by
  obtain ⟨a1, a2, a3, q⟩ := h
  exact ⟨a1, a2, a3, e _ _ q (fun _ z => nomatch z)⟩
end
end OM

namespace OM
open PySem PySem.Spec PyProof.Rows L2 LamX
/-- the classes' kinship, as far as `_law_met` asks for it -/
structure MetX (K : PySem.W.Frag) (c : Nat → Addr) : Prop where
  e10 : PySem.W.exmOne K (.ref (c 1)) (.ref (c 0)) = some false
  e11 : PySem.W.exmOne K (.ref (c 1)) (.ref (c 1)) = some true
  e30 : PySem.W.exmOne K (.ref (c 3)) (.ref (c 0)) = some false
  e31 : PySem.W.exmOne K (.ref (c 3)) (.ref (c 1)) = some false
  e32 : PySem.W.exmOne K (.ref (c 3)) (.ref (c 2)) = some false
  e33 : PySem.W.exmOne K (.ref (c 3)) (.ref (c 3)) = some true
  e70 : PySem.W.exmOne K (.ref (c 7)) (.ref (c 0)) = some false
  e71 : PySem.W.exmOne K (.ref (c 7)) (.ref (c 1)) = some false
  e72 : PySem.W.exmOne K (.ref (c 7)) (.ref (c 2)) = some false
  e73 : PySem.W.exmOne K (.ref (c 7)) (.ref (c 3)) = some false
  e74 : PySem.W.exmOne K (.ref (c 7)) (.ref (c 4)) = some false
  e75 : PySem.W.exmOne K (.ref (c 7)) (.ref (c 5)) = some false
  e76 : PySem.W.exmOne K (.ref (c 7)) (.ref (c 6)) = some false
  e77 : PySem.W.exmOne K (.ref (c 7)) (.ref (c 7)) = some true
  xf : XfC K (c 7)
  no : PySem.W.findIn K (.ref (c 7)) "value" = some none
/-- what comes out of a call that `_law_met` catches: the word for it -/
def MetW (c : Nat → Addr) (Q : VK) : XK := fun cls d H' =>
  (cls = .ref (c 1) ∧ Q (.str "stretch") H') ∨ (cls = .ref (c 3) ∧ Q (.str "operation") H') ∨
  (cls = .ref (c 7) ∧ ∃ (dd : Addr) (fs : List (Str × V)) (v : V) (e : PyData) (S : Addr → Prop), d = some dd ∧ H' dd = some (.xd fs) ∧ fs.lookup ("value" : Str) = some v ∧ Dt S H' v e ∧ e.showable = true ∧ e.depth ≤ 20 ∧ e.shown.length ≤ 1000 ∧ Q (.str (("number " : Str) ++ e.shown)) H')
/-- what `_law_met` makes of a call -/
def TTm (c : Nat → Addr) : (XK → Hp → VK → Prop) → Hp → VK → Prop := fun tl H Q => tl (MetW c Q) H (fun _ H' => Q (.str "fine") H')
section
variable {Wout : WX} {D : Ends} {ok : Value → Bool → Prop} {sl : Option Nat} {ts : Addr → Value → Option Addr → TS} {r : List Cl} {cls : Value} {d : Option Addr} {σ : L2.St} {H : Hp}
theorem wt_no (h : ok cls false) (q : wTry Wout D r cls d σ H) : wTry Wout D ((ok, sl, ts) :: r) cls d σ H := by
  cases sl with
  | none => exact ⟨false, h, fun z => (nomatch z), fun _ => q⟩
  | some i => exact ⟨false, h, fun z => (nomatch z), fun _ => q⟩
theorem wt_yes (h : ok cls true) (q : ∀ a, H a = none → ts a cls d D σ H) : wTry Wout D ((ok, none, ts) :: r) cls d σ H := ⟨true, h, fun _ => q, fun z => (nomatch z)⟩
theorem wt_as {i : Nat} (h : ok cls true) (q : ∀ a, H a = none → ts a cls d (offD D i) (σ.set i (some (.ref a))) H) : wTry Wout D ((ok, some i, ts) :: r) cls d σ H := ⟨true, h, fun _ => q, fun z => (nomatch z)⟩
end
/-- a name that was just set: whatever the other slots hold -/
theorem pe_late {X : Cx} {x : Str} {pos : Pos} (i : Nat) (hN : X.N[i]? = some x := by rfl) (hv : Vis X.env.scope x := by first | exact Or.inl rfl | exact Or.inr (Or.inl rfl) | exact Or.inr (Or.inr rfl)) (hd : (x == ("__debug__" : Str)) = false := by decide) (hcd : (x == ("__classdict__" : Str)) = false := by decide) :
    PE X (.Name x pos) (fun σ H Q => ∃ (v : V) (σ0 : L2.St), σ = σ0.set i (some v) ∧ Q v H) := ⟨fun pins s σ H Q I ⟨v, σ0, e, q⟩ => by
  have l := I.len
  have li : i < X.N.length := (List.getElem?_eq_some_iff.mp hN).1
  rw [e, List.length_set] at l
  exact (pe_var hN hv hd hcd).run pins s σ H Q I ⟨v, by rw [e, List.getElem?_set_self (by omega)], q⟩⟩
section
variable {X : Cx} {g : Addr} {cdg : Value} {q : Str} {c : Nat → Addr}
theorem metX_gives (hga : X.A.guards = some []) (hua : X.A.units + 28 < cLine) (hsm : ∃ o, X.base.get? sysModules = some o) (hrep : X.mg "repr" = none) (M : MetK X.mg c) (N : MetX X.K c) :
    GivesTo X ["_law_call", "e"] "_law_met" (defScope sMet) g cdg (defBody sMet) "_law_call" q (TTm c) := by
  intro f c' s H Q tl act hc h
  have hua' : ∀ (e : Env) (o : Option Value), ((X.A.deeper e).mark o).units + 25 < cLine := fun e o => by
    show X.A.units + 3 + 25 < cLine
    omega
  have hgd : ∀ (a : Addr) (oe : Obj) (pn : List (Addr × Obj)), (Cx.suite ((cxOf CX0 X.prog X.w X.K X.mg X.base ["_law_call", "e"] "_law_met" (defScope sMet) g cdg X.A X.stack s H E0).nox) a ((a, oe) :: pn)).A.guards = some [] := fun a oe pn => hga
  have hu : ∀ (a : Addr) (oe : Obj) (pn : List (Addr × Obj)), (Cx.suite ((cxOf CX0 X.prog X.w X.K X.mg X.base ["_law_call", "e"] "_law_met" (defScope sMet) g cdg X.A X.stack s H E0).nox) a ((a, oe) :: pn)).A.units + 25 < cLine := fun a oe pn => hua' _ _
  refine ⟨_, pss_cons (ps_try_gen (X := (cxOf CX0 X.prog X.w X.K X.mg X.base ["_law_call", "e"] "_law_met" (defScope sMet) g cdg X.A X.stack s H E0).nox) (Wout := fun _ _ _ _ => False)
      (tb := fun W D σ H => ∃ Ech : XK, (∀ cls d σ' H', Ech cls d H' → W cls d σ' H') ∧ σ[0]? = some (some (.ref f)) ∧ H c' = some (CodeO c' q) ∧ tl Ech H (fun _ H' => D.nx σ H'))
      rfl rfl L2.takes0 (fun W pn xe tk _ => ?_)
      (.cons (tst_one ⟨by rfl, by decide, Or.inl M.g0⟩) (ts := fun _ _ _ => fun _ _ _ => False) (fun _ _ _ _ _ _ _ => pss_never)
      (.cons (tst_one ⟨by rfl, by decide, Or.inl M.g1⟩) (fun _ _ _ _ _ _ _ => pss_one (ps_ret pe_str))
      (.cons (tst_one ⟨by rfl, by decide, Or.inl M.g2⟩) (ts := fun _ _ _ => fun _ _ _ => False) (fun _ _ _ _ _ _ _ => pss_never)
      (.cons (tst_one ⟨by rfl, by decide, Or.inl M.g3⟩) (fun _ _ _ _ _ _ _ => pss_one (ps_ret pe_str))
      (.as scMe.nd (i := 1) rfl rfl (tst_one ⟨by rfl, by decide, Or.inl M.g4⟩) (ts := fun _ _ _ => fun _ _ _ => False) (fun _ _ _ _ _ _ _ => pss_never)
      (.as scMe.nd (i := 1) rfl rfl (tst_one ⟨by rfl, by decide, Or.inl M.g5⟩) (ts := fun _ _ _ => fun _ _ _ => False) (fun _ _ _ _ _ _ _ => pss_never)
      (.as scMe.nd (i := 1) rfl rfl (tst_one ⟨by rfl, by decide, Or.inl M.g6⟩) (ts := fun _ _ _ => fun _ _ _ => False) (fun _ _ _ _ _ _ _ => pss_never)
      (.as scMe.nd (i := 1) rfl rfl (tst_one ⟨by rfl, by decide, Or.inl M.g7⟩) (fun a oe cls d pn hz hf => pss_one (ps_ret (pe_op op_add_str pe_str (pe_callB (call_rep (hgd _ _ _) (hu _ _ _) hsm) (by rfl) hrep (by decide +kernel) (pa_cons (pe_xf N.xf N.no hz hf (pe_late 1)) pa_nil)))))
      (.as scMe.nd (i := 1) rfl rfl (tst_one ⟨by rfl, by decide, Or.inl M.g8⟩) (ts := fun _ _ _ => fun _ _ _ => False) (fun _ _ _ _ _ _ _ => pss_never)
      (.as scMe.nd (i := 1) rfl rfl (tst_one ⟨by rfl, by decide, Or.inl M.g9⟩) (ts := fun _ _ _ => fun _ _ _ => False) (fun _ _ _ _ _ _ _ => pss_never)
      (.as scMe.nd (i := 1) rfl rfl (tst_one ⟨by rfl, by decide, Or.inl M.g10⟩) (ts := fun _ _ _ => fun _ _ _ => False) (fun _ _ _ _ _ _ _ => pss_never) .nil))))))))))))
    (pss_one (ps_ret pe_str)), ?_⟩
  · refine ⟨fun pins s' σ H' D I h' => ?_⟩
    obtain ⟨Ech, hW, h1, h2, h3⟩ := h'
    exact (pss_one (ps_expr (act W pn xe Ech _ _ tk hW))).run pins s' σ H' D I ⟨h1, h2, h3⟩
  · refine ⟨MetW c Q, fun cls d σ' H' z => ?_, rfl, hc, h⟩
    rcases z with ⟨rfl, q⟩ | ⟨rfl, q⟩ | ⟨rfl, dd, fs, v, e, S, rfl, ed, lk, dt, sh, dep, len, q⟩
    · exact wt_no N.e10 (wt_yes N.e11 fun a na => q)
    · exact wt_no N.e30 (wt_no N.e31 (wt_no N.e32 (wt_yes N.e33 fun a na => q)))
    · refine wt_no N.e70 (wt_no N.e71 (wt_no N.e72 (wt_no N.e73 (wt_no N.e74 (wt_no N.e75 (wt_no N.e76 (wt_as N.e77 fun a na => ?_)))))))
      have line : (1100 : Nat) < sizeLine := by decide
      have k7 : ("number " : Str).length = 7 := by decide +kernel
      refine ⟨.ref a, σ', rfl, rfl, rfl, dd, fs, v, rfl, ed, lk, ?_⟩
      refine ⟨v, e, S, rfl, dt, sh, dep, by omega, _, _, rfl, rfl, by omega, q⟩
end
end OM

namespace OM
open PySem PySem.Spec PyProof.Rows L2
/-- an instance of C on the left, a thing of the built-in type T on the right -/
structure AddT (K : PySem.W.Frag) (C : Addr) (T : String) : Prop where
  f1 : ∃ fo, PySem.W.findIn K (.type T) "__add__" = some fo
  f2 : ∃ ro, PySem.W.findIn K (.type T) "__radd__" = some ro
  sub : PySem.W.subIn K (.type T) (.ref C) = some false
section
variable {prog : Program} {w : World} {A : Around} {E : Value → Shared → Prop} {s : Shared} {K : PySem.W.Frag} {x C f : Addr} {T : String} {ox : Obj} {od : Option Obj}
open PySem.W in
theorem bin_ownT {b : Value} {Q : Value → Shared → Prop} (X : K.In s.heap) (I : InstAt s.heap x ox C od) (hb : Looks (model prog w) s.heap (typeOf b) (.type T)) (hc : selfFirst K C = true)
    (hs : findIn K (.ref C) "__add__" = some (some (.ref f))) (hf : isFn K (.ref f) = true) (hr : findIn K (.ref C) "__radd__" = some none) (ht : AddT K C T)
    (h : wpAny (model prog w) A (call (.ref f) [.ref x, b]) (PySem.W.CmpBack Q) E s) : wpAny (model prog w) A (binaryOp .Add (.ref x) b) Q E s := by
  obtain ⟨cd, rest, hcd, hm⟩ := ksp_first hc
  obtain ⟨⟨fo, h1⟩, ⟨ro, h2⟩, hsub⟩ := ht
  have one := ksp_try (name := "__add__") X I hs hf h
  obtain ⟨hh, g, d, tt, os⟩ := s
  have tx : Looks (model prog w) hh (typeOf (.ref x)) (.ref C) := I.type
  have fl : Looks (model prog w) hh (fillsNumberSlot (.ref C) "add") true := fills_K X hcd hm hs
  have fr := ksp_fillsT (M := model prog w) (nm := "add") X h1 h2
  have su : Looks (model prog w) hh (isSubtype (.type T) (.ref C)) false := looks_subIn X hsub
  have py : Looks (model prog w) hh (numberSlotInPython (.ref C) "add") true := ksp_inPy X hs hr (.inl rfl)
  have pt : Looks (model prog w) hh (numberSlotInPython (.type T) "add") false := Looks.of_pure rfl
  have lr : Looks (model prog w) hh (typeLookup (.type T) (dunderR "add")) ro := looks_findIn X h2
  generalize ((fo.isSome && !isSeqSlot fo) || (ro.isSome && !isSeqSlot ro)) = right at fr
  have hne : (Value.ref C == Value.type T) = false := Bool.eq_false_iff.mpr fun q => by cases beq_iff_eq.mp q
  unfold binaryOp
  refine wpAny_holding (wpAny_bind ?_)
  unfold binaryOp1
  refine wpAny_bind (tx.at (wpAny_bind (hb.at (wpAny_bind (fl.at ?_)))))
  simp only [hne, Bool.false_eq_true, if_false]
  cases right
  all_goals
    ksp_lk
    refine wpAny_mono one (fun r s' hr' => ?_) fun _ _ z => z
    obtain ⟨v, rfl, hq⟩ := hr'
    ksp_lk
    exact hq
end
section
variable {X : Cx} {CX : CXT} {k : Nat} {C f : Addr} {fd : FuncData} {sp : Sp} {E : XK}
def rAddW (K : PySem.W.Frag) (C : Addr) (sp : Sp) (E : XK) : V → V → Hp → VK → Prop := fun x y H _ => ∃ (a dx : Addr) (fs : List (Str × V)) (T : String), x = .ref a ∧ H a = some (.ins C dx fs) ∧ TyX K H y (.type T) ∧ AddT K C T ∧ sp [.ref a, y] H (fun _ _ => False) E
/-- a + y that raises: a an instance of C, y a thing of a built-in type -/
theorem op_addW (hs : PySem.W.findIn X.K (.ref C) "__add__" = some (some (.ref f))) (hf : PySem.W.isFn X.K (.ref f) = true) (hc : PySem.W.selfFirst X.K C = true) (hr0 : PySem.W.findIn X.K (.ref C) "__radd__" = some none)
    (F : FnOk X.prog X.w X.K X.mg X.base CX k f fd ["self", "other"] sp) (hr : Room k X.A) (hb : Binds X.K fd ["self", "other"] []) (hx : Passes CX X E) :
    OpR X (binaryOp .Add) (rAddW X.K C sp E) := by
  intro pins s σ H x y v u Q I rx ry h
  obtain ⟨a, dx, fs, T, rfl, ea, ty, ht, q⟩ := h
  obtain rfl : v = Value.ref a := rx
  obtain ⟨_, O, _⟩ := ins_get I.hok ea
  obtain ⟨od, J, _⟩ := O.look
  obtain ⟨P, Z, p, hp⟩ := kit_of I ry ty
  refine bin_ownT I.kIn J (Z.ty _ _ I.kIn p) hc hs hf hr0 ht ?_
  have hbt := hb s [.ref a, u] I.kIn rfl
  refine wpAny_call (codeAny_mono (F.run X.A X.stack s H ⟨[.ref a, u], []⟩ [.ref a, u] [.ref a, y] _ E hr I.env0 (by simpa using hbt) (.cons rfl (.cons ry .nil)) q) fun res z' hq => ?_)
  match res, hq with
  | .ok (.ret w), hq =>
    obtain ⟨_, _, _, _, q3⟩ := I.after hq
    exact q3.elim
  | .error er, hq => exact hx pins σ H s er z' I hq
/-- x[i] that may raise, by an own __getitem__ -/
theorem pe_ixOwnX {e i : Expr} {pos : Pos} {te ti : TE} (hsp : PySem.W.findIn X.K (.ref C) "__getitem__" = some (some (.ref f))) (hf : PySem.W.isFn X.K (.ref f) = true) (hfn : PySem.W.fnIn X.K f = true) (F : FnOk X.prog X.w X.K X.mg X.base CX k f fd ["self", "at"] sp)
    (hr : Room (k + 1) X.A) (hb : Binds X.K fd ["self", "at"] []) (hx : Passes CX X E) (he : PE X e te) (hi : PE X i ti)
    (hsl : ∀ (a : Addr) (u : Value), subscripted i true (.ref a) u = runValue (.builtin "lifetime.subscript" ⟨[.ref a, u], []⟩) := by intro _ _; with_unfolding_all rfl) :
    PE X (.Subscript e i pos) (tOp (fun x y H Q => ∃ (a dx : Addr) (fs : List (Str × V)), x = .ref a ∧ H a = some (.ins C dx fs) ∧ sp [.ref a, y] H Q E) te ti) := by
  refine ⟨fun pins s σ H Q I h => ?_⟩
  refine Subscript_ (binT he hi I h fun v u s2 x y H2 I2 rx ry q => ?_)
  obtain ⟨a, dx, fs, rfl, ea, q⟩ := q
  obtain rfl : v = Value.ref a := rx
  obtain ⟨_, Ob, _⟩ := ins_get I2.hok ea
  obtain ⟨od, J, _⟩ := Ob.look
  obtain ⟨m, fr⟩ := I2.fr
  refine PySem.W.sub_K fr I2.ok.mod.kin J hsp hfn hf ?_ (hsl _ _)
  refine wpAny_call (codeAny_mono (F.run X.A.in1 X.stack s2 H2 ⟨[.ref a, u], []⟩ [.ref a, u] [.ref a, y] _ E hr.in1 I2.env0.in1 (bind_at hb I2 _ rfl) (.cons rfl (.cons ry .nil)) q) fun res z' hq => ?_)
  match res, hq with
  | .ok (.ret w), hq => exact I2.after hq
  | .error er, hq => exact hx pins σ H2 s2 er z' I2 hq
end
end OM

namespace OM
open PySem PySem.Spec PyProof.Rows L2
abbrev sNI : Stmt := inStK 10 0
theorem ok_cop {P : Program} {w : World} {K : PySem.W.Frag} {mg : Str → Option Value} {base : Heap} {f : Addr} {fd : FuncData} (F : Fun K "_copied" "_copied" sCop f fd) (T : TxtC mg) (gC : mg "_copied" = some (.ref f)) (bC : Binds K fd ["value"] []) :
    ∀ n, FnOk P w K mg base CX0 n f fd ["value"] (spCop n)
  | 0 => ⟨fun _ _ _ _ h => h.elim, fun _ _ _ _ _ _ _ _ _ _ _ _ _ h => h.elim⟩
  | n + 1 => cop_step F T gC bC (ok_cop F T gC bC n)
def Has (H0 H : Hp) (a dx : Addr) (fs : List (Str × V)) (fds : List (Str × PyData)) : Prop := ∀ f d, fds.lookup f = some d → ∃ v, fs.lookup f = some v ∧ Dt (fun b => H0 b = none ∧ b ≠ dx) H v d
def Made (H0 : Hp) (a C : Addr) (fds : List (Str × PyData)) (H : Hp) : Prop := But a H0 H ∧ ∃ dx fs, H a = some (exo a C (some dx)) ∧ H dx = some (exd dx fs) ∧ H0 dx = none ∧ dx ≠ a ∧ fs.length ≤ 900 ∧ Has H0 H a dx fs fds
def spI1 (K : PySem.W.Frag) (B : String) (f : Str) (n : Nat) : Sp := fun vs H Q _ => ∃ (a C : Addr) (x : V) (d : PyData) (S : Addr → Prop), vs = [.ref a, x] ∧ Raw K B [f] a C H ∧ Dt S H x d ∧ d.depth ≤ n ∧ ∀ H', Made H a C [(f, d)] H' → Q .non H'
theorem has_first {H H4 : Hp} {a C dx : Addr} {f : Str} {d : PyData} {v' : V} (ea : H a = some (exo a C none)) (sm : Same H H4) (dt : Dt (fun b => H b = none) H4 v' d) (n : H4 dx = none) (ne : dx ≠ a) :
    Has H (upd (upd H4 dx (exd dx [(f, v')])) a (exo a C (some dx))) a dx [(f, v')] [(f, d)] := fun g e hg => by
  by_cases hgf : g = f
  · subst hgf
    obtain rfl : d = e := by simpa using hg
    have nb : ∀ {b : Addr} {o : HO}, H b = none → H4 b = some o → b ≠ a ∧ b ≠ dx := fun {b o} hb e => ⟨fun z => (by rw [z, ea] at hb; cases hb), ne_of_none e n⟩
    refine ⟨v', by simp, dt.strong fun b o hb e => ⟨⟨hb, (nb hb e).2⟩, by rw [upd_ne (nb hb e).1, upd_ne (nb hb e).2]; exact e⟩⟩
  · rw [List.lookup_cons] at hg
    have z : (g == f) = false := by simpa using hgf
    rw [z] at hg
    cases hg
theorem but_first {H H4 : Hp} {a dx : Addr} {o1 o2 : HO} (sm : Same H H4) (n : H4 dx = none) : But a H (upd (upd H4 dx o1) a o2) := fun b o hb e => by
  rw [upd_ne hb, upd_ne (ne_of_none e (sm.free n))]
  exact sm b o e
theorem made_first {H H4 : Hp} {a C dx : Addr} {f : Str} {d : PyData} {v' : V} (ea : H a = some (exo a C none)) (sm : Same H H4) (dt : Dt (fun b => H b = none) H4 v' d) (n : H4 dx = none) (ne : dx ≠ a) :
    Made H a C [(f, d)] (upd (upd H4 dx (exd dx [(f, v')])) a (exo a C (some dx))) :=
  ⟨but_first sm n, dx, [(f, v')], upd_same, by rw [upd_ne ne, upd_same], sm.free n, ne, (by show 1 ≤ 900; decide), has_first ea sm dt n ne⟩
structure CopF (K : PySem.W.Frag) (mg : Str → Option Value) (fC : Addr) (fdC : FuncData) : Prop where
  F : Fun K "_copied" "_copied" sCop fC fdC
  T : TxtC mg
  g : mg "_copied" = some (.ref fC)
  b : Binds K fdC ["value"] []
section
variable {P : Program} {w : World} {K : PySem.W.Frag} {mg : Str → Option Value} {base : Heap} {f fC : Addr} {fd fdC : FuncData}
theorem scNI2 : FnScope ["self", "value"] ["self", "value"] (defScope sNI) := ⟨rfl, rfl, rfl, by decide +kernel, rfl, by decide +kernel, by decide +kernel⟩
theorem ok_i9 {n : Nat} (F : Fun K "__init__" "InvalidNumber.__init__" sNI f fd) (cf : CopF K mg fC fdC) (b : BIn K mg "RuntimeError" "RuntimeError" "RuntimeError.__init__") : FnOk P w K mg base CX0 (n + 2) f fd ["self", "value"] (spI1 K "RuntimeError" "value" n) := by
  refine F.ok scNI2 (fun vs H Q E h => ?_) (fun cdv A outer s H vs Q E hr h => ?_)
  · obtain ⟨a, C, x, d, S, rfl, _⟩ := h
    rfl
  · obtain ⟨a, C, x, d, S, rfl, ⟨tail, T, hB, ea, hno⟩, hd, hdep, q⟩ := h
    have G : FnOk P w K mg base CX0 (n + 1) fC fdC ["value"] (spCop (n + 1)) := ok_cop cf.F cf.T cf.g cf.b (n + 1)
    refine ⟨_, pss_cons (ps_expr (pe_binit base_RE (by rfl) b.mg (by decide +kernel) b.v (by decide +kernel) (pa_cons (pv 0) (pa_cons (pv 1) pa_nil))))
      (pss_one (ps_ostB (pv 0) (pe_call G hr rfl cf.g cf.F.kp cf.b .nil pass0 (pa_cons (pv 1) pa_nil)))), ?_⟩
    refine ⟨_, rfl, _, rfl, a, C, tail, [x], rfl, (by show 1 ≤ 1000; decide), T, hB, ea, ?_⟩
    refine ⟨_, rfl, S, x, d, rfl, hd, hdep, fun H4 v' sm dt => ⟨_, rfl, a, C, tail, rfl, T, hno _ (List.mem_cons_self ..), .inl ⟨sm _ _ ea, fun dx n1 ne => ?_⟩⟩⟩
    exact q _ (made_first ea sm dt n1 ne)
end
def OutD (E : XK) (C : Addr) (H : Hp) (fds : List (Str × PyData)) : Prop := ∀ H' dx fs, Same H H' → H dx = none → H' dx = some (.xd fs) → Has H H' dx dx fs fds → E (.ref C) (some dx) H'
theorem mkR_of {E : XK} {H H2 : Hp} {a C : Addr} {fds : List (Str × PyData)} (h : H a = none) (M : Made (upd H a (exo a C none)) a C fds H2) (q : OutD E C H fds) : MkR C H E a H2 := by
  obtain ⟨bt, dx, fs, ea, ed, hdx, ne, hl, hs⟩ := M
  rw [upd_ne ne] at hdx
  refine .inr ⟨dx, fs, ea, ed, hdx, q _ dx fs (fun b o e => ?_) hdx upd_same (fun f d hf => ?_)⟩
  · rw [upd_ne (ne_of_none e hdx), del_ne (ne_of_none e h)]
    exact bt b o (ne_of_none e h) (by rw [upd_ne (ne_of_none e h)]; exact e)
  · obtain ⟨v, e1, e2⟩ := hs f d hf
    refine ⟨v, e1, e2.strong fun b o hb eo => ?_⟩
    have nb : b ≠ a := fun z => by
      rw [z, upd_same] at hb
      exact nomatch hb.1
    refine ⟨⟨by rw [← upd_ne nb (H := H)]; exact hb.1, hb.2⟩, ?_⟩
    rw [upd_ne hb.2, del_ne nb]
    exact eo
theorem mk9 {K : PySem.W.Frag} {n : Nat} {E : XK} {H : Hp} {C fI : Addr} {x : V} {d : PyData} {S : Addr → Prop} (k : KCls K C fI "RuntimeError" ["value"]) (hd : Dt S H x d) (hn : d.depth ≤ n) (q : OutD E C H [("value", d)]) :
    [x].length ≤ 1000 ∧ ∀ a, H a = none → spI1 K "RuntimeError" "value" n (.ref a :: ([x] ++ [])) (upd H a (exo a C none)) (fun v H2 => v = .non ∧ MkR C H E a H2) E0 :=
  ⟨(by show 1 ≤ 1000; decide), fun a h => ⟨a, C, x, d, S, rfl, k.raw upd_same, hd.mv (fun _ z => z) (fun b o _ e => same_upd h b o e), hn, fun H2 M => ⟨rfl, mkR_of h M q⟩⟩⟩
end OM

namespace OM
open PySem PySem.Spec PyProof.Rows L2
theorem pe_never {X : Cx} {e : Expr} : PE X e (fun _ _ _ => False) := ⟨fun _ _ _ _ _ _ h => h.elim⟩
/-- an instance of the class at C -/
def InsD (K : PySem.W.Frag) (C : Addr) (H : Hp) (v : V) : Prop := ∃ (a dx : Addr) (fs : List (Str × V)), v = .ref a ∧ H a = some (.ins C dx fs) ∧ TyX K H (.ref a) (.ref C)
def spNestI (K : PySem.W.Frag) (C : Addr) : Sp := fun vs H Q _ => ∃ (v u w : V), vs = [v, u, w] ∧ InsD K C H v ∧ ∀ H', Same H H' → Q (.bl false) H'
def spCodeI (K : PySem.W.Frag) (C : Addr) : Sp := fun vs H Q _ => ∃ v : V, vs = [v] ∧ InsD K C H v ∧ ∀ H', Same H H' → Q (.bl false) H'
def spSII (K : PySem.W.Frag) (C cS : Addr) : Sp := fun vs H Q E => ∃ (p : Addr) (v k : V), vs = [.ref p, v, k] ∧ InsD K C H v ∧ OutN E cS H
def spKeepW (C cO : Addr) : Sp := fun vs H Q E => ∃ (S : Addr → Prop) (a dx : Addr) (c k n : V) (d : PyData), vs = [.ref a, n] ∧ H a = some (insS C dx c k) ∧ Dt S H n d ∧ smlD d = true ∧
  (keptD d = true → ∀ H' x dz, Same H H' → H x = none → H' x = some (insS C dz c n) → Q (.ref x) H') ∧ (keptD d = false → OutN E cO H)
def spAddW (K : PySem.W.Frag) (C cS : Addr) : Sp := fun vs H _ E => ∃ (a : Addr) (y : V) (t : Value), vs = [.ref a, y] ∧ TyX K H y t ∧ PySem.W.kitOne K t (.ref C) = some false ∧ OutN E cS H
def spWholeD : Sp := fun vs H Q _ => ∃ (S : Addr → Prop) (v : V) (d : PyData), vs = [v] ∧ Dt S H v d ∧ ∀ H', Same H H' → Q (.bl (match d with | .int _ => true | _ => false)) H'
def numB (lo hi : Int) : PyData → Bool
  | .int i => decide (lo ≤ i) && decide (i ≤ hi)
  | _ => false
def spNumD : Sp := fun vs H Q _ => ∃ (S : Addr → Prop) (v : V) (d : PyData) (lo hi : Int), vs = [v, .int lo, .int hi] ∧ Dt S H v d ∧ ∀ H', Same H H' → Q (.bl (numB lo hi d)) H'
def spGetW (K : PySem.W.Frag) (C cN : Addr) : Sp := fun vs H _ E => ∃ (S : Addr → Prop) (a : Addr) (ds : List PyData) (ks : List Str) (v : V) (d : PyData), vs = [.ref a, v] ∧ StI K C H a ds ks ∧ Dt S H v d ∧ numB 0 ((ds.length : Int) - 1) d = false ∧ d.depth ≤ 4 ∧ OutD E cN H [("value", d)]
theorem kit_int (d : PyData) : kitB (tyN d) "int" = some (match d with | .int _ => true | .bool _ => true | _ => false) := by
  have k0 : kitB "NoneType" "int" = some false := by decide +kernel
  have k1 : kitB "bool" "int" = some true := by decide +kernel
  have k2 : kitB "int" "int" = some true := by decide +kernel
  have k3 : kitB "str" "int" = some false := by decide +kernel
  have k4 : kitB "list" "int" = some false := by decide +kernel
  have k5 : kitB "tuple" "int" = some false := by decide +kernel
  have k6 : kitB "dict" "int" = some false := by decide +kernel
  cases d <;> assumption
section
variable {P : Program} {w : World} {K : PySem.W.Frag} {mg : Str → Option Value} {base : Heap} {f fN fO fK fW C cS cO : Addr} {fd dN dO dK dW : FuncData}
theorem ok_nestI {dvs : List V} (F : FunD K "is_nested_code" "is_nested_code" (defArgs sNested) (defBody sNested) (defScope sNested) dvs [] f fd) (T : TxtN K mg) (TF : TxtF K w mg) (kT : PySem.W.kitOne K (.ref C) (.type "tuple") = some false) :
    FnOk P w K mg base CX0 13 f fd ["value", "depth", "shows"] (spNestI K C) := by
  refine F.ok scNe (fun vs H Q E h => ?_) (fun cdv A outer s H vs Q E hr h => ?_)
  · obtain ⟨v, u, z, rfl, _⟩ := h
    rfl
  · obtain ⟨v, u, z, rfl, ⟨a, dx, fs, rfl, ea, ty⟩, q⟩ := h
    refine ⟨_, pss_one (ps_ret (pe_and (pe_callB call_isi (by rfl) T.isi (by decide +kernel) (pa_cons (pv 0) (pa_cons (pe_bltn (v := .ty "tuple") (u := .type "tuple") (by rfl) TF.tup (by decide +kernel) rfl) pa_nil))) (pe_one pe_never))), ?_⟩
    exact ⟨_, rfl, .ref a, .ty "tuple", .ref C, .type "tuple", false, rfl, .ty _, ty, kT, _, rfl, iteF (q H (Same.refl H))⟩
theorem ok_codeI {fS fF fI : Addr} {dS dF dI : FuncData} (F : Fun K "is_code" "is_code" sIsCode f fd) (CF : CodeF K mg fN fS fF fI dN dS dF dI) (TF : TxtF K w mg) (gD : ∃ t, mg "MAX_DEPTH" = some (.int 3 t)) (kT : PySem.W.kitOne K (.ref C) (.type "tuple") = some false) : FnOk P w K mg base CX0 14 f fd ["value"] (spCodeI K C) := by
  have G : FnOk P w K mg base CX0 13 fN dN ["value", "depth", "shows"] (spNestI K C) := ok_nestI CF.FN CF.T TF kT
  obtain ⟨t, g3⟩ := gD
  obtain ⟨dsN, rN, bN1⟩ := CF.bN1
  refine F.ok scIC (fun vs H Q E h => ?_) (fun cdv A outer s H vs Q E hr h => ?_)
  · obtain ⟨v, rfl, _⟩ := h
    rfl
  · obtain ⟨v, rfl, i, q⟩ := h
    exact ⟨_, pss_one (ps_ret (pe_call G hr (by rfl) CF.gN CF.FN.kp bN1 rN pass0 (pa_cons (pv 0) (pa_cons (pe_glob (v := .int 3) (by rfl) g3 ⟨t, rfl⟩) pa_nil)))), _, rfl, v, _, _, rfl, i, q⟩
theorem ok_sinitI {dvs : List V} {fI fIC : Addr} {dI dIC : FuncData} (F : FunD K "__init__" "Stretch.__init__" (defArgs sSI) (defBody sSI) (defScope sSI) dvs [] f fd) (kS : KCls K cS fI "ValueError" []) (gcS : mg "InvalidStretch" = some (.ref cS))
    (GI : FnOk P w K mg base CX0 1 fI dI ["self", "why"] (spI0 K "ValueError")) (bI : Binds K dI ["self", "why"] []) (gIC : mg "is_code" = some (.ref fIC)) (kIC : PySem.W.keepIn K (.ref fIC) = true) (bIC : Binds K dIC ["value"] []) (GIC : FnOk P w K mg base CX0 14 fIC dIC ["value"] (spCodeI K C)) :
    FnOk P w K mg base (L2.CX P w) 15 f fd ["self", "code", "keeps"] (spSII K C cS) := by
  refine F.ok scSI (fun vs H Q E h => ?_) (fun cdv A outer s H vs Q E hr h => ?_)
  · obtain ⟨p, v, k, rfl, _⟩ := h
    rfl
  · obtain ⟨p, v, k, rfl, i, e⟩ := h
    refine ⟨_, pss_cons (ps_if (pt_not (pt_val (pe_call GIC hr (by rfl) gIC kIC bIC .nil pass0 (pa_cons (pv 1) pa_nil)))) (pss_one (ps_raise rfl (takes_of rfl rfl rfl rfl) (pmk_B (Classical.choose_spec kS.made).1 GI (hr.mono (by decide)) (by rfl) gcS bI .nil pass0 (pa_cons pe_str pa_nil)))) pss_nil)
      pss_never, ?_⟩
    exact ⟨_, rfl, v, rfl, i, fun H1 s1 => ⟨_, rfl, iteT (mk0 kS fun H' s' => e H' (s1.trans s'))⟩⟩
theorem ok_keepW {fI : Addr} {dI : FuncData} (F : Fun K "keeping" "Stretch.keeping" sKeeping f fd) (T : StrT K mg C) (kO : KCls K cO fI "ValueError" []) (gcO : mg "InvalidOperation" = some (.ref cO)) (GI : FnOk P w K mg base CX0 1 fI dI ["self", "why"] (spI0 K "ValueError")) (bI : Binds K dI ["self", "why"] [])
    (gK : mg "is_kept" = some (.ref fK)) (kK : PySem.W.keepIn K (.ref fK) = true) (bK : Binds K dK ["value"] []) (GK : FnOk P w K mg base CX0 3 fK dK ["value"] spKept)
    (gO : mg "stretch_of" = some (.ref fO)) (kO' : PySem.W.keepIn K (.ref fO) = true) (bO : Binds K dO ["code", "keeps"] []) (GO : FnOk P w K mg base CX0 17 fO dO ["code", "keeps"] (spOf C)) : FnOk P w K mg base (L2.CX P w) 18 f fd ["self", "names"] (spKeepW C cO) := by
  refine F.okX scKg (fun vs H Q E h => ?_) (fun cdv A outer s H vs Q E hr h => ?_)
  · obtain ⟨S, a, dx, c, k, n, d, rfl, _⟩ := h
    rfl
  · obtain ⟨S, a, dx, c, k, n, d, rfl, ea, hd, sm, q, e⟩ := h
    refine ⟨_, pss_cons (ps_if (pt_not (pt_val (pe_call GK (hr.mono (by decide)) (by rfl) gK kK bK .nil pass0 (pa_cons (pv 1) pa_nil)))) (pss_one (ps_raise rfl (takes_of rfl rfl rfl rfl) (pmk_B (Classical.choose_spec kO.made).1 GI (hr.mono (by decide)) (by rfl) gcO bI .nil pass0 (pa_cons pe_str pa_nil)))) pss_nil)
      (pss_one (ps_ret (pe_call GO hr (by rfl) gO kO' bO .nil pass0 (pa_cons (pe_fld (pv 0) rfl) (pa_cons (pv 1) pa_nil))))), ?_⟩
    refine ⟨_, rfl, S, n, d, rfl, hd, sm, fun H1 s1 => ⟨_, rfl, ?_⟩⟩
    cases hk : keptD d with
    | false => exact iteT (mk0 kO fun H' s' => e hk H' (s1.trans s'))
    | true =>
      refine iteF ⟨_, rfl, a, C, dx, _, c, rfl, s1 _ _ ea, T.cl, T.nc, rfl, _, rfl, c, n, rfl, fun H2 x dz s2 nx e2 => ?_⟩
      exact q hk H2 x dz (s1.trans s2) (s1.free nx) e2
theorem ok_addW {fI : Addr} {dI : FuncData} (F : Fun K "__add__" "Stretch.__add__" sAddM f fd) (gSt : mg "Stretch" = some (.ref C)) (isi : mg "isinstance" = none) (kS : KCls K cS fI "ValueError" []) (gcS : mg "InvalidStretch" = some (.ref cS)) (GI : FnOk P w K mg base CX0 1 fI dI ["self", "why"] (spI0 K "ValueError")) (bI : Binds K dI ["self", "why"] []) :
    FnOk P w K mg base (L2.CX P w) 3 f fd ["self", "other"] (spAddW K C cS) := by
  refine F.okX scAd (fun vs H Q E h => ?_) (fun cdv A outer s H vs Q E hr h => ?_)
  · obtain ⟨a, y, t, rfl, _⟩ := h
    rfl
  · obtain ⟨a, y, t, rfl, ty, no, e⟩ := h
    refine ⟨_, pss_cons (ps_if (pt_not (pt_val (pe_callB call_isi (by rfl) isi (by decide +kernel) (pa_cons (pv 1) (pa_cons (pe_glob (v := .ref C) (by rfl) gSt rfl) pa_nil))))) (pss_one (ps_raise rfl (takes_of rfl rfl rfl rfl) (pmk_B (Classical.choose_spec kS.made).1 GI hr (by rfl) gcS bI .nil pass0 (pa_cons pe_str pa_nil)))) pss_nil)
      pss_never, ?_⟩
    exact ⟨_, rfl, y, .ref C, t, .ref C, false, rfl, .own C, ty, no, _, rfl, iteT (mk0 kS e)⟩
theorem ok_wholeD (F : Fun K "is_whole" "is_whole" sWhole f fd) (isi : mg "isinstance" = none) (it : mg "int" = none) (bo : mg "bool" = none) : FnOk P w K mg base CX0 1 f fd ["value"] spWholeD := by
  refine F.ok scWh (fun vs H Q E h => ?_) (fun cdv A outer s H vs Q E hr h => ?_)
  · obtain ⟨S, v, d, rfl, _⟩ := h
    rfl
  · obtain ⟨S, v, d, rfl, hd, q⟩ := h
    refine ⟨_, pss_one (ps_ret (pe_and (pe_callB call_isi (by rfl) isi (by decide +kernel) (pa_cons (pv 0) (pa_cons (pe_bltn (v := .ty "int") (u := .type "int") (by rfl) it (by decide +kernel) rfl) pa_nil)))
      (pe_one (pe_not (pe_callB call_isi (by rfl) isi (by decide +kernel) (pa_cons (pv 0) (pa_cons (pe_bltn (v := .ty "bool") (u := .type "bool") (by rfl) bo (by decide +kernel) rfl) pa_nil))))))), ?_⟩
    have q := q H (Same.refl H)
    refine isi_te (x := v) rfl hd.tyx (kit_int d) ⟨_, rfl, ?_⟩
    cases d with
    | int i => exact iteT (isi_te (x := v) rfl hd.tyx (r := false) (show kitB "int" "bool" = some false by decide +kernel) ⟨_, rfl, q⟩)
    | bool b => exact iteT (isi_te (x := v) rfl hd.tyx (r := true) (show kitB "bool" "bool" = some true by decide +kernel) ⟨_, rfl, q⟩)
    | _ => exact iteF q
theorem ok_numD (F : Fun K "is_number" "is_number" sNumber f fd) (gW : mg "is_whole" = some (.ref fW)) (kW : PySem.W.keepIn K (.ref fW) = true) (bW : Binds K dW ["value"] []) (GW : FnOk P w K mg base CX0 1 fW dW ["value"] spWholeD) : FnOk P w K mg base CX0 2 f fd ["value", "low", "high"] spNumD := by
  refine F.ok scNu (fun vs H Q E h => ?_) (fun cdv A outer s H vs Q E hr h => ?_)
  · obtain ⟨S, v, d, lo, hi, rfl, _⟩ := h
    rfl
  · obtain ⟨S, v, d, lo, hi, rfl, hd, q⟩ := h
    refine ⟨_, pss_one (ps_ret (pe_and (pe_call GW hr (by rfl) gW kW bW .nil pass0 (pa_cons (pv 0) pa_nil)) (pe_one (pe_chain op_le op_le (pv 1) (pv 0) (pv 2))))), ?_⟩
    refine ⟨_, rfl, S, v, d, rfl, hd, fun H1 s1 => ⟨_, rfl, ?_⟩⟩
    have q := q H1 s1
    cases d with
    | int i =>
      obtain rfl : v = .int i := by
        cases hd with
        | «at» a => cases a; rfl
      refine iteT ⟨_, rfl, _, rfl, lo, i, rfl, rfl, _, rfl, ?_⟩
      have q : Q (.bl (decide (lo ≤ i) && decide (i ≤ hi))) H1 := q
      cases h1 : decide (lo ≤ i) with
      | true =>
        rw [h1, Bool.true_and] at q
        exact iteT ⟨_, rfl, i, hi, rfl, rfl, q⟩
      | false =>
        rw [h1, Bool.false_and] at q
        exact iteF q
    | _ => exact iteF q
theorem ok_getW {fI cN : Addr} {dI : FuncData} (F : Fun K "__getitem__" "Stretch.__getitem__" sGetItem f fd) (T : StrT K mg C) (ln : mg "len" = none) (gN : mg "is_number" = some (.ref fN)) (kN : PySem.W.keepIn K (.ref fN) = true) (bN : Binds K dN ["value", "low", "high"] []) (GN : FnOk P w K mg base CX0 2 fN dN ["value", "low", "high"] spNumD)
    (kC : KCls K cN fI "RuntimeError" ["value"]) (gcN : mg "InvalidNumber" = some (.ref cN)) (GI : FnOk P w K mg base CX0 6 fI dI ["self", "value"] (spI1 K "RuntimeError" "value" 4)) (bI : Binds K dI ["self", "value"] []) :
    FnOk P w K mg base (L2.CX P w) 8 f fd ["self", "at"] (spGetW K C cN) := by
  refine F.okX scGI (fun vs H Q E h => ?_) (fun cdv A outer s H vs Q E hr h => ?_)
  · obtain ⟨S, a, ds, ks, v, d, rfl, _⟩ := h
    rfl
  · obtain ⟨S, a, ds, ks, v, d, rfl, ⟨dx, kb, c, ea, hd, hk, rows, size, lk⟩, dv, no, dep, e⟩ := h
    refine ⟨_, pss_cons (ps_if (pt_not (pt_val (pe_call GN (hr.mono (by decide)) (by rfl) gN kN bN .nil pass0 (pa_cons (pv 1) (pa_cons pe_int (pa_cons (pe_op op_sub (pe_callB call_len_seq (by rfl) ln PySem.boot_len (pa_cons (pe_fld (pv 0) rfl) pa_nil)) pe_int) pa_nil))))))
        (pss_one (ps_raise rfl (takes_of rfl rfl rfl rfl) (pmk_B (Classical.choose_spec kC.made).1 GI hr (by rfl) gcN bI .nil pass0 (pa_cons (pv 1) pa_nil)))) pss_nil)
      pss_never, ?_⟩
    obtain ⟨b, xs, rfl, eb, hl, hx⟩ := hd.tup_of
    have lx := hx.length
    refine ⟨_, rfl, _, rfl, a, C, dx, _, _, rfl, ea, T.cl, T.nc, rfl, b, xs, rfl, .inr (SqT.of eb), _, _, rfl, rfl, S, v, d, 0, (xs.length : Int) - 1, rfl, dv, fun H1 s1 => ⟨_, rfl, ?_⟩⟩
    rw [lx, no]
    refine iteT ⟨_, rfl, mk9 kC (dv.mv (fun _ z => z) fun b o _ z => s1 b o z) dep fun H' dx' fs s' n' e' hs => ?_⟩
    exact e H' dx' fs (s1.trans s') (s1.free n') e' fun g y hg => by
      obtain ⟨z, z1, z2⟩ := hs g y hg
      exact ⟨z, z1, z2.mv (fun b zb => ⟨s1.free zb.1, zb.2⟩) fun _ _ _ z => z⟩
end
end OM

namespace OM
open PySem PySem.Spec PyProof.Rows L2
abbrev sRCode : Stmt := top 36
abbrev sRStmt : Stmt := top 37
abbrev sRPart : Stmt := top 38
/-- a dict that has a text for each of these names -/
def NmD (H : Hp) (a : Addr) (ns : List Str) : Prop := ∃ kvs : List (Key × V), H a = some (.dK kvs) ∧ ∀ x ∈ ns, ∃ y : Str, valV kvs (.inr x) = some (.str y)
theorem NmD.mv {H H' : Hp} {a : Addr} {ns : List Str} (h : NmD H a ns) (s : Same H H') : NmD H' a ns := by
  obtain ⟨kvs, e, q⟩ := h
  exact ⟨kvs, s _ _ e, q⟩
theorem NmD.get {H : Hp} {a : Addr} {ns : List Str} {x : Str} (h : NmD H a ns) (hx : x ∈ ns) : ∃ y : Str, DGet H a (.str x) (some (.str y)) := by
  obtain ⟨kvs, e, q⟩ := h
  obtain ⟨y, z⟩ := q x hx
  have g := DGet.k (k := .inr x) e
  rw [z] at g
  exact ⟨y, g⟩
/-- the names of these statements are among cs and rs -/
def Cov (l : List PyData) (cs rs : List Str) : Prop := (∀ x ∈ l.flatMap (namesD "cell"), x ∈ cs) ∧ (∀ x ∈ l.flatMap (namesD "register"), x ∈ rs)
def CovP (n : Nat) (cs rs : List Str) (part : PyData) (role : Str) : Prop := (role = "code" → ∀ m ds, n = m + 1 → part = .tuple ds → Cov (flatN m ds) cs rs) ∧ (∀ x ∈ nmD "cell" part role, x ∈ cs) ∧ (∀ x ∈ nmD "register" part role, x ∈ rs)
theorem Cov.sub {l k : List PyData} {cs rs : List Str} (h : Cov l cs rs) (s : ∀ x ∈ k, x ∈ l) : Cov k cs rs :=
  ⟨fun x hx => by
    obtain ⟨d, hd, hm⟩ := List.mem_flatMap.mp hx
    exact h.1 x (List.mem_flatMap.mpr ⟨d, s d hd, hm⟩), fun x hx => by
    obtain ⟨d, hd, hm⟩ := List.mem_flatMap.mp hx
    exact h.2 x (List.mem_flatMap.mpr ⟨d, s d hd, hm⟩)⟩
theorem form_code {w : Str} {rl : List Str} (h : formOf w = some rl) (m : ("code" : Str) ∈ rl) : w = "if" := by
  unfold formOf at h
  repeat' split at h
  all_goals first
    | cases h; done
    | assumption
    | (cases h; exact absurd m (by decide +kernel))
theorem own_part {role w : Str} {rest : List PyData} {rl : List Str} {i : Nat} {part : PyData} {r0 : Str} (hf : formOf w = some rl) (h1 : rest[i]? = some part) (h2 : rl[i]? = some r0) {x : Str} (hx : x ∈ nmD role part r0) : x ∈ namesD role (.tuple (.str w :: rest)) := by
  have eL : namesD role (.tuple (.str w :: rest)) = (List.zipWith (nmD role) rest rl).flatten := by
    show (match formOf w with | some rs => (List.zipWith (nmD role) rest rs).flatten | none => []) = _
    rw [hf]
  rw [eL]
  refine List.mem_flatten.mpr ⟨nmD role part r0, List.mem_of_getElem? (i := i) ?_, hx⟩
  rw [List.getElem?_zipWith, h1, h2]
theorem cov_part {n : Nat} {cs rs : List Str} {w : Str} {rest : List PyData} {rl : List Str} {i : Nat} {part : PyData} {r0 : Str} (row : rowD (cdOf n) (.tuple (.str w :: rest)) = true) (hf : formOf w = some rl) (h : Cov (flatS n (.tuple (.str w :: rest))) cs rs) (h1 : rest[i]? = some part) (h2 : rl[i]? = some r0) : CovP n cs rs part r0 := by
  have me : PyData.tuple (.str w :: rest) ∈ flatS n (.tuple (.str w :: rest)) := by
    rw [flatS_row row]
    exact List.mem_cons_self ..
  refine ⟨fun hc m ds hn hp => ?_, fun x hx => h.1 x (List.mem_flatMap.mpr ⟨_, me, own_part hf h1 h2 hx⟩), fun x hx => h.2 x (List.mem_flatMap.mpr ⟨_, me, own_part hf h1 h2 hx⟩)⟩
  subst hc hn
  have hw := form_code hf (List.mem_of_getElem? h2)
  subst hw
  rcases row_iff row with ⟨m', p, r, ys, ns, e1, e2, _, _, _, _⟩ | ⟨w', rest', e, ne, _⟩
  · obtain rfl : m = m' := by omega
    injection e2 with e2
    injection e2 with _ e2
    subst e2
    refine h.sub fun x hx => ?_
    have e4 : formOf "if" = some (["test", "register", "code", "code"] : List Str) := by decide +kernel
    rw [e4] at hf
    obtain rfl := (Option.some.inj hf).symm
    have fl : flatS (m + 1) (.tuple [.str "if", p, r, .tuple ys, .tuple ns]) = .tuple [.str "if", p, r, .tuple ys, .tuple ns] :: [ys, ns].flatMap (flatN m) := rfl
    rw [fl]
    refine List.mem_cons_of_mem _ (List.mem_flatMap.mpr ?_)
    match i, h1, h2 with
    | 0, h1, h2 => exact absurd (Option.some.inj h2) (by decide +kernel)
    | 1, h1, h2 => exact absurd (Option.some.inj h2) (by decide +kernel)
    | 2, h1, h2 =>
      have z := (Option.some.inj h1).trans hp
      injection z with z
      exact ⟨ys, List.mem_cons_self .., by rw [z]; exact hx⟩
    | 3, h1, h2 =>
      have z := (Option.some.inj h1).trans hp
      injection z with z
      exact ⟨ns, List.mem_cons_of_mem _ (List.mem_cons_self ..), by rw [z]; exact hx⟩
  · injection e with e
    injection e with e _
    injection e with e
    exact absurd e.symm ne
def spRCodeAt : Nat → Sp
  | 0 => fun _ _ _ _ => False
  | n + 1 => fun vs H Q _ => ∃ (S : Addr → Prop) (v : V) (ca ra : Addr) (cs rs : List Str) (ds : List PyData), vs = [v, .ref ca, .ref ra] ∧ Dt S H v (.tuple ds) ∧ ds.all (rowD (cdOf n)) = true ∧ NmD H ca cs ∧ NmD H ra rs ∧ Cov (flatN n ds) cs rs ∧ ∀ H' v', Same H H' → Q v' H'
def spRStmt (n : Nat) : Sp := fun vs H Q _ => ∃ (S : Addr → Prop) (v : V) (ca ra : Addr) (cs rs : List Str) (d : PyData), vs = [v, .ref ca, .ref ra] ∧ Dt S H v d ∧ rowD (cdOf n) d = true ∧ NmD H ca cs ∧ NmD H ra rs ∧ Cov (flatS n d) cs rs ∧ ∀ H' v', Same H H' → Q v' H'
def spRPart (n : Nat) : Sp := fun vs H Q _ => ∃ (S : Addr → Prop) (v : V) (role : Str) (ca ra : Addr) (cs rs : List Str) (d : PyData), vs = [v, .str role, .ref ca, .ref ra] ∧ Dt S H v d ∧ fitD (cdOf n) d role = true ∧ NmD H ca cs ∧ NmD H ra rs ∧ CovP n cs rs d role ∧ ∀ H' v', Same H H' → Q v' H'
/-- a list that grows, whatever stands in it -/
def PvA (H : Hp) (D : Addr) (i : Nat) (G : Hp) : Prop := Same H G ∧ ∃ acc : List V, G D = some (.lst acc) ∧ acc.length = i
theorem PvA.zero {H : Hp} {D : Addr} (hD : H D = none) : PvA H D 0 (upd H D (.lst [])) := ⟨same_upd hD, [], upd_same, rfl⟩
theorem PvA.step {H G G2 : Hp} {D : Addr} {i : Nat} {v : V} (p : PvA H D i G) (hD : H D = none) (s : Same G G2) (hi : i < 1000) : ∃ acc, G2 D = some (.lst acc) ∧ acc.length < sizeLine ∧ PvA H D (i + 1) (upd G2 D (.lst (acc ++ [v]))) := by
  obtain ⟨s1, acc, e, l⟩ := p
  have : (1000 : Nat) < sizeLine := by decide
  exact ⟨acc, s _ _ e, by omega, same_put hD (s1.trans s), acc ++ [v], upd_same, by rw [List.length_append, l]; rfl⟩
section
variable {P : Program} {w : World} {K : PySem.W.Frag} {mg : Str → Option Value} {base : Heap} {f fS fP fC : Addr} {fd dS dP dC : FuncData}
theorem scRC : FnScope ["code", "cells", "registers", "statement"] ["code", "cells", "registers"] (defScope sRCode) := ⟨rfl, rfl, rfl, by decide +kernel, rfl, by decide +kernel, by decide +kernel⟩
theorem scRS : FnScope ["statement", "cells", "registers", "form", "named", "part", "role"] ["statement", "cells", "registers"] (defScope sRStmt) := ⟨rfl, rfl, rfl, by decide +kernel, rfl, by decide +kernel, by decide +kernel⟩
theorem scRP : FnScope ["part", "role", "cells", "registers", "name"] ["part", "role", "cells", "registers"] (defScope sRPart) := ⟨rfl, rfl, rfl, by decide +kernel, rfl, by decide +kernel, by decide +kernel⟩
theorem ok_rpart {n j : Nat} (F : Fun K "_renamed_part" "_renamed_part" sRPart f fd) (tup : mg "tuple" = none) (gC : mg "renamed_code" = some (.ref fC)) (kC : PySem.W.keepIn K (.ref fC) = true) (bC : Binds K dC ["code", "cells", "registers"] []) (GC : FnOk P w K mg base CX0 j fC dC ["code", "cells", "registers"] (spRCodeAt n)) :
    FnOk P w K mg base CX0 (j + 1) f fd ["part", "role", "cells", "registers"] (spRPart n) := by
  refine F.ok scRP (fun vs H Q E h => ?_) (fun cdv A outer s H vs Q E hr h => ?_)
  · obtain ⟨S, v, role, ca, ra, cs, rs, d, rfl, _⟩ := h
    rfl
  · obtain ⟨S, v, role, ca, ra, cs, rs, d, rfl, hd, fit, nc, nr, cov, q⟩ := h
    have hu : (A.deeper (envOfC "_renamed_part" (defScope sRPart) s.heap.objs.size f cdv)).units + 1 < cLine := by
      have := hr.un
      omega
    refine ⟨_, pss_cons (ps_if (pt_cmpR op_eq (pv 1) pe_str (nomark _)) (pss_one (ps_ret (pe_call GC hr (by rfl) gC kC bC .nil pass0 (pa_cons (pv 0) (pa_cons (pv 2) (pa_cons (pv 3) pa_nil)))))) pss_nil)
      (pss_cons (ps_if (pt_cmpR op_eq (pv 1) pe_str (nomark _)) (pss_one (ps_ret (pe_dget hu (pv 2) (pv 0) (fun _ _ => rfl)))) pss_nil)
      (pss_cons (ps_if (pt_cmpR op_eq (pv 1) pe_str (nomark _)) (pss_one (ps_ret (pe_dget hu (pv 3) (pv 0) (fun _ _ => rfl)))) pss_nil)
      (pss_cons (ps_if (pt_cmpR op_eq (pv 1) pe_str (nomark _)) (pss_one (ps_ret (pe_callTy call_tuple_of (by rfl) tup (by decide +kernel) (pa_cons (pe_lc (own := [("name", 4)]) rfl scRP.nd (pi_tup (pv 0)) (blkOk_by (N := ["part", "role", "cells", "registers", "name"]) (sc := defScope sRPart) (by decide +kernel))
          (fun _ _ _ _ _ => pg_name (i := 4) scRP.nd rfl (Or.inl rfl)) (fun _ _ _ _ _ => pts_nil) (fun _ _ _ _ _ => pe_dget hu (pv 3) (pv 4) (fun _ _ => rfl))) pa_nil)))) pss_nil)
      (pss_one (ps_ret (pv 0)))))), ?_⟩
    refine ⟨_, rfl, rfl, _, rfl, ite2 (fun h1 => ?_) (fun h1 => ?_)⟩
    · obtain rfl := V.str.inj (of_decide_eq_true h1)
      have fit : cdOf n d = true := by
        unfold fitD at fit
        rw [if_pos rfl] at fit
        exact fit
      obtain ⟨m, ds, rfl, rfl, rows⟩ := cdOf_tup fit
      exact ⟨_, rfl, _, rfl, _, rfl, S, v, ca, ra, cs, rs, ds, rfl, hd, rows, nc, nr, cov.1 rfl m ds rfl rfl, q⟩
    · have n1 : role ≠ "code" := fun z => h1 (decide_eq_true (by rw [z]))
      refine ⟨_, rfl, rfl, _, rfl, ite2 (fun h2 => ?_) (fun h2 => ?_)⟩
      · obtain rfl := V.str.inj (of_decide_eq_true h2)
        have nm := role_part (role := "cell") fit (by decide +kernel) rfl
        obtain ⟨x, rfl⟩ := isS nm
        obtain rfl := dt_str1 hd
        obtain ⟨y, g⟩ := nc.get (x := x) (cov.2.1 x (by unfold nmD; rw [if_pos rfl]; exact List.mem_cons_self ..))
        exact ⟨_, rfl, _, rfl, ca, _, rfl, g, q H _ (Same.refl H)⟩
      · have n2 : role ≠ "cell" := fun z => h2 (decide_eq_true (by rw [z]))
        refine ⟨_, rfl, rfl, _, rfl, ite2 (fun h3 => ?_) (fun h3 => ?_)⟩
        · obtain rfl := V.str.inj (of_decide_eq_true h3)
          have nm := role_part (role := "register") fit (by decide +kernel) rfl
          obtain ⟨x, rfl⟩ := isS nm
          obtain rfl := dt_str1 hd
          obtain ⟨y, g⟩ := nr.get (x := x) (cov.2.2 x (by unfold nmD; rw [if_pos rfl]; exact List.mem_cons_self ..))
          exact ⟨_, rfl, _, rfl, ra, _, rfl, g, q H _ (Same.refl H)⟩
        · have n3 : role ≠ "register" := fun z => h3 (decide_eq_true (by rw [z]))
          refine ⟨_, rfl, rfl, _, rfl, ite2 (fun h4 => ?_) (fun h4 => ?_)⟩
          · obtain rfl := V.str.inj (of_decide_eq_true h4)
            have ar := role_args fit rfl
            cases d with
            | tuple ds =>
              have ar : (decide (ds.length ≤ 2) && ds.all isNameD) = true := ar
              obtain ⟨b, zs, rfl, eb, bl, hz⟩ := hd.tup_of
              have ez := dt_names hz (Bool.and_eq_true_iff.mp ar).2
              have em : nmD "register" (.tuple ds) "registers" = ds.map strD := by
                unfold nmD
                rw [if_neg (by decide +kernel), if_pos ⟨rfl, rfl⟩]
                rfl
              refine ⟨_, rfl, b, rfl, ⟨zs, SqT.of eb⟩, fun Dl hD => lc_tup (PvA H Dl) (PvA.zero hD) (fun i G _ p => SqT.of (p.1 _ _ eb)) (fun i x G hi p => ?_) (fun G p => ?_)⟩
              · rw [ez, List.getElem?_map] at hi
                obtain ⟨x, hx, rfl⟩ := Option.map_eq_some_iff.mp hi
                obtain ⟨y, g⟩ := (nr.mv p.1).get (x := x) (cov.2.2 x (by rw [em]; exact List.mem_of_getElem? hx))
                have li := (List.getElem?_eq_some_iff.mp hx).1
                have l2 := of_decide_eq_true (Bool.and_eq_true_iff.mp ar).1
                rw [List.length_map] at li
                exact ⟨rfl, _, rfl, _, rfl, ra, _, rfl, g, p.step hD (Same.refl _) (by omega)⟩
              · obtain ⟨s1, acc, e, _⟩ := p
                exact ⟨Dl, acc, rfl, .inl ⟨SqL.of e, fun l hl => q _ _ (s1.trans (same_upd hl))⟩⟩
            | _ => cases ar
          · exact ⟨_, rfl, q H _ (Same.refl H)⟩
theorem ok_rstmt {n j : Nat} (F : Fun K "_renamed_statement" "_renamed_statement" sRStmt f fd) (TF : TxtF K w mg) (gP : mg "_renamed_part" = some (.ref fP)) (kP : PySem.W.keepIn K (.ref fP) = true) (bP : Binds K dP ["part", "role", "cells", "registers"] []) (GP : FnOk P w K mg base CX0 j fP dP ["part", "role", "cells", "registers"] (spRPart n)) :
    FnOk P w K mg base CX0 (j + 1) f fd ["statement", "cells", "registers"] (spRStmt n) := by
  refine F.ok scRS (fun vs H Q E h => ?_) (fun cdv A outer s H vs Q E hr h => ?_)
  · obtain ⟨S, v, ca, ra, cs, rs, d, rfl, _⟩ := h
    rfl
  · obtain ⟨S, v, ca, ra, cs, rs, d, rfl, hd, row, nc, nr, cov, q⟩ := h
    obtain ⟨fa, es, nn, gM, KD, hno, _, hyes⟩ := TF.forms
    refine ⟨_, pss_cons (ps_set (i := 3) scRS.nd rfl (Or.inl rfl) (pe_ix ix_kdict (pe_glob (v := .ref fa) (by rfl) gM rfl) (pe_ix ix_tup (pv 0) pe_int (fun _ _ => rfl)) (fun _ _ => rfl)))
      (pss_cons (ps_setLc (i := 4) (g := gTup K 2 (gCons (gName 5) (gCons (gName 6) gNil))) (own := [("part", 5), ("role", 6)]) rfl scRS.nd rfl rfl (by rfl) (RZ.pi_zipA (by rfl) TF.zip (pa_cons (pe_slice sl_tupA (pv 0) (po_some pe_int) po_none) (pa_cons (pv 3) pa_nil)))
          (blkOk_by (N := ["statement", "cells", "registers", "form", "named", "part", "role"]) (sc := defScope sRStmt) (by decide +kernel)) (fun _ _ _ _ _ => pg_tup rfl (pgs_cons (pg_name (i := 5) scRS.nd rfl (Or.inl rfl)) (pgs_cons (pg_name (i := 6) scRS.nd rfl (Or.inl rfl)) pgs_nil))) (fun _ _ _ _ _ => pts_nil)
          (fun _ _ _ _ _ => pe_call GP hr (by rfl) gP kP bP .nil pass0 (pa_cons (pv 5) (pa_cons (pv 6) (pa_cons (pv 1) (pa_cons (pv 2) pa_nil))))))
      (pss_one (ps_ret (pe_tup (pa_cons (pe_ix ix_tup (pv 0) pe_int (fun _ _ => rfl)) (StX.pa_star (pv 4) pa_nil)))))), ?_⟩
    obtain ⟨w0, rest, rl, rfl, hf, hlen, fits⟩ := rowD_shape row
    obtain ⟨a, xr, rfl, ea, hl, hx⟩ := hd.row
    obtain ⟨pf, hnf, hsf⟩ := hyes w0 rl hf
    have xl := hx.length
    have l4 := form_len hf
    have each : ∀ {i : Nat} {part : PyData} {r0 : Str}, rest[i]? = some part → rl[i]? = some r0 → fitD (cdOf n) part r0 = true := fun {i part r0} h1 h2 => by
      have e : (List.zipWith (fitD (cdOf n)) rest rl)[i]? = some (fitD (cdOf n) part r0) := by rw [List.getElem?_zipWith, h1, h2]
      exact List.all_eq_true.mp fits _ (List.mem_of_getElem? e)
    refine ⟨_, rfl, a, _, 0, _, rfl, rfl, SqT.of ea, at0, fa, w0, .ref pf, rfl, rfl, ⟨es, nn, _, KD.at_, KD.lit, hnf, rfl⟩, ?_⟩
    refine ⟨_, rfl, 1, rfl, a, _, rfl, SqT.of ea, fun hw => absurd hw cut_part, fun _ pc hpc => ?_⟩
    rw [cut_tail]
    have s1 := same_upd (o := .tup xr) hpc
    refine ⟨_, rfl, pc, pf, xr, rl.map V.str, rfl, .inr ⟨SqT.of upd_same, hsf _, fun Dl hD => lc_zipT (by rw [List.length_map]; omega) (PvA _ Dl) (PvA.zero hD) (fun i G p => ⟨SqT.of (p.1 _ _ upd_same), hsf _⟩) (fun i x y T G hxi hyi p hT => ?_) (fun G p => ?_)⟩⟩
    · obtain ⟨e, he, hde⟩ := hx.get hxi
      rw [List.getElem?_map] at hyi
      obtain ⟨r0, hr0, rfl⟩ := Option.map_eq_some_iff.mp hyi
      have sT := (s1.trans p.1).trans (same_upd (o := .tup [x, .str r0]) hT)
      have li := (List.getElem?_eq_some_iff.mp hr0).1
      refine ⟨T, _, rfl, SqT.of upd_same, rfl, _, _, rfl, _, _, rfl, rfl, rfl, ?_⟩
      refine ⟨_, rfl, _, rfl, _, rfl, _, rfl, S, x, r0, ca, ra, cs, rs, e, rfl, hde.mv (fun _ z => z) (fun b o _ eb => sT b o eb), each he hr0, nc.mv sT, nr.mv sT, cov_part row hf cov he hr0, fun H4 v4 s4 => ?_⟩
      exact p.step hD ((same_upd hT).trans s4) (by omega)
    · obtain ⟨s5, acc, e5, l5⟩ := p
      have s15 := s1.trans s5
      refine ⟨_, rfl, a, _, 0, _, rfl, rfl, SqT.of (s15 _ _ ea), at0, _, rfl, Dl, acc, rfl, .inr (SqL.of e5), ?_, fun pt hpt => q _ _ (s15.trans (same_upd hpt))⟩
      have : (1000 : Nat) < sizeLine := by decide
      show (.str w0 :: (acc ++ [])).length ≤ sizeLine
      rw [List.append_nil, List.length_cons]
      omega
theorem rcode_step {n k : Nat} (F : Fun K "renamed_code" "renamed_code" sRCode f fd) (tup : mg "tuple" = none) (gS : mg "_renamed_statement" = some (.ref fS)) (kS : PySem.W.keepIn K (.ref fS) = true) (bS : Binds K dS ["statement", "cells", "registers"] []) (GS : FnOk P w K mg base CX0 k fS dS ["statement", "cells", "registers"] (spRStmt n)) :
    FnOk P w K mg base CX0 (k + 1) f fd ["code", "cells", "registers"] (spRCodeAt (n + 1)) := by
  refine F.ok scRC (fun vs H Q E h => ?_) (fun cdv A outer s H vs Q E hr h => ?_)
  · obtain ⟨S, v, ca, ra, cs, rs, ds, rfl, _⟩ := h
    rfl
  · obtain ⟨S, v, ca, ra, cs, rs, ds, rfl, hd, rows, nc, nr, cov, q⟩ := h
    refine ⟨_, pss_one (ps_ret (pe_callTy call_tuple_of (by rfl) tup (by decide +kernel) (pa_cons (pe_lc (own := [("statement", 3)]) rfl scRC.nd (pi_tup (pv 0)) (blkOk_by (N := ["code", "cells", "registers", "statement"]) (sc := defScope sRCode) (by decide +kernel))
          (fun _ _ _ _ _ => pg_name (i := 3) scRC.nd rfl (Or.inl rfl)) (fun _ _ _ _ _ => pts_nil) (fun _ _ _ _ _ => pe_call GS hr (by rfl) gS kS bS .nil pass0 (pa_cons (pv 3) (pa_cons (pv 1) (pa_cons (pv 2) pa_nil))))) pa_nil))), ?_⟩
    obtain ⟨a, xs, rfl, ea, hl, hx⟩ := hd.tup_of
    refine ⟨_, rfl, a, rfl, ⟨xs, SqT.of ea⟩, fun Dl hD => lc_tup (PvA H Dl) (PvA.zero hD) (fun i G _ p => SqT.of (p.1 _ _ ea)) (fun i x G hi p => ?_) (fun G p => ?_)⟩
    · obtain ⟨e, he, hde⟩ := hx.get hi
      have li := (List.getElem?_eq_some_iff.mp hi).1
      exact ⟨rfl, _, rfl, _, rfl, _, rfl, S, x, ca, ra, cs, rs, e, rfl, hde.mv (fun _ z => z) (fun b o _ eb => p.1 b o eb), List.all_eq_true.mp rows e (List.mem_of_getElem? he), nc.mv p.1, nr.mv p.1, cov.sub (fun z hz => List.mem_flatMap.mpr ⟨e, List.mem_of_getElem? he, hz⟩), fun H4 v4 s4 => p.step hD s4 (by omega)⟩
    · obtain ⟨s1, acc, e, _⟩ := p
      exact ⟨Dl, acc, rfl, .inl ⟨SqL.of e, fun l hl => q _ _ (s1.trans (same_upd hl))⟩⟩
structure RenF (K : PySem.W.Frag) (mg : Str → Option Value) (fC fS fP : Addr) (dC dS dP : FuncData) : Prop where
  FC : Fun K "renamed_code" "renamed_code" sRCode fC dC
  FS : Fun K "_renamed_statement" "_renamed_statement" sRStmt fS dS
  FP : Fun K "_renamed_part" "_renamed_part" sRPart fP dP
  gC : mg "renamed_code" = some (.ref fC)
  gS : mg "_renamed_statement" = some (.ref fS)
  gP : mg "_renamed_part" = some (.ref fP)
  bC : Binds K dC ["code", "cells", "registers"] []
  bS : Binds K dS ["statement", "cells", "registers"] []
  bP : Binds K dP ["part", "role", "cells", "registers"] []
theorem ok_rcode (R : RenF K mg fC fS fP dC dS dP) (TF : TxtF K w mg) : ∀ n, FnOk P w K mg base CX0 (3 * n + 1) fC dC ["code", "cells", "registers"] (spRCodeAt n)
  | 0 => ⟨fun _ _ _ _ h => h.elim, fun _ _ _ _ _ _ _ _ _ _ _ _ _ h => h.elim⟩
  | n + 1 => rcode_step R.FC TF.tup R.gS R.FS.kp R.bS (ok_rstmt R.FS TF R.gP R.FP.kp R.bP (ok_rpart R.FP TF.tup R.gC R.FC.kp R.bC (ok_rcode R TF n)))
end
end OM

namespace OM
open PySem PySem.Spec PyProof.Rows L2
section
variable {X : Cx} {elt tg iter : Expr} {ifs : List Expr} {scope : Scope} {own : List (Str × Nat)} {pos : Pos} {wi : TI} {g : TG} {tt : TT} {te : TE}
theorem sx1_core {pins : List (Addr × Obj)} {s : Shared} {σ : L2.St} {H : Hp} {Q : VK} {pos' : Pos} {use : Option (Value → Sem Unit)} {Qf : Value → Shared → Prop} (hc : X.calm = true) (hN : X.N.Nodup) (I : Inv X pins σ H s) (hi : PI X tg iter wi) (ok : BlkOk X.N X.env.scope scope own) 
    (hg : ∀ (s : Shared) (H : Hp) (C : Addr) (cl : List (Str × Addr)) (fp : List Addr), PG (X.blk s H scope (compEnvC scope cl C X.env) fp) tg g) (ht : ∀ (s : Shared) (H : Hp) (C : Addr) (cl : List (Str × Addr)) (fp : List Addr), PTs (X.blk s H scope (compEnvC scope cl C X.env) fp) ifs tt)
    (he : ∀ (s : Shared) (H : Hp) (C : Addr) (cl : List (Str × Addr)) (fp : List Addr), PE (X.blk s H scope (compEnvC scope cl C X.env) fp) elt te)
    (hs : ∀ x, foldedSetIterable iter X.env x = pure x) (h : tSx X.w wi g tt te (own.map (·.2)) σ H Q)
    (hRR : ∀ D C s' m H', Inv X pins σ H' s' → Q (.ref D) H' → s'.heap.Ns C m → FpOk X pins H' C → compPost (model X.prog X.w) X.A X.xe use Qf (.ref D) C (.ok .next) s') :
    wpAny (model X.prog X.w) X.A (comprehension (.SetComp elt [⟨tg, iter, ifs, 0⟩] scope pos) scope X.env pos' (newSet (.type "set")) false (eval iter X.env) use) Qf X.xe s := by
  have cells : ∀ y ∈ scope.names, y.2 = .free → ∃ c, X.env.cells.lookup y.1 = some c := fun y hy e => (ok.free y hy e).elim (fun k => I.ok.has _ (.inl k)) fun k => I.ok.has _ (.inr k)
  refine wpAny_comprehension_free (use := use) rfl hs (closure_ok cells) ok.kind (fun y hy e => by rw [ok.uniq y hy, e]) (thn (hi.run pins s σ H _ I h) fun xv s1 hx => thn hx fun itv s2 h2 => ?_)
  obtain ⟨it, fp, tn, J, H2, rfl, I2, T, st2, f2, q⟩ := h2
  refine PpSet.newSet_ok (newEnv_comp ?_)
  obtain ⟨D, hD⟩ : ∃ D, s2.heap.objs.size = D := ⟨_, rfl⟩
  obtain ⟨W, ⟨m0, w0⟩, turn⟩ := q D (I2.hok.fresh (Nat.le_of_eq hD))
  have fresh := tx_fresh (h := s2.heap) X.w
  rw [hD] at fresh ⊢
  obtain ⟨s3, es3⟩ : ∃ s3 : Shared, s3 = { s2 with heap := s2.heap.push { cls := .type "set", dict := none, data := .set #[] 0 (.fresh 0 0 (!X.w.params.followText "set-order")) } } := ⟨_, rfl⟩
  have h3 : s3.heap = s2.heap.push { cls := .type "set", dict := none, data := .set #[] 0 (.fresh 0 0 (!X.w.params.followText "set-order")) } := by rw [es3]
  have I3 : Inv X pins σ (upd H2 D (SetTO X.w D [])) s3 := by
    rw [es3]
    exact I2.laid (t' := s2.toks) (fun b o e => Heap.get?_push_of_some _ e) (Nat.le_of_eq hD) (txo_new fresh)
  rw [← es3]
  have f3 : ∀ b ∈ fp, FpOk X pins (upd H2 D (SetTO X.w D [])) b ∧ b < s3.heap.objs.size := fun b hb => by
    obtain ⟨o, e, _⟩ := T.obj _ _ st2 b hb
    have lt := Heap.lt_size e
    exact ⟨⟨by rw [upd_ne (by rw [← hD]; exact Nat.ne_of_lt lt)]; exact (f2 b hb).1, (f2 b hb).2⟩, by rw [h3, Heap.size_push]; exact Nat.lt_succ_of_lt lt⟩
  have st3 : tn 0 s3.heap := T.keep _ _ _ st2 fun b _ o e => by rw [h3]; exact Heap.get?_push_of_some _ e
  have I4 := block_start I3 ok hN f3
  have pg := hg s3 (upd H2 D (SetTO X.w D [])) s3.heap.objs.size (cellsFrom (s3.heap.objs.size + 1) scope.names (cloFrom X.env.cells scope.names [])) fp
  have pt := ht s3 (upd H2 D (SetTO X.w D [])) s3.heap.objs.size (cellsFrom (s3.heap.objs.size + 1) scope.names (cloFrom X.env.cells scope.names [])) fp
  have pe := he s3 (upd H2 D (SetTO X.w D [])) s3.heap.objs.size (cellsFrom (s3.heap.objs.size + 1) scope.names (cloFrom X.env.cells scope.names [])) fp
  show codeAny _ _ (.compStart (.SetComp elt [⟨tg, iter, ifs, 0⟩] scope pos) 0 (.ref it) (.ref D) (compEnvC scope (cellsFrom (s3.heap.objs.size + 1) scope.names (cloFrom X.env.cells scope.names [])) s3.heap.objs.size X.env)) (compPost (model X.prog X.w) X.A X.xe use Qf (.ref D) s3.heap.objs.size) { s3 with heap := pushCells (s3.heap.push { cls := .type "dict", data := .dict #[] }) scope.names }
  obtain ⟨ce, ece⟩ : ∃ ce, ce = compEnvC scope (cellsFrom (s3.heap.objs.size + 1) scope.names (cloFrom X.env.cells scope.names [])) s3.heap.objs.size X.env := ⟨_, rfl⟩
  have cL : ce.locals = s3.heap.objs.size := by rw [ece]; rfl
  obtain ⟨s4, es4⟩ : ∃ s4 : Shared, s4 = { s3 with heap := pushCells (s3.heap.push { cls := .type "dict", data := .dict #[] }) scope.names } := ⟨_, rfl⟩
  rw [← ece] at I4 pg pt pe ⊢
  rw [← es4] at I4 ⊢
  have st4 : tn 0 s4.heap := T.keep _ _ _ st3 fun b _ o e => by rw [es4]; exact pushCells_keeps _ _ _ _ (Heap.get?_push_of_some _ e)
  generalize upd H2 D (SetTO X.w D []) = H3 at w0 I3 f3 I4 pg pt pe
  have stat : ∀ {H' : Hp}, (∀ b ∈ fp, H' b = none) → ∀ b ∈ fp, FpOk (X.blk s3 H3 scope ce fp) [] H' b := fun {H'} hn b hb =>
    ⟨hn b hb, (I4.ok.exf b hb).1, I4.ok.exfs b hb, .inl hb, fun x c e => (I4.ok.exf b hb).2 x c e, fun p hp => absurd (show p ∈ ([] : List (Addr × Obj)) ++ [] from hp) (by simp)⟩
  have loop : codeAny (model X.prog X.w) X.A (.compLoop (.SetComp elt [⟨tg, iter, ifs, 0⟩] scope pos) 0 (.ref it) (.ref D) ce) (compPost (model X.prog X.w) X.A X.xe use Qf (.ref D) s3.heap.objs.size) s4 := by
    refine blk_loop (kn := fun σ2 => wipe σ2 (own.map (·.2)) = wipe σ (own.map (·.2))) (W := W) (Z := fun H => Q (.ref D) H) (g := g) (tt := tt) (em := emS X.prog X.w X.A (notedBy (model X.prog X.w) X.A ce fun e s' => compPost (model X.prog X.w) X.A X.xe use Qf (.ref D) s3.heap.objs.size (.error e) s') elt (.ref D) ce)
      (emH := fun σ2 H3 Nx => te σ2 H3 (tInto X.w D Nx)) (fun _ z => wiped z) hc T stat pg pt emS_ok (turn_s1 _ _ _) ?_ ?_ ?_ ?_ I4 st4 (fun b hb => (f3 b hb).1.1) w0
    · exact turn
    · intro Y Y' s h k
      exact wpAny_mono h (fun x s1 h1 => wpAny_mono h1 (fun _ s2 h2 => k _ h2) fun _ _ z => z) fun _ _ z => z
    · intro σ2 H4 Nx s pl I' hk q2
      exact into_ok pe I' hk q2
    · intro s6 H5 I6 qq
      have I7 : Inv X pins σ H5 s6 := I3.call' (ch := fp) I6.os I6.base I6.hok I6.bare fun b hb => ⟨(f3 b hb).1.2.2.2.1, (f3 b hb).1.2.1, (f3 b hb).1.2.2.2.2.1, (f3 b hb).1.2.2.2.2.2⟩
      have nC : H5 s3.heap.objs.size = none := by
        rw [← cL]
        exact I6.free
      obtain ⟨m, hn, _⟩ := I6.loc
      have hn : s6.heap.Ns ce.locals m := hn
      rw [cL] at hn
      exact hRR D s3.heap.objs.size s6 m H5 I7 qq hn (I3.fpOk (Nat.le_refl _) nC)
  exact start_any rfl rfl loop (T.self X.A 0 _ _ _ st4 loop)
theorem pe_sx1 (hc : X.calm = true) (hN : X.N.Nodup) (hi : PI X tg iter wi) (ok : BlkOk X.N X.env.scope scope own) (hg : ∀ (s : Shared) (H : Hp) (C : Addr) (cl : List (Str × Addr)) (fp : List Addr), PG (X.blk s H scope (compEnvC scope cl C X.env) fp) tg g)
    (ht : ∀ (s : Shared) (H : Hp) (C : Addr) (cl : List (Str × Addr)) (fp : List Addr), PTs (X.blk s H scope (compEnvC scope cl C X.env) fp) ifs tt)
    (he : ∀ (s : Shared) (H : Hp) (C : Addr) (cl : List (Str × Addr)) (fp : List Addr), PE (X.blk s H scope (compEnvC scope cl C X.env) fp) elt te) (hs : ∀ x, foldedSetIterable iter X.env x = pure x := by intro _; rfl) :
    PE X (.SetComp elt [⟨tg, iter, ifs, 0⟩] scope pos) (tSx X.w wi g tt te (own.map (·.2))) := by
  refine ⟨fun pins s σ H Q I h => ?_⟩
  rw [PpSet.eval_SetComp]
  refine sx1_core hc hN I hi ok hg ht he hs h fun D C s' m H' I' q hn ⟨f0, f1, f2, f3, f4, f5⟩ => ⟨m, hn, fun h'' sb => ?_⟩
  exact ⟨.ref D, H', I'.turned (t' := s'.toks) (fun b o hb e => (sb.2 b hb).trans e) f0 f1 f3 f4 f5, rfl, q⟩
/-- over a tuple that stays -/
theorem goes_tup {K : PySem.W.Frag} {a : Addr} {xs : List V} {H0 : Hp} {Z : Hp → Prop} {step : V → Hp → (Hp → Prop) → Prop} (Pv : Nat → Hp → Prop) (h0 : Pv 0 H0) (hl : ∀ i H, Pv i H → SqT K H a xs) (hs : ∀ i x H, xs[i]? = some x → Pv i H → step x H (Pv (i + 1))) (hd : ∀ H, Pv xs.length H → Z H) :
    ∃ W : Nat → Nat → Hp → Prop, (∃ m, W 0 m H0) ∧ goes (Itt K a) W Z step := by
  refine ⟨fun i m H => m = xs.length - i ∧ i ≤ xs.length ∧ Pv i H, ⟨_, rfl, Nat.zero_le _, h0⟩, ?_⟩
  rintro i m H ⟨rfl, hi, p⟩
  have q := hl i H p
  rcases Nat.lt_or_ge i xs.length with hlt | hge
  · refine .inr ⟨⟨xs, xs[i], q, by simp [hlt]⟩, Pv (i + 1), fun H' p' => ⟨xs.length - (i + 1), by omega, rfl, hlt, p'⟩, fun x H' y => ?_⟩
    obtain ⟨rfl, y⟩ := y
    exact hs i x _ (y xs q) p
  · obtain rfl : i = xs.length := by omega
    exact .inl ⟨⟨xs, q, Nat.le_refl _⟩, hd H p⟩
end
end OM

namespace OM
open PySem PySem.Spec PyProof.Rows L2
abbrev sNewN : Stmt := top 52
abbrev sIsRen : Stmt := top 53
abbrev sRenM : Stmt := inStK 48 9
def isDicD : PyData → Bool
  | .dict _ => true
  | _ => false
theorem kit_dic (d : PyData) : kitB (tyN d) "dict" = some (isDicD d) := by
  have k0 : kitB "NoneType" "dict" = some false := by decide +kernel
  have k1 : kitB "bool" "dict" = some false := by decide +kernel
  have k2 : kitB "int" "dict" = some false := by decide +kernel
  have k3 : kitB "str" "dict" = some false := by decide +kernel
  have k4 : kitB "list" "dict" = some false := by decide +kernel
  have k5 : kitB "tuple" "dict" = some false := by decide +kernel
  have k6 : kitB "dict" "dict" = some true := by decide +kernel
  cases d <;> assumption
/-- whether a dict gives just these names different names -/
def renB (ns : List Str) (kvs : List (Key × V)) (dat : Str → PyData) : Bool := decide (kvs.length = ns.length) && (ns.all (fun n => (valV kvs (.inr n)).isSome) && (ns.all (fun n => isNameD (dat n)) && decide ((firsts [] (ns.map fun n => strD (dat n))).length = ns.length)))
/-- what may be told for names, by objects of S, and whether it is right -/
inductive Told (S : Addr → Prop) (H : Hp) (ns : List Str) : V → Bool → Prop
  | dat {v : V} {d : PyData} (h : Dt S H v d) (no : isDicD d = false) : Told S H ns v false
  | dic {a : Addr} {kvs : List (Key × V)} {dat : Str → PyData} (s : S a) (e : H a = some (.dK kvs))
      (hd : kvs.length = ns.length → (ns.all fun n => (valV kvs (.inr n)).isSome) = true → ∀ n ∈ ns, ∀ v, valV kvs (.inr n) = some v → Dt S H v (dat n) ∧ smlD (dat n) = true) : Told S H ns (.ref a) (renB ns kvs dat)
theorem Told.strong {S S' : Addr → Prop} {H H' : Hp} {ns : List Str} {v : V} {b : Bool} (h : Told S H ns v b) (hS : ∀ a o, S a → H a = some o → S' a ∧ H' a = some o) : Told S' H' ns v b := by
  cases h with
  | dat h no => exact .dat (h.strong hS) no
  | dic s e hd => exact .dic (hS _ _ s e).1 (hS _ _ s e).2 fun h1 h2 n hn v hv => ⟨(hd h1 h2 n hn v hv).1.strong hS, (hd h1 h2 n hn v hv).2⟩
theorem Told.mv {S : Addr → Prop} {H H' : Hp} {ns : List Str} {v : V} {b : Bool} (h : Told S H ns v b) (s : Same H H') : Told S H' ns v b := h.strong fun a o z e => ⟨z, s a o e⟩
def spIsRen : Sp := fun vs H Q _ => ∃ (S : Addr → Prop) (nt : Addr) (ns : List Str) (v : V) (b : Bool), vs = [.ref nt, v] ∧ H nt = some (.tup (ns.map V.str)) ∧ ns.length ≤ 900 ∧ Told S H ns v b ∧ ∀ H', Same H H' → Q (.bl b) H'
def spNewN (cO : Addr) : Sp := fun vs H Q E => ∃ (S : Addr → Prop) (nt : Addr) (ns : List Str) (v : V), vs = [.ref nt, v] ∧ H nt = some (.tup (ns.map V.str)) ∧ ns.length ≤ 900 ∧
  ((v = .non ∧ ∀ H' p, Same H H' → NmD H' p ns → Q (.ref p) H') ∨ (v ≠ .non ∧ ∃ b, Told S H ns v b ∧ (b = true → ∀ H' p, Same H H' → NmD H' p ns → Q (.ref p) H') ∧ (b = false → OutN E cO H)))
/-! the set of names exists -/
theorem sorted_of_pair : ∀ {l : List Str}, l.Pairwise leS → sortedS l = true
  | [], _ => rfl
  | x :: r, h => by
    have key : ∀ (p : Str) (l : List Str), (p :: l).Pairwise leS → risingS p l = true := by
      intro p l
      induction l generalizing p with
      | nil => intro _; rfl
      | cons y l ih =>
        intro h
        obtain ⟨h1, h2⟩ := List.pairwise_cons.mp h
        show (!ltCps y.cps.toList p.cps.toList && risingS y l) = true
        rw [ih y h2, Bool.and_true]
        have z : leS p y := h1 y (List.mem_cons_self ..)
        unfold leS at z
        rw [z]
        rfl
    exact key x r h
theorem canon_is (l : List Str) : IsSet (canon l) l := by
  have hex : ∃ ys, IsSet ys l := by
    refine ⟨(firsts [] l).mergeSort fun a b => !ltCps b.cps.toList a.cps.toList, sorted_of_pair ?_, List.mergeSort_perm _ _⟩
    have t : ∀ a b c : Str, (!ltCps b.cps.toList a.cps.toList) = true → (!ltCps c.cps.toList b.cps.toList) = true → (!ltCps c.cps.toList a.cps.toList) = true := fun a b c h1 h2 => by
      have q : leS a c := leS_trans (by unfold leS; simpa using h1) (by unfold leS; simpa using h2)
      unfold leS at q
      rw [q]
      rfl
    have u : ∀ a b : Str, ((!ltCps b.cps.toList a.cps.toList) || (!ltCps a.cps.toList b.cps.toList)) = true := fun a b => by
      cases h : ltCps b.cps.toList a.cps.toList with
      | false => rfl
      | true =>
        rw [ltCps_eq, decide_eq_true_eq] at h
        have q : leS b a := leS_iff.mpr (List.le_of_lt h)
        unfold leS at q
        rw [q]
        rfl
    exact (List.pairwise_mergeSort t u (firsts [] l)).imp fun {a b} h => by
      unfold leS
      simpa using h
  unfold canon theOne
  rw [dif_pos hex]
  exact Classical.choose_spec hex
theorem mem_canon {l : List Str} {x : Str} : x ∈ canon l ↔ x ∈ l := (canon_is l).mem
theorem canon_nodup (l : List Str) : (canon l).Nodup := (canon_is l).2.nodup_iff.mpr (nodup_firsts _ List.nodup_nil)
/-- the dict that grows -/
def PvD (H : Hp) (D : Addr) (ns : List Str) (i : Nat) (G : Hp) : Prop := Same H G ∧ ∃ kvs : List (Key × V), G D = some (.dK kvs) ∧ kvs.length ≤ i ∧ ∀ x ∈ ns.take i, ∃ y : Str, valV kvs (.inr x) = some (.str y)
theorem PvD.zero {H : Hp} {D : Addr} {ns : List Str} (hD : H D = none) : PvD H D ns 0 (upd H D (.dK [])) := ⟨same_upd hD, [], upd_same, Nat.le_refl _, fun x hx => by rw [List.take_zero] at hx; cases hx⟩
theorem PvD.step {H G : Hp} {D : Addr} {ns : List Str} {i : Nat} {x y : Str} (p : PvD H D ns i G) (hD : H D = none) (hx : ns[i]? = some x) (hl : ns.length ≤ 900) :
    ∃ (kvs : List (Key × V)) (k : Key), V.str x = kV k ∧ G D = some (.dK kvs) ∧ kvs.length < sizeLine ∧ PvD H D ns (i + 1) (upd G D (.dK (putK kvs k (.str y)))) := by
  obtain ⟨s, kvs, e, l, q⟩ := p
  have li := (List.getElem?_eq_some_iff.mp hx).1
  have line : (1000 : Nat) < sizeLine := by decide
  refine ⟨kvs, .inr x, rfl, e, by omega, same_put hD s, _, upd_same, ?_, fun z hz => ?_⟩
  · have := length_putK kvs (.inr x) (.str y)
    omega
  · rw [List.take_add_one, hx] at hz
    rw [valV_put]
    split
    · exact ⟨y, rfl⟩
    · rename_i ne
      rcases List.mem_append.mp hz with hz | hz
      · exact q z hz
      · have hz : z ∈ [x] := hz
        rw [List.mem_singleton] at hz
        exact absurd (by rw [hz]) ne
theorem PvD.done {H G : Hp} {D : Addr} {ns : List Str} {i : Nat} (p : PvD H D ns i G) (hi : ns.length ≤ i) : NmD G D ns := by
  obtain ⟨_, kvs, e, _, q⟩ := p
  rw [List.take_of_length_le hi] at q
  exact ⟨kvs, e, q⟩
section
variable {P : Program} {w : World} {K : PySem.W.Frag} {mg : Str → Option Value} {base : Heap} {f fI fR cO : Addr} {fd dI dR : FuncData}
theorem scIR : FnScope ["names", "told", "name"] ["names", "told"] (defScope sIsRen) := ⟨rfl, rfl, rfl, by decide +kernel, rfl, by decide +kernel, by decide +kernel⟩
theorem ok_isren (F : Fun K "_is_renaming" "_is_renaming" sIsRen f fd) (isi : mg "isinstance" = none) (dct : mg "dict" = none) (ln : mg "len" = none) (al : mg "all" = none) (gI : mg "is_name" = some (.ref fI)) (kI : PySem.W.keepIn K (.ref fI) = true) (bI : Binds K dI ["value"] []) (GI : FnOk P w K mg base CX0 1 fI dI ["value"] spName) :
    FnOk P w K mg base CX0 2 f fd ["names", "told"] spIsRen := by
  refine F.ok scIR (fun vs H Q E h => ?_) (fun cdv A outer s H vs Q E hr h => ?_)
  · obtain ⟨S, nt, ns, v, b, rfl, _⟩ := h
    rfl
  · obtain ⟨S, nt, ns, v, b, rfl, en, hl, ht, q⟩ := h
    have hu : (A.deeper (envOfC "_is_renaming" (defScope sIsRen) s.heap.objs.size f cdv)).units + 1 < cLine := by
      have := hr.un
      omega
    refine ⟨_, pss_one (ps_ret (pe_and (pe_callB call_isi (by rfl) isi (by decide +kernel) (pa_cons (pv 1) (pa_cons (pe_bltn (v := .ty "dict") (u := .type "dict") (by rfl) dct (by decide +kernel) rfl) pa_nil)))
      (pe_and (pe_cmpR op_eq (pe_callB call_lenD (by rfl) ln PySem.boot_len (pa_cons (pv 1) pa_nil)) (pe_callB call_len_seq (by rfl) ln PySem.boot_len (pa_cons (pv 0) pa_nil)) (nomark _))
      (pe_and (pe_callB (cr_all rfl) (by rfl) al (by decide +kernel) (pa_cons (pe_lc (own := [("name", 2)]) rfl scIR.nd (pi_tup (pv 0)) (blkOk_by (N := ["names", "told", "name"]) (sc := defScope sIsRen) (by decide +kernel)) (fun _ _ _ _ _ => pg_name (i := 2) scIR.nd rfl (Or.inl rfl)) (fun _ _ _ _ _ => pts_nil)
          (fun _ _ _ _ _ => pe_cmp (pc_din hu (pv 2) (pv 1)))) pa_nil))
      (pe_and (pe_callB (cr_all rfl) (by rfl) al (by decide +kernel) (pa_cons (pe_lc (own := [("name", 2)]) rfl scIR.nd (pi_tup (pv 0)) (blkOk_by (N := ["names", "told", "name"]) (sc := defScope sIsRen) (by decide +kernel)) (fun _ _ _ _ _ => pg_name (i := 2) scIR.nd rfl (Or.inl rfl)) (fun _ _ _ _ _ => pts_nil)
          (fun _ _ _ _ _ => pe_call GI hr (by rfl) gI kI bI .nil pass0 (pa_cons (pe_dget hu (pv 1) (pv 2) (fun _ _ => rfl)) pa_nil))) pa_nil))
      (pe_one (pe_cmpR op_eq (pe_callB cr_lenX (by rfl) ln PySem.boot_len (pa_cons (pe_sx1 (own := [("name", 2)]) rfl scIR.nd (pi_tup (pv 0)) (blkOk_by (N := ["names", "told", "name"]) (sc := defScope sIsRen) (by decide +kernel)) (fun _ _ _ _ _ => pg_name (i := 2) scIR.nd rfl (Or.inl rfl)) (fun _ _ _ _ _ => pts_nil)
          (fun _ _ _ _ _ => pe_dget hu (pv 1) (pv 2) (fun _ _ => rfl))) pa_nil)) (pe_callB call_len_seq (by rfl) ln PySem.boot_len (pa_cons (pv 0) pa_nil)) (nomark _)))))))), ?_⟩
    cases ht with
    | dat h no => exact isi_te (x := v) rfl h.tyx ((kit_dic _).trans (congrArg some no)) ⟨_, rfl, iteF (q H (Same.refl H))⟩
    | @dic a kvs dat sa e hd =>
      refine isi_te (x := .ref a) rfl (.base (.dK e)) (r := true) (show kitB "dict" "dict" = some true by decide +kernel) ⟨_, rfl, iteT ?_⟩
      refine ⟨_, rfl, a, kvs, rfl, e, _, rfl, nt, _, rfl, .inr (SqT.of en), rfl, _, rfl, ?_⟩
      rw [List.length_map]
      have e1 : decide (V.int (kvs.length : Int) = V.int (ns.length : Int)) = decide (kvs.length = ns.length) := decide_eq_decide.mpr ⟨fun z => by
        have := V.int.inj z
        omega, fun z => by rw [z]⟩
      rw [e1]
      unfold renB at q
      cases h1 : decide (kvs.length = ns.length) with
      | false =>
        rw [h1, Bool.false_and] at q
        exact iteF (q H (Same.refl H))
      | true =>
        rw [h1, Bool.true_and] at q
        refine iteT ⟨_, rfl, nt, rfl, ⟨_, SqT.of en⟩, fun Dl hD => lc_tup (PvM H Dl (ns.map fun n => (valV kvs (.inr n)).isSome)) (PvM.zero hD) (fun i G _ p => SqT.of (p.1 _ _ en)) (fun i x G hi p => ?_) (fun G p => ?_)⟩
        · rw [List.getElem?_map] at hi
          obtain ⟨n, hn, rfl⟩ := Option.map_eq_some_iff.mp hi
          refine ⟨rfl, _, rfl, _, rfl, a, _, rfl, DGet.k (k := .inr n) (p.1 _ _ e), p.step hD (by rw [List.length_map]; omega) (by rw [List.getElem?_map, hn]; try rfl) (Same.refl _)⟩
        · obtain ⟨s1, e2⟩ := p.all (by rw [List.length_map, List.length_map])
          refine ⟨Dl, _, rfl, SqL.of e2, _, rfl, ?_⟩
          rw [all_map_id]
          cases h2 : ns.all (fun n => (valV kvs (.inr n)).isSome) with
          | false =>
            rw [h2, Bool.false_and] at q
            exact iteF (q G s1)
          | true =>
            rw [h2, Bool.true_and] at q
            have some_ : ∀ n ∈ ns, ∃ v, valV kvs (.inr n) = some v := fun n hn => Option.isSome_iff_exists.mp (List.all_eq_true.mp h2 n hn)
            refine iteT ⟨_, rfl, nt, rfl, ⟨_, SqT.of (s1 _ _ en)⟩, fun D2 hD2 => lc_tup (PvM G D2 (ns.map fun n => isNameD (dat n))) (PvM.zero hD2) (fun i G2 _ p => SqT.of (p.1 _ _ (s1 _ _ en))) (fun i x G2 hi p => ?_) (fun G2 p => ?_)⟩
            · rw [List.getElem?_map] at hi
              obtain ⟨n, hn, rfl⟩ := Option.map_eq_some_iff.mp hi
              obtain ⟨v, hv⟩ := some_ n (List.mem_of_getElem? hn)
              obtain ⟨dv, sv⟩ := hd (of_decide_eq_true h1) h2 n (List.mem_of_getElem? hn) v hv
              have g := DGet.k (k := .inr n) (p.1 _ _ (s1 _ _ e))
              rw [hv] at g
              exact ⟨rfl, _, rfl, _, rfl, a, v, rfl, g, S, v, dat n, rfl, dv.mv (fun _ z => z) (fun b o _ z => p.1 b o (s1 b o z)), sv, fun G3 s3 => p.step hD2 (by rw [List.length_map]; omega) (by rw [List.getElem?_map, hn]; try rfl) s3⟩
            · obtain ⟨s2, e3⟩ := p.all (by rw [List.length_map, List.length_map])
              have s12 := s1.trans s2
              refine ⟨D2, _, rfl, SqL.of e3, _, rfl, ?_⟩
              rw [all_map_id]
              cases h3 : ns.all (fun n => isNameD (dat n)) with
              | false =>
                rw [h3, Bool.false_and] at q
                exact iteF (q G2 s12)
              | true =>
                rw [h3, Bool.true_and] at q
                have val : ∀ n ∈ ns, valV kvs (.inr n) = some (.str (strD (dat n))) := fun n hn => by
                  obtain ⟨v, hv⟩ := some_ n hn
                  obtain ⟨y, hy⟩ := isS (List.all_eq_true.mp h3 n hn)
                  have dv := (hd (of_decide_eq_true h1) h2 n hn v hv).1
                  rw [hy] at dv
                  rw [hv, dt_str1 dv, hy]
                  rfl
                refine iteT ⟨_, rfl, nt, rfl, ⟨_, SqT.of (s12 _ _ en)⟩, fun D3 hD3 => goes_tup (xs := ns.map V.str) (fun i G3 => Same G2 G3 ∧ G3 D3 = some (SetTO w D3 (firsts [] ((ns.take i).map fun n => strD (dat n))))) ⟨same_upd hD3, upd_same⟩ (fun i G3 h => SqT.of (h.1 _ _ (s12 _ _ en))) (fun i x G3 hi h => ?_) (fun G3 h => ?_)⟩
                · obtain ⟨s3, e4⟩ := h
                  rw [List.getElem?_map] at hi
                  obtain ⟨n, hn, rfl⟩ := Option.map_eq_some_iff.mp hi
                  have li := (List.getElem?_eq_some_iff.mp hn).1
                  have g := DGet.k (k := .inr n) (s3 _ _ (s12 _ _ e))
                  rw [val n (List.mem_of_getElem? hn)] at g
                  refine ⟨rfl, _, rfl, _, rfl, a, _, rfl, g, _, _, rfl, e4, ?_, same_put hD3 s3, ?_⟩
                  · have l1 := len_firsts ((ns.take i).map fun n => strD (dat n)) []
                    rw [List.length_map, List.length_take] at l1
                    simp only [List.length_nil] at l1
                    have l5 : scanBound = 4096 := rfl
                    omega
                  · rw [upd_same, List.take_add_one, hn, List.map_append]
                    show _ = some (SetTO w D3 (firsts [] (_ ++ [strD (dat n)])))
                    rw [firsts_snoc]
                    rfl
                · obtain ⟨s3, e4⟩ := h
                  rw [List.length_map, List.take_length] at e4
                  refine ⟨D3, _, rfl, e4, _, rfl, nt, _, rfl, .inr (SqT.of (s3 _ _ (s12 _ _ en))), rfl, ?_⟩
                  have e5 : decide (V.int (((firsts [] (ns.map fun n => strD (dat n))).length : Nat) : Int) = V.int (((ns.map V.str).length : Nat) : Int)) = decide ((firsts [] (ns.map fun n => strD (dat n))).length = ns.length) := decide_eq_decide.mpr ⟨fun z => by
                    have := V.int.inj z
                    rw [List.length_map] at this
                    omega, fun z => by rw [z, List.length_map]⟩
                  rw [e5]
                  exact q G3 (s12.trans s3)
end
end OM

namespace OM
open PySem PySem.Spec PyProof.Rows L2
/-- o.m(k = v, ..) of an instance -/
def tMethK (C : Addr) (m : Str) (n : Nat) (sp : Sp) (gV : List V → List V → List V) (E : XK) (ta : TE) (tk : TA) : TE := fun σ H Q => ta σ H fun x H1 => ∃ (a dx : Addr) (fs : List (Str × V)), x = .ref a ∧ H1 a = some (.ins C dx fs) ∧ fs.lookup m = none ∧
  tk σ H1 fun zs H2 => zs.length = n ∧ sp (gV [.ref a] zs) H2 Q E
theorem pe_methK {X : Cx} {CX : CXT} {k : Nat} {C f : Addr} {m : Str} {fd : FuncData} {ps ks : List Str} {sp : Sp} {E : XK} {o : Expr} {kws : List Keyword} {ta : TE} {tk : TA} {apos pos : Pos} {pl : Sem Bool} {g : List Value → List Value → List Value} {gV : List V → List V → List V} (he : PE X o ta) (c : Cls X.K C) (hm : Meth X.K C m f)
    (F : FnOk X.prog X.w X.K X.mg X.base CX k f fd ps sp) (hr : Room k X.A) (hb : KBn X.K fd ps 1 ks g gV) (hx : Passes CX X E) (hkw : PK X kws tk)
    (hall : (backToKw pos (keywordEach kws X.env)).all (·.1.isSome) = true := by rfl) (hks : (backToKw pos (keywordEach kws X.env)).filterMap (·.1) = ks := by rfl)
    (hpl : ((backTo pos (starEach [] X.env)).any (·.1) || (backToKw pos (keywordEach kws X.env)).any (·.1.isNone)) = false := by rfl)
    (ht : eval (.Call (.Attribute o m apos) [] kws pos) X.env = (do
      let ov ← eval o X.env
      standAt apos.atName
      let (f, first) ← holding [ov] (getMethod ov m pl)
      callWith pos f first (backTo pos (starEach [] X.env)) (backToKw pos (keywordEach kws X.env))) := by rfl) :
    PE X (.Call (.Attribute o m apos) [] kws pos) (tMethK C m ks.length sp gV E ta tk) := by
  refine ⟨fun pins s σ H Q I h => ?_⟩
  refine PySem.W.methodCall_KW (pl := pl) (thn (he.run pins s σ H _ I h) fun u s1 ⟨x, H1, I1, rx, a, dx, fs, ex, ea, l, q⟩ => ?_) ht
  subst ex
  obtain rfl : u = Value.ref a := rx
  refine getmeth_ok I1 ea c hm l ?_
  refine PySem.W.callWith_KW0 (first := [.ref a]) (h₀ := X.base) I.ok.mod.kin hm.kp hall ?_ hpl
  refine thn (hkw.run pos pins s1 σ H1 _ I1 q) fun ws s2 ⟨zs, H2, I2, rz, l2, q2⟩ => ⟨I2.kIn, ?_⟩
  rw [hks]
  exact run_fnN (us := [.ref a]) (vs := [.ref a]) F hr hb hx I2 (.cons rfl .nil) rz rfl l2 q2
/-- what may be told for a keyword: nothing, or a dict that is right -/
def ToldOk (S : Addr → Prop) (H : Hp) (ns : List Str) (v : V) : Prop := v = .non ∨ (v ≠ .non ∧ Told S H ns v true)
def ToldNo (S : Addr → Prop) (H : Hp) (ns : List Str) (v : V) : Prop := v ≠ .non ∧ Told S H ns v false
theorem ToldOk.mv {S : Addr → Prop} {H H' : Hp} {ns : List Str} {v : V} (h : ToldOk S H ns v) (s : Same H H') : ToldOk S H' ns v := h.imp id fun z => ⟨z.1, z.2.mv s⟩
theorem ToldNo.mv {S : Addr → Prop} {H H' : Hp} {ns : List Str} {v : V} (h : ToldNo S H ns v) (s : Same H H') : ToldNo S H' ns v := ⟨h.1, h.2.mv s⟩
theorem told_ok {S : Addr → Prop} {H : Hp} {ns : List Str} {v : V} {X O : Prop} (h : ToldOk S H ns v) (q : X) : (v = .non ∧ X) ∨ (v ≠ .non ∧ ∃ b, Told S H ns v b ∧ (b = true → X) ∧ (b = false → O)) :=
  h.elim (fun e => .inl ⟨e, q⟩) fun z => .inr ⟨z.1, true, z.2, fun _ => q, fun y => nomatch y⟩
noncomputable abbrev cellsC (ds : List PyData) : List Str := canon (rolesS "cell" ds)
noncomputable abbrev regsC (ds : List PyData) (ks : List Str) : List Str := canon (ks ++ rolesS "register" ds)
def spRenM (K : PySem.W.Frag) (C cO : Addr) : Sp := fun vs H Q E => ∃ (S : Addr → Prop) (a : Addr) (ds : List PyData) (ks : List Str) (cv rv : V), vs = [.ref a, cv, rv] ∧ StI K C H a ds ks ∧
  ((ToldNo S H (cellsC ds) cv ∧ OutN E cO H) ∨ (ToldOk S H (cellsC ds) cv ∧ ToldNo S H (regsC ds ks) rv ∧ OutN E cO H) ∨ (ToldOk S H (cellsC ds) cv ∧ ToldOk S H (regsC ds ks) rv ∧ ∀ H' v, Same H H' → Q v H'))
section
variable {P : Program} {w : World} {K : PySem.W.Frag} {mg : Str → Option Value} {base : Heap} {f fR fI fN fO fC C cO : Addr} {fd dR dI dN dO dC : FuncData}
theorem scNN : FnScope ["names", "told", "name"] ["names", "told"] (defScope sNewN) := ⟨rfl, rfl, rfl, by decide +kernel, rfl, by decide +kernel, by decide +kernel⟩
theorem ok_newn (F : Fun K "_new_names" "_new_names" sNewN f fd) (gR : mg "_is_renaming" = some (.ref fR)) (kR : PySem.W.keepIn K (.ref fR) = true) (bR : Binds K dR ["names", "told"] []) (GR : FnOk P w K mg base CX0 2 fR dR ["names", "told"] spIsRen)
    (kO : KCls K cO fI "ValueError" []) (gcO : mg "InvalidOperation" = some (.ref cO)) (GI : FnOk P w K mg base CX0 1 fI dI ["self", "why"] (spI0 K "ValueError")) (bI : Binds K dI ["self", "why"] []) :
    FnOk P w K mg base (L2.CX P w) 4 f fd ["names", "told"] (spNewN cO) := by
  refine F.okX scNN (fun vs H Q E h => ?_) (fun cdv A outer s H vs Q E hr h => ?_)
  · obtain ⟨S, nt, ns, v, rfl, _⟩ := h
    rfl
  · obtain ⟨S, nt, ns, v, rfl, en, hl, q⟩ := h
    have hu : (A.deeper (envOfC "_new_names" (defScope sNewN) s.heap.objs.size f cdv)).units + 1 < cLine := by
      have := hr.un
      omega
    refine ⟨_, pss_cons (ps_if (pt_cmp (pc_isN (pv 1))) (pss_one (ps_ret (pe_dc (own := [("name", 2)]) rfl scNN.nd (pi_tup (pv 0)) (blkOk_by (N := ["names", "told", "name"]) (sc := defScope sNewN) (by decide +kernel)) (fun _ _ _ _ _ => pg_name (i := 2) scNN.nd rfl (Or.inl rfl)) (fun _ _ _ _ _ => pts_nil) (fun _ _ _ _ _ => pv 2) (fun _ _ _ _ _ => pv 2)))) pss_nil)
      (pss_cons (ps_if (pt_not (pt_val (pe_call GR (hr.mono (by decide)) (by rfl) gR kR bR .nil pass0 (pa_cons (pv 0) (pa_cons (pv 1) pa_nil))))) (pss_one (ps_raise rfl (takes_of rfl rfl rfl rfl) (pmk_B (Classical.choose_spec kO.made).1 GI (hr.mono (by decide)) (by rfl) gcO bI .nil pass0 (pa_cons pe_str pa_nil)))) pss_nil)
      (pss_one (ps_ret (pe_dc (own := [("name", 2)]) rfl scNN.nd (pi_tup (pv 0)) (blkOk_by (N := ["names", "told", "name"]) (sc := defScope sNewN) (by decide +kernel)) (fun _ _ _ _ _ => pg_name (i := 2) scNN.nd rfl (Or.inl rfl)) (fun _ _ _ _ _ => pts_nil) (fun _ _ _ _ _ => pv 2) (fun _ _ _ _ _ => pe_dget hu (pv 1) (pv 2) (fun _ _ => rfl)))))), ?_⟩
    rcases q with ⟨rfl, q⟩ | ⟨nn, b, ht, q1, q2⟩
    · refine ⟨_, rfl, _, rfl, iteT ⟨_, rfl, nt, rfl, ⟨_, SqT.of en⟩, fun D hD => dc_tup (PvD H D ns) (PvD.zero hD) (fun i G _ p => SqT.of (p.1 _ _ en)) (fun i x G hi p => ?_) (fun G p => ?_)⟩⟩
      · rw [List.getElem?_map] at hi
        obtain ⟨n, hn, rfl⟩ := Option.map_eq_some_iff.mp hi
        exact ⟨rfl, _, rfl, _, rfl, p.step hD hn hl⟩
      · exact q G D p.1 (p.done (by rw [List.length_map]; exact Nat.le_refl _))
    · refine ⟨_, rfl, _, rfl, ?_⟩
      rw [decide_eq_false nn]
      refine iteF ⟨_, rfl, _, rfl, S, nt, ns, v, b, rfl, en, hl, ht, fun H1 s1 => ⟨_, rfl, ?_⟩⟩
      cases b with
      | false => exact iteT (mk0 kO fun H' s' => q2 rfl H' (s1.trans s'))
      | true =>
        refine iteF ?_
        have ht := ht.mv s1
        generalize hb : true = b at ht
        cases ht with
        | dat h no => cases hb
        | @dic a kvs dat sa e hd =>
          unfold renB at hb
          have hb := hb.symm
          simp only [Bool.and_eq_true, decide_eq_true_eq] at hb
          obtain ⟨h1, h2, h3, h4⟩ := hb
          have val : ∀ n ∈ ns, valV kvs (.inr n) = some (.str (strD (dat n))) := fun n hn => by
            obtain ⟨v, hv⟩ := Option.isSome_iff_exists.mp (List.all_eq_true.mp h2 n hn)
            obtain ⟨y, hy⟩ := isS (List.all_eq_true.mp h3 n hn)
            have dv := (hd h1 h2 n hn v hv).1
            rw [hy] at dv
            rw [hv, dt_str1 dv, hy]
            rfl
          refine ⟨_, rfl, nt, rfl, ⟨_, SqT.of (s1 _ _ en)⟩, fun D hD => dc_tup (PvD H1 D ns) (PvD.zero hD) (fun i G _ p => SqT.of (p.1 _ _ (s1 _ _ en))) (fun i x G hi p => ?_) (fun G p => ?_)⟩
          · rw [List.getElem?_map] at hi
            obtain ⟨n, hn, rfl⟩ := Option.map_eq_some_iff.mp hi
            have g := DGet.k (k := .inr n) (p.1 _ _ e)
            rw [val n (List.mem_of_getElem? hn)] at g
            exact ⟨rfl, _, rfl, _, rfl, _, rfl, a, _, rfl, g, p.step hD hn hl⟩
          · exact q1 rfl G D (s1.trans p.1) (p.done (by rw [List.length_map]; exact Nat.le_refl _))
theorem canon_few {l : List Str} {n : Nat} (h : l.length ≤ n) : (canon l).length ≤ n := Nat.le_trans (canon_len l) h
theorem scRM : FnScope ["self", "cells", "registers", "new_cells", "new_registers", "keeps", "name"] ["self", "cells", "registers"] (defScope sRenM) := ⟨rfl, rfl, rfl, by decide +kernel, rfl, by decide +kernel, by decide +kernel⟩
theorem ok_renM {kws : List (Str × V)} {dvs : List V} {pc pr fCe fRe : Addr} {dCe dRe : FuncData} (F : FunD K "renamed" "Stretch.renamed" (defArgs sRenM) (defBody sRenM) (defScope sRenM) dvs kws f fd) (T : StrT K mg C) (tup : mg "tuple" = none) (srt : mg "sorted" = none)
    (hC : PropOf K C "cells" pc fCe) (GC : FnOk P w K mg base CX0 7 fCe dCe ["self"] (spRole K C fun ds _ => rolesS "cell" ds)) (bC : Binds K dCe ["self"] []) (hR : PropOf K C "registers" pr fRe) (GR : FnOk P w K mg base CX0 7 fRe dRe ["self"] (spRole K C fun ds ks => ks ++ rolesS "register" ds)) (bR : Binds K dRe ["self"] [])
    (gN : mg "_new_names" = some (.ref fN)) (kN : PySem.W.keepIn K (.ref fN) = true) (bN : Binds K dN ["names", "told"] []) (GN : FnOk P w K mg base (L2.CX P w) 4 fN dN ["names", "told"] (spNewN cO))
    (gO : mg "stretch_of" = some (.ref fO)) (kO : PySem.W.keepIn K (.ref fO) = true) (bO : Binds K dO ["code", "keeps"] []) (GO : FnOk P w K mg base CX0 17 fO dO ["code", "keeps"] (spOf C))
    (gD : mg "renamed_code" = some (.ref fC)) (kD : PySem.W.keepIn K (.ref fC) = true) (bD : Binds K dC ["code", "cells", "registers"] []) (GD : FnOk P w K mg base CX0 13 fC dC ["code", "cells", "registers"] (spRCodeAt 4)) :
    FnOk P w K mg base (L2.CX P w) 18 f fd ["self", "cells", "registers"] (spRenM K C cO) := by
  refine F.ok scRM (fun vs H Q E h => ?_) (fun cdv A outer s H vs Q E hr h => ?_)
  · obtain ⟨S, a, ds, ks, cv, rv, rfl, _⟩ := h
    rfl
  · obtain ⟨S, a, ds, ks, cv, rv, rfl, st, q⟩ := h
    have hu : (A.deeper (envOfC "Stretch.renamed" (defScope sRenM) s.heap.objs.size f cdv)).units + 1 < cLine := by
      have := hr.un
      omega
    refine ⟨_, pss_cons (ps_set (i := 3) scRM.nd rfl (Or.inl rfl) (pe_call GN (hr.mono (by decide)) (by rfl) gN kN bN .nil (passes_call (takes_of rfl rfl rfl rfl) (fun _ _ _ _ h => h)) (pa_cons (pe_prop (E := E0) (pv 0) T.cl hC GC (hr.mono (by decide)) bC .nil pass0 (by rfl)) (pa_cons (pv 1) pa_nil))))
      (pss_cons (ps_set (i := 4) scRM.nd rfl (Or.inr rfl) (pe_call GN (hr.mono (by decide)) (by rfl) gN kN bN .nil (passes_call (takes_of rfl rfl rfl rfl) (fun _ _ _ _ h => h)) (pa_cons (pe_prop (E := E0) (pv 0) T.cl hR GR (hr.mono (by decide)) bR .nil pass0 (by rfl)) (pa_cons (pv 2) pa_nil))))
      (pss_cons (ps_set (i := 5) scRM.nd rfl (Or.inl rfl) (pe_callTy call_tuple_of (by rfl) tup (by decide +kernel) (pa_cons (pe_callB cr_sortedS (by rfl) srt (by decide +kernel) (pa_cons (pe_lc (own := [("name", 6)]) rfl scRM.nd (pi_tup (pe_fld (pv 0) rfl)) (blkOk_by (N := ["self", "cells", "registers", "new_cells", "new_registers", "keeps", "name"]) (sc := defScope sRenM) (by decide +kernel))
          (fun _ _ _ _ _ => pg_name (i := 6) scRM.nd rfl (Or.inl rfl)) (fun _ _ _ _ _ => pts_nil) (fun _ _ _ _ _ => pe_dget hu (pv 4) (pv 6) (fun _ _ => rfl))) pa_nil)) pa_nil)))
      (pss_one (ps_ret (pe_call GO hr (by rfl) gO kO bO .nil pass0 (pa_cons (pe_call GD (hr.mono (by decide)) (by rfl) gD kD bD .nil pass0 (pa_cons (pe_fld (pv 0) rfl) (pa_cons (pv 3) (pa_cons (pv 4) pa_nil)))) (pa_cons (pv 5) pa_nil))))))), ?_⟩
    obtain ⟨dx, kb, c, ea, hd, hk, rows, size, lk⟩ := id st
    have l4 := kept_len lk
    have fewC : (cellsC ds).length ≤ 900 := Nat.le_trans (canon_few (roles_few (role := "cell") rows size)) (by decide)
    have fewR : (regsC ds ks).length ≤ 900 := by
      refine canon_few ?_
      have := roles_few (role := "register") rows size
      rw [List.length_append]
      omega
    refine ⟨_, rfl, a, dx, _, rfl, ea, a, ds, ks, rfl, st, fun H1 v1 s1 d1 => ?_⟩
    obtain ⟨t1, x1, rfl, e1, _, h1⟩ := d1.tup_of
    obtain rfl := dt_strL h1
    have st1 := st.mv s1
    have cov : Cov (flatN 3 ds) (cellsC ds) (regsC ds ks) := ⟨fun x hx => mem_canon.mpr hx, fun x hx => mem_canon.mpr (List.mem_append_right _ hx)⟩
    rcases q with ⟨no, out⟩ | q
    · exact ⟨_, rfl, S, t1, cellsC ds, cv, rfl, e1, fewC, .inr ⟨no.1, false, no.2.mv s1, fun z => (nomatch z), fun _ H' s' => out H' (s1.trans s')⟩⟩
    · have okC : ToldOk S H (cellsC ds) cv := by
        rcases q with q | q
        · exact q.1
        · exact q.1
      refine ⟨_, rfl, S, t1, cellsC ds, cv, rfl, e1, fewC, told_ok (okC.mv s1) fun H2 p2 s2 n2 => ?_⟩
      have s12 := s1.trans s2
      refine ⟨_, rfl, a, dx, _, rfl, s12 _ _ ea, a, ds, ks, rfl, st.mv s12, fun H3 v3 s3 d3 => ?_⟩
      obtain ⟨t3, x3, rfl, e3, _, h3⟩ := d3.tup_of
      obtain rfl := dt_strL h3
      have s13 := s12.trans s3
      rcases q with ⟨_, no, out⟩ | ⟨_, okR, q⟩
      · exact ⟨_, rfl, S, t3, regsC ds ks, rv, rfl, e3, fewR, .inr ⟨no.1, false, no.2.mv s13, fun z => (nomatch z), fun _ H' s' => out H' (s13.trans s')⟩⟩
      · refine ⟨_, rfl, S, t3, regsC ds ks, rv, rfl, e3, fewR, told_ok (okR.mv s13) fun H4 p4 s4 n4 => ?_⟩
        have s14 := s13.trans s4
        have hk4 := L2.SqT.ext hk s14
        refine ⟨_, rfl, a, C, dx, _, .ref kb, rfl, s14 _ _ ea, T.cl, T.nk, rfl, kb, rfl, ⟨_, hk4⟩, fun Dl hD => lc_tup (fun i G => Same H4 G ∧ ∃ acc : List Str, G Dl = some (.lst (acc.map V.str)) ∧ acc.length = i) ⟨same_upd hD, [], upd_same, rfl⟩ (fun i G _ p => L2.SqT.ext hk4 p.1) (fun i x G hi p => ?_) (fun G p => ?_)⟩
        · obtain ⟨s5, acc, e5, l5⟩ := p
          rw [List.getElem?_map] at hi
          obtain ⟨n, hn, rfl⟩ := Option.map_eq_some_iff.mp hi
          have li := (List.getElem?_eq_some_iff.mp hn).1
          obtain ⟨y, g⟩ := (n4.mv s5).get (x := n) (mem_canon.mpr (List.mem_append_left _ (List.mem_of_getElem? hn)))
          have line : (1000 : Nat) < sizeLine := by decide
          exact ⟨rfl, _, rfl, _, rfl, p4, _, rfl, g, _, e5, by rw [List.length_map]; omega, same_put hD s5, acc ++ [y], by rw [upd_same, List.map_append]; rfl, by rw [List.length_append, l5]; rfl⟩
        · obtain ⟨s5, acc, e5, l5⟩ := p
          rw [List.length_map] at l5
          refine ⟨Dl, acc, rfl, SqL.of e5, by omega, fun ys p5 perm so hp5 => ⟨p5, _, rfl, .inl ⟨SqL.of upd_same, fun l hl => ?_⟩⟩⟩
          have s6 := (s5.trans (same_upd (o := .lst (ys.map V.str)) hp5)).trans (same_upd (o := .tup (ys.map V.str)) hl)
          have s16 := s14.trans s6
          refine ⟨_, rfl, a, C, dx, _, c, rfl, s16 _ _ ea, T.cl, T.nc, rfl, _, rfl, _, rfl, fun _ => True, c, p2, p4, cellsC ds, regsC ds ks, ds, rfl, hd.mv (fun _ z => z) (fun b o _ z => s16 b o z), rows, n2.mv ((s3.trans s4).trans s6), n4.mv s6, cov, fun H7 v7 s7 => ⟨_, rfl, _, _, rfl, fun H8 x dz s8 nx e8 => ?_⟩⟩
          exact q H8 _ ((s16.trans s7).trans s8)
end
end OM

namespace OM
open PySem PySem.Spec PyProof.Rows L2
/-! ### things written out, laid anew -/
def fLit (R : L2.St → Hp → Prop) (d : PyData) : TE := fun σ H Q => R σ H ∧ ∀ v H', Same H H' → Dt (fun b => H b = none) H' v d → Q v H'
def fLits (R : L2.St → Hp → Prop) (ds : List PyData) : TA := fun σ H Q => R σ H ∧ ∀ vs H', Same H H' → DtAll (fun b => H b = none) H' vs ds → Q vs H'
def fItems (R : L2.St → Hp → Prop) (ds : List PyData) : TE := fun σ H Q => R σ H ∧ ∀ p vs H', Same H H' → H p = none → H' p = some (.lst vs) → DtAll (fun b => H b = none) H' vs ds → Q (.ref p) H'
/-- a choice among things written out; the dice in slot 0 -/
def tOne (R : L2.St → Hp → Prop) (ds : List PyData) : TE := fun σ H Q => ∃ d : Addr, σ[0]? = some (some (.ref d)) ∧ Dice H d ∧ R σ H ∧ ∀ v H' e, But d H H' → Dice H' d → e ∈ ds → Dt (fun b => H b = none) H' v e → Q v H'
section
variable {X : Cx} {R : L2.St → Hp → Prop} {e : Expr} {es : List Expr} {j k : Nat} {pos p p2 lp : Pos} {x : Str}
theorem pe_fs : PE X (.Constant (.str x) j pos) (fLit R (.str x)) := PE.imp pe_str fun σ H Q q => q.2 _ H (Same.refl H) (.at (.str x))
theorem pa_fn : PA X [] (fLits R []) := PA.imp pa_nil fun σ H Q q => q.2 _ H (Same.refl H) .nil
theorem pa_fc (S : Stays R) {d : PyData} {ds : List PyData} (h : PE X e (fLit R d)) (r : PA X es (fLits R ds)) (he : starEach (e :: es) X.env = (false, eval e X.env) :: starEach es X.env := by rfl) : PA X (e :: es) (fLits R (d :: ds)) :=
  PA.imp (pa_cons h r he) fun σ H Q q => ⟨q.1, fun v H1 s1 d1 => ⟨S.st _ _ _ s1 q.1, fun vs H2 s2 d2 => q.2 _ H2 (s1.trans s2) (.cons (d1.mv (fun _ z => z) fun b o _ z => s2 b o z) (d2.mv (fun _ z => s1.free z) fun _ _ _ z => z))⟩⟩
theorem pe_ft {ds : List PyData} (h : PA X es (fLits R ds)) (hl : ds.length ≤ 1000 := by decide) : PE X (.Tuple es k pos) (fLit R (.tuple ds)) :=
  PE.imp (pe_tup h) fun σ H Q q => ⟨q.1, fun vs H1 s1 d1 => by
    have l := d1.length
    have : (1000 : Nat) < sizeLine := by decide
    refine ⟨by omega, fun p hp => q.2 _ _ (s1.trans (same_upd hp)) (.tup (s1.free hp) upd_same (by omega) (d1.mv (fun _ z => z) fun b o _ z => same_upd hp b o z))⟩⟩
theorem pe_fl {ds : List PyData} (h : PA X es (fLits R ds)) (hl : ds.length ≤ 1000 := by decide) : PE X (.List es pos) (fItems R ds) :=
  PE.imp (pe_lst h) fun σ H Q q => ⟨q.1, fun vs H1 s1 d1 => by
    have l := d1.length
    have : (1000 : Nat) < sizeLine := by decide
    exact ⟨by omega, fun p hp => q.2 p vs _ (s1.trans (same_upd hp)) (s1.free hp) upd_same (d1.mv (fun _ z => z) fun b o _ z => same_upd hp b o z)⟩⟩
theorem pe_fv (i : Nat) {y : Str} (hR : ∀ σ H, R σ H → σ[i]? = some (some (.str y))) (hN : X.N[i]? = some x := by rfl) (hv : Vis X.env.scope x := by first | exact Or.inl rfl | exact Or.inr (Or.inl rfl) | exact Or.inr (Or.inr rfl)) (hd : (x == ("__debug__" : Str)) = false := by decide)
    (hcd : (x == ("__classdict__" : Str)) = false := by decide) : PE X (.Name x pos) (fLit R (.str y)) := PE.imp (pv i hN hv hd hcd) fun σ H Q q => ⟨_, hR σ H q.1, q.2 _ H (Same.refl H) (.at (.str y))⟩
theorem pe_one5 {f : Addr} {fd : FuncData} {n : Nat} {ds : List PyData} {dn : Str} (G : FnOk X.prog X.w X.K X.mg X.base CX0 n f fd ["_law_dice_here", "_law_items"] (spOneOf X.K)) (hr : Room n X.A) (hg : Gl X "_law_one_of") (gF : X.mg "_law_one_of" = some (.ref f)) (kF : PySem.W.keepIn X.K (.ref f) = true) (bF : Binds X.K fd ["_law_dice_here", "_law_items"] [])
    (hd : PE X (.Name dn p2) (tVar 0)) (h : PE X (.List es lp) (fItems R ds)) (h0 : 0 < ds.length ∧ ds.length ≤ 1000) (h1 : starEach [.Name dn p2, .List es lp] X.env = (false, eval (.Name dn p2) X.env) :: starEach [.List es lp] X.env := by rfl) (h2 : starEach [.List es lp] X.env = (false, eval (.List es lp) X.env) :: starEach [] X.env := by rfl)
    (hpl : (backTo pos (starEach [.List es lp] X.env)).any (·.1) = false := by rfl) : PE X (.Call (.Name "_law_one_of" p) [.Name dn p2, .List es lp] [] pos) (tOne R ds) :=
  PE.imp (pe_call G hr hg gF kF bF .nil pass0 (pa_cons hd (pa_cons h pa_nil h2) h1) (he := h1) (hpl := hpl)) fun σ H Q ⟨d, e0, hD, hR, q⟩ => by
    refine ⟨_, e0, hR, fun pl vs H1 s1 np ep dv => ?_⟩
    have dne : H d ≠ none := hD.ne
    have l := dv.length
    refine ⟨d, pl, vs, rfl, hD.mv s1, SqL.of ep, fun _ z => dne (by rw [← z]; exact np), by omega, by omega, fun H2 i v hv b2 hd2 => ?_⟩
    obtain ⟨e, he, hde⟩ := dv.get hv
    exact q v H2 e (fun b o hb eo => b2 b o hb (s1 b o eo)) hd2 (List.mem_of_getElem? he) (hde.mv (fun _ z => z) fun b o hb eo => b2 b o (fun z => dne (by rw [← z]; exact hb)) eo)
end
section
variable {X : Cx} {R : L2.St → Hp → Prop} {es : List Expr} {j : Nat} {pos : Pos}
theorem pe_fn0 : PE X (.Constant .none j pos) (fLit R .none) := PE.imp pe_non fun σ H Q q => q.2 _ H (Same.refl H) (.at .non)
theorem pe_fi0 {i : Int} : PE X (.Constant (.int i) j pos) (fLit R (.int i)) := PE.imp pe_int fun σ H Q q => q.2 _ H (Same.refl H) (.at (.int i))
theorem pe_fb0 {b : Bool} : PE X (.Constant (.bool b) j pos) (fLit R (.bool b)) := PE.imp pe_bl fun σ H Q q => q.2 _ H (Same.refl H) (.at (.bl b))
theorem pe_fd0 : PE X (.Dict [] [] pos) (fLit R (.dict [])) := PE.imp pe_dnewK fun σ H Q q p hp => q.2 _ _ (same_upd hp) (.dic0 hp upd_same)
theorem pe_fL {ds : List PyData} (h : PA X es (fLits R ds)) (hl : ds.length ≤ 1000 := by decide) : PE X (.List es pos) (fLit R (.list ds)) :=
  PE.imp (pe_lst h) fun σ H Q q => ⟨q.1, fun vs H1 s1 d1 => by
    have l := d1.length
    have : (1000 : Nat) < sizeLine := by decide
    refine ⟨by omega, fun p hp => q.2 _ _ (s1.trans (same_upd hp)) (.lst (s1.free hp) upd_same (by omega) (d1.mv (fun _ z => z) fun b o _ z => same_upd hp b o z))⟩⟩
end
abbrev sBadK : Stmt := top 63
def badK1 : List PyData := [.none, .int 0, .str "a", .list [.str "a"], .tuple [.str "b", .str "a"], .tuple [.str "a", .str "a"], .tuple [.str "A"], .tuple [.str "put"], .tuple [.int 0], .dict [], .tuple [.str "a", .str "b", .str "c", .str "d", .str "e"], .bool true]
def badK2 : List PyData := [.tuple [.tuple [.str "a"]], .tuple [.str ""], .tuple [.none], .tuple [.str "a", .str "abcdefghi"]]
theorem badK_ok : ∀ d ∈ badK1 ++ badK2, smlD d = true ∧ keptD d = false := by decide +kernel
def spBadK : Sp := fun vs H Q _ => ∃ d : Addr, vs = [.ref d] ∧ Dice H d ∧ ∀ H' v e, But d H H' → Dice H' d → smlD e = true → keptD e = false → Dt (fun b => H b = none) H' v e → Q v H'
theorem pa_f1 {X : Cx} {R : L2.St → Hp → Prop} (S : Stays R) {x : Str} {j : Nat} {p : Pos} {es : List Expr} {ds : List PyData} (r : PA X es (fLits R ds)) (he : starEach (.Constant (.str x) j p :: es) X.env = (false, eval (.Constant (.str x) j p) X.env) :: starEach es X.env := by rfl) : PA X (.Constant (.str x) j p :: es) (fLits R (.str x :: ds)) := pa_fc S pe_fs r he
section
variable {P : Program} {w : World} {K : PySem.W.Frag} {mg : Str → Option Value} {base : Heap} {f fO : Addr} {fd dO : FuncData}
theorem scBK : FnScope ["_law_dice_here", "_law_some"] ["_law_dice_here"] (defScope sBadK) := ⟨rfl, rfl, rfl, by decide +kernel, rfl, by decide +kernel, by decide +kernel⟩
theorem ok_badk (F : Fun K "_law_bad_keeps" "_law_bad_keeps" sBadK f fd) (gO : mg "_law_one_of" = some (.ref fO)) (kO : PySem.W.keepIn K (.ref fO) = true) (bO : Binds K dO ["_law_dice_here", "_law_items"] []) (GO : FnOk P w K mg base CX0 2 fO dO ["_law_dice_here", "_law_items"] (spOneOf K)) :
    FnOk P w K mg base CX0 3 f fd ["_law_dice_here"] spBadK := by
  refine F.ok scBK (fun vs H Q E h => ?_) (fun cdv A outer s H vs Q E hr h => ?_)
  · obtain ⟨d, rfl, _⟩ := h
    rfl
  · obtain ⟨d, rfl, hd, q⟩ := h
    refine ⟨_, pss_cons (ps_set (i := 1) scBK.nd rfl (Or.inl rfl) (pe_fl (R := fun _ _ => True) (ds := badK1) (pa_fc true_st pe_fn0 (pa_fc true_st pe_fi0 (pa_f1 true_st (pa_fc true_st (pe_fL (pa_f1 true_st pa_fn)) (pa_fc true_st (pe_ft (pa_f1 true_st (pa_f1 true_st pa_fn))) (pa_fc true_st (pe_ft (pa_f1 true_st (pa_f1 true_st pa_fn))) (pa_fc true_st (pe_ft (pa_f1 true_st pa_fn)) (pa_fc true_st (pe_ft (pa_f1 true_st pa_fn)) (pa_fc true_st (pe_ft (pa_fc true_st pe_fi0 pa_fn)) (pa_fc true_st pe_fd0 (pa_fc true_st (pe_ft (pa_f1 true_st (pa_f1 true_st (pa_f1 true_st (pa_f1 true_st (pa_f1 true_st pa_fn)))))) (pa_fc true_st pe_fb0 pa_fn))))))))))))))
      (pss_one (ps_ret (pe_call GO hr (by rfl) gO kO bO .nil pass0 (pa_cons (pv 0) (pa_cons (pe_op op_cat (pv 1) (pe_fl (R := fun _ _ => True) (ds := badK2) (pa_fc true_st (pe_ft (pa_fc true_st (pe_ft (pa_f1 true_st pa_fn)) pa_fn)) (pa_fc true_st (pe_ft (pa_f1 true_st pa_fn)) (pa_fc true_st (pe_ft (pa_fc true_st pe_fn0 pa_fn)) (pa_fc true_st (pe_ft (pa_f1 true_st (pa_f1 true_st pa_fn))) pa_fn)))))) pa_nil))))), ?_⟩
    have dn : H d ≠ none := hd.ne
    refine ⟨trivial, fun p1 v1 H1 s1 n1 e1 d1 => ?_⟩
    refine ⟨_, rfl, _, rfl, trivial, fun p2 v2 H2 s2 n2 e2 d2 => ?_⟩
    have l1 := d1.length
    have l2 := d2.length
    have e3 := s2 _ _ e1
    have m1 : v1.length = 12 := l1
    have m2 : v2.length = 4 := l2
    have line : (1000 : Nat) < sizeLine := by decide
    refine ⟨p1, p2, v1, v2, rfl, rfl, e3, e2, by omega, fun p3 hp3 => ?_⟩
    have s3 := same_upd (o := .lst (v1 ++ v2)) hp3
    have s12 := s1.trans s2
    have s13 := s12.trans s3
    have dall : DtAll (fun b => H b = none) (upd H2 p3 (.lst (v1 ++ v2))) (v1 ++ v2) (badK1 ++ badK2) :=
      DtAll.app (d1.strong fun b o z e => ⟨z, s3 _ _ (s2 _ _ e)⟩) (d2.strong fun b o z e => ⟨s1.free z, s3 _ _ e⟩)
    have n3 : H p3 = none := s12.free hp3
    refine ⟨d, p3, _, rfl, hd.mv s13, SqL.of upd_same, fun _ z => dn (by rw [← z]; exact n3), by rw [List.length_append]; omega, by rw [List.length_append]; omega, fun H4 i v hv b4 hd4 => ?_⟩
    obtain ⟨e, he, hde⟩ := dall.get hv
    obtain ⟨k1, k2⟩ := badK_ok e (List.mem_of_getElem? he)
    exact q H4 v e (fun b o hb eo => b4 b o hb (s13 b o eo)) hd4 k1 k2 (hde.mv (fun _ z => z) fun b o hb eo => b4 b o (fun z => dn (by rw [← z]; exact hb)) eo)
end
end OM

namespace OM
open PySem PySem.Spec PyProof.Rows L2
theorem op_neT0 {X : Cx} (hu : X.A.units < cLine) : OpR X (compareOp .NotEq) (fun x y H Q => ∃ a b xs, x = .ref a ∧ y = .ref b ∧ SqT X.K H a xs ∧ SqT X.K H b [] ∧ Q (.bl (!xs.isEmpty)) H) := by
  intro pins s σ H x y v u Q I rx ry h
  obtain ⟨a, b, xs, rfl, rfl, ha, hb, q⟩ := h
  obtain rfl : v = Value.ref a := rx
  obtain rfl : u = Value.ref b := ry
  obtain ⟨us, r1, p1, _⟩ := I.tuple ha
  obtain ⟨ws, r2, p2, _⟩ := I.tuple hb
  cases r2
  have l := r1.length
  have e : (!((List.range (min us.toArray.size (([] : List Value).toArray).size)).all (fun _ => true) && us.toArray.size == (([] : List Value).toArray).size)) = (!xs.isEmpty) := by
    cases xs with
    | nil =>
      have : us = [] := List.length_eq_zero_iff.mp l.symm
      subst this
      rfl
    | cons x r =>
      cases us with
      | nil => simp at l
      | cons u us => simp
  refine SeqAt.RcNeAt.tuples (e := fun _ => true) p1 p2 hu (fun j h1 h2 => absurd h2 (by simp)) X.prog X.w X.xe _ ⟨.bl _, H, I, rfl, ?_⟩
  rw [e]
  exact q
/-! ### dicts by their pairs -/
theorem val_none : ∀ {kvs : List (Key × V)} {k : Key}, (∀ p ∈ kvs, p.1 ≠ k) → valV kvs k = none
  | [], _, _ => rfl
  | p :: r, k, h => by
    rw [valV_neg (h p (List.mem_cons_self ..))]
    exact val_none fun q hq => h q (List.mem_cons_of_mem _ hq)
theorem merge_app : ∀ {more kvs : List (Key × V)}, ((kvs ++ more).map (·.1)).Nodup → mergeK kvs more = kvs ++ more
  | [], kvs, _ => (List.append_nil kvs).symm
  | p :: r, kvs, h => by
    have e : kvs ++ p :: r = (kvs ++ [p]) ++ r := by rw [List.append_assoc]; rfl
    have n : valV kvs p.1 = none := val_none fun q hq z => by
      rw [List.map_append, List.map_cons, List.nodup_append] at h
      exact h.2.2 q.1 (List.mem_map.mpr ⟨q, hq, rfl⟩) p.1 (List.mem_cons_self ..) z
    show mergeK (putK kvs p.1 p.2) r = kvs ++ p :: r
    rw [putK_new _ n, merge_app (by rw [← e]; exact h), ← e]
/-- a value for each name -/
def gk (ns : List Str) (val : Str → V) : List (Key × V) := ns.map fun n => (.inr n, val n)
theorem gk_len {ns : List Str} {val : Str → V} : (gk ns val).length = ns.length := List.length_map _
theorem gk_keys {ns : List Str} {val : Str → V} : (gk ns val).map (·.1) = ns.map Sum.inr := by
  unfold gk
  rw [List.map_map]
  rfl
theorem gk_nodup {ns : List Str} {val : Str → V} (h : ns.Nodup) : ((gk ns val).map (·.1)).Nodup := by
  rw [gk_keys]
  exact List.pairwise_map.mpr (h.imp fun ne z => ne (Sum.inr.inj z))
theorem gk_val : ∀ {ns : List Str} {val : Str → V} {n : Str}, n ∈ ns → valV (gk ns val) (.inr n) = some (val n)
  | m :: r, val, n, h => by
    by_cases e : m = n
    · subst e
      exact valV_pos rfl
    · have h : n ∈ r := (List.mem_cons.mp h).resolve_left fun z => e z.symm
      show valV ((.inr m, val m) :: gk r val) (.inr n) = _
      rw [valV_neg (fun z => e (Sum.inr.inj z))]
      exact gk_val h
theorem gk_miss {ns : List Str} {val : Str → V} {k : Key} (h : ∀ n ∈ ns, (.inr n : Key) ≠ k) : valV (gk ns val) k = none := val_none fun p hp => by
  obtain ⟨n, hn, rfl⟩ := List.mem_map.mp hp
  exact h n hn
theorem merge_gk {ns : List Str} {val : Str → V} (h : ns.Nodup) : mergeK [] (gk ns val) = gk ns val := merge_app (kvs := []) (gk_nodup h)
theorem gk_drop {ns : List Str} {val : Str → V} {k : Nat} : (gk ns val).drop k = gk (ns.drop k) val := by
  unfold gk
  rw [List.map_drop]
theorem gk_snoc {ns : List Str} {val : Str → V} {k : Key} {v : V} (h : ns.Nodup) (hk : ∀ n ∈ ns, (.inr n : Key) ≠ k) : mergeK [] (gk ns val ++ [(k, v)]) = gk ns val ++ [(k, v)] := by
  refine merge_app (kvs := []) ?_
  rw [List.nil_append, List.map_append, List.nodup_append]
  refine ⟨gk_nodup h, List.nodup_cons.mpr ⟨fun z => (nomatch z), List.nodup_nil⟩, fun a ha b hb z => ?_⟩
  rw [gk_keys] at ha
  obtain ⟨n, hn, rfl⟩ := List.mem_map.mp ha
  have hb : b ∈ [k] := hb
  rw [List.mem_singleton] at hb
  exact hk n hn (z.trans hb)
/-- pairs that were laid -/
def PairsAt (G : Hp) (ps : List Addr) (kvs : List (Key × V)) : Prop := Paired (fun (p : Addr) (kv : Key × V) => G p = some (.tup [kV kv.1, kv.2])) ps kvs
theorem pairs_mv {G G' : Hp} : ∀ {ps : List Addr} {kvs : List (Key × V)}, PairsAt G ps kvs → (∀ p o, G p = some (.tup o) → G' p = some (.tup o)) → PairsAt G' ps kvs
  | _, _, .nil, _ => .nil
  | _, _, .cons h r, s => .cons (s _ _ h) (pairs_mv r s)
theorem pairs_len {G : Hp} : ∀ {ps : List Addr} {kvs : List (Key × V)}, PairsAt G ps kvs → ps.length = kvs.length
  | _, _, .nil => rfl
  | _, _, .cons _ r => congrArg Nat.succ (pairs_len r)
theorem pairs_drop {G : Hp} : ∀ {k : Nat} {ps : List Addr} {kvs : List (Key × V)}, PairsAt G ps kvs → PairsAt G (ps.drop k) (kvs.drop k)
  | 0, _, _, h => h
  | k + 1, _, _, .nil => .nil
  | k + 1, _, _, .cons _ r => pairs_drop (k := k) r
theorem pairs_sq {K : PySem.W.Frag} {G : Hp} : ∀ {ps : List Addr} {kvs : List (Key × V)}, PairsAt G ps kvs → Paired (fun p kv => SqT K G p [kV kv.1, kv.2]) ps kvs
  | _, _, .nil => .nil
  | _, _, .cons h r => .cons (SqT.of h) (pairs_sq r)
/-- the list of pairs that grows -/
def PvP (H : Hp) (D : Addr) (val : Str → V) (ns : List Str) (i : Nat) (G : Hp) : Prop := Same H G ∧ ∃ ps : List Addr, G D = some (.lst (ps.map V.ref)) ∧ PairsAt G ps (gk (ns.take i) val)
theorem PvP.zero {H : Hp} {D : Addr} {val : Str → V} {ns : List Str} (hD : H D = none) : PvP H D val ns 0 (upd H D (.lst [])) := ⟨same_upd hD, [], upd_same, .nil⟩
theorem PvP.step {H G : Hp} {D T : Addr} {val : Str → V} {ns : List Str} {i : Nat} {n : Str} (p : PvP H D val ns i G) (hD : H D = none) (hn : ns[i]? = some n) (hl : ns.length ≤ 900) (hT : G T = none) :
    ∃ acc, (upd G T (.tup [.str n, val n])) D = some (.lst acc) ∧ acc.length < sizeLine ∧ PvP H D val ns (i + 1) (upd (upd G T (.tup [.str n, val n])) D (.lst (acc ++ [.ref T]))) := by
  obtain ⟨s, ps, e, pr⟩ := p
  have sT := same_upd (o := .tup [.str n, val n]) hT
  have li := (List.getElem?_eq_some_iff.mp hn).1
  have lp := pairs_len pr
  rw [gk_len, List.length_take] at lp
  have line : (1000 : Nat) < sizeLine := by decide
  have TD : T ≠ D := fun z => by
    rw [z, e] at hT
    cases hT
  refine ⟨_, sT _ _ e, by rw [List.length_map]; omega, same_put hD (s.trans sT), ps ++ [T], by rw [upd_same, List.map_append]; rfl, ?_⟩
  have eg : gk (ns.take (i + 1)) val = gk (ns.take i) val ++ [(.inr n, val n)] := by
    unfold gk
    rw [List.take_add_one, hn, List.map_append]
    rfl
  rw [eg]
  refine Paired.snoc (pairs_mv pr fun q o eq => ?_) ?_
  · rw [upd_ne (fun z => by rw [z, e] at eq; cases eq)]
    exact sT _ _ eq
  · rw [upd_ne TD]
    exact upd_same
theorem PvP.done {H G : Hp} {D : Addr} {val : Str → V} {ns : List Str} {i : Nat} (p : PvP H D val ns i G) (hi : ns.length ≤ i) : Same H G ∧ ∃ ps : List Addr, G D = some (.lst (ps.map V.ref)) ∧ PairsAt G ps (gk ns val) := by
  obtain ⟨s, ps, e, pr⟩ := p
  rw [List.take_of_length_le hi] at pr
  exact ⟨s, ps, e, pr⟩
/-! ### what is no renaming -/
theorem ren_len {ns : List Str} {kvs : List (Key × V)} {dat : Str → PyData} (h : kvs.length ≠ ns.length) : renB ns kvs dat = false := by
  unfold renB
  rw [decide_eq_false h, Bool.false_and]
theorem ren_miss {ns : List Str} {kvs : List (Key × V)} {dat : Str → PyData} {n : Str} (hn : n ∈ ns) (h : valV kvs (.inr n) = none) : renB ns kvs dat = false := by
  unfold renB
  have e : (ns.all fun n => (valV kvs (.inr n)).isSome) = false := by
    rw [List.all_eq_false]
    exact ⟨n, hn, by rw [h]; decide⟩
  rw [e, Bool.false_and, Bool.and_false]
theorem told_len {S : Addr → Prop} {H : Hp} {ns : List Str} {a : Addr} {kvs : List (Key × V)} (s : S a) (e : H a = some (.dK kvs)) (h : kvs.length ≠ ns.length) : ToldNo S H ns (.ref a) := by
  refine ⟨fun z => (nomatch z), ?_⟩
  have t := Told.dic (S := S) (dat := fun _ => PyData.none) s e fun z => absurd z h
  rw [ren_len h] at t
  exact t
theorem told_miss {S : Addr → Prop} {H : Hp} {ns : List Str} {a : Addr} {kvs : List (Key × V)} {n : Str} (s : S a) (e : H a = some (.dK kvs)) (hn : n ∈ ns) (h : valV kvs (.inr n) = none) : ToldNo S H ns (.ref a) := by
  refine ⟨fun z => (nomatch z), ?_⟩
  have t := Told.dic (S := S) (ns := ns) (dat := fun _ => PyData.none) s e fun _ z => by
    have := List.all_eq_true.mp z n hn
    rw [h] at this
    cases this
  rw [ren_miss hn h] at t
  exact t
theorem told_odd {S : Addr → Prop} {H : Hp} {ns : List Str} {a : Addr} {v : V} {d : PyData} (s : S a) (e : H a = some (.dK (gk ns fun _ => v))) (hv : Dt S H v d) (sm : smlD d = true) (no : isNameD d = false) (ne : ns ≠ []) : ToldNo S H ns (.ref a) := by
  refine ⟨fun z => (nomatch z), ?_⟩
  have t := Told.dic (S := S) (ns := ns) (dat := fun _ => d) s e fun _ _ n hn u hu => by
    rw [gk_val hn] at hu
    obtain rfl := Option.some.inj hu
    exact ⟨hv, sm⟩
  have b : renB ns (gk ns fun _ => v) (fun _ => d) = false := by
    unfold renB
    have e : (ns.all fun _ => isNameD d) = false := by
      rw [List.all_eq_false]
      cases ns with
      | nil => exact absurd rfl ne
      | cons n r => exact ⟨n, List.mem_cons_self .., by rw [no]; decide⟩
    rw [e, Bool.false_and, Bool.and_false, Bool.and_false]
  rw [b] at t
  exact t
theorem told_same {S : Addr → Prop} {H : Hp} {ns : List Str} {a : Addr} {x : Str} (s : S a) (e : H a = some (.dK (gk ns fun _ => .str x))) (hx : smlD (.str x) = true) (l : 1 < ns.length) : ToldNo S H ns (.ref a) := by
  refine ⟨fun z => (nomatch z), ?_⟩
  have t := Told.dic (S := S) (ns := ns) (dat := fun _ => .str x) s e fun _ _ n hn u hu => by
    rw [gk_val hn] at hu
    obtain rfl := Option.some.inj hu
    exact ⟨.at (.str x), hx⟩
  have b : renB ns (gk ns fun _ => .str x) (fun _ => .str x) = false := by
    unfold renB
    have few : (firsts [] (ns.map fun _ => strD (.str x))).length ≤ 1 := by
      have nd := nodup_firsts (ns.map fun _ => strD (.str x)) List.nodup_nil
      have all : ∀ y ∈ firsts [] (ns.map fun _ => strD (.str x)), y = x := fun y hy => by
        rcases mem_firsts.mp hy with z | z
        · cases z
        · obtain ⟨_, _, rfl⟩ := List.mem_map.mp z
          rfl
      match hL : firsts [] (ns.map fun _ => strD (.str x)), nd, all with
      | [], _, _ => exact Nat.zero_le _
      | [_], _, _ => exact Nat.le_refl _
      | a :: b :: r, nd, all =>
        have h1 := all a (List.mem_cons_self ..)
        have h2 := all b (List.mem_cons_of_mem _ (List.mem_cons_self ..))
        exact absurd (List.mem_cons.mpr (.inl (h1.trans h2.symm))) (List.nodup_cons.mp nd).1
    rw [decide_eq_false (show ¬ (firsts [] (ns.map fun _ => strD (.str x))).length = ns.length by omega), Bool.and_false, Bool.and_false, Bool.and_false]
  rw [b] at t
  exact t
theorem ToldNo.strong {S S' : Addr → Prop} {H H' : Hp} {ns : List Str} {v : V} (h : ToldNo S H ns v) (hS : ∀ a o, S a → H a = some o → S' a ∧ H' a = some o) : ToldNo S' H' ns v := ⟨h.1, h.2.strong hS⟩
theorem told_dat {S : Addr → Prop} {H : Hp} {ns : List Str} {v : V} {d : PyData} (h : Dt S H v d) (no : isDicD d = false) (nn : v ≠ .non) : ToldNo S H ns v := ⟨nn, .dat h no⟩
end OM

namespace OM
open PySem PySem.Spec PyProof.Rows L2
abbrev sBadN : Stmt := top 64
abbrev nBN : List Str := ["_law_dice_here", "_law_names", "_law_good", "_law_some", "_law_name", "_law_odd"]
def scOdd : Scope := { kind := .function, names := [(".0", .local), ("_law_odd", .cell), ("dict", .globalImplicit), ("_law_names", .cell)], isGenerator := false, isCoroutine := false, more := [] }
def kval (n : Str) : V := .str (("k" : Str) ++ cutS n none (some 6))
def rDictP (K : PySem.W.Frag) : List V → Hp → VK → Prop := fun xs H Q => ∃ (a : Addr) (ps : List Addr) (kvs : List (Key × V)), xs = [.ref a] ∧ SqL K H a (ps.map V.ref) ∧ Paired (fun p kv => SqT K H p [kV kv.1, kv.2]) ps kvs ∧ ∀ p, H p = none → Q (.ref p) (upd H p (.dK (mergeK [] kvs)))
theorem call_dictK {X : Cx} {K : PySem.W.Frag} (hK : X.K = K) (hc : X.calm = true) : CallR X (.type "dict") (rDictP K) := by
  subst hK
  exact call_dictP hc
theorem pi_tupK {X : Cx} {K : PySem.W.Frag} {tg l : Expr} {tl : TE} (hK : X.K = K) (hl : PE X l tl) : PI X tg l (iTup K tl) := by
  subst hK
  exact pi_tup hl
theorem cutQ {A : Prop} (P : Addr → Hp → Prop) {R : Addr → Hp → Prop} (f : (∀ p G, P p G → R p G) → A) (b : ∀ p G, P p G → R p G) : A := f b
theorem _root_.OM.Dt.tup_ofS2 {S : Addr → Prop} {H : Hp} {v : V} {ds : List PyData} (h : Dt S H v (.tuple ds)) : ∃ a xs, v = .ref a ∧ H a = some (.tup xs) ∧ xs.length ≤ 1000 ∧ DtAll S H xs ds := by
  cases h with
  | «at» a => cases a
  | @tup a xs _ s e hl h => exact ⟨a, xs, rfl, e, hl, h⟩
theorem pairs_snoc {G : Hp} {ps : List Addr} {kvs : List (Key × V)} {t : Addr} {k : Key} {v : V} (h : PairsAt G ps kvs) (e : G t = some (.tup [kV k, v])) : PairsAt G (ps ++ [t]) (kvs ++ [(k, v)]) := Paired.snoc h e
theorem cutG {A : Prop} (P : Hp → Prop) {R : Hp → Prop} (f : (∀ G, P G → R G) → A) (b : ∀ G, P G → R G) : A := f b
def odds7 : List PyData := [.none, .str "", .str "put", .int 0, .tuple [.str "a"], .list [.str "a"], .str "A"]
theorem odds_ok : ∀ d ∈ odds7, isNameD d = false ∧ smlD d = true := by decide +kernel
def spBadN : Sp := fun vs H Q _ => ∃ (d nt : Addr) (ns : List Str), vs = [.ref d, .ref nt] ∧ Dice H d ∧ H nt = some (.tup (ns.map V.str)) ∧ ns.Nodup ∧ ("qq" : Str) ∉ ns ∧ ns.length ≤ 24 ∧ (∀ n ∈ ns, n.length ≤ 100) ∧ ∀ H' v, But d H H' → Dice H' d → ToldNo (fun b => H b = none ∨ b = nt) H' ns v → Q v H'
section
variable {P : Program} {w : World} {K : PySem.W.Frag} {mg : Str → Option Value} {base : Heap} {f fO : Addr} {fd dO : FuncData}
theorem scBN : FnScope nBN ["_law_dice_here", "_law_names"] (defScope sBadN) := ⟨rfl, rfl, rfl, by decide +kernel, rfl, by decide +kernel, by decide +kernel⟩
theorem ok_badn (F : Fun K "_law_bad_names" "_law_bad_names" sBadN f fd) (dct : mg "dict" = none) (lst : mg "list" = none) (ln : mg "len" = none) (gO : mg "_law_one_of" = some (.ref fO)) (kO : PySem.W.keepIn K (.ref fO) = true) (bO : Binds K dO ["_law_dice_here", "_law_items"] []) (GO : FnOk P w K mg base CX0 2 fO dO ["_law_dice_here", "_law_items"] (spOneOf K)) :
    FnOk P w K mg base CX0 3 f fd ["_law_dice_here", "_law_names"] spBadN := by
  refine F.ok scBN (fun vs H Q E h => ?_) (fun cdv A outer s H vs Q E hr h => ?_)
  · obtain ⟨d, nt, ns, rfl, _⟩ := h
    rfl
  · obtain ⟨d, nt, ns, rfl, hd, en, nd, nq, ll, lt, q⟩ := h
    have hu : (A.deeper (envOfC "_law_bad_names" (defScope sBadN) s.heap.objs.size f cdv)).units < cLine := by
      have := hr.un
      omega
    refine ⟨_, pss_cons (ps_set (i := 2) scBN.nd rfl (Or.inl rfl) (pe_callTy (call_dictK (K := K) rfl rfl) (by rfl) dct (by decide +kernel) (pa_cons (pe_lc (own := [("_law_name", 4)]) rfl scBN.nd (pi_tup (pv 1)) (blkOk_by (N := nBN) (sc := defScope sBadN) (by decide +kernel)) (fun _ _ _ _ _ => pg_name (i := 4) scBN.nd rfl (Or.inl rfl)) (fun _ _ _ _ _ => pts_nil)
          (fun _ _ _ _ _ => pe_tup (pa_cons (pv 4) (pa_cons (pe_op op_add_str pe_str (pe_slice sl_str (pv 4) po_none (po_some pe_int))) pa_nil)))) pa_nil)))
      (pss_cons (ps_set (i := 3) scBN.nd rfl (Or.inl rfl) (pe_lst (pa_cons pe_int (pa_cons pe_str (pa_cons (pe_tup pa_nil) (pa_cons (pe_lst pa_nil) (pa_cons (pv 1) (pa_cons (pe_callTy (call_dictK (K := K) rfl rfl) (by rfl) dct (by decide +kernel) (pa_cons (pe_op op_cat (LiI.pe_listItems rfl (pv 2) (by rfl) lst (by decide +kernel)) (pe_lst (pa_cons (pe_tup (pa_cons pe_str (pa_cons pe_str pa_nil))) pa_nil))) pa_nil)) pa_nil))))))))
      (pss_cons (ps_expr (pe_bm PySem.F.plainAttrs_list PySem.F.slot_list_append PySem.F.type_list_append mt_append (pv 3) (pa_cons (pe_callTy (call_dictK (K := K) rfl rfl) (by rfl) dct (by decide +kernel) (pa_cons (pe_op op_cat (pe_slice sl_list (LiI.pe_listItems rfl (pv 2) (by rfl) lst (by decide +kernel)) (po_some pe_int) po_none) (pe_lst (pa_cons (pe_tup (pa_cons pe_int (pa_cons pe_str pa_nil))) pa_nil))) pa_nil)) pa_nil)))
      (pss_cons (ps_if (pt_cmpR (op_neT0 hu) (pv 1) (pe_tup pa_nil) (by rfl))
          (pss_cons (ps_set (i := 3) scBN.nd rfl (Or.inl rfl) (pe_op op_cat (pv 3) (pe_lst (pa_cons (pe_callTy (call_dictK (K := K) rfl rfl) (by rfl) dct (by decide +kernel) (pa_cons (pe_slice sl_list (LiI.pe_listItems rfl (pv 2) (by rfl) lst (by decide +kernel)) (po_some pe_int) po_none) pa_nil)) pa_nil))))
          (pss_one (ps_set (i := 3) scBN.nd rfl (Or.inl rfl) (pe_op op_cat (pv 3) (pe_lc (own := [("_law_odd", 5)]) rfl scBN.nd (pi_tup (pe_ft (R := fun _ _ => True) (ds := odds7) (pa_fc true_st pe_fn0 (pa_f1 true_st (pa_f1 true_st (pa_fc true_st pe_fi0 (pa_fc true_st (pe_ft (pa_f1 true_st pa_fn)) (pa_fc true_st (pe_fL (pa_f1 true_st pa_fn)) (pa_f1 true_st pa_fn)))))))))
              (blkOk_by (N := nBN) (sc := defScope sBadN) (by decide +kernel)) (fun _ _ _ _ _ => pg_name (i := 5) scBN.nd rfl (Or.inr rfl)) (fun _ _ _ _ _ => pts_nil)
              (fun _ _ _ _ _ => pe_callTy (call_dictK (K := K) rfl rfl) (by rfl) dct (by decide +kernel) (pa_cons (pe_lc (own := [("_law_name", 4)]) rfl scBN.nd (pi_tupK (K := K) rfl (pv 1)) (blkOk_by (N := nBN) (sc := scOdd) (by decide +kernel)) (fun _ _ _ _ _ => pg_name (i := 4) scBN.nd rfl (Or.inl rfl)) (fun _ _ _ _ _ => pts_nil)
                (fun _ _ _ _ _ => pe_tup (pa_cons (pv 4) (pa_cons (pv 5) pa_nil)))) pa_nil)))))))
          pss_nil)
      (pss_cons (ps_if (pt_cmpR op_gt (pe_callB call_len_seq (by rfl) ln PySem.boot_len (pa_cons (pv 1) pa_nil)) pe_int (nomark _))
          (pss_one (ps_expr (pe_bm PySem.F.plainAttrs_list PySem.F.slot_list_append PySem.F.type_list_append mt_append (pv 3) (pa_cons (pe_callTy (call_dictK (K := K) rfl rfl) (by rfl) dct (by decide +kernel) (pa_cons (pe_lc (own := [("_law_name", 4)]) rfl scBN.nd (pi_tup (pv 1)) (blkOk_by (N := nBN) (sc := defScope sBadN) (by decide +kernel)) (fun _ _ _ _ _ => pg_name (i := 4) scBN.nd rfl (Or.inl rfl)) (fun _ _ _ _ _ => pts_nil)
              (fun _ _ _ _ _ => pe_tup (pa_cons (pv 4) (pa_cons pe_str pa_nil)))) pa_nil)) pa_nil)))) pss_nil)
      (pss_one (ps_ret (pe_call GO hr (by rfl) gO kO bO .nil pass0 (pa_cons (pv 0) (pa_cons (pv 3) pa_nil))))))))), ?_⟩
    have dn : H d ≠ none := hd.ne
    have line : (1000 : Nat) < sizeLine := by decide
    have k1 : ("k" : Str).length = 1 := by decide +kernel
    refine ⟨_, rfl, nt, rfl, ⟨_, SqT.of en⟩, fun D0 hD0 => lc_tup (PvP H D0 kval ns) (PvP.zero hD0) (fun i G _ p => SqT.of (p.1 _ _ en)) (fun i x G hi p => ?_) (fun G p => ?_)⟩
    · rw [List.getElem?_map] at hi
      obtain ⟨n, hn, rfl⟩ := Option.map_eq_some_iff.mp hi
      have l1 := lt n (List.mem_of_getElem? hn)
      have l2 := cutS_length n none (some 6)
      exact ⟨rfl, _, rfl, _, rfl, 6, rfl, n, rfl, by omega, _, _, rfl, rfl, by omega, (by show 2 ≤ sizeLine; decide), fun T hT => p.step hD0 hn (by omega) hT⟩
    · obtain ⟨s0, ps, e0, pr⟩ := p.done (by rw [List.length_map]; exact Nat.le_refl _)
      refine ⟨D0, ps, gk ns kval, rfl, SqL.of e0, pairs_sq pr, fun dg hdg => ?_⟩
      rw [merge_gk nd]
      have s1 := s0.trans (same_upd (o := .dK (gk ns kval)) hdg)
      have eg : (upd G dg (.dK (gk ns kval))) dg = some (.dK (gk ns kval)) := upd_same
      generalize upd G dg (.dK (gk ns kval)) = G1 at s1 eg
      refine ⟨(by show 0 ≤ sizeLine; decide), fun pt hpt => ⟨(by show 0 ≤ sizeLine; decide), fun pl hpl => ⟨_, rfl, ?_⟩⟩⟩
      have s2 := (same_upd (o := .tup []) hpt).trans (same_upd (o := .lst []) hpl)
      have ept : (upd (upd G1 pt (.tup [])) pl (.lst [])) pt = some (.tup []) := same_upd hpl _ _ upd_same
      have epl : (upd (upd G1 pt (.tup [])) pl (.lst [])) pl = some (.lst []) := upd_same
      have npt : H pt = none := s1.free hpt
      have npl : H pl = none := s1.free ((same_upd (o := .tup []) hpt).free hpl)
      generalize upd (upd G1 pt (.tup [])) pl (.lst []) = G2 at s2 ept epl
      refine ⟨_, rfl, dg, gk ns kval, rfl, s2 _ _ eg, fun G3 p3 ts k3 n3 nt3 np3 e3 pr3 => ?_⟩
      have l3 := pairs_len (show PairsAt G3 ts (gk ns kval) from pr3)
      rw [gk_len] at l3
      refine ⟨(by show 2 ≤ sizeLine; decide), fun t4 h4 => ⟨(by show 1 ≤ sizeLine; decide), fun l4 hl4 => ?_⟩⟩
      have s4 := (same_upd (o := .tup [V.str "qq", .str "q"]) h4).trans (same_upd (o := .lst [V.ref t4]) hl4)
      have et4 : (upd (upd G3 t4 (.tup [V.str "qq", .str "q"])) l4 (.lst [V.ref t4])) t4 = some (.tup [V.str "qq", .str "q"]) := same_upd hl4 _ _ upd_same
      refine ⟨p3, l4, ts.map V.ref, [.ref t4], rfl, rfl, s4 _ _ e3, upd_same, by rw [List.length_map, List.length_singleton]; omega, fun p5 hp5 => ?_⟩
      have s5 := same_upd (o := .lst (ts.map V.ref ++ [V.ref t4])) hp5
      refine ⟨p5, ts ++ [t4], gk ns kval ++ [((.inr "qq" : Key), V.str "q")], rfl, SqL.of (by rw [upd_same, List.map_append]; rfl), pairs_sq (pairs_snoc (pairs_mv pr3 fun _ _ z => s5 _ _ (s4 _ _ z)) (s5 _ _ et4)), fun d1 hd1 => ?_⟩
      rw [gk_snoc nd (fun n hn z => nq (by rw [← Sum.inr.inj z]; exact hn))]
      have s6 := ((show Same G2 G3 from k3).trans s4).trans (s5.trans (same_upd (o := .dK (gk ns kval ++ [((.inr "qq" : Key), V.str "q")])) hd1))
      have ed1 := upd_same (H := upd (upd (upd G3 t4 (.tup [V.str "qq", .str "q"])) l4 (.lst [V.ref t4])) p5 (.lst (ts.map V.ref ++ [V.ref t4]))) (a := d1) (o := .dK (gk ns kval ++ [((.inr "qq" : Key), V.str "q")]))
      have nd1 : H d1 = none := (s1.trans s2).free ((((show Same G2 G3 from k3).trans s4).trans s5).free hd1)
      generalize upd (upd (upd (upd G3 t4 (.tup [V.str "qq", .str "q"])) l4 (.lst [V.ref t4])) p5 (.lst (ts.map V.ref ++ [V.ref t4]))) d1 (.dK (gk ns kval ++ [((.inr "qq" : Key), V.str "q")])) = G5 at s6 ed1
      have s15 := (s1.trans s2).trans s6
      have eg5 := s6 _ _ (s2 _ _ eg)
      apply cutQ (fun (pX : Addr) (G : Hp) => ∃ ys : List V, G pX = some (.lst ys) ∧ 0 < ys.length ∧ ys.length ≤ 100 ∧ Same H G ∧ H pX = none ∧ ∀ v ∈ ys, ToldNo (fun b => (H b = none ∨ b = nt) ∧ b ≠ pX) G ns v)
      · intro go
        refine ⟨(by show 6 ≤ sizeLine; decide), fun pS hpS => ?_⟩
        have no0 : ∀ v ∈ [V.int 0, .str "a", .ref pt, .ref pl, .ref nt, .ref d1], ToldNo (fun b => H b = none ∨ b = nt) G5 ns v := fun v hv => by
          simp only [List.mem_cons, List.not_mem_nil, or_false] at hv
          rcases hv with rfl | rfl | rfl | rfl | rfl | rfl
          · exact told_dat (.at (.int 0)) rfl (fun z => (nomatch z))
          · exact told_dat (.at (.str "a")) rfl (fun z => (nomatch z))
          · exact told_dat (d := .tuple []) (.tup (.inl npt) (s6 _ _ ept) (by decide) .nil) rfl (fun z => (nomatch z))
          · exact told_dat (d := .list []) (.lst (.inl npl) (s6 _ _ epl) (by decide) .nil) rfl (fun z => (nomatch z))
          · exact told_dat (d := .tuple (ns.map PyData.str)) (.tup (.inr rfl) (s15 _ _ en) (by rw [List.length_map]; omega) (dt_strs ns)) rfl (fun z => (nomatch z))
          · exact told_len (.inl nd1) ed1 (by rw [List.length_append, gk_len]; exact Nat.succ_ne_self _)
        have nS : H pS = none := s15.free hpS
        have s7 := same_upd (o := .lst [V.int 0, .str "a", .ref pt, .ref pl, .ref nt, .ref d1]) hpS
        have no1 : ∀ v ∈ [V.int 0, .str "a", .ref pt, .ref pl, .ref nt, .ref d1], ToldNo (fun b => (H b = none ∨ b = nt) ∧ b ≠ pS) (upd G5 pS (.lst [V.int 0, .str "a", .ref pt, .ref pl, .ref nt, .ref d1])) ns v := fun v hv => (no0 v hv).strong fun a o sa ea => ⟨⟨sa, ne_of_none ea hpS⟩, s7 _ _ ea⟩
        have eS := upd_same (H := G5) (a := pS) (o := .lst [V.int 0, .str "a", .ref pt, .ref pl, .ref nt, .ref d1])
        have s17 := s15.trans s7
        have eg7 := s7 _ _ eg5
        have lS : [V.int 0, .str "a", .ref pt, .ref pl, .ref nt, .ref d1].length = 6 := rfl
        generalize upd G5 pS (.lst [V.int 0, .str "a", .ref pt, .ref pl, .ref nt, .ref d1]) = G6 at no1 eS s17 eg7
        generalize [V.int 0, .str "a", .ref pt, .ref pl, .ref nt, .ref d1] = xs at no1 eS lS
        refine ⟨_, rfl, .inl ⟨rfl, xs, SqL.of eS⟩, ?_⟩
        refine ⟨_, rfl, dg, gk ns kval, rfl, eg7, fun G7 p7 ts7 k7 n7 nt7 np7 e7 pr7 => ?_⟩
        refine ⟨1, rfl, p7, ts7.map V.ref, rfl, SqL.of e7, fun p8 hp8 => ?_⟩
        have l7 := pairs_len (show PairsAt G7 ts7 (gk ns kval) from pr7)
        rw [gk_len] at l7
        have ec : cutV (ts7.map V.ref) (some 1) none = (ts7.drop 1).map V.ref := by
          have z := cut_dropG (ts7.map V.ref) 1
          rw [List.map_drop]
          exact z
        rw [ec]
        have s8 := same_upd (o := .lst ((ts7.drop 1).map V.ref)) hp8
        have pr8 : PairsAt (upd G7 p8 (.lst ((ts7.drop 1).map V.ref))) (ts7.drop 1) (gk (ns.drop 1) kval) := by
          rw [← gk_drop]
          exact pairs_drop (pairs_mv (show PairsAt G7 ts7 (gk ns kval) from pr7) fun _ _ z => s8 _ _ z)
        have e8 := upd_same (H := G7) (a := p8) (o := .lst ((ts7.drop 1).map V.ref))
        have s78 : Same G6 (upd G7 p8 (.lst ((ts7.drop 1).map V.ref))) := (show Same G6 G7 from k7).trans s8
        generalize upd G7 p8 (.lst ((ts7.drop 1).map V.ref)) = G8 at s78 e8 pr8
        refine ⟨(by show 2 ≤ sizeLine; decide), fun t9 h9 => ⟨(by show 1 ≤ sizeLine; decide), fun l9 hl9 => ?_⟩⟩
        have s9 := (same_upd (o := .tup [V.int 1, .str "q"]) h9).trans (same_upd (o := .lst [V.ref t9]) hl9)
        have et9 : (upd (upd G8 t9 (.tup [V.int 1, .str "q"])) l9 (.lst [V.ref t9])) t9 = some (.tup [V.int 1, .str "q"]) := same_upd hl9 _ _ upd_same
        refine ⟨p8, l9, (ts7.drop 1).map V.ref, [.ref t9], rfl, rfl, s9 _ _ e8, upd_same, by rw [List.length_map, List.length_singleton, List.length_drop]; omega, fun p10 hp10 => ?_⟩
        have s10 := same_upd (o := .lst ((ts7.drop 1).map V.ref ++ [V.ref t9])) hp10
        refine ⟨p10, ts7.drop 1 ++ [t9], gk (ns.drop 1) kval ++ [((.inl 1 : Key), V.str "q")], rfl, SqL.of (by rw [upd_same, List.map_append]; rfl), pairs_sq (pairs_snoc (pairs_mv pr8 fun _ _ z => s10 _ _ (s9 _ _ z)) (s10 _ _ et9)), fun d2 hd2 => ?_⟩
        rw [gk_snoc ((List.drop_sublist 1 ns).nodup nd) (fun n hn => by intro z; cases z)]
        have s11 := (s78.trans s9).trans (s10.trans (same_upd (o := .dK (gk (ns.drop 1) kval ++ [((.inl 1 : Key), V.str "q")])) hd2))
        have ed2 := upd_same (H := upd (upd (upd G8 t9 (.tup [V.int 1, .str "q"])) l9 (.lst [V.ref t9])) p10 (.lst ((ts7.drop 1).map V.ref ++ [V.ref t9]))) (a := d2) (o := .dK (gk (ns.drop 1) kval ++ [((.inl 1 : Key), V.str "q")]))
        have nd2 : G6 d2 = none := (((s78.trans s9).trans s10).free hd2)
        generalize upd (upd (upd (upd G8 t9 (.tup [V.int 1, .str "q"])) l9 (.lst [V.ref t9])) p10 (.lst ((ts7.drop 1).map V.ref ++ [V.ref t9]))) d2 (.dK (gk (ns.drop 1) kval ++ [((.inl 1 : Key), V.str "q")])) = G11 at s11 ed2
        have nH2 : H d2 = none := s17.free nd2
        have dS : d2 ≠ pS := fun z => by
          rw [z, eS] at nd2
          cases nd2
        have no2 : ToldNo (fun b => (H b = none ∨ b = nt) ∧ b ≠ pS) G11 ns (.ref d2) := by
          cases ns with
          | nil => exact told_len ⟨.inl nH2, dS⟩ ed2 (by decide)
          | cons n0 r =>
            refine told_miss (n := n0) ⟨.inl nH2, dS⟩ ed2 (List.mem_cons_self ..) (val_none fun p hp z => ?_)
            rcases List.mem_append.mp hp with hp | hp
            · obtain ⟨n, hn, rfl⟩ := List.mem_map.mp hp
              exact (List.nodup_cons.mp nd).1 (by rw [← Sum.inr.inj z]; exact hn)
            · rw [List.mem_singleton.mp hp] at z
              cases z
        refine ⟨pS, xs, .ref d2, rfl, rfl, s11 _ _ eS, by omega, ?_⟩
        -- the list with two dicts
        have all2 : ∀ v ∈ xs ++ [V.ref d2], ToldNo (fun b => (H b = none ∨ b = nt) ∧ b ≠ pS) (upd G11 pS (.lst (xs ++ [V.ref d2]))) ns v := fun v hv => by
          have go : ToldNo (fun b => (H b = none ∨ b = nt) ∧ b ≠ pS) G11 ns v := by
            rcases List.mem_append.mp hv with hv | hv
            · exact (no1 v hv).strong fun a o sa ea => ⟨sa, s11 _ _ ea⟩
            · rw [List.mem_singleton.mp hv]
              exact no2
          exact go.strong fun a o sa ea => ⟨sa, by rw [upd_ne sa.2]; exact ea⟩
        have sH : Same H (upd G11 pS (.lst (xs ++ [V.ref d2]))) := same_put nS (s17.trans s11)
        have eS2 := upd_same (H := G11) (a := pS) (o := .lst (xs ++ [V.ref d2]))
        have eg2 : (upd G11 pS (.lst (xs ++ [V.ref d2]))) dg = some (.dK (gk ns kval)) := by
          rw [upd_ne (fun z => by rw [z, eS] at eg7; cases eg7)]
          exact s11 _ _ eg7
        have l2 : (xs ++ [V.ref d2]).length = 7 := by rw [List.length_append, lS]; rfl
        generalize upd G11 pS (.lst (xs ++ [V.ref d2])) = G at all2 sH eS2 eg2
        generalize xs ++ [V.ref d2] = ys at all2 eS2 l2
        -- what is left, whatever list stands in slot 3
        refine ⟨_, rfl, (by show 0 ≤ sizeLine; decide), fun p0 hp0 => ⟨nt, p0, ns.map V.str, rfl, rfl, SqT.of (same_upd hp0 _ _ (sH _ _ en)), SqT.of upd_same, ?_⟩⟩
        have s12 := same_upd (o := .tup []) hp0
        have eS12 := s12 _ _ eS2
        have eg12 := s12 _ _ eg2
        have sH12 := sH.trans s12
        have all12 : ∀ v ∈ ys, ToldNo (fun b => (H b = none ∨ b = nt) ∧ b ≠ pS) (upd G p0 (.tup [])) ns v := fun v hv => (all2 v hv).strong fun a o sa ea => ⟨sa, s12 _ _ ea⟩
        generalize upd G p0 (.tup []) = G12 at s12 eS12 eg12 sH12 all12
        refine ⟨_, rfl, ite2 (fun hne => ?_) (fun _ => go pS G12 ⟨ys, eS12, by omega, by omega, sH12, nS, all12⟩)⟩
        have nne : ns ≠ [] := fun z => by
          rw [z] at hne
          cases hne
        refine ⟨_, rfl, _, rfl, dg, gk ns kval, rfl, eg12, fun G13 p13 ts13 k13 n13 nt13 np13 e13 pr13 => ⟨1, rfl, p13, ts13.map V.ref, rfl, SqL.of e13, fun p14 hp14 => ?_⟩⟩
        have l13 := pairs_len (show PairsAt G13 ts13 (gk ns kval) from pr13)
        rw [gk_len] at l13
        have ec13 : cutV (ts13.map V.ref) (some 1) none = (ts13.drop 1).map V.ref := by
          have z := cut_dropG (ts13.map V.ref) 1
          rw [List.map_drop]
          exact z
        rw [ec13]
        have s14 := same_upd (o := .lst ((ts13.drop 1).map V.ref)) hp14
        have pr14 : PairsAt (upd G13 p14 (.lst ((ts13.drop 1).map V.ref))) (ts13.drop 1) (gk (ns.drop 1) kval) := by
          rw [← gk_drop]
          exact pairs_drop (pairs_mv (show PairsAt G13 ts13 (gk ns kval) from pr13) fun _ _ z => s14 _ _ z)
        refine ⟨p14, ts13.drop 1, gk (ns.drop 1) kval, rfl, SqL.of upd_same, pairs_sq pr14, fun d3 hd3 => ?_⟩
        rw [merge_gk ((List.drop_sublist 1 ns).nodup nd)]
        have s15' := ((show Same G12 G13 from k13).trans s14).trans (same_upd (o := .dK (gk (ns.drop 1) kval)) hd3)
        have ed3 := upd_same (H := upd G13 p14 (.lst ((ts13.drop 1).map V.ref))) (a := d3) (o := .dK (gk (ns.drop 1) kval))
        have nd3 : G12 d3 = none := ((show Same G12 G13 from k13).trans s14).free hd3
        generalize upd (upd G13 p14 (.lst ((ts13.drop 1).map V.ref))) d3 (.dK (gk (ns.drop 1) kval)) = G15 at s15' ed3
        refine ⟨(by show 1 ≤ sizeLine; decide), fun l15 hl15 => ?_⟩
        have s16 := same_upd (o := .lst [V.ref d3]) hl15
        refine ⟨pS, l15, ys, [.ref d3], rfl, rfl, s16 _ _ (s15' _ _ eS12), upd_same, by rw [List.length_singleton]; omega, fun p16 hp16 => ?_⟩
        have sC := same_upd (o := .lst (ys ++ [V.ref d3])) hp16
        have s17' := (s15'.trans s16).trans sC
        have sHC := sH12.trans s17'
        have e16 := upd_same (H := upd G15 l15 (.lst [V.ref d3])) (a := p16) (o := .lst (ys ++ [V.ref d3]))
        have n16 : H p16 = none := (sH12.trans (s15'.trans s16)).free hp16
        have all16 : ∀ v ∈ ys ++ [V.ref d3], ToldNo (fun b => H b = none ∨ b = nt) (upd (upd G15 l15 (.lst [V.ref d3])) p16 (.lst (ys ++ [V.ref d3]))) ns v := fun v hv => by
          rcases List.mem_append.mp hv with hv | hv
          · exact (all12 v hv).strong fun a o sa ea => ⟨sa.1, s17' _ _ ea⟩
          · rw [List.mem_singleton.mp hv]
            refine told_len (.inl (sH12.free nd3)) (sC _ _ (s16 _ _ ed3)) ?_
            rw [gk_len, List.length_drop]
            have : ns.length ≠ 0 := fun z => nne (List.length_eq_zero_iff.mp z)
            omega
        have l16 : (ys ++ [V.ref d3]).length = 8 := by rw [List.length_append, l2]; rfl
        generalize upd (upd G15 l15 (.lst [V.ref d3])) p16 (.lst (ys ++ [V.ref d3])) = G16 at sHC e16 all16
        generalize ys ++ [V.ref d3] = zs at e16 all16 l16
        refine ⟨_, rfl, trivial, fun v17 G17 s18 dv17 => ?_⟩
        obtain ⟨a17, xs17, rfl, ea17, _, hx17⟩ := dv17.tup_ofS2
        refine ⟨a17, rfl, ⟨xs17, SqT.of ea17⟩, fun D18 hD18 => lc_tup (fun i G => Same G17 G ∧ ∃ acc : List V, G D18 = some (.lst acc) ∧ acc.length = i ∧ ∀ v ∈ acc, ToldNo (fun b => H b = none ∧ b ≠ D18) G ns v)
          ⟨same_upd hD18, [], upd_same, rfl, fun v hv => by cases hv⟩ (fun i G _ p => SqT.of (p.1 _ _ ea17)) (fun i x G hi p => ?_) (fun G p => ?_)⟩
        · obtain ⟨s20, acc, eD, lacc, allA⟩ := p
          obtain ⟨od, hod, hdt⟩ := hx17.get hi
          obtain ⟨odN, odS⟩ := odds_ok od (List.mem_of_getElem? hod)
          have lod : odds7.length = 7 := rfl
          have li := (List.getElem?_eq_some_iff.mp hod).1
          have sHG := (sHC.trans s18).trans s20
          refine ⟨rfl, _, rfl, nt, rfl, ⟨_, SqT.of (sHG _ _ en)⟩, fun D19 hD19 => lc_tup (PvP G D19 (fun _ => x) ns) (PvP.zero hD19) (fun i G' _ p => SqT.of (p.1 _ _ (sHG _ _ en))) (fun j y G' hj p => ?_) (fun G' p => ?_)⟩
          · rw [List.getElem?_map] at hj
            obtain ⟨n, hn, rfl⟩ := Option.map_eq_some_iff.mp hj
            exact ⟨rfl, _, rfl, _, rfl, (by show 2 ≤ sizeLine; decide), fun T hT => p.step hD19 hn (by omega) hT⟩
          · obtain ⟨s21, ps21, e21, pr21⟩ := p.done (by rw [List.length_map]; exact Nat.le_refl _)
            refine ⟨D19, ps21, gk ns fun _ => x, rfl, SqL.of e21, pairs_sq pr21, fun d20 hd20 => ?_⟩
            rw [merge_gk nd]
            have s22 := s21.trans (same_upd (o := .dK (gk ns fun _ => x)) hd20)
            have n20 : G d20 = none := s21.free hd20
            have dD : d20 ≠ D18 := fun z => by
              rw [z, eD] at n20
              cases n20
            have eD2 := s22 _ _ eD
            refine ⟨acc, eD2, by omega, same_put hD18 (s20.trans s22), acc ++ [.ref d20], upd_same, by rw [List.length_append, lacc]; rfl, fun v hv => ?_⟩
            have go1 : ToldNo (fun b => H b = none ∧ b ≠ D18) (upd G' d20 (.dK (gk ns fun _ => x))) ns v := by
              rcases List.mem_append.mp hv with hv | hv
              · exact (allA v hv).strong fun a o sa ea => ⟨sa, s22 _ _ ea⟩
              · rw [List.mem_singleton.mp hv]
                exact told_odd ⟨sHG.free n20, dD⟩ upd_same (hdt.strong fun b o hb eb => ⟨⟨sHC.free hb, ne_of_none eb hD18⟩, s22 _ _ (s20 _ _ eb)⟩) odS odN nne
            exact go1.strong fun a o sa ea => ⟨sa, by rw [upd_ne sa.2]; exact ea⟩
        · obtain ⟨s20, acc, eD, lacc, allA⟩ := p
          have l17 := hx17.length
          have lod : odds7.length = 7 := rfl
          refine ⟨p16, D18, zs, acc, rfl, rfl, s20 _ _ (s18 _ _ e16), eD, by omega, fun p23 hp23 => ?_⟩
          have s23 := same_upd (o := .lst (zs ++ acc)) hp23
          have sHZ := ((sHC.trans s18).trans s20).trans s23
          refine go p23 _ ⟨zs ++ acc, upd_same, by rw [List.length_append]; omega, by rw [List.length_append]; omega, sHZ, ((sHC.trans s18).trans s20).free hp23, fun v hv => ?_⟩
          rcases List.mem_append.mp hv with hv | hv
          · exact (all16 v hv).strong fun a o sa ea => ⟨⟨sa, ne_of_none (s20 _ _ (s18 _ _ ea)) hp23⟩, s23 _ _ (s20 _ _ (s18 _ _ ea))⟩
          · exact (allA v hv).strong fun a o sa ea => ⟨⟨.inl sa.1, ne_of_none ea hp23⟩, s23 _ _ ea⟩
      · rintro pZ G ⟨ys, ep, l0, l1, sG, np, all⟩
        apply cutG (fun G' => ∃ ys : List V, G' pZ = some (.lst ys) ∧ 0 < ys.length ∧ ys.length ≤ 101 ∧ Same H G' ∧ ∀ v ∈ ys, ToldNo (fun b => H b = none ∨ b = nt) G' ns v)
        · intro go
          refine ⟨_, rfl, nt, ns.map V.str, rfl, .inr (SqT.of (sG _ _ en)), _, _, rfl, rfl, _, rfl, ite2 (fun hgt => ?_) (fun _ => go G ⟨ys, ep, l0, by omega, sG, fun v hv => (all v hv).strong fun a o sa ea => ⟨sa.1, ea⟩⟩)⟩
          have l2 : 1 < ns.length := by
            have z := of_decide_eq_true hgt
            rw [List.length_map] at z
            omega
          refine ⟨_, rfl, .inl ⟨rfl, ys, SqL.of ep⟩, _, rfl, nt, rfl, ⟨_, SqT.of (sG _ _ en)⟩, fun D hD => lc_tup (PvP G D (fun _ => .str "same") ns) (PvP.zero hD) (fun i G' _ p => SqT.of (p.1 _ _ (sG _ _ en))) (fun j y G' hj p => ?_) (fun G' p => ?_)⟩
          · rw [List.getElem?_map] at hj
            obtain ⟨n, hn, rfl⟩ := Option.map_eq_some_iff.mp hj
            exact ⟨rfl, _, rfl, (by show 2 ≤ sizeLine; decide), fun T hT => p.step hD hn (by omega) hT⟩
          · obtain ⟨s21, ps21, e21, pr21⟩ := p.done (by rw [List.length_map]; exact Nat.le_refl _)
            refine ⟨D, ps21, gk ns fun _ => .str "same", rfl, SqL.of e21, pairs_sq pr21, fun d5 hd5 => ?_⟩
            rw [merge_gk nd]
            have s22 := s21.trans (same_upd (o := .dK (gk ns fun _ => V.str "same")) hd5)
            have e5 := upd_same (H := G') (a := d5) (o := .dK (gk ns fun _ => V.str "same"))
            have n5 : G d5 = none := s21.free hd5
            generalize upd G' d5 (.dK (gk ns fun _ => V.str "same")) = G5 at s22 e5
            have dp : d5 ≠ pZ := fun z => by
              rw [z, ep] at n5
              cases n5
            refine ⟨pZ, ys, .ref d5, rfl, rfl, s22 _ _ ep, by omega, ?_⟩
            have all5 : ∀ v ∈ ys ++ [V.ref d5], ToldNo (fun b => H b = none ∨ b = nt) (upd G5 pZ (.lst (ys ++ [V.ref d5]))) ns v := fun v hv => by
              have go1 : ToldNo (fun b => (H b = none ∨ b = nt) ∧ b ≠ pZ) G5 ns v := by
                rcases List.mem_append.mp hv with hv | hv
                · exact (all v hv).strong fun a o sa ea => ⟨sa, s22 _ _ ea⟩
                · rw [List.mem_singleton.mp hv]
                  exact told_same ⟨.inl (sG.free n5), dp⟩ e5 (by decide +kernel) l2
              exact go1.strong fun a o sa ea => ⟨sa.1, by rw [upd_ne sa.2]; exact ea⟩
            have sZ := same_put (o := .lst (ys ++ [V.ref d5])) np (sG.trans s22)
            have eZ := upd_same (H := G5) (a := pZ) (o := .lst (ys ++ [V.ref d5]))
            have lZ : (ys ++ [V.ref d5]).length = ys.length + 1 := by rw [List.length_append]; rfl
            revert all5 sZ eZ
            generalize upd G5 pZ (.lst (ys ++ [V.ref d5])) = G6
            intro all5 sZ eZ
            exact go G6 ⟨_, eZ, by omega, by omega, sZ, all5⟩
        · rintro G' ⟨ys, ep, l0, l1, sG, all⟩
          have ntd : nt ≠ d := fun z => by
            obtain ⟨_, _, _, ed⟩ := hd
            rw [z, ed] at en
            cases en
          refine ⟨_, rfl, _, rfl, d, pZ, ys, rfl, hd.mv sG, SqL.of ep, fun _ (z : pZ = d) => by rw [z] at np; exact dn np, l0, by omega, fun H4 i v hv b4 hd4 => ?_⟩
          refine q H4 v (fun b o hb eb => b4 b o hb (sG b o eb)) hd4 ((all v (List.mem_of_getElem? hv)).strong fun a o sa ea => ⟨sa, b4 a o (fun z => ?_) ea⟩)
          rcases sa with sa | sa
          · rw [z] at sa
            exact dn sa
          · exact ntd (sa.symm.trans z)
end
end OM

namespace OM
open PySem PySem.Spec PyProof.Rows L2
/-! ### drawn code, by its weights -/
theorem own_leaf {w : Str} {rest : List PyData} {k : Str} (h1 : w ≠ "get") (h2 : w ≠ "put") (h3 : w ≠ "set") (h4 : w ≠ k) : ownD k (.tuple (.str w :: rest)) = 0 := by
  unfold ownD
  rw [if_neg]
  unfold kindD
  dsimp only
  rw [if_neg (fun z => z.elim h1 h2), if_neg h3]
  exact h4
structure DrS (n : Nat) (d : PyData) (l s t : Nat) : Prop where
  row : rowD (cdOf n) d = true
  sz : wsum one (flatS n d) ≤ 1 + 4 * wsum (ownD "if") (flatS n d)
  lt : wsum (ownD "letter") (flatS n d) ≤ l
  st : wsum (ownD "set") (flatS n d) ≤ s
  iff : wsum (ownD "if") (flatS n d) ≤ t
  cel : ∀ x ∈ flatS n d, cellOk x
structure DrC (n : Nat) (ds : List PyData) (l s t : Nat) : Prop where
  rows : ds.all (rowD (cdOf n)) = true
  sz : W one n ds ≤ ds.length + 4 * W (ownD "if") n ds
  lt : W (ownD "letter") n ds ≤ l
  st : W (ownD "set") n ds ≤ s
  iff : W (ownD "if") n ds ≤ t
  cel : cellsOk n ds
theorem DrS.leaf {n : Nat} {w : Str} {rest : List PyData} {l s : Nat} (row : rowD (cdOf 0) (.tuple (.str w :: rest)) = true) (ni : w ≠ "if") (hl : ownD "letter" (.tuple (.str w :: rest)) ≤ l) (hs : ownD "set" (.tuple (.str w :: rest)) ≤ s) (hi : ownD "if" (.tuple (.str w :: rest)) = 0)
    (hc : ∀ c ∈ namesD "cell" (.tuple (.str w :: rest)), c ∈ cells3) : DrS n (.tuple (.str w :: rest)) l s 0 := by
  have row' := leaf_any (m := n) row ni
  have inn : inner2 (.tuple (.str w :: rest)) = [] := by
    rcases row_iff row with ⟨m, p, r, ys, ns, e, _⟩ | ⟨w', rest', ed, _, i0⟩
    · cases e
    · exact i0
  have e := leafS row' inn
  refine ⟨row', ?_, ?_, ?_, ?_, ?_⟩
  · rw [e]
    show 1 + 0 ≤ 1 + _
    omega
  · rw [e]
    show _ + 0 ≤ _
    omega
  · rw [e]
    show _ + 0 ≤ _
    omega
  · rw [e]
    show _ + 0 ≤ _
    omega
  · rw [e]
    intro x hx
    rw [List.mem_singleton.mp hx]
    exact hc
mutual
theorem StD.dr : ∀ {n : Nat} {d : PyData} {l s t z : Nat}, StD n d l s t z → DrS n d l s t
  | n, _, _, _, _, _, .read (r := r) (x := x) hr hx => by
    have h := (by decide +kernel : ∀ r ∈ regs4, ∀ x ∈ cells3, rowD (cdOf 0) (.tuple [.str "read", .str r, .str x]) = true ∧ ∀ c ∈ namesD "cell" (.tuple [.str "read", .str r, .str x]), c ∈ cells3) r hr x hx
    exact .leaf h.1 (by decide +kernel) (Nat.le_of_eq (own_leaf (by decide +kernel) (by decide +kernel) (by decide +kernel) (by decide +kernel))) (Nat.le_of_eq (own_leaf (by decide +kernel) (by decide +kernel) (by decide +kernel) (by decide +kernel))) (own_leaf (by decide +kernel) (by decide +kernel) (by decide +kernel) (by decide +kernel)) h.2
  | n, _, _, _, _, _, .write (r := r) (x := x) hx hr => by
    have h := (by decide +kernel : ∀ r ∈ regs4, ∀ x ∈ cells3, rowD (cdOf 0) (.tuple [.str "write", .str x, .str r]) = true ∧ ∀ c ∈ namesD "cell" (.tuple [.str "write", .str x, .str r]), c ∈ cells3) r hr x hx
    exact .leaf h.1 (by decide +kernel) (Nat.le_of_eq (own_leaf (by decide +kernel) (by decide +kernel) (by decide +kernel) (by decide +kernel))) (Nat.le_of_eq (own_leaf (by decide +kernel) (by decide +kernel) (by decide +kernel) (by decide +kernel))) (own_leaf (by decide +kernel) (by decide +kernel) (by decide +kernel) (by decide +kernel)) h.2
  | n, _, _, _, _, _, .copy (r := r) (a := a) hr ha => by
    have h := (by decide +kernel : ∀ r ∈ regs4, ∀ x ∈ regs4, rowD (cdOf 0) (.tuple [.str "copy", .str r, .str x]) = true ∧ ∀ c ∈ namesD "cell" (.tuple [.str "copy", .str r, .str x]), c ∈ cells3) r hr a ha
    exact .leaf h.1 (by decide +kernel) (Nat.le_of_eq (own_leaf (by decide +kernel) (by decide +kernel) (by decide +kernel) (by decide +kernel))) (Nat.le_of_eq (own_leaf (by decide +kernel) (by decide +kernel) (by decide +kernel) (by decide +kernel))) (own_leaf (by decide +kernel) (by decide +kernel) (by decide +kernel) (by decide +kernel)) h.2
  | n, _, _, _, _, _, .letter (w := w) (r := r) hw hr => by
    have h := (by decide +kernel : ∀ w ∈ (["get", "put"] : List Str), ∀ r ∈ regs4, rowD (cdOf 0) (.tuple [.str w, .str r]) = true ∧ w ≠ "if" ∧ ownD "letter" (.tuple [.str w, .str r]) ≤ 1 ∧ ownD "set" (.tuple [.str w, .str r]) ≤ 0 ∧ ownD "if" (.tuple [.str w, .str r]) = 0 ∧ ∀ c ∈ namesD "cell" (.tuple [.str w, .str r]), c ∈ cells3) w (by simpa using hw) r hr
    exact .leaf h.1 h.2.1 h.2.2.1 h.2.2.2.1 h.2.2.2.2.1 h.2.2.2.2.2
  | n, _, _, _, _, _, .set (r := r) (f := f) (as := as) hr hf ha hl => by
    have h1 := (by decide +kernel : ∀ r ∈ regs4, isNameD (.str r) = true) r hr
    have h2 := (by decide +kernel : ∀ f ∈ (["f", "g"] : List Str), isNameD (.str f) = true) f (by simpa using hf)
    have h3 : argsD (.tuple (as.map PyData.str)) = true := by
      show (decide ((as.map PyData.str).length ≤ 2) && (as.map PyData.str).all isNameD) = true
      rw [List.length_map, decide_eq_true hl, Bool.true_and, List.all_map]
      exact List.all_eq_true.mpr fun k hk => (by decide +kernel : ∀ k ∈ regs4, isNameD (.str k) = true) k (ha k hk)
    have row : rowD (cdOf 0) (.tuple [.str "set", .str r, .str f, .tuple (as.map PyData.str)]) = true := by
      rw [row_set, h1, h2, h3]
      rfl
    have kd : ∀ k : Str, k ≠ "set" → k ≠ "constant" → ownD k (.tuple [.str "set", .str r, .str f, .tuple (as.map PyData.str)]) = 0 := fun k n1 n2 => by
      unfold ownD
      rw [if_neg]
      unfold kindD
      dsimp only
      rw [if_neg (by decide +kernel), if_pos rfl]
      split
      · exact fun z => n2 z.symm
      · exact fun z => n1 z.symm
    refine .leaf row (by decide +kernel) (Nat.le_of_eq (kd _ (by decide +kernel) (by decide +kernel))) ?_ (kd _ (by decide +kernel) (by decide +kernel)) ?_
    · unfold ownD
      split <;> omega
    · intro c hc
      have e4 : formOf "set" = some (["register", "function", "registers"] : List Str) := by decide +kernel
      have : namesD "cell" (.tuple [.str "set", .str r, .str f, .tuple (as.map PyData.str)]) = [] := by
        show (match formOf "set" with | some rs => (List.zipWith (nmD "cell") [.str r, .str f, .tuple (as.map PyData.str)] rs).flatten | none => []) = _
        rw [e4]
        show (nmD "cell" (.str r) "register" ++ (nmD "cell" (.str f) "function" ++ (nmD "cell" (.tuple (as.map PyData.str)) "registers" ++ []))) = []
        unfold nmD
        rw [if_neg (by decide +kernel), if_neg (by decide +kernel), if_neg (by decide +kernel), if_neg (by decide +kernel), if_neg (by decide +kernel), if_neg (by decide +kernel)]
        rfl
      rw [this] at hc
      cases hc
  | _, _, _, _, _, _, .iff (n := n) (p := p) (r := r) (ys := ys) (ns := ns) hp hr hy hyl hn hnl => by
    have a := CoD.dr hy
    have b := CoD.dr hn
    have h1 := (by decide +kernel : ∀ r ∈ regs4, isNameD (.str r) = true) r hr
    have h2 := (by decide +kernel : ∀ f ∈ (["p", "q"] : List Str), isNameD (.str f) = true) p (by simpa using hp)
    have row := if_row h2 h1 a.rows b.rows
    have k : ∀ k : Str, k ≠ "if" → ownD k (.tuple [.str "if", .str p, .str r, .tuple ys, .tuple ns]) = 0 := fun k hk => by
      unfold ownD
      rw [if_neg (by
        unfold kindD
        dsimp only
        rw [if_neg (by decide +kernel), if_neg (by decide +kernel)]
        exact fun z => hk z.symm)]
    obtain ⟨_, a1, a2, a3, a4, a5⟩ := a
    obtain ⟨_, b1, b2, b3, b4, b5⟩ := b
    refine ⟨row, ?_, ?_, ?_, ?_, ?_⟩
    · rw [W_if row, W_if row, own_if]
      show 1 + _ ≤ _
      omega
    · rw [W_if row, k _ (by decide +kernel)]
      omega
    · rw [W_if row, k _ (by decide +kernel)]
      omega
    · rw [W_if row, own_if]
      omega
    · rw [ifS row]
      intro x hx
      rcases List.mem_cons.mp hx with rfl | hx
      · intro c hc
        have e4 : formOf "if" = some (["test", "register", "code", "code"] : List Str) := by decide +kernel
        have : namesD "cell" (.tuple [.str "if", .str p, .str r, .tuple ys, .tuple ns]) = [] := by
          show (match formOf "if" with | some rs => (List.zipWith (nmD "cell") [.str p, .str r, .tuple ys, .tuple ns] rs).flatten | none => []) = _
          rw [e4]
          show (nmD "cell" (.str p) "test" ++ (nmD "cell" (.str r) "register" ++ (nmD "cell" (.tuple ys) "code" ++ (nmD "cell" (.tuple ns) "code" ++ [])))) = []
          unfold nmD
          rw [if_neg (by decide +kernel), if_neg (by decide +kernel), if_neg (by decide +kernel), if_neg (by decide +kernel), if_neg (by decide +kernel), if_neg (by decide +kernel)]
          rfl
        rw [this] at hc
        cases hc
      · rcases List.mem_append.mp hx with z | z
        · exact a5 x z
        · exact b5 x z
theorem CoD.dr : ∀ {n : Nat} {ds : List PyData} {l s t z : Nat}, CoD n ds l s t z → DrC n ds l s t
  | _, _, _, _, _, _, .nil => ⟨rfl, Nat.zero_le _, Nat.zero_le _, Nat.zero_le _, Nat.zero_le _, fun x hx => by cases hx⟩
  | _, _, _, _, _, _, .cons h r => by
    obtain ⟨a0, a1, a2, a3, a4, a5⟩ := StD.dr h
    obtain ⟨b0, b1, b2, b3, b4, b5⟩ := CoD.dr r
    refine ⟨by rw [List.all_cons, a0, b0]; rfl, ?_, ?_, ?_, ?_, ?_⟩
    · rw [W_cons, W_cons, List.length_cons]
      omega
    · rw [W_cons]
      omega
    · rw [W_cons]
      omega
    · rw [W_cons]
      omega
    · intro x hx
      rw [flatN_cons] at hx
      rcases List.mem_append.mp hx with z | z
      · exact a5 x z
      · exact b5 x z
end
/-- what Stretch takes -/
structure NearOk (e : List PyData) : Prop where
  rows : e.all (rowD (cdOf 3)) = true
  bnd : bndD e = true
  few : (flatN 3 e).length ≤ 24
theorem near_bnd {e : List PyData} (rows : e.all (rowD (cdOf 3)) = true) (h1 : W one 3 e ≤ 24) (h2 : W (ownD "letter") 3 e ≤ 6) (h3 : W (ownD "set") 3 e ≤ 6) (h4 : W (ownD "if") 3 e ≤ 3) (c : cellsOk 3 e) : NearOk e := by
  rw [W_one] at h1
  have m : ∀ k, mostN 3 k e ≤ W (ownD k) 3 e := fun k => (most_sum k 3).2 e
  have hc : (firsts [] ((flatN 3 e).flatMap (namesD "cell"))).length ≤ 4 := by
    have n := nodup_firsts ((flatN 3 e).flatMap (namesD "cell")) (L := []) List.nodup_nil
    have s : firsts [] ((flatN 3 e).flatMap (namesD "cell")) ⊆ cells3 := fun x hx => by
      rcases mem_firsts.mp hx with z | z
      · cases z
      · obtain ⟨y, hy, hx⟩ := List.mem_flatMap.mp z
        exact c y hy x hx
    exact Nat.le_trans (List.Nodup.length_le_of_subset n s) (by decide)
  refine ⟨rows, ?_, h1⟩
  unfold bndD
  rw [decide_eq_true h1, decide_eq_true hc, decide_eq_true (Nat.le_trans (m _) h2), decide_eq_true (Nat.le_trans (m _) h3), decide_eq_true (Nat.le_trans (m _) h4)]
  rfl
end OM

namespace OM
open PySem PySem.Spec PyProof.Rows L2 LamX
theorem dr_near {ds : List PyData} {l s t : Nat} (d : DrC 2 ds l s t) (hlen : ds.length ≤ 8) (hl : l ≤ 6) (hs : s ≤ 3) (ht : t ≤ 3) : NearOk ds := by
  have few : W (ownD "if") 2 ds ≤ 3 := Nat.le_trans d.iff ht
  have up : ds.all (rowD (cdOf 3)) = true := (rows_up d.rows).1
  have e1 : ∀ ψ : PyData → Nat, W ψ 3 ds = W ψ 2 ds := fun ψ => W_up d.rows
  have s0 := d.sz
  refine near_bnd up (by rw [e1]; omega) (by rw [e1]; exact Nat.le_trans d.lt hl) (by rw [e1]; exact Nat.le_trans d.st (by omega)) (by rw [e1]; exact few) ?_
  have c := d.cel
  unfold cellsOk at c ⊢
  rw [(rows_up d.rows).2]
  exact c
theorem near_okD2 {ds : List PyData} {ks : List Str} (n : NearOk ds) (kept : keptD (strT ks) = true) : okD (.tuple ds) (strT ks) = true := by
  unfold okD itemsD
  rw [codeD_tup, n.rows, n.bnd, kept]
  rfl
theorem fn_or {P : Program} {w : World} {K : PySem.W.Frag} {mg : Str → Option Value} {base : Heap} {CX : CXT} {k : Nat} {f : Addr} {fd : FuncData} {ps : List Str} {sp1 sp2 : Sp} (F1 : FnOk P w K mg base CX k f fd ps sp1) (F2 : FnOk P w K mg base CX k f fd ps sp2) :
    FnOk P w K mg base CX k f fd ps (fun vs H Q E => sp1 vs H Q E ∨ sp2 vs H Q E) :=
  ⟨fun vs H Q E h => h.elim (F1.len vs H Q E) (F2.len vs H Q E), fun A o s H ar us vs Q E hr e b r h => h.elim (F1.run A o s H ar us vs Q E hr e b r) (F2.run A o s H ar us vs Q E hr e b r)⟩
def spMk (K : PySem.W.Frag) (C cS : Addr) : Sp := fun vs H Q E => spSI C cS vs H Q E ∨ spSII K C cS vs H Q E
/-! what stays -/
/-- the objects of S stay -/
def Kp (S : Addr → Prop) (G G' : Hp) : Prop := ∀ b o, S b → G b = some o → (∀ ps, o ≠ .tbl ps) → G' b = some o
theorem Kp.tr {S : Addr → Prop} {G G1 G2 : Hp} (a : Kp S G G1) (b : Kp S G1 G2) : Kp S G G2 := fun c o s e n => b c o s (a c o s e n) n
theorem Kp.same {S : Addr → Prop} {G G' : Hp} (s : Same G G') : Kp S G G' := fun c o _ e _ => s c o e
theorem Kp.ext {S : Addr → Prop} {G G' : Hp} (s : ExtN G G') : Kp S G G' := fun c o _ e n => s c o e n
theorem Kp.but {S : Addr → Prop} {d : Addr} {G G' : Hp} (h : ∀ b, S b → b ≠ d) (s : But d G G') : Kp S G G' := fun c o k e _ => s c o (h c k) e
theorem Kp.sub {S S' : Addr → Prop} {G G' : Hp} (h : ∀ b, S' b → S b) (k : Kp S G G') : Kp S' G G' := fun c o s e n => k c o (h c s) e n
mutual
theorem Dt.kp {S : Addr → Prop} {H H' : Hp} (k : Kp S H H') : ∀ {v : V} {x : PyData}, Dt S H v x → Dt S H' v x
  | _, _, .at h => .at h
  | _, _, .lst s y hl h => .lst s (k _ _ s y (fun _ z => nomatch z)) hl (DtAll.kp k h)
  | _, _, .tup s y hl h => .tup s (k _ _ s y (fun _ z => nomatch z)) hl (DtAll.kp k h)
  | _, _, .dic0 s y => .dic0 s (k _ _ s y (fun _ z => nomatch z))
  | _, _, .dic1 s y h => .dic1 s (k _ _ s y (fun _ z => nomatch z)) h
theorem DtAll.kp {S : Addr → Prop} {H H' : Hp} (k : Kp S H H') : ∀ {vs : List V} {xs : List PyData}, DtAll S H vs xs → DtAll S H' vs xs
  | _, _, .nil => .nil
  | _, _, .cons h r => .cons (Dt.kp k h) (DtAll.kp k r)
end
theorem Told.kp {S : Addr → Prop} {H H' : Hp} {ns : List Str} {v : V} {b : Bool} (t : Told S H ns v b) (k : Kp S H H') : Told S H' ns v b := by
  cases t with
  | dat h no => exact .dat (h.kp k) no
  | dic s e hd => exact .dic s (k _ _ s e (fun _ z => nomatch z)) fun h1 h2 n hn v hv => ⟨(hd h1 h2 n hn v hv).1.kp k, (hd h1 h2 n hn v hv).2⟩
theorem ToldNo.kp {S : Addr → Prop} {H H' : Hp} {ns : List Str} {v : V} (h : ToldNo S H ns v) (k : Kp S H H') : ToldNo S H' ns v := ⟨h.1, h.2.kp k⟩
/-- the stretch at x, by objects of S -/
structure MadeS (C : Addr) (S : Addr → Prop) (G : Hp) (x kb : Addr) (vc : V) (ds : List PyData) (ks : List Str) : Prop where
  at_ : ∃ dx, G x = some (insS C dx vc (.ref kb))
  sx : S x
  cd : Dt S G vc (.tuple ds)
  sk : S kb
  kd : G kb = some (.tup (ks.map V.str))
theorem MadeS.kp {C : Addr} {S : Addr → Prop} {G G' : Hp} {x kb : Addr} {vc : V} {ds : List PyData} {ks : List Str} (m : MadeS C S G x kb vc ds ks) (k : Kp S G G') : MadeS C S G' x kb vc ds ks := by
  obtain ⟨dx, e⟩ := m.at_
  exact ⟨⟨dx, k _ _ m.sx e (fun _ z => nomatch z)⟩, m.sx, m.cd.kp k, m.sk, k _ _ m.sk m.kd (fun _ z => nomatch z)⟩
/-- what is known of the drawn stretch, whatever the heap -/
structure Facts (ds : List PyData) (ks : List Str) : Prop where
  near : NearOk ds
  kept : keptD (strT ks) = true
  six : ds.length ≤ 6
theorem MadeS.st {K : PySem.W.Frag} {C : Addr} {S : Addr → Prop} {G : Hp} {x kb : Addr} {vc : V} {ds : List PyData} {ks : List Str} (m : MadeS C S G x kb vc ds ks) (F : Facts ds ks) : StI K C G x ds ks := by
  obtain ⟨dx, e⟩ := m.at_
  exact ⟨dx, kb, vc, e, m.cd.mv (fun _ _ => trivial) (fun _ _ _ z => z), SqT.of m.kd, F.near.rows, Nat.le_trans F.near.few (by decide), F.kept⟩
/-- what is no code -/
def BadV (S : Addr → Prop) (G : Hp) (x : Addr) (v : V) : Prop := v = .ref x ∨ ∃ e, Dt S G v e ∧ smlD e = true ∧ codeD 3 e = false
theorem BadV.kp {S : Addr → Prop} {G G' : Hp} {x : Addr} {v : V} (h : BadV S G x v) (k : Kp S G G') : BadV S G' x v := h.imp id fun ⟨e, a, b, c⟩ => ⟨e, a.kp k, b, c⟩
/-- what is no set of names to be kept -/
def WrongV (S : Addr → Prop) (G : Hp) (v : V) : Prop := ∃ e, Dt S G v e ∧ smlD e = true ∧ keptD e = false
theorem WrongV.kp {S : Addr → Prop} {G G' : Hp} {v : V} (h : WrongV S G v) (k : Kp S G G') : WrongV S G' v := by
  obtain ⟨e, a, b, c⟩ := h
  exact ⟨e, a.kp k, b, c⟩
/-- what is no stretch -/
def OddV (S : Addr → Prop) (G : Hp) (x : Addr) (v : V) : Prop := (∃ e, Dt S G v e) ∨ ∃ l, v = .ref l ∧ S l ∧ G l = some (.lst [.ref x])
theorem OddV.kp {S : Addr → Prop} {G G' : Hp} {x : Addr} {v : V} (h : OddV S G x v) (k : Kp S G G') : OddV S G' x v := by
  rcases h with ⟨e, a⟩ | ⟨l, a, b, c⟩
  · exact .inl ⟨e, a.kp k⟩
  · exact .inr ⟨l, a, b, k _ _ b c (fun _ z => nomatch z)⟩
/-- the dict of the registers to themselves -/
def GoodV (S : Addr → Prop) (G : Hp) (ns : List Str) (v : V) : Prop := ∃ a, v = .ref a ∧ S a ∧ G a = some (.dK (gk ns V.str))
theorem GoodV.kp {S : Addr → Prop} {G G' : Hp} {ns : List Str} {v : V} (h : GoodV S G ns v) (k : Kp S G G') : GoodV S G' ns v := by
  obtain ⟨a, b, c, e⟩ := h
  exact ⟨a, b, c, k _ _ c e (fun _ z => nomatch z)⟩
theorem firsts_id : ∀ {l acc : List Str}, (l.reverse ++ acc).Nodup → firsts acc l = l.reverse ++ acc
  | [], acc, _ => rfl
  | x :: r, acc, h => by
    have n : x ∉ acc := fun z => by
      rw [List.reverse_cons, List.append_assoc] at h
      have h2 := (List.nodup_append.mp h).2.1
      exact (List.nodup_cons.mp h2).1 z
    show firsts (addX acc x) r = _
    have e : addX acc x = x :: acc := if_neg n
    rw [e, firsts_id (by rw [List.reverse_cons, List.append_assoc] at h; exact h), List.reverse_cons, List.append_assoc]
    rfl
theorem told_good {S : Addr → Prop} {H : Hp} {ns : List Str} {v : V} (g : GoodV S H ns v) (nd : ns.Nodup) (nm : ∀ n ∈ ns, isNameD (.str n) = true) (sm : ∀ n ∈ ns, smlD (.str n) = true) : ToldOk S H ns v := by
  obtain ⟨a, rfl, s, e⟩ := g
  refine .inr ⟨fun z => (nomatch z), ?_⟩
  have t := Told.dic (S := S) (ns := ns) (dat := PyData.str) s e fun _ _ n hn u hu => by
    rw [gk_val hn] at hu
    obtain rfl := Option.some.inj hu
    exact ⟨.at (.str n), sm n hn⟩
  have b : renB ns (gk ns V.str) PyData.str = true := by
    unfold renB
    have e1 : (ns.all fun n => (valV (gk ns V.str) (.inr n)).isSome) = true := List.all_eq_true.mpr fun n hn => by rw [gk_val hn]; rfl
    have e2 : (ns.all fun n => isNameD (.str n)) = true := List.all_eq_true.mpr nm
    have e3 : (ns.map fun n => strD (.str n)) = ns := List.map_id ns
    have e4 : firsts [] ns = ns.reverse ++ [] := firsts_id (by rw [List.append_nil]; exact List.pairwise_reverse.mpr (nd.imp fun h z => h z.symm))
    rw [e1, e2, e3, e4, List.append_nil, List.length_reverse, gk_len]
    simp
  rw [b] at t
  exact t
/-- all but a and the tables stay -/
def ExtB (d : Addr) (H H' : Hp) : Prop := ∀ b o, b ≠ d → H b = some o → (∀ ps, o ≠ .tbl ps) → H' b = some o
theorem ExtB.tr {d : Addr} {H H1 H2 : Hp} (a : ExtB d H H1) (b : ExtB d H1 H2) : ExtB d H H2 := fun c o n h z => b c o n (a c o n h z) z
theorem ExtB.but {d : Addr} {H H1 : Hp} (a : But d H H1) : ExtB d H H1 := fun c o n h _ => a c o n h
theorem ExtB.ext {d : Addr} {H H1 : Hp} (a : ExtN H H1) : ExtB d H H1 := fun c o _ h z => a c o h z
/-- between two words that are told -/
structure Run (T : List (Addr × Str)) (H0 : Hp) (d pt : Addr) (ws : List Str) (G : Hp) : Prop where
  ext : ExtB d H0 G
  dice : Dice G d
  tabs : Tabs T G
  told : G pt = some (.lst (ws.map V.str))
theorem tabs_upl2 {T : List (Addr × Str)} {H : Hp} {pt : Addr} {acc : List V} {o : HO} (t : Tabs T H) (e : H pt = some (.lst acc)) : Tabs T (upd H pt o) := fun p hp => by
  obtain ⟨ps, h1, h2, h3⟩ := t p hp
  refine ⟨ps, by
    rw [upd_ne (fun z => by
      rw [z, e] at h1
      cases h1)]
    exact h1, h2, fun pos cv hc => ?_⟩
  obtain ⟨c', e1, e2⟩ := h3 pos cv hc
  refine ⟨c', e1, ?_⟩
  rw [upd_ne (fun z => by
    rw [z, e] at e2
    have e3 := Option.some.inj e2
    unfold CodeO at e3
    cases e3)]
  exact e2
theorem Run.step {T : List (Addr × Str)} {H0 G G2 : Hp} {d pt : Addr} {ws : List Str} (R : Run T H0 d pt ws G) (np : ∀ o, H0 pt = some o → (∀ ps, o ≠ .tbl ps) → False) (x : ExtN G G2) (t : Tabs T G2) (w : Str) :
    G2 pt = some (.lst (ws.map V.str)) ∧ Run T H0 d pt (ws ++ [w]) (upd G2 pt (.lst (ws.map V.str ++ [.str w]))) ∧ Kp (fun b => b ≠ d ∧ b ≠ pt) G (upd G2 pt (.lst (ws.map V.str ++ [.str w]))) := by
  have e := x _ _ R.told (fun _ z => nomatch z)
  have dp : d ≠ pt := fun z => by
    obtain ⟨_, _, _, ed⟩ := R.dice
    rw [z, R.told] at ed
    have e1 := Option.some.inj ed
    injection e1 with e1
    match ws, e1 with
    | [], e1 => cases e1
    | w :: r, e1 =>
      injection e1 with e1 _
      cases e1
  refine ⟨e, ⟨fun b o hb eb n => ?_, ?_, tabs_upl2 t e, ?_⟩, fun b o sb eb n => ?_⟩
  · rw [upd_ne (fun z => np o (by rw [← z]; exact eb) n)]
    exact x _ _ (R.ext b o hb eb n) n
  · obtain ⟨l, m, z, ed⟩ := R.dice
    exact ⟨l, m, z, by rw [upd_ne dp]; exact x _ _ ed (fun _ z => nomatch z)⟩
  · rw [upd_same, List.map_append]
    rfl
  · rw [upd_ne sb.2]
    exact x _ _ eb n
theorem Run.dice' {T : List (Addr × Str)} {H0 G G2 : Hp} {d pt : Addr} {ws : List Str} (R : Run T H0 d pt ws G) (dp : pt ≠ d) (b : But d G G2) (hd : Dice G2 d) (t : Tabs T G2) : Run T H0 d pt ws G2 := ⟨fun c o hc e n => b _ _ hc (R.ext c o hc e n), hd, t, b _ _ dp R.told⟩
theorem tabs_but2 {T : List (Addr × Str)} {d : Addr} {H H1 : Hp} (t : Tabs T H) (hd : Dice H d) (b : But d H H1) : Tabs T H1 := fun p hp => by
  obtain ⟨l, m, c, ed⟩ := hd
  obtain ⟨ps, h1, h2, h3⟩ := t p hp
  have nd : p.1 ≠ d := fun z => by
    rw [z, ed] at h1
    cases h1
  refine ⟨ps, b _ _ nd h1, h2, fun pos cv hc => ?_⟩
  obtain ⟨c', e1, e2⟩ := h3 pos cv hc
  refine ⟨c', e1, b _ _ (fun z => ?_) e2⟩
  rw [z, ed] at e2
  have e3 := Option.some.inj e2
  unfold CodeO at e3
  cases e3
theorem Run.same {T : List (Addr × Str)} {H0 G G2 : Hp} {d pt : Addr} {ws : List Str} (R : Run T H0 d pt ws G) (s : Same G G2) : Run T H0 d pt ws G2 := ⟨fun c o hc e n => s _ _ (R.ext c o hc e n), R.dice.mv s, R.tabs.ext s, s _ _ R.told⟩
/-! Stretch(..), as the lambdas make it -/
theorem made_hp {C : Addr} {H : Hp} {x dx : Addr} (hx : H x = none) (hdx : H dx = none) (ne : dx ≠ x) : Same H (upd (upd H dx (.own x)) x (.ins C dx [])) := by
  have ndx : upd H dx (.own x) x = none := by
    rw [upd_ne (fun z => ne z.symm)]
    exact hx
  exact (same_upd (o := .own x) hdx).trans (same_upd (o := .ins C dx []) ndx)
/-- it is made -/
theorem made_ok {K : PySem.W.Frag} {C cS kb : Addr} {S : Addr → Prop} {H : Hp} {v : V} {ds : List PyData} {ks : List Str} {Z : Addr → Hp → Prop} {E : XK} (hc : Dt S H v (.tuple ds)) (F : Facts ds ks) (ek : H kb = some (.tup (ks.map V.str)))
    (q : ∀ H' x dx, Same H H' → H x = none → H' x = some (insS C dx v (.ref kb)) → Z x H') : ∀ x dx, H x = none → H dx = none → dx ≠ x → spMk K C cS (.ref x :: ([v, .ref kb] ++ [])) (upd (upd H dx (.own x)) x (.ins C dx [])) (fun w H2 => w = .non ∧ Z x H2) E := fun x dx hx hdx ne => by
  have s2 := made_hp (C := C) hx hdx ne
  have l4 := kept_len F.kept
  refine .inl ⟨fun _ => True, x, dx, v, .ref kb, .tuple ds, strT ks, rfl, upd_same, hc.mv (fun _ _ => trivial) (fun b o _ z => s2 b o z), (dt_strT ek (by omega)).mv (fun _ z => z) (fun b o _ z => s2 b o z), (sml_tup _).trans (code_small F.near.rows).1, (keeps_sh F.kept).2.1, fun _ => Nat.le_trans F.near.few (by decide),
    fun _ H2 b2 e2 => ⟨rfl, ?_⟩, fun z => absurd z (by rw [near_okD2 F.near F.kept]; decide)⟩
  refine q H2 x dx (fun b o eo => ?_) hx e2
  have nb : b ≠ x := ne_of_none eo hx
  exact b2 b o nb (s2 b o eo)
/-- its code is none -/
theorem made_bad {K : PySem.W.Frag} {C cS xm kb0 : Addr} {S S2 : Addr → Prop} {H : Hp} {v kv vc : V} {dk : PyData} {ds : List PyData} {ks : List Str} {Z : Addr → Hp → Prop} {E : XK} (hb : BadV S H xm v) (m : MadeS C S H xm kb0 vc ds ks) (ty : ∀ (H : Hp) (a dx : Addr) (fs : List (Str × V)), H a = some (.ins C dx fs) → TyX K H (.ref a) (.ref C))
    (hk : Dt S2 H kv dk) (sk : smlD dk = true) (q : ∀ H', Same H H' → E (.ref cS) none H') : ∀ x dx, H x = none → H dx = none → dx ≠ x → spMk K C cS (.ref x :: ([v, kv] ++ [])) (upd (upd H dx (.own x)) x (.ins C dx [])) (fun w H2 => w = .non ∧ Z x H2) E := fun x dx hx hdx ne => by
  have s2 := made_hp (C := C) hx hdx ne
  rcases hb with rfl | ⟨e, de, se, ce⟩
  · obtain ⟨dm, em⟩ := m.at_
    exact .inr ⟨x, .ref xm, kv, rfl, ⟨xm, dm, _, rfl, s2 _ _ em, ty _ _ _ _ (s2 _ _ em)⟩, fun H' s' => q H' (s2.trans s')⟩
  · have no : okD e dk = false := by
      unfold okD
      rw [ce, Bool.false_and]
    exact .inl ⟨fun _ => True, x, dx, v, kv, e, dk, rfl, upd_same, de.mv (fun _ _ => trivial) (fun b o _ z => s2 b o z), hk.mv (fun _ _ => trivial) (fun b o _ z => s2 b o z), se, sk, fun z => absurd z (by rw [ce]; decide), fun z => absurd z (by rw [no]; decide), fun _ H' s' => q H' (s2.trans s')⟩
/-- its kept registers are none -/
theorem made_wrong {K : PySem.W.Frag} {C cS : Addr} {S S2 : Addr → Prop} {H : Hp} {v kv : V} {ds : List PyData} {Z : Addr → Hp → Prop} {E : XK} (hc : Dt S H v (.tuple ds)) (n : NearOk ds) (hk : WrongV S2 H kv) (q : ∀ H', Same H H' → E (.ref cS) none H') :
    ∀ x dx, H x = none → H dx = none → dx ≠ x → spMk K C cS (.ref x :: ([v, kv] ++ [])) (upd (upd H dx (.own x)) x (.ins C dx [])) (fun w H2 => w = .non ∧ Z x H2) E := fun x dx hx hdx ne => by
  have s2 := made_hp (C := C) hx hdx ne
  obtain ⟨dk, hk, sk, kk⟩ := hk
  have no : okD (.tuple ds) dk = false := by
    unfold okD
    rw [kk, Bool.and_false, Bool.and_false]
  exact .inl ⟨fun _ => True, x, dx, v, kv, .tuple ds, dk, rfl, upd_same, hc.mv (fun _ _ => trivial) (fun b o _ z => s2 b o z), hk.mv (fun _ _ => trivial) (fun b o _ z => s2 b o z), (sml_tup _).trans (code_small n.rows).1, sk, fun _ => Nat.le_trans n.few (by decide), fun z => absurd z (by rw [no]; decide), fun _ H' s' => q H' (s2.trans s')⟩
end OM

namespace OM
open PySem PySem.Spec PyProof.Rows L2
section
variable {p : PyData}
theorem nm_c_c : nmD "cell" p "cell" = [strD p] := if_pos rfl
theorem nm_c_r : nmD "cell" p "register" = [] := (if_neg (by decide +kernel)).trans (if_neg fun z => absurd z.2 (by decide +kernel))
theorem nm_c_f : nmD "cell" p "function" = [] := (if_neg (by decide +kernel)).trans (if_neg fun z => absurd z.2 (by decide +kernel))
theorem nm_c_t : nmD "cell" p "test" = [] := (if_neg (by decide +kernel)).trans (if_neg fun z => absurd z.2 (by decide +kernel))
theorem nm_c_d : nmD "cell" p "code" = [] := (if_neg (by decide +kernel)).trans (if_neg fun z => absurd z.2 (by decide +kernel))
theorem nm_c_s : nmD "cell" p "registers" = [] := (if_neg (by decide +kernel)).trans (if_neg fun z => absurd z.2 (by decide +kernel))
theorem nm_r_c : nmD "register" p "cell" = [] := (if_neg (by decide +kernel)).trans (if_neg fun z => absurd z.1 (by decide +kernel))
theorem nm_r_r : nmD "register" p "register" = [strD p] := if_pos rfl
theorem nm_r_f : nmD "register" p "function" = [] := (if_neg (by decide +kernel)).trans (if_neg fun z => absurd z.1 (by decide +kernel))
theorem nm_r_t : nmD "register" p "test" = [] := (if_neg (by decide +kernel)).trans (if_neg fun z => absurd z.1 (by decide +kernel))
theorem nm_r_d : nmD "register" p "code" = [] := (if_neg (by decide +kernel)).trans (if_neg fun z => absurd z.1 (by decide +kernel))
theorem nm_r_s : nmD "register" p "registers" = strsD p := (if_neg (by decide +kernel)).trans (if_pos ⟨rfl, rfl⟩)
theorem nm_f_c : nmD "function" p "cell" = [] := (if_neg (by decide +kernel)).trans (if_neg fun z => absurd z.2 (by decide +kernel))
theorem nm_f_r : nmD "function" p "register" = [] := (if_neg (by decide +kernel)).trans (if_neg fun z => absurd z.2 (by decide +kernel))
theorem nm_f_f : nmD "function" p "function" = [strD p] := if_pos rfl
theorem nm_f_t : nmD "function" p "test" = [] := (if_neg (by decide +kernel)).trans (if_neg fun z => absurd z.2 (by decide +kernel))
theorem nm_f_d : nmD "function" p "code" = [] := (if_neg (by decide +kernel)).trans (if_neg fun z => absurd z.2 (by decide +kernel))
theorem nm_f_s : nmD "function" p "registers" = [] := (if_neg (by decide +kernel)).trans (if_neg fun z => absurd z.2 (by decide +kernel))
theorem nm_t_c : nmD "test" p "cell" = [] := (if_neg (by decide +kernel)).trans (if_neg fun z => absurd z.2 (by decide +kernel))
theorem nm_t_r : nmD "test" p "register" = [] := (if_neg (by decide +kernel)).trans (if_neg fun z => absurd z.2 (by decide +kernel))
theorem nm_t_f : nmD "test" p "function" = [] := (if_neg (by decide +kernel)).trans (if_neg fun z => absurd z.2 (by decide +kernel))
theorem nm_t_t : nmD "test" p "test" = [strD p] := if_pos rfl
theorem nm_t_d : nmD "test" p "code" = [] := (if_neg (by decide +kernel)).trans (if_neg fun z => absurd z.2 (by decide +kernel))
theorem nm_t_s : nmD "test" p "registers" = [] := (if_neg (by decide +kernel)).trans (if_neg fun z => absurd z.2 (by decide +kernel))
end
/-- the names that a row has in each role -/
structure Nms (d : PyData) (c r f t : List Str) : Prop where
  c : namesD "cell" d = c
  r : namesD "register" d = r
  f : namesD "function" d = f
  t : namesD "test" d = t
theorem names_eq {role w : Str} {rest : List PyData} {rs : List Str} (hf : formOf w = some rs) : namesD role (.tuple (.str w :: rest)) = (List.zipWith (nmD role) rest rs).flatten := by
  show (match formOf w with | some rs => (List.zipWith (nmD role) rest rs).flatten | none => []) = _
  rw [hf]
theorem nms_read {p0 p1 : PyData} : Nms (.tuple (.str "read" :: [p0, p1])) ([strD p1]) ([strD p0]) ([]) ([]) := by
  have e : formOf "read" = some (["register", "cell"] : List Str) := by decide +kernel
  constructor
  · rw [names_eq e]
    show [nmD "cell" p0 "register", nmD "cell" p1 "cell"].flatten = _
    simp only [nm_c_r, nm_c_c, List.flatten_cons, List.flatten_nil, List.nil_append, List.append_nil]
  · rw [names_eq e]
    show [nmD "register" p0 "register", nmD "register" p1 "cell"].flatten = _
    simp only [nm_r_r, nm_r_c, List.flatten_cons, List.flatten_nil, List.nil_append, List.append_nil]
  · rw [names_eq e]
    show [nmD "function" p0 "register", nmD "function" p1 "cell"].flatten = _
    simp only [nm_f_r, nm_f_c, List.flatten_cons, List.flatten_nil, List.nil_append, List.append_nil]
  · rw [names_eq e]
    show [nmD "test" p0 "register", nmD "test" p1 "cell"].flatten = _
    simp only [nm_t_r, nm_t_c, List.flatten_cons, List.flatten_nil, List.nil_append, List.append_nil]
theorem nms_write {p0 p1 : PyData} : Nms (.tuple (.str "write" :: [p0, p1])) ([strD p0]) ([strD p1]) ([]) ([]) := by
  have e : formOf "write" = some (["cell", "register"] : List Str) := by decide +kernel
  constructor
  · rw [names_eq e]
    show [nmD "cell" p0 "cell", nmD "cell" p1 "register"].flatten = _
    simp only [nm_c_c, nm_c_r, List.flatten_cons, List.flatten_nil, List.nil_append, List.append_nil]
  · rw [names_eq e]
    show [nmD "register" p0 "cell", nmD "register" p1 "register"].flatten = _
    simp only [nm_r_c, nm_r_r, List.flatten_cons, List.flatten_nil, List.nil_append, List.append_nil]
  · rw [names_eq e]
    show [nmD "function" p0 "cell", nmD "function" p1 "register"].flatten = _
    simp only [nm_f_c, nm_f_r, List.flatten_cons, List.flatten_nil, List.nil_append, List.append_nil]
  · rw [names_eq e]
    show [nmD "test" p0 "cell", nmD "test" p1 "register"].flatten = _
    simp only [nm_t_c, nm_t_r, List.flatten_cons, List.flatten_nil, List.nil_append, List.append_nil]
theorem nms_set {p0 p1 p2 : PyData} : Nms (.tuple (.str "set" :: [p0, p1, p2])) ([]) ([strD p0] ++ strsD p2) ([strD p1]) ([]) := by
  have e : formOf "set" = some (["register", "function", "registers"] : List Str) := by decide +kernel
  constructor
  · rw [names_eq e]
    show [nmD "cell" p0 "register", nmD "cell" p1 "function", nmD "cell" p2 "registers"].flatten = _
    simp only [nm_c_r, nm_c_f, nm_c_s, List.flatten_cons, List.flatten_nil, List.nil_append, List.append_nil]
  · rw [names_eq e]
    show [nmD "register" p0 "register", nmD "register" p1 "function", nmD "register" p2 "registers"].flatten = _
    simp only [nm_r_r, nm_r_f, nm_r_s, List.flatten_cons, List.flatten_nil, List.nil_append, List.append_nil]
  · rw [names_eq e]
    show [nmD "function" p0 "register", nmD "function" p1 "function", nmD "function" p2 "registers"].flatten = _
    simp only [nm_f_r, nm_f_f, nm_f_s, List.flatten_cons, List.flatten_nil, List.nil_append, List.append_nil]
  · rw [names_eq e]
    show [nmD "test" p0 "register", nmD "test" p1 "function", nmD "test" p2 "registers"].flatten = _
    simp only [nm_t_r, nm_t_f, nm_t_s, List.flatten_cons, List.flatten_nil, List.nil_append, List.append_nil]
theorem nms_copy {p0 p1 : PyData} : Nms (.tuple (.str "copy" :: [p0, p1])) ([]) ([strD p0] ++ [strD p1]) ([]) ([]) := by
  have e : formOf "copy" = some (["register", "register"] : List Str) := by decide +kernel
  constructor
  · rw [names_eq e]
    show [nmD "cell" p0 "register", nmD "cell" p1 "register"].flatten = _
    simp only [nm_c_r, List.flatten_cons, List.flatten_nil, List.nil_append, List.append_nil]
  · rw [names_eq e]
    show [nmD "register" p0 "register", nmD "register" p1 "register"].flatten = _
    simp only [nm_r_r, List.flatten_cons, List.flatten_nil, List.nil_append, List.append_nil]
  · rw [names_eq e]
    show [nmD "function" p0 "register", nmD "function" p1 "register"].flatten = _
    simp only [nm_f_r, List.flatten_cons, List.flatten_nil, List.nil_append, List.append_nil]
  · rw [names_eq e]
    show [nmD "test" p0 "register", nmD "test" p1 "register"].flatten = _
    simp only [nm_t_r, List.flatten_cons, List.flatten_nil, List.nil_append, List.append_nil]
theorem nms_get {p0 : PyData} : Nms (.tuple (.str "get" :: [p0])) ([]) ([strD p0]) ([]) ([]) := by
  have e : formOf "get" = some (["register"] : List Str) := by decide +kernel
  constructor
  · rw [names_eq e]
    show [nmD "cell" p0 "register"].flatten = _
    simp only [nm_c_r, List.flatten_cons, List.flatten_nil, List.nil_append, List.append_nil]
  · rw [names_eq e]
    show [nmD "register" p0 "register"].flatten = _
    simp only [nm_r_r, List.flatten_cons, List.flatten_nil, List.nil_append, List.append_nil]
  · rw [names_eq e]
    show [nmD "function" p0 "register"].flatten = _
    simp only [nm_f_r, List.flatten_cons, List.flatten_nil, List.nil_append, List.append_nil]
  · rw [names_eq e]
    show [nmD "test" p0 "register"].flatten = _
    simp only [nm_t_r, List.flatten_cons, List.flatten_nil, List.nil_append, List.append_nil]
theorem nms_put {p0 : PyData} : Nms (.tuple (.str "put" :: [p0])) ([]) ([strD p0]) ([]) ([]) := by
  have e : formOf "put" = some (["register"] : List Str) := by decide +kernel
  constructor
  · rw [names_eq e]
    show [nmD "cell" p0 "register"].flatten = _
    simp only [nm_c_r, List.flatten_cons, List.flatten_nil, List.nil_append, List.append_nil]
  · rw [names_eq e]
    show [nmD "register" p0 "register"].flatten = _
    simp only [nm_r_r, List.flatten_cons, List.flatten_nil, List.nil_append, List.append_nil]
  · rw [names_eq e]
    show [nmD "function" p0 "register"].flatten = _
    simp only [nm_f_r, List.flatten_cons, List.flatten_nil, List.nil_append, List.append_nil]
  · rw [names_eq e]
    show [nmD "test" p0 "register"].flatten = _
    simp only [nm_t_r, List.flatten_cons, List.flatten_nil, List.nil_append, List.append_nil]
theorem nms_if {p0 p1 p2 p3 : PyData} : Nms (.tuple (.str "if" :: [p0, p1, p2, p3])) ([]) ([strD p1]) ([]) ([strD p0]) := by
  have e : formOf "if" = some (["test", "register", "code", "code"] : List Str) := by decide +kernel
  constructor
  · rw [names_eq e]
    show [nmD "cell" p0 "test", nmD "cell" p1 "register", nmD "cell" p2 "code", nmD "cell" p3 "code"].flatten = _
    simp only [nm_c_t, nm_c_r, nm_c_d, List.flatten_cons, List.flatten_nil, List.nil_append, List.append_nil]
  · rw [names_eq e]
    show [nmD "register" p0 "test", nmD "register" p1 "register", nmD "register" p2 "code", nmD "register" p3 "code"].flatten = _
    simp only [nm_r_t, nm_r_r, nm_r_d, List.flatten_cons, List.flatten_nil, List.nil_append, List.append_nil]
  · rw [names_eq e]
    show [nmD "function" p0 "test", nmD "function" p1 "register", nmD "function" p2 "code", nmD "function" p3 "code"].flatten = _
    simp only [nm_f_t, nm_f_r, nm_f_d, List.flatten_cons, List.flatten_nil, List.nil_append, List.append_nil]
  · rw [names_eq e]
    show [nmD "test" p0 "test", nmD "test" p1 "register", nmD "test" p2 "code", nmD "test" p3 "code"].flatten = _
    simp only [nm_t_t, nm_t_r, nm_t_d, List.flatten_cons, List.flatten_nil, List.nil_append, List.append_nil]
/-- every row, by its kind -/
theorem row_kinds {n : Nat} {d : PyData} (row : rowD (cdOf n) d = true) :
    (∃ r x, d = .tuple [.str "read", .str r, .str x] ∧ Nms d [x] [r] [] []) ∨ (∃ x r, d = .tuple [.str "write", .str x, .str r] ∧ Nms d [x] [r] [] []) ∨
    (∃ r f ds, d = .tuple [.str "set", .str r, .str f, .tuple ds] ∧ ds.all isNameD = true ∧ ds.length ≤ 2 ∧ Nms d [] (r :: ds.map strD) [f] []) ∨ (∃ p r y z, d = .tuple [.str "if", .str p, .str r, y, z] ∧ Nms d [] [r] [] [p]) ∨
    (∃ w rest, d = .tuple (.str w :: rest) ∧ w ≠ "read" ∧ w ≠ "write" ∧ w ≠ "set" ∧ w ≠ "if" ∧ rest.all isNameD = true ∧ rest.length ≤ 2 ∧ Nms d [] (rest.map strD) [] []) := by
  obtain ⟨w, rest, rs, rfl, hf, hlen, fits⟩ := rowD_shape row
  have hf0 := hf
  unfold formOf at hf
  by_cases h1 : w = "read"
  · subst h1
    rw [if_pos rfl] at hf
    obtain rfl := (Option.some.inj hf).symm
    match rest, hlen with
    | [d1, d2], _ =>
      have row' := row
      rw [row_plain (by decide +kernel) (by decide +kernel), Bool.and_eq_true, List.all_cons, List.all_cons, Bool.and_eq_true, Bool.and_eq_true] at row'
      obtain ⟨r, rfl⟩ := isS row'.2.1
      obtain ⟨x, rfl⟩ := isS row'.2.2.1
      exact .inl ⟨r, x, rfl, nms_read⟩
  rw [if_neg h1] at hf
  by_cases h2 : w = "write"
  · subst h2
    rw [if_pos rfl] at hf
    obtain rfl := (Option.some.inj hf).symm
    match rest, hlen with
    | [d1, d2], _ =>
      have row' := row
      rw [row_plain (by decide +kernel) (by decide +kernel), Bool.and_eq_true, List.all_cons, List.all_cons, Bool.and_eq_true, Bool.and_eq_true] at row'
      obtain ⟨r, rfl⟩ := isS row'.2.1
      obtain ⟨x, rfl⟩ := isS row'.2.2.1
      exact .inr (.inl ⟨r, x, rfl, nms_write⟩)
  rw [if_neg h2] at hf
  by_cases h3 : w = "set"
  · subst h3
    rw [if_pos rfl] at hf
    obtain rfl := (Option.some.inj hf).symm
    match rest, hlen with
    | [d1, d2, d3], _ =>
      have f1 : fitD (cdOf n) d1 "register" = true := List.all_eq_true.mp fits _ (List.mem_cons_self ..)
      have f2 : fitD (cdOf n) d2 "function" = true := List.all_eq_true.mp fits _ (List.mem_cons_of_mem _ (List.mem_cons_self ..))
      have f3 : fitD (cdOf n) d3 "registers" = true := List.all_eq_true.mp fits _ (List.mem_cons_of_mem _ (List.mem_cons_of_mem _ (List.mem_cons_self ..)))
      unfold fitD at f1 f2 f3
      rw [if_neg (by decide +kernel), if_neg (by decide +kernel)] at f1 f2
      rw [if_neg (by decide +kernel), if_pos rfl] at f3
      obtain ⟨r, rfl⟩ := isS f1
      obtain ⟨x, rfl⟩ := isS f2
      cases d3 with
      | tuple es =>
        have f3 : (decide (es.length ≤ 2) && es.all isNameD) = true := f3
        obtain ⟨g1, g2⟩ := Bool.and_eq_true_iff.mp f3
        exact .inr (.inr (.inl ⟨r, x, es, rfl, g2, of_decide_eq_true g1, nms_set⟩))
      | _ => cases f3
  rw [if_neg h3] at hf
  by_cases h4 : w = "if"
  · subst h4
    have e4 : formOf "if" = some (["test", "register", "code", "code"] : List Str) := by decide +kernel
    rw [e4] at hf0
    obtain rfl := (Option.some.inj hf0).symm
    match rest, hlen with
    | [d1, d2, d3, d4], _ =>
      have row' := row
      rw [row_if] at row'
      simp only [Bool.and_eq_true, and_true] at row'
      obtain ⟨g1, g2, _, _⟩ := row'
      obtain ⟨r, rfl⟩ := isS g1
      obtain ⟨x, rfl⟩ := isS g2
      exact .inr (.inr (.inr (.inl ⟨r, x, d3, d4, rfl, nms_if⟩)))
  have pl := row
  rw [row_plain h4 h3, Bool.and_eq_true] at pl
  refine .inr (.inr (.inr (.inr ⟨w, rest, rfl, h1, h2, h3, h4, pl.2, ?_⟩)))
  by_cases h5 : w = "copy"
  · subst h5
    rw [if_pos rfl] at hf
    obtain rfl := (Option.some.inj hf).symm
    match rest, hlen with
    | [d1, d2], _ => exact ⟨Nat.le_refl _, nms_copy⟩
  rw [if_neg h5] at hf
  by_cases h6 : w = "get"
  · subst h6
    rw [if_pos rfl] at hf
    obtain rfl := (Option.some.inj hf).symm
    match rest, hlen with
    | [d1], _ => exact ⟨Nat.le_succ 1, nms_get⟩
  rw [if_neg h6] at hf
  by_cases h7 : w = "put"
  · subst h7
    rw [if_pos rfl] at hf
    obtain rfl := (Option.some.inj hf).symm
    match rest, hlen with
    | [d1], _ => exact ⟨Nat.le_succ 1, nms_put⟩
  rw [if_neg h7, if_neg h4] at hf
  cases hf
end OM

namespace OM
open PySem PySem.Spec PyProof.Rows L2
theorem ris_step {x y : Str} {r : List Str} (hx : x ∈ regs4) (hy : y ∈ regs4) (ne : x ≠ y) (h : sortedS (x :: y :: r) = true) : ltS x y = true ∧ sortedS (y :: r) = true := by
  have h1 : (∀ x ∈ regs4, ∀ y ∈ regs4, x ≠ y → sortedS [x, y] = true → ltS x y = true) := by decide +kernel
  have h2 : sortedS (x :: y :: r) = (sortedS [x, y] && sortedS (y :: r)) := by
    have e1 : ∀ (a b : Str) (r : List Str), risingS a (b :: r) = (!ltCps b.cps.toList a.cps.toList && risingS b r) := fun a b r => by
      conv => lhs; unfold risingS
    show risingS x (y :: r) = (risingS x [y] && risingS y r)
    rw [e1 x y r, e1 x y []]
    show _ = (_ && true && _)
    rw [Bool.and_true]
  rw [h2, Bool.and_eq_true] at h
  exact ⟨h1 x hx y hy ne h.1, h.2⟩
theorem kept_lt : ∀ {ks : List Str}, sortedS ks = true → ks.Nodup → (∀ k ∈ ks, k ∈ regs4) → (List.zipWith ltS ks ks.tail).all id = true
  | [], _, _, _ => rfl
  | [x], _, _, _ => rfl
  | x :: y :: r, h, n, m => by
    obtain ⟨n1, n2⟩ := List.nodup_cons.mp n
    obtain ⟨a, b⟩ := ris_step (m x (by simp)) (m y (by simp)) (fun z => n1 (by rw [z]; simp)) h
    have ih := kept_lt b n2 (fun k hk => m k (List.mem_cons_of_mem _ hk))
    show (ltS x y :: List.zipWith ltS (y :: r) (y :: r).tail).all id = true
    rw [List.all_cons, ih, Bool.and_true]
    exact a
theorem kept_ok {ks : List Str} (h : sortedS ks = true) (n : ks.Nodup) (m : ∀ k ∈ ks, k ∈ regs4) : keptD (.tuple (ks.map PyData.str)) = true := by
  have hl : ks.length ≤ 4 := List.Nodup.length_le_of_subset (l₂ := regs4) n m
  have hm : (ks.map PyData.str).map strD = ks := by
    rw [List.map_map]
    have : (strD ∘ PyData.str) = id := rfl
    rw [this, List.map_id]
  show ((ks.map PyData.str).all isNameD && (List.zipWith ltS ((ks.map PyData.str).map strD) ((ks.map PyData.str).map strD).tail).all id && decide ((ks.map PyData.str).length ≤ 4)) = true
  rw [hm, kept_lt h n m, List.length_map, decide_eq_true hl, Bool.and_true, Bool.and_true, List.all_map]
  exact List.all_eq_true.mpr fun k hk => (by decide +kernel : ∀ k ∈ regs4, isNameD (.str k) = true) k (m k hk)
end OM

namespace OM
open PySem PySem.Spec PyProof.Rows L2 LamX
theorem leaf_flat {d : PyData} (h : inner2 d = []) (n : Nat) : flatS n d = [d] := by
  cases n with
  | zero => rfl
  | succ n =>
    show d :: (inner2 d).flatMap _ = [d]
    rw [h]
    rfl
mutual
theorem StD.regs : ∀ {n : Nat} {d : PyData} {l s t z : Nat}, StD n d l s t z → ∀ e ∈ flatS n d, ∀ y ∈ namesD "register" e, y ∈ regs4
  | n, _, _, _, _, _, .read hr hx => fun e he y hy => by
    rw [leaf_flat rfl, List.mem_singleton] at he
    subst he
    rw [nms_read.r] at hy
    rw [List.mem_singleton.mp hy]
    exact hr
  | n, _, _, _, _, _, .write hx hr => fun e he y hy => by
    rw [leaf_flat rfl, List.mem_singleton] at he
    subst he
    rw [nms_write.r] at hy
    rw [List.mem_singleton.mp hy]
    exact hr
  | n, _, _, _, _, _, .copy hr ha => fun e he y hy => by
    rw [leaf_flat rfl, List.mem_singleton] at he
    subst he
    rw [nms_copy.r] at hy
    rcases List.mem_cons.mp hy with z | z
    · rw [z]; exact hr
    · rw [List.mem_singleton.mp z]; exact ha
  | n, _, _, _, _, _, .letter (w := w) (r := r) hw hr => fun e he y hy => by
    rw [leaf_flat rfl, List.mem_singleton] at he
    subst he
    have k : namesD "register" (.tuple [.str w, .str r]) = [strD (.str r)] := by
      rcases hw with rfl | rfl
      · exact nms_get.r
      · exact nms_put.r
    rw [k] at hy
    rw [List.mem_singleton.mp hy]
    exact hr
  | n, _, _, _, _, _, .set (as := as) hr hf ha hl => fun e he y hy => by
    rw [leaf_flat rfl, List.mem_singleton] at he
    subst he
    rw [nms_set.r] at hy
    rcases List.mem_append.mp hy with z | z
    · rw [List.mem_singleton.mp z]; exact hr
    · obtain ⟨q, hq, rfl⟩ := List.mem_map.mp (show y ∈ (as.map PyData.str).map strD from z)
      obtain ⟨u, hu, rfl⟩ := List.mem_map.mp hq
      exact ha u hu
  | _, _, _, _, _, _, .iff (n := n) (ys := ys) (ns := ns) hp hr hy hyl hn hnl => fun e he y hm => by
    rcases List.mem_cons.mp he with z | z
    · rw [z, nms_if.r] at hm
      rw [List.mem_singleton.mp hm]
      exact hr
    · obtain ⟨c, hc, hm2⟩ := List.mem_flatMap.mp (show e ∈ [ys, ns].flatMap (flatN n) from z)
      rcases List.mem_cons.mp hc with rfl | hc
      · exact CoD.regs hy e hm2 y hm
      · rw [List.mem_singleton.mp hc] at hm2
        exact CoD.regs hn e hm2 y hm
theorem CoD.regs : ∀ {n : Nat} {ds : List PyData} {l s t z : Nat}, CoD n ds l s t z → ∀ e ∈ flatN n ds, ∀ y ∈ namesD "register" e, y ∈ regs4
  | _, _, _, _, _, _, .nil => fun e he y hy => by cases he
  | _, _, _, _, _, _, .cons h r => fun e he y hy => by
    rw [flatN_cons] at he
    rcases List.mem_append.mp he with z | z
    · exact StD.regs h e z y hy
    · exact CoD.regs r e z y hy
end
/-- the names of a drawn stretch -/
structure Drawn (ds : List PyData) (ks : List Str) : Prop where
  facts : Facts ds ks
  cel : ∀ x ∈ rolesS "cell" ds, x ∈ cells3
  reg : ∀ x ∈ ks ++ rolesS "register" ds, x ∈ regs4
theorem drawn_of {ds : List PyData} {ks : List Str} {l s t z : Nat} (cd : CoD 2 ds l s t z) (hlen : ds.length ≤ 6) (hl : l ≤ 4) (hs : s ≤ 3) (ht : t ≤ 2) (srt : sortedS ks = true) (nd : ks.Nodup) (mem : ∀ k ∈ ks, k ∈ regs4) : Drawn ds ks := by
  have dr := cd.dr
  have e : flatN 3 ds = flatN 2 ds := (rows_up dr.rows).2
  refine ⟨⟨dr_near dr (by omega) (by omega) hs (by omega), kept_ok srt nd mem, hlen⟩, fun x hx => ?_, fun x hx => ?_⟩
  · obtain ⟨y, hy, hm⟩ := List.mem_flatMap.mp hx
    rw [e] at hy
    exact dr.cel y hy x hm
  · rcases List.mem_append.mp hx with z | z
    · exact mem x z
    · obtain ⟨y, hy, hm⟩ := List.mem_flatMap.mp z
      rw [e] at hy
      exact CoD.regs cd y hy x hm
theorem regs_facts : ∀ x ∈ regs4, isNameD (.str x) = true ∧ smlD (.str x) = true ∧ x.length ≤ 100 ∧ x ≠ "qq" := by decide +kernel
theorem cells_facts : ∀ x ∈ cells3, isNameD (.str x) = true ∧ smlD (.str x) = true ∧ x.length ≤ 100 ∧ x ≠ "qq" := by decide +kernel
theorem Drawn.inC {ds : List PyData} {ks : List Str} (D : Drawn ds ks) : ∀ x ∈ cellsC ds, x ∈ cells3 := fun x hx => D.cel x (mem_canon.mp hx)
theorem Drawn.inR {ds : List PyData} {ks : List Str} (D : Drawn ds ks) : ∀ x ∈ regsC ds ks, x ∈ regs4 := fun x hx => D.reg x (mem_canon.mp hx)
theorem Drawn.lenC {ds : List PyData} {ks : List Str} (D : Drawn ds ks) : (cellsC ds).length ≤ 24 := Nat.le_trans (List.Nodup.length_le_of_subset (l₂ := cells3) (canon_nodup _) D.inC) (by decide)
theorem Drawn.lenR {ds : List PyData} {ks : List Str} (D : Drawn ds ks) : (regsC ds ks).length ≤ 24 := Nat.le_trans (List.Nodup.length_le_of_subset (l₂ := regs4) (canon_nodup _) D.inR) (by decide)
/-! more that is carried over -/
theorem MadeS.strong {C : Addr} {S S' : Addr → Prop} {G G' : Hp} {x kb : Addr} {vc : V} {ds : List PyData} {ks : List Str} (m : MadeS C S G x kb vc ds ks) (h : ∀ a o, S a → G a = some o → S' a ∧ G' a = some o) : MadeS C S' G' x kb vc ds ks := by
  obtain ⟨dx, e⟩ := m.at_
  exact ⟨⟨dx, (h _ _ m.sx e).2⟩, (h _ _ m.sx e).1, m.cd.strong h, (h _ _ m.sk m.kd).1, (h _ _ m.sk m.kd).2⟩
theorem BadV.strong {S S' : Addr → Prop} {G G' : Hp} {x : Addr} {v : V} (b : BadV S G x v) (h : ∀ a o, S a → G a = some o → S' a ∧ G' a = some o) : BadV S' G' x v := b.imp id fun ⟨e, a, b, c⟩ => ⟨e, a.strong h, b, c⟩
theorem GoodV.strong {S S' : Addr → Prop} {G G' : Hp} {ns : List Str} {v : V} (g : GoodV S G ns v) (h : ∀ a o, S a → G a = some o → S' a ∧ G' a = some o) : GoodV S' G' ns v := by
  obtain ⟨a, b, c, e⟩ := g
  exact ⟨a, b, (h _ _ c e).1, (h _ _ c e).2⟩
theorem WrongV.strong {S S' : Addr → Prop} {G G' : Hp} {v : V} (w : WrongV S G v) (h : ∀ a o, S a → G a = some o → S' a ∧ G' a = some o) : WrongV S' G' v := by
  obtain ⟨e, a, b, c⟩ := w
  exact ⟨e, a.strong h, b, c⟩
theorem Dt.tup_ofS3 {S : Addr → Prop} {H : Hp} {v : V} {ds : List PyData} (h : Dt S H v (.tuple ds)) : ∃ a xs, v = .ref a ∧ S a ∧ H a = some (.tup xs) ∧ xs.length ≤ 1000 ∧ DtAll S H xs ds := by
  cases h with
  | «at» a => cases a
  | @tup a xs _ s e hl h => exact ⟨a, xs, rfl, s, e, hl, h⟩
/-- the pair that is drawn -/
theorem pair_of {S : Addr → Prop} {H : Hp} {v : V} {ds : List PyData} {ks : List Str} (h : Dt S H v (.tuple [.tuple ds, .tuple (ks.map PyData.str)])) : ∃ (a kb : Addr) (vc : V), v = .ref a ∧ H a = some (.tup [vc, .ref kb]) ∧ Dt S H vc (.tuple ds) ∧ S kb ∧ H kb = some (.tup (ks.map V.str)) := by
  obtain ⟨a, xs, rfl, ea, _, hx⟩ := h.tup_ofS2
  cases hx with
  | cons hc r =>
    cases r with
    | cons hk r =>
      cases r
      obtain ⟨kb, ys, rfl, sk, ek, _, hy⟩ := hk.tup_ofS3
      rw [dt_strL hy] at ek
      exact ⟨a, kb, _, rfl, ea, hc, sk, ek⟩
theorem odd_ty {K : PySem.W.Frag} {S : Addr → Prop} {G : Hp} {x : Addr} {v : V} (h : OddV S G x v) : ∃ e : PyData, TyX K G v (.type (tyN e)) := by
  rcases h with ⟨e, he⟩ | ⟨l, rfl, _, el⟩
  · exact ⟨e, he.tyx⟩
  · exact ⟨.list [], .base (.lst el)⟩
def words8 : List Str := ["stretch", "stretch", "stretch", "operation", "stretch", "operation", "operation", "operation"]
theorem words8_ok : SeqAt.shaped (.list (words8.map PyData.str)) = true ∧ PyData.eqv (.list (words8.map PyData.str)) (.list (words8.map PyData.str)) = true := by decide +kernel
/-- what stands for no place of a stretch with n statements -/
def atD (n : Nat) : List PyData := [.none, .int (-1), .int (n : Int), .bool true, .str "0", .tuple [], .int (10 ^ 39), .list [.int 0]]
def atB (n : Nat) (e : PyData) : Bool := !numB 0 ((n : Int) - 1) e && (decide (e.depth ≤ 4) && (e.showable && (decide (e.shown.length ≤ 200) && (SeqAt.shaped (.list [.str (("number " : Str) ++ e.shown), .str "fine"]) && PyData.eqv (.list [.str (("number " : Str) ++ e.shown), .str "fine"]) (.list [.str (("number " : Str) ++ e.shown), .str "fine"])))))
theorem at_ok : ∀ n, n < 7 → ∀ e ∈ atD n, atB n e = true := by decide +kernel
theorem Run.off {T : List (Addr × Str)} {H0 G : Hp} {d pt : Addr} {ws : List Str} (R : Run T H0 d pt ws G) {b : Addr} (h : ∀ l, G b ≠ some (.lst l)) : b ≠ d ∧ b ≠ pt := ⟨fun z => by
  obtain ⟨l, m, _, ed⟩ := R.dice
  rw [z] at h
  exact h _ ed, fun z => by
  rw [z] at h
  exact h _ R.told⟩
theorem Run.free {T : List (Addr × Str)} {H0 G : Hp} {d pt : Addr} {ws : List Str} (R : Run T H0 d pt ws G) {b : Addr} (h : G b = none) : b ≠ d ∧ b ≠ pt := R.off fun l z => by
  rw [h] at z
  cases z
theorem Run.tup {T : List (Addr × Str)} {H0 G : Hp} {d pt : Addr} {ws : List Str} (R : Run T H0 d pt ws G) {b : Addr} {xs : List V} (h : G b = some (.tup xs)) : b ≠ d ∧ b ≠ pt := R.off fun l z => by
  rw [h] at z
  cases z
end OM

namespace OM
open PySem PySem.Spec PyProof.Rows L2 LamX
abbrev wS : Str := "stretch"
abbrev wO : Str := "operation"
abbrev wF : Str := "fine"
abbrev sRight6 : Stmt := top 65
def lamR6 : Str := "_law_right" ++ ".<locals>." ++ "<lambda>"
abbrev nR6 : List Str := ["_law_dice_here", "_law_code_here", "_law_keeps", "_law_made", "_law_wrong", "_law_bad", "_law_told", "_law_odd", "_law_spots", "_law_regs", "_law_good", "_law_at", "_law_name"]
def CallM (P : Program) (w : World) (K : PySem.W.Frag) (mg : Str → Option Value) (base : Heap) (name : Str) (k : Nat) (ps : List Str) (sp : Sp) : Prop := ∃ (g : Addr) (d : FuncData), mg name = some (.ref g) ∧ PySem.W.keepIn K (.ref g) = true ∧ Binds K d ps [] ∧ FnOk P w K mg base CX0 k g d ps sp
def PropM (P : Program) (w : World) (K : PySem.W.Frag) (mg : Str → Option Value) (base : Heap) (C : Addr) (name : Str) (k : Nat) (sp : Sp) : Prop := ∃ (p g : Addr) (d : FuncData), PropOf K C name p g ∧ FnOk P w K mg base CX0 k g d ["self"] sp ∧ Binds K d ["self"] []
abbrev kCell : List V → List V → List V := fun vs zs => vs ++ zs ++ [.non]
abbrev kRegs : List V → List V → List V := fun vs zs => vs ++ [.non] ++ zs
abbrev kBoth : List V → List V → List V := fun vs zs => vs ++ zs
/-- the class Stretch with all that the law asks of it -/
structure StW (P : Program) (w : World) (K : PySem.W.Frag) (mg : Str → Option Value) (base : Heap) (C : Addr) (c : Nat → Addr) : Prop where
  T : StrT K mg C
  made : ∃ (fS : Addr) (dS : FuncData), Mk K C fS ∧ mg "Stretch" = some (.ref C) ∧ Binds K dS ["self", "code", "keeps"] [] ∧ FnOk P w K mg base (L2.CX P w) 15 fS dS ["self", "code", "keeps"] (spMk K C (c 1))
  keep : ∃ (f : Addr) (d : FuncData), Meth K C "keeping" f ∧ FnOk P w K mg base (L2.CX P w) 18 f d ["self", "names"] (spKeepW C (c 3)) ∧ Binds K d ["self", "names"] []
  add : ∃ (f : Addr) (d : FuncData), PySem.W.findIn K (.ref C) "__add__" = some (some (.ref f)) ∧ PySem.W.isFn K (.ref f) = true ∧ FnOk P w K mg base (L2.CX P w) 3 f d ["self", "other"] (spAddW K C (c 1)) ∧ Binds K d ["self", "other"] []
  self : PySem.W.selfFirst K C = true
  radd : PySem.W.findIn K (.ref C) "__radd__" = some none
  addT : ∀ e : PyData, AddT K C (tyN e) ∧ PySem.W.kitOne K (.type (tyN e)) (.ref C) = some false
  get : ∃ (f : Addr) (d : FuncData), PySem.W.findIn K (.ref C) "__getitem__" = some (some (.ref f)) ∧ PySem.W.isFn K (.ref f) = true ∧ PySem.W.fnIn K f = true ∧ FnOk P w K mg base (L2.CX P w) 8 f d ["self", "at"] (spGetW K C (c 7)) ∧ Binds K d ["self", "at"] []
  ren : ∃ (f : Addr) (d : FuncData) (g1 g2 g3 : List Value → List Value → List Value), Meth K C "renamed" f ∧ FnOk P w K mg base (L2.CX P w) 18 f d ["self", "cells", "registers"] (spRenM K C (c 3)) ∧
    KBn K d ["self", "cells", "registers"] 1 ["cells"] g1 kCell ∧ KBn K d ["self", "cells", "registers"] 1 ["registers"] g2 kRegs ∧ KBn K d ["self", "cells", "registers"] 1 ["cells", "registers"] g3 kBoth
  cells : PropM P w K mg base C "cells" 7 (spRole K C fun ds _ => rolesS "cell" ds)
  regs : PropM P w K mg base C "registers" 7 (spRole K C fun ds ks => ks ++ rolesS "register" ds)
  eq : ∃ (f : Addr) (d : FuncData), PySem.W.findIn K (.ref C) "__eq__" = some (some (.ref f)) ∧ PySem.W.isFn K (.ref f) = true ∧ FnOk P w K mg base CX0 1 f d ["self", "other"] (spEqM K C) ∧ Binds K d ["self", "other"] []
  insT : ∀ (H : Hp) (a dx : Addr) (fs : List (Str × V)), H a = some (.ins C dx fs) → TyX K H (.ref a) (.ref C)
  notF : PySem.W.notFirst K C (.ref C) = true
/-- `_law_met`, with the table of the lambdas' code -/
structure MetF (P : Program) (w : World) (K : PySem.W.Frag) (mg : Str → Option Value) (base : Heap) (c : Nat → Addr) : Prop where
  met : ∃ (fM : Addr) (dM : FuncData), mg "_law_met" = some (.ref fM) ∧ Fun K "_law_met" "_law_met" sMet fM dM ∧ Binds K dM ["_law_call"] []
  M : MetK mg c
  N : MetX K c
  rep : mg "repr" = none
structure Right6 (P : Program) (w : World) (K : PySem.W.Frag) (mg : Str → Option Value) (base : Heap) (C PT cc : Addr) (c : Nat → Addr) : Prop where
  W : StW P w K mg base C c
  F : MetF P w K mg base c
  TB : TabB base mg cc PT
  draw : CallM P w K mg base "_law_stretch" 9 ["_law_dice_here", "_law_most", "_law_letters", "_law_tests"] spStretch
  badK : CallM P w K mg base "_law_bad_keeps" 3 ["_law_dice_here"] spBadK
  badN : CallM P w K mg base "_law_bad_names" 3 ["_law_dice_here", "_law_names"] spBadN
  one : CallM P w K mg base "_law_one_of" 2 ["_law_dice_here", "_law_items"] (spOneOf K)
  len : mg "len" = none
  dct : mg "dict" = none
def spRight6 (T : List (Addr × Str)) : Sp := fun vs H Q _ => ∃ d : Addr, vs = [.ref d] ∧ Dice H d ∧ Tabs T H ∧ ∀ H', ExtB d H H' → Dice H' d → Tabs T H' → Q (.bl true) H'
section
variable {P : Program} {w : World} {K : PySem.W.Frag} {mg : Str → Option Value} {base : Heap} {C PT cc f : Addr} {c : Nat → Addr} {fd : FuncData}
theorem scR6 : FnScope nR6 ["_law_dice_here"] (defScope sRight6) := ⟨rfl, rfl, rfl, by decide +kernel, rfl, by decide +kernel, by decide +kernel⟩
theorem ok_right6 {T : List (Addr × Str)} (hmT : (PT, lamR6) ∈ T) (huT : ∀ p ∈ T, p.1 = PT → p.2 = lamR6) (F : FunC K "_law_right" "_law_right" sRight6 f fd cc) (R : Right6 P w K mg base C PT cc c) (hs : ∃ o, base.get? sysModules = some o) : GFn P w K mg base 23 f fd ["_law_dice_here"] (spRight6 T) := by
  obtain ⟨fM, dM, gM, FM, bM⟩ := R.F.met
  obtain ⟨oM, odM, kvM, docM, pmM, anM, cdM, ctM, oslM, rfl, lkM, hcM⟩ := FM.ex
  obtain ⟨fS, dS, mkS, gS, bS, GS⟩ := R.W.made
  obtain ⟨fK, dK, mK, GK, bK⟩ := R.W.keep
  obtain ⟨fA, dA, sA, iA, GA, bA⟩ := R.W.add
  obtain ⟨fG, dG, sG, iG, nG, GG, bG⟩ := R.W.get
  obtain ⟨fN, dN, g1, g2, g3, mN, GN, kb1, kb2, kb3⟩ := R.W.ren
  obtain ⟨pc, fc, dc, hc, Gc, bc⟩ := R.W.cells
  obtain ⟨pr, fr, dr, hr', Gr, br⟩ := R.W.regs
  obtain ⟨fe, de, se, ie, Ge, be⟩ := R.W.eq
  obtain ⟨fD, dD, gD, kD, bD, GD⟩ := R.draw
  obtain ⟨fBk, dBk, gBk, kBk, bBk, GBk⟩ := R.badK
  obtain ⟨fBn, dBn, gBn, kBn, bBn, GBn⟩ := R.badN
  obtain ⟨fO, dO, gO, kO, bO, GO⟩ := R.one
  refine gfn_ofC F scR6 (fun vs H Q E h => ?_) (fun A outer s H vs Q E hga hr h => ?_)
  · obtain ⟨d, rfl, _⟩ := h
    rfl
  · obtain ⟨d, rfl, hd, hT, q⟩ := h
    have hgd : (A.deeper (envOfC "_law_right" (defScope sRight6) s.heap.objs.size f (.ref cc))).guards = some [] := hga
    have un := hr.un
    have hu : (A.deeper (envOfC "_law_right" (defScope sRight6) s.heap.objs.size f (.ref cc))).units + 64 < cLine := by omega
    have hu2 : (A.deeper (envOfC "_law_right" (defScope sRight6) s.heap.objs.size f (.ref cc))).units + 25 < cLine := by omega
    have hu3 : (A.deeper (envOfC "_law_right" (defScope sRight6) s.heap.objs.size f (.ref cc))).units + 28 < cLine := by omega
    refine ⟨_, pss_cons (ps_asg (pe_call GD (hr.mono (by decide)) (by rfl) gD kD bD .nil pass0 (pa_cons (pv 0) (pa_cons pe_int (pa_cons pe_int (pa_cons pe_int pa_nil))))) (pg_tup rfl (pgs_cons (pg_name (i := 1) scR6.nd rfl (Or.inr rfl)) (pgs_cons (pg_name (i := 2) scR6.nd rfl (Or.inr rfl)) pgs_nil))))
      (pss_cons (ps_asg (pe_tup (pa_cons (pe_make mkS GS (hr.mono (by decide)) (by rfl) gS bS .nil (passes_call L2.takes0 (fun _ _ _ _ h => h)) (pa_cons (pv 1) (pa_cons (pv 2) pa_nil))) (pa_cons (pe_call GBk (hr.mono (by decide)) (by rfl) gBk kBk bBk .nil pass0 (pa_cons (pv 0) pa_nil)) pa_nil))) (pg_tup rfl (pgs_cons (pg_name (i := 3) scR6.nd rfl (Or.inr rfl)) (pgs_cons (pg_name (i := 4) scR6.nd rfl (Or.inr rfl)) pgs_nil))))
      (pss_cons (ps_set (i := 5) scR6.nd rfl (Or.inr rfl) (pe_call GO (hr.mono (by decide)) (by rfl) gO kO bO .nil pass0 (pa_cons (pv 0) (pa_cons (pe_lst (pa_cons pe_non (pa_cons pe_int (pa_cons (pe_fL (R := fun _ _ => True) pa_fn) (pa_cons pe_str (pa_cons (pe_ft (R := fun _ _ => True) (pa_fc true_st (pe_ft (pa_f1 true_st (pa_f1 true_st pa_fn))) pa_fn))
          (pa_cons (pe_ft (R := fun _ _ => True) (pa_fc true_st (pe_ft (pa_f1 true_st pa_fn)) pa_fn)) (pa_cons (pe_fd0 (R := fun _ _ => True)) (pa_cons (pv 3) (pa_cons (pe_ft (R := fun _ _ => True) (pa_fc true_st (pe_ft (pa_f1 true_st (pa_f1 true_st (pa_f1 true_st pa_fn)))) pa_fn)) pa_nil)))))))))) pa_nil))))
      (pss_cons (ps_set (i := 6) scR6.nd rfl (Or.inl rfl) (pe_lst (pa_cons (pe_lamcall (T := T) (k := 20) (by rfl) gM FM.kp lkM hcM bM scMe rfl (Or.inl rfl) (metX_gives hgd hu3 hs R.F.rep R.F.M R.F.N) R.TB rfl hmT huT hr (lamS_by (by show lamSB (defScope sRight6) _ = true; decide +kernel)) rfl (fun _ _ _ _ _ => rfl)
          (fun A outer s H E f c' hr2 => pe_make mkS GS (hr2.mono (by decide)) (by rfl) gS bS .nil (passes_call (takes_of rfl rfl rfl rfl) (fun _ _ _ _ h => h)) (pa_cons (pv 5) (pa_cons (pv 2) pa_nil)))) pa_nil)))
      (pss_cons (ps_expr (pe_bm PySem.F.plainAttrs_list PySem.F.slot_list_append PySem.F.type_list_append mt_append (pv 6) (pa_cons (pe_lamcall (T := T) (k := 20) (by rfl) gM FM.kp lkM hcM bM scMe rfl (Or.inl rfl) (metX_gives hgd hu3 hs R.F.rep R.F.M R.F.N) R.TB rfl hmT huT hr (lamS_by (by show lamSB (defScope sRight6) _ = true; decide +kernel)) rfl (fun _ _ _ _ _ => rfl)
          (fun A outer s H E f c' hr2 => pe_make mkS GS (hr2.mono (by decide)) (by rfl) gS bS .nil (passes_call (takes_of rfl rfl rfl rfl) (fun _ _ _ _ h => h)) (pa_cons (pv 5) (pa_cons (pv 4) pa_nil)))) pa_nil)))
      (pss_cons (ps_expr (pe_bm PySem.F.plainAttrs_list PySem.F.slot_list_append PySem.F.type_list_append mt_append (pv 6) (pa_cons (pe_lamcall (T := T) (k := 20) (by rfl) gM FM.kp lkM hcM bM scMe rfl (Or.inl rfl) (metX_gives hgd hu3 hs R.F.rep R.F.M R.F.N) R.TB rfl hmT huT hr (lamS_by (by show lamSB (defScope sRight6) _ = true; decide +kernel)) rfl (fun _ _ _ _ _ => rfl)
          (fun A outer s H E f c' hr2 => pe_make mkS GS (hr2.mono (by decide)) (by rfl) gS bS .nil (passes_call (takes_of rfl rfl rfl rfl) (fun _ _ _ _ h => h)) (pa_cons (pv 1) (pa_cons (pv 4) pa_nil)))) pa_nil)))
      (pss_cons (ps_expr (pe_bm PySem.F.plainAttrs_list PySem.F.slot_list_append PySem.F.type_list_append mt_append (pv 6) (pa_cons (pe_lamcall (T := T) (k := 20) (by rfl) gM FM.kp lkM hcM bM scMe rfl (Or.inl rfl) (metX_gives hgd hu3 hs R.F.rep R.F.M R.F.N) R.TB rfl hmT huT hr (lamS_by (by show lamSB (defScope sRight6) _ = true; decide +kernel)) rfl (fun _ _ _ _ _ => rfl)
          (fun A outer s H E f c' hr2 => pe_meth (pv 3) R.W.T.cl mK GK (hr2.mono (by decide)) bK .nil (passes_call (takes_of rfl rfl rfl rfl) (fun _ _ _ _ h => h)) (pa_cons (pv 4) pa_nil))) pa_nil)))
      (pss_cons (ps_set (i := 7) scR6.nd rfl (Or.inr rfl) (pe_call GO (hr.mono (by decide)) (by rfl) gO kO bO .nil pass0 (pa_cons (pv 0) (pa_cons (pe_lst (pa_cons pe_non (pa_cons pe_int (pa_cons (pe_ft (R := fun _ _ => True) pa_fn) (pa_cons (pv 1) (pa_cons pe_str (pa_cons (pe_lst (pa_cons (pv 3) pa_nil)) (pa_cons (pe_fd0 (R := fun _ _ => True)) (pa_cons pe_bl pa_nil))))))))) pa_nil))))
      (pss_cons (ps_expr (pe_bm PySem.F.plainAttrs_list PySem.F.slot_list_append PySem.F.type_list_append mt_append (pv 6) (pa_cons (pe_lamcall (T := T) (k := 20) (by rfl) gM FM.kp lkM hcM bM scMe rfl (Or.inl rfl) (metX_gives hgd hu3 hs R.F.rep R.F.M R.F.N) R.TB rfl hmT huT hr (lamS_by (by show lamSB (defScope sRight6) _ = true; decide +kernel)) rfl (fun _ _ _ _ _ => rfl)
          (fun A outer s H E f c' hr2 => pe_op (r := rAddW K C (spAddW K C (c 1)) E) (op_addW sA iA R.W.self R.W.radd GA (hr2.mono (by decide)) bA (passes_call (takes_of rfl rfl rfl rfl) (fun _ _ _ _ h => h))) (pv 3) (pv 7))) pa_nil)))
      (pss_cons (ps_asg (pe_tup (pa_cons (pe_call GBn (hr.mono (by decide)) (by rfl) gBn kBn bBn .nil pass0 (pa_cons (pv 0) (pa_cons (pe_prop (E := E0) (pv 3) R.W.T.cl hc Gc (hr.mono (by decide)) bc .nil pass0 (by rfl)) pa_nil))) (pa_cons (pe_call GBn (hr.mono (by decide)) (by rfl) gBn kBn bBn .nil pass0 (pa_cons (pv 0) (pa_cons (pe_prop (E := E0) (pv 3) R.W.T.cl hr' Gr (hr.mono (by decide)) br .nil pass0 (by rfl)) pa_nil))) pa_nil)))
          (pg_tup rfl (pgs_cons (pg_name (i := 8) scR6.nd rfl (Or.inr rfl)) (pgs_cons (pg_name (i := 9) scR6.nd rfl (Or.inr rfl)) pgs_nil))))
      (pss_cons (ps_set (i := 10) scR6.nd rfl (Or.inr rfl) (pe_callTy (call_dictK (K := K) rfl rfl) (by rfl) R.dct (by decide +kernel) (pa_cons (pe_lc (own := [("_law_name", 12)]) rfl scR6.nd (pi_tup (pe_prop (E := E0) (pv 3) R.W.T.cl hr' Gr (hr.mono (by decide)) br .nil pass0 (by rfl))) (blkOk_by (N := nR6) (sc := defScope sRight6) (by decide +kernel))
          (fun _ _ _ _ _ => pg_name (i := 12) scR6.nd rfl (Or.inl rfl)) (fun _ _ _ _ _ => pts_nil) (fun _ _ _ _ _ => pe_tup (pa_cons (pv 12) (pa_cons (pv 12) pa_nil)))) pa_nil)))
      (pss_cons (ps_expr (pe_bm PySem.F.plainAttrs_list PySem.F.slot_list_append PySem.F.type_list_append mt_append (pv 6) (pa_cons (pe_lamcall (T := T) (k := 20) (by rfl) gM FM.kp lkM hcM bM scMe rfl (Or.inl rfl) (metX_gives hgd hu3 hs R.F.rep R.F.M R.F.N) R.TB rfl hmT huT hr (lamS_by (by show lamSB (defScope sRight6) _ = true; decide +kernel)) rfl (fun _ _ _ _ _ => rfl)
          (fun A outer s H E f c' hr2 => pe_methK (pv 3) R.W.T.cl mN GN (hr2.mono (by decide)) kb1 (passes_call (takes_of rfl rfl rfl rfl) (fun _ _ _ _ h => h)) (pk_cons (pv 8) pk_nil))) pa_nil)))
      (pss_cons (ps_expr (pe_bm PySem.F.plainAttrs_list PySem.F.slot_list_append PySem.F.type_list_append mt_append (pv 6) (pa_cons (pe_lamcall (T := T) (k := 20) (by rfl) gM FM.kp lkM hcM bM scMe rfl (Or.inl rfl) (metX_gives hgd hu3 hs R.F.rep R.F.M R.F.N) R.TB rfl hmT huT hr (lamS_by (by show lamSB (defScope sRight6) _ = true; decide +kernel)) rfl (fun _ _ _ _ _ => rfl)
          (fun A outer s H E f c' hr2 => pe_methK (pv 3) R.W.T.cl mN GN (hr2.mono (by decide)) kb2 (passes_call (takes_of rfl rfl rfl rfl) (fun _ _ _ _ h => h)) (pk_cons (pv 9) pk_nil))) pa_nil)))
      (pss_cons (ps_expr (pe_bm PySem.F.plainAttrs_list PySem.F.slot_list_append PySem.F.type_list_append mt_append (pv 6) (pa_cons (pe_lamcall (T := T) (k := 20) (by rfl) gM FM.kp lkM hcM bM scMe rfl (Or.inl rfl) (metX_gives hgd hu3 hs R.F.rep R.F.M R.F.N) R.TB rfl hmT huT hr (lamS_by (by show lamSB (defScope sRight6) _ = true; decide +kernel)) rfl (fun _ _ _ _ _ => rfl)
          (fun A outer s H E f c' hr2 => pe_methK (pv 3) R.W.T.cl mN GN (hr2.mono (by decide)) kb3 (passes_call (takes_of rfl rfl rfl rfl) (fun _ _ _ _ h => h)) (pk_cons (pv 8) (pk_cons (pv 10) pk_nil)))) pa_nil)))
      (pss_cons (ps_if (pt_cmpR (op_neD hu) (pv 6) (pe_op op_cat (pe_op op_cat (pe_op op_rep (pe_lst (pa_cons pe_str pa_nil)) pe_int) (pe_lst (pa_cons pe_str (pa_cons pe_str pa_nil)))) (pe_op op_rep (pe_lst (pa_cons pe_str pa_nil)) pe_int)) (nomark _)) (pss_one (ps_ret pe_bl)) pss_nil)
      (pss_cons (ps_set (i := 11) scR6.nd rfl (Or.inr rfl) (pe_call GO (hr.mono (by decide)) (by rfl) gO kO bO .nil pass0 (pa_cons (pv 0) (pa_cons (pe_lst (pa_cons pe_non (pa_cons (pe_un un_neg pe_int) (pa_cons (pe_callB call_len_seq (by rfl) R.len PySem.boot_len (pa_cons (pv 1) pa_nil)) (pa_cons pe_bl (pa_cons pe_str (pa_cons (pe_ft (R := fun _ _ => True) pa_fn) (pa_cons (pe_op op_pow pe_int pe_int) (pa_cons (pe_fL (R := fun _ _ => True) (pa_fc true_st pe_fi0 pa_fn)) pa_nil))))))))) pa_nil))))
      (pss_cons (ps_set (i := 6) scR6.nd rfl (Or.inl rfl) (pe_lst (pa_cons (pe_lamcall (T := T) (k := 20) (by rfl) gM FM.kp lkM hcM bM scMe rfl (Or.inl rfl) (metX_gives hgd hu3 hs R.F.rep R.F.M R.F.N) R.TB rfl hmT huT hr (lamS_by (by show lamSB (defScope sRight6) _ = true; decide +kernel)) rfl (fun _ _ _ _ _ => rfl)
          (fun A outer s H E f c' hr2 => pe_ixOwnX sG iG nG GG (hr2.mono (by decide)) bG (passes_call (takes_of rfl rfl rfl rfl) (fun _ _ _ _ h => h)) (pv 3) (pv 11))) pa_nil)))
      (pss_cons (ps_expr (pe_bm PySem.F.plainAttrs_list PySem.F.slot_list_append PySem.F.type_list_append mt_append (pv 6) (pa_cons (pe_lamcall (T := T) (k := 20) (by rfl) gM FM.kp lkM hcM bM scMe rfl (Or.inl rfl) (metX_gives hgd hu3 hs R.F.rep R.F.M R.F.N) R.TB rfl hmT huT hr (lamS_by (by show lamSB (defScope sRight6) _ = true; decide +kernel)) rfl (fun _ _ _ _ _ => rfl)
          (fun A outer s H E f c' hr2 => pe_methK (pv 3) R.W.T.cl mN GN (hr2.mono (by decide)) kb2 (passes_call (takes_of rfl rfl rfl rfl) (fun _ _ _ _ h => h)) (pk_cons (pv 10) pk_nil))) pa_nil)))
      (pss_one (ps_ret (pe_and (pe_cmpR (op_eqD hu) (pv 6) (pe_lst (pa_cons (pe_op op_add_str pe_str (pe_callB (call_rep hgd hu2 hs) (by rfl) R.F.rep (by decide +kernel) (pa_cons (pv 11) pa_nil))) (pa_cons pe_str pa_nil))) (nomark _))
          (pe_one (pe_cmpR (eq_own (C := C) (f := fe) (fd := de) (k := 1) (sp := spEqM K C) ⟨se, ie, Ge, be⟩ (hr.mono (by decide))) (pv 3) (pe_make mkS GS (hr.mono (by decide)) (by rfl) gS bS .nil (passes_call L2.takes0 (fun _ _ _ _ h => h)) (pa_cons (pv 1) (pa_cons (pv 2) pa_nil))) (nomark _))))))))))))))))))))))), ?_⟩
    have dn : H d ≠ none := hd.ne
    have lineN : (1000 : Nat) < sizeLine := by decide
    refine ⟨_, rfl, d, 6, 4, 2, rfl, by decide, hd, fun H1 v ds l1 s1 t1 z1 ks b1 hd1 cd hlen hl1 hs1 ht1 srt nd mem dt => ?_⟩
    have D := drawn_of cd hlen hl1 hs1 ht1 srt nd mem
    have FA := D.facts
    obtain ⟨a1, kb, vc, rfl, ea1, hc1, sk1, ek1⟩ := pair_of (dt.mv (S' := fun b => b ≠ d) (fun b (hb : H b = none) (z : b = d) => dn (by rw [← z]; exact hb)) (fun _ _ _ z => z))
    refine ⟨a1, _, rfl, SqT.of ea1, rfl, _, _, rfl, _, _, rfl, rfl, ?_⟩
    refine ⟨_, rfl, _, rfl, made_ok hc1 FA ek1 fun H2 x dx t2 nx ex => ?_⟩
    have xd : x ≠ d := fun z => hd1.ne (by rw [← z]; exact nx)
    have m2 : MadeS C (fun b => b ≠ d) H2 x kb vc ds ks := ⟨⟨dx, ex⟩, xd, hc1.mv (fun _ z => z) (fun b o _ z => t2 b o z), sk1, t2 _ _ ek1⟩
    refine ⟨_, rfl, d, rfl, hd1.mv t2, fun H3 wv we b3 hd3 smw kkw dw => ?_⟩
    have k23 : Kp (fun b => b ≠ d) H2 H3 := Kp.but (fun _ z => z) b3
    have m3 := m2.kp k23
    have d2n : H2 d ≠ none := (hd1.mv t2).ne
    have w3 : WrongV (fun b => b ≠ d) H3 wv := ⟨we, dw.mv (fun b (hb : H2 b = none) (z : b = d) => d2n (by rw [← z]; exact hb)) (fun _ _ _ z => z), smw, kkw⟩
    refine ⟨(by show 2 ≤ sizeLine; decide), fun pt0 hpt0 => ⟨pt0, _, rfl, SqT.of upd_same, rfl, _, _, rfl, _, _, rfl, rfl, ?_⟩⟩
    have t4 := same_upd (o := .tup [V.ref x, wv]) hpt0
    have m4 := m3.kp (Kp.same t4)
    have w4 := w3.kp (Kp.same t4)
    have hd4 := hd3.mv t4
    have x4 : ExtB d H (upd H3 pt0 (.tup [V.ref x, wv])) := (ExtB.but b1).tr ((ExtB.ext (ExtN.of t2)).tr ((ExtB.but b3).tr (ExtB.ext (ExtN.of t4))))
    have T4 : Tabs T (upd H3 pt0 (.tup [V.ref x, wv])) := (tabs_but2 ((tabs_but2 hT hd b1).ext t2) (hd1.mv t2) b3).ext t4
    generalize upd H3 pt0 (.tup [V.ref x, wv]) = H4 at m4 w4 hd4 x4 T4
    -- what is no code
    refine ⟨_, rfl, trivial, fun v1 G1 s1 e1 => ⟨trivial, fun v2 G2 s2 e2 => ⟨trivial, fun v3 G3 s3 e3 => ⟨trivial, fun v4 G4 s4 e4 => ⟨_, rfl, trivial, fun v5 G5 s5 e5 => ⟨(by show 9 ≤ sizeLine; decide), fun pL hpL => ?_⟩⟩⟩⟩⟩⟩
    have s6 := same_upd (o := .lst [V.non, .int 0, v1, .str "a", v2, v3, v4, .ref x, v5]) hpL
    have s46 := ((((s1.trans s2).trans s3).trans s4).trans s5).trans s6
    have d4n := hd4.ne
    refine ⟨d, pL, _, rfl, hd4.mv s46, SqL.of upd_same, fun _ (z : pL = d) => d4n (by rw [← z]; exact ((((s1.trans s2).trans s3).trans s4).trans s5).free hpL), (by show 0 < 9; decide), (by show 9 < 1073741824; decide), fun H5 i bv hv b5 hd5 => ?_⟩
    have fr : ∀ {G : Hp}, Same H4 G → ∀ b, G b = none → b ≠ d := fun s b hb z => d4n (s.free (by rw [← z]; exact hb))
    have k45 : Kp (fun b => b ≠ d) H4 H5 := (Kp.same s46).tr (Kp.but (fun _ z => z) b5)
    have bad5 : BadV (fun b => b ≠ d) H5 x bv := by
      have go : BadV (fun b => b ≠ d) (upd G5 pL (.lst [V.non, .int 0, v1, .str "a", v2, v3, v4, .ref x, v5])) x bv := by
        have hv := List.mem_of_getElem? hv
        simp only [List.mem_cons, List.not_mem_nil, or_false] at hv
        rcases hv with rfl | rfl | rfl | rfl | rfl | rfl | rfl | rfl | rfl
        · exact .inr ⟨.none, .at .non, by decide +kernel, by decide +kernel⟩
        · exact .inr ⟨.int 0, .at (.int 0), by decide +kernel, by decide +kernel⟩
        · exact .inr ⟨_, e1.strong fun b o hb eb => ⟨fr (Same.refl _) b hb, s6 _ _ (s5 _ _ (s4 _ _ (s3 _ _ (s2 _ _ eb))))⟩, by decide +kernel, by decide +kernel⟩
        · exact .inr ⟨.str "a", .at (.str "a"), by decide +kernel, by decide +kernel⟩
        · exact .inr ⟨_, e2.strong fun b o hb eb => ⟨fr s1 b hb, s6 _ _ (s5 _ _ (s4 _ _ (s3 _ _ eb)))⟩, by decide +kernel, by decide +kernel⟩
        · exact .inr ⟨_, e3.strong fun b o hb eb => ⟨fr (s1.trans s2) b hb, s6 _ _ (s5 _ _ (s4 _ _ eb))⟩, by decide +kernel, by decide +kernel⟩
        · exact .inr ⟨_, e4.strong fun b o hb eb => ⟨fr ((s1.trans s2).trans s3) b hb, s6 _ _ (s5 _ _ eb)⟩, by decide +kernel, by decide +kernel⟩
        · exact .inl rfl
        · exact .inr ⟨_, e5.strong fun b o hb eb => ⟨fr (((s1.trans s2).trans s3).trans s4) b hb, s6 _ _ eb⟩, by decide +kernel, by decide +kernel⟩
      exact go.kp (Kp.but (fun _ z => z) b5)
    have m5 := m4.kp k45
    have w5 := w4.kp k45
    have x5 : ExtB d H H5 := x4.tr ((ExtB.ext (ExtN.of s46)).tr (ExtB.but b5))
    have T5 : Tabs T H5 := tabs_but2 (T4.ext s46) (hd4.mv s46) b5
    -- the first word
    have kd5 : Dt (fun b => b ≠ d) H5 (.ref kb) (strT ks) := .tup m5.sk m5.kd (by rw [List.length_map]; have := kept_len FA.kept; omega) (dt_strs ks)
    refine ⟨T5, fun G6 x6 T6 => ?_⟩
    have k56 : Kp (fun b => b ≠ d) H5 G6 := Kp.ext x6
    refine ⟨_, rfl, _, rfl, made_bad (bad5.kp k56) (m5.kp k56) R.W.insT (kd5.kp k56) (keeps_sh FA.kept).2.1 fun G7 s7 => .inl ⟨rfl, (by show 1 ≤ sizeLine; decide), fun pt hpt => ?_⟩⟩
    have k57 : Kp (fun b => b ≠ d) H5 G7 := k56.tr (Kp.same s7)
    have s8 := same_upd (o := .lst [V.str wS]) hpt
    have hd7 : Dice G7 d := (hd5.ext x6).mv s7
    have ptd : pt ≠ d := fun z => hd7.ne (by rw [← z]; exact hpt)
    have x7 : ExtB d H G7 := x5.tr (ExtB.ext (x6.trans (ExtN.of s7)))
    have np : ∀ o, H pt = some o → (∀ ps, o ≠ .tbl ps) → False := fun o e n => by
      have z := x7 pt o ptd e n
      rw [hpt] at z
      cases z
    have up : ∀ a o, a ≠ d → G7 a = some o → (a ≠ d ∧ a ≠ pt) ∧ (upd G7 pt (.lst [V.str wS])) a = some o := fun a o ha ea => ⟨⟨ha, ne_of_none ea hpt⟩, s8 _ _ ea⟩
    have m8 := (m5.kp k57).strong up
    have w8 := (w5.kp k57).strong up
    have bad8 := (bad5.kp k57).strong up
    have R8 : Run T H d pt [wS] (upd G7 pt (.lst [V.str wS])) := ⟨x7.tr (ExtB.ext (ExtN.of s8)), hd7.mv s8, (T6.ext s7).ext s8, upd_same⟩
    generalize upd G7 pt (.lst [V.str wS]) = G8 at m8 w8 bad8 R8
    -- the second word
    refine ⟨_, rfl, .inl ⟨rfl, _, SqL.of R8.told⟩, R8.tabs, fun G9 x9 T9 => ?_⟩
    have k9 : Kp (fun b => b ≠ d ∧ b ≠ pt) G8 G9 := Kp.ext x9
    obtain ⟨we9, hw9, sw9, kw9⟩ := w8.kp k9
    refine ⟨_, rfl, _, rfl, made_bad (bad8.kp k9) (m8.kp k9) R.W.insT hw9 sw9 fun G10 s10 => .inl ⟨rfl, ?_⟩⟩
    obtain ⟨e10, R10, k10⟩ := R8.step np (x9.trans (ExtN.of s10)) (T9.ext s10) wS
    refine ⟨pt, _, _, rfl, rfl, e10, (by show 1 < sizeLine; decide), ?_⟩
    have m10 := m8.kp k10
    have w10 := w8.kp k10
    generalize upd G10 pt (.lst (([wS] : List Str).map V.str ++ [V.str wS])) = G11 at m10 w10 R10
    -- the third word
    refine ⟨_, rfl, .inl ⟨rfl, _, SqL.of R10.told⟩, R10.tabs, fun G12 x12 T12 => ?_⟩
    have k12 : Kp (fun b => b ≠ d ∧ b ≠ pt) G11 G12 := Kp.ext x12
    refine ⟨_, rfl, _, rfl, made_wrong (m10.kp k12).cd FA.near (w10.kp k12) fun G13 s13 => .inl ⟨rfl, ?_⟩⟩
    obtain ⟨e13, R13, k13⟩ := R10.step np (x12.trans (ExtN.of s13)) (T12.ext s13) wS
    refine ⟨pt, _, _, rfl, rfl, e13, (by show 2 < sizeLine; decide), ?_⟩
    have m13 := m10.kp k13
    have w13 := w10.kp k13
    generalize upd G13 pt (.lst ((([wS] : List Str) ++ [wS]).map V.str ++ [V.str wS])) = G14 at m13 w13 R13
    -- the fourth word
    refine ⟨_, rfl, .inl ⟨rfl, _, SqL.of R13.told⟩, R13.tabs, fun G15 x15 T15 => ?_⟩
    have k15 : Kp (fun b => b ≠ d ∧ b ≠ pt) G14 G15 := Kp.ext x15
    obtain ⟨we15, hw15, sw15, kw15⟩ := w13.kp k15
    obtain ⟨dx15, ex15⟩ := (m13.kp k15).at_
    refine ⟨_, rfl, x, dx15, _, rfl, ex15, rfl, _, rfl, _, x, dx15, vc, .ref kb, wv, we15, rfl, ex15, hw15, sw15, fun z => absurd z (by rw [kw15]; decide), fun _ G16 s16 => .inr (.inl ⟨rfl, ?_⟩)⟩
    obtain ⟨e16, R16, k16⟩ := R13.step np (x15.trans (ExtN.of s16)) (T15.ext s16) wO
    refine ⟨pt, _, _, rfl, rfl, e16, (by show 3 < sizeLine; decide), ?_⟩
    have m16 := m13.kp k16
    generalize upd G16 pt (.lst ((([wS] : List Str) ++ [wS] ++ [wS]).map V.str ++ [V.str wO])) = G17 at m16 R16
    -- what is no stretch
    refine ⟨_, rfl, trivial, fun v1 F1 q1 e1 => ⟨_, rfl, _, rfl, (by show 1 ≤ sizeLine; decide), fun l2 hl2 => ⟨trivial, fun v3 F3 q3 e3 => ⟨(by show 8 ≤ sizeLine; decide), fun pM hpM => ?_⟩⟩⟩⟩
    have q2 := same_upd (o := .lst [V.ref x]) hl2
    have q4 := same_upd (o := .lst [V.non, .int 0, v1, vc, .str "stretch", .ref l2, v3, .bl true]) hpM
    have q04 := ((q1.trans q2).trans q3).trans q4
    have d17n := R16.dice.ne
    have fr2 : ∀ {G : Hp}, Same G17 G → ∀ b, G b = none → b ≠ d ∧ b ≠ pt := fun s b hb => ⟨fun z => d17n (s.free (by rw [← z]; exact hb)), fun z => by
      have y := s _ _ R16.told
      rw [← z, hb] at y
      cases y⟩
    refine ⟨d, pM, _, rfl, R16.dice.mv q04, SqL.of upd_same, fun _ => (fr2 ((q1.trans q2).trans q3) pM hpM).1, (by show 0 < 8; decide), (by show 8 < 1073741824; decide), fun G18 i2 ov hv2 b18 hd18 => ?_⟩
    have k18 : Kp (fun b => b ≠ d ∧ b ≠ pt) G17 G18 := (Kp.same q04).tr (Kp.but (fun b (z : b ≠ d ∧ b ≠ pt) => z.1) b18)
    have odd18 : OddV (fun b => b ≠ d ∧ b ≠ pt) G18 x ov := by
      have go : OddV (fun b => b ≠ d ∧ b ≠ pt) (upd F3 pM (.lst [V.non, .int 0, v1, vc, .str "stretch", .ref l2, v3, .bl true])) x ov := by
        have hv2 := List.mem_of_getElem? hv2
        simp only [List.mem_cons, List.not_mem_nil, or_false] at hv2
        rcases hv2 with rfl | rfl | rfl | rfl | rfl | rfl | rfl | rfl
        · exact .inl ⟨.none, .at .non⟩
        · exact .inl ⟨.int 0, .at (.int 0)⟩
        · exact .inl ⟨_, e1.strong fun b o hb eb => ⟨fr2 (Same.refl _) b hb, q4 _ _ (q3 _ _ (q2 _ _ eb))⟩⟩
        · exact .inl ⟨_, m16.cd.kp (Kp.same q04)⟩
        · exact .inl ⟨.str "stretch", .at (.str "stretch")⟩
        · exact .inr ⟨l2, rfl, fr2 q1 l2 hl2, q4 _ _ (q3 _ _ upd_same)⟩
        · exact .inl ⟨_, e3.strong fun b o hb eb => ⟨fr2 (q1.trans q2) b hb, q4 _ _ eb⟩⟩
        · exact .inl ⟨.bool true, .at (.bl true)⟩
      exact go.kp (Kp.but (fun b (z : b ≠ d ∧ b ≠ pt) => z.1) b18)
    have m18 := m16.kp k18
    have R18 := (R16.same q04).dice' ptd b18 hd18 (tabs_but2 (R16.tabs.ext q04) (R16.dice.mv q04) b18)
    -- the fifth word
    refine ⟨_, rfl, .inl ⟨rfl, _, SqL.of R18.told⟩, R18.tabs, fun G19 x19 T19 => ?_⟩
    have k19 : Kp (fun b => b ≠ d ∧ b ≠ pt) G18 G19 := Kp.ext x19
    obtain ⟨dx19, ex19⟩ := (m18.kp k19).at_
    obtain ⟨eo, ty⟩ := odd_ty (K := K) (odd18.kp k19)
    refine ⟨_, rfl, _, rfl, x, dx19, _, tyN eo, rfl, ex19, ty, (R.W.addT eo).1, x, ov, _, rfl, ty, (R.W.addT eo).2, fun G20 s20 => .inl ⟨rfl, ?_⟩⟩
    obtain ⟨e20, R20, k20⟩ := R18.step np (x19.trans (ExtN.of s20)) (T19.ext s20) wS
    refine ⟨pt, _, _, rfl, rfl, e20, (by show 4 < sizeLine; decide), ?_⟩
    have m20 := m18.kp k20
    generalize upd G20 pt (.lst ((([wS] : List Str) ++ [wS] ++ [wS] ++ [wO]).map V.str ++ [V.str wS])) = G21 at m20 R20
    -- the names that are none
    obtain ⟨dx21, ex21⟩ := m20.at_
    refine ⟨_, rfl, _, rfl, x, dx21, _, rfl, ex21, x, ds, ks, rfl, m20.st FA, fun G22 v22 s22 e22 => ?_⟩
    obtain ⟨nt22, x22, rfl, en22, _, h22⟩ := e22.tup_of
    obtain rfl := dt_strL h22
    refine ⟨d, nt22, cellsC ds, rfl, R20.dice.mv s22, en22, canon_nodup _, fun z => (cells_facts _ (D.inC _ z)).2.2.2 rfl, D.lenC, fun n hn => (cells_facts n (D.inC n hn)).2.2.1, fun G23 sv b23 hd23 no23 => ?_⟩
    have R22 := R20.same s22
    have noC : ToldNo (fun b => b ≠ d ∧ b ≠ pt) G23 (cellsC ds) sv := no23.strong fun a o z e => ⟨z.elim (fun z => R22.free z) (fun z => by rw [z]; exact R22.tup en22), e⟩
    have R23 := R22.dice' ptd b23 hd23 (tabs_but2 R22.tabs R22.dice b23)
    have m23 := (m20.kp (Kp.same s22)).kp (Kp.but (fun b (z : b ≠ d ∧ b ≠ pt) => z.1) b23)
    obtain ⟨dx23, ex23⟩ := m23.at_
    refine ⟨_, rfl, _, rfl, x, dx23, _, rfl, ex23, x, ds, ks, rfl, m23.st FA, fun G24 v24 s24 e24 => ?_⟩
    obtain ⟨nt24, x24, rfl, en24, _, h24⟩ := e24.tup_of
    obtain rfl := dt_strL h24
    have R24 := R23.same s24
    refine ⟨d, nt24, regsC ds ks, rfl, R24.dice, en24, canon_nodup _, fun z => (regs_facts _ (D.inR _ z)).2.2.2 rfl, D.lenR, fun n hn => (regs_facts n (D.inR n hn)).2.2.1, fun G25 rv b25 hd25 no25 => ?_⟩
    have noR : ToldNo (fun b => b ≠ d ∧ b ≠ pt) G25 (regsC ds ks) rv := no25.strong fun a o z e => ⟨z.elim (fun z => R24.free z) (fun z => by rw [z]; exact R24.tup en24), e⟩
    have k25 : Kp (fun b => b ≠ d ∧ b ≠ pt) G23 G25 := (Kp.same s24).tr (Kp.but (fun b (z : b ≠ d ∧ b ≠ pt) => z.1) b25)
    have noC := noC.kp k25
    have m25 := m23.kp k25
    have R25 := R24.dice' ptd b25 hd25 (tabs_but2 R24.tabs R24.dice b25)
    refine ⟨(by show 2 ≤ sizeLine; decide), fun p26 hp26 => ⟨p26, _, rfl, SqT.of upd_same, rfl, _, _, rfl, _, _, rfl, rfl, ?_⟩⟩
    have s26 := same_upd (o := .tup [sv, rv]) hp26
    have noC := noC.kp (Kp.same s26)
    have noR := noR.kp (Kp.same s26)
    have m26 := m25.kp (Kp.same s26)
    have R26 := R25.same s26
    generalize upd G25 p26 (.tup [sv, rv]) = G26 at noC noR m26 R26
    -- the dict of the registers
    obtain ⟨dx26, ex26⟩ := m26.at_
    refine ⟨_, rfl, x, dx26, _, rfl, ex26, x, ds, ks, rfl, m26.st FA, fun G27 v27 s27 e27 => ?_⟩
    obtain ⟨nt27, x27, rfl, en27, _, h27⟩ := e27.tup_of
    obtain rfl := dt_strL h27
    have R27 := R26.same s27
    have noC := noC.kp (Kp.same s27)
    have noR := noR.kp (Kp.same s27)
    have m27 := m26.kp (Kp.same s27)
    refine ⟨nt27, rfl, ⟨_, SqT.of en27⟩, fun D27 hD27 => lc_tup (PvP G27 D27 V.str (regsC ds ks)) (PvP.zero hD27) (fun i G _ p => SqT.of (p.1 _ _ en27)) (fun i y G hi p => ?_) (fun G p => ?_)⟩
    · rw [List.getElem?_map] at hi
      obtain ⟨n, hn, rfl⟩ := Option.map_eq_some_iff.mp hi
      have := D.lenR
      exact ⟨rfl, _, rfl, _, rfl, (by show 2 ≤ sizeLine; decide), fun T hT => p.step hD27 hn (by omega) hT⟩
    obtain ⟨s28, ps28, e28, pr28⟩ := p.done (by rw [List.length_map]; exact Nat.le_refl _)
    refine ⟨D27, ps28, gk (regsC ds ks) V.str, rfl, SqL.of e28, pairs_sq pr28, fun gd hgd' => ?_⟩
    rw [merge_gk (canon_nodup _)]
    have s29 := s28.trans (same_upd (o := .dK (gk (regsC ds ks) V.str)) hgd')
    have gdo := R27.free (s28.free hgd')
    have good : GoodV (fun b => b ≠ d ∧ b ≠ pt) (upd G gd (.dK (gk (regsC ds ks) V.str))) (regsC ds ks) (.ref gd) := ⟨gd, rfl, gdo, upd_same⟩
    have R29 := R27.same s29
    have noC := noC.kp (Kp.same s29)
    have noR := noR.kp (Kp.same s29)
    have m29 := m27.kp (Kp.same s29)
    generalize upd G gd (.dK (gk (regsC ds ks) V.str)) = G29 at noC noR m29 R29 good
    -- the sixth word
    refine ⟨_, rfl, .inl ⟨rfl, _, SqL.of R29.told⟩, R29.tabs, fun G30 x30 T30 => ?_⟩
    have k30 : Kp (fun b => b ≠ d ∧ b ≠ pt) G29 G30 := Kp.ext x30
    obtain ⟨dx30, ex30⟩ := (m29.kp k30).at_
    refine ⟨_, rfl, x, dx30, _, rfl, ex30, rfl, _, rfl, rfl, _, x, ds, ks, sv, .non, rfl, (m29.kp k30).st FA, .inl ⟨noC.kp k30, fun G31 s31 => .inr (.inl ⟨rfl, ?_⟩)⟩⟩
    obtain ⟨e31, R31, k31⟩ := R29.step np (x30.trans (ExtN.of s31)) (T30.ext s31) wO
    refine ⟨pt, _, _, rfl, rfl, e31, (by show 5 < sizeLine; decide), ?_⟩
    have m31 := m29.kp k31
    have noC := noC.kp k31
    have noR := noR.kp k31
    have good := good.kp k31
    generalize upd G31 pt (.lst ((([wS] : List Str) ++ [wS] ++ [wS] ++ [wO] ++ [wS]).map V.str ++ [V.str wO])) = G32 at m31 R31 noC noR good
    -- the seventh word
    refine ⟨_, rfl, .inl ⟨rfl, _, SqL.of R31.told⟩, R31.tabs, fun G33 x33 T33 => ?_⟩
    have k33 : Kp (fun b => b ≠ d ∧ b ≠ pt) G32 G33 := Kp.ext x33
    obtain ⟨dx33, ex33⟩ := (m31.kp k33).at_
    refine ⟨_, rfl, x, dx33, _, rfl, ex33, rfl, _, rfl, rfl, _, x, ds, ks, .non, rv, rfl, (m31.kp k33).st FA, .inr (.inl ⟨.inl rfl, noR.kp k33, fun G34 s34 => .inr (.inl ⟨rfl, ?_⟩)⟩)⟩
    obtain ⟨e34, R34, k34⟩ := R31.step np (x33.trans (ExtN.of s34)) (T33.ext s34) wO
    refine ⟨pt, _, _, rfl, rfl, e34, (by show 6 < sizeLine; decide), ?_⟩
    have m34 := m31.kp k34
    have noC := noC.kp k34
    have good := good.kp k34
    generalize upd G34 pt (.lst ((([wS] : List Str) ++ [wS] ++ [wS] ++ [wO] ++ [wS] ++ [wO]).map V.str ++ [V.str wO])) = G35 at m34 R34 noC good
    -- the eighth word
    refine ⟨_, rfl, .inl ⟨rfl, _, SqL.of R34.told⟩, R34.tabs, fun G36 x36 T36 => ?_⟩
    have k36 : Kp (fun b => b ≠ d ∧ b ≠ pt) G35 G36 := Kp.ext x36
    obtain ⟨dx36, ex36⟩ := (m34.kp k36).at_
    refine ⟨_, rfl, x, dx36, _, rfl, ex36, rfl, _, rfl, _, rfl, rfl, _, x, ds, ks, sv, .ref gd, rfl, (m34.kp k36).st FA, .inl ⟨noC.kp k36, fun G37 s37 => .inr (.inl ⟨rfl, ?_⟩)⟩⟩
    obtain ⟨e37, R37, k37⟩ := R34.step np (x36.trans (ExtN.of s37)) (T36.ext s37) wO
    refine ⟨pt, _, _, rfl, rfl, e37, (by show 7 < sizeLine; decide), ?_⟩
    have m37 := m34.kp k37
    have good := good.kp k37
    generalize upd G37 pt (.lst ((([wS] : List Str) ++ [wS] ++ [wS] ++ [wO] ++ [wS] ++ [wO] ++ [wO]).map V.str ++ [V.str wO])) = G38 at m37 R37 good
    -- the words are right
    refine ⟨_, rfl, (by show 1 ≤ sizeLine; decide), fun q1 h1 => ⟨q1, 3, _, rfl, rfl, upd_same, by decide, by decide, (by show 1 * 3 ≤ sizeLine; decide), fun q2 h2 => ⟨(by show 2 ≤ sizeLine; decide), fun q3 h3 => ?_⟩⟩⟩
    have u1 := same_upd (o := .lst [V.str wS]) h1
    have u2 := same_upd (o := .lst (List.replicate (3 : Int).toNat [V.str wS]).flatten) h2
    have u3 := same_upd (o := .lst [V.str wO, V.str wS]) h3
    refine ⟨q2, q3, _, _, rfl, rfl, u3 _ _ upd_same, upd_same, (by show 3 + 2 ≤ sizeLine; decide), fun q4 h4 => ⟨(by show 1 ≤ sizeLine; decide), fun q5 h5 => ⟨q5, 3, _, rfl, rfl, upd_same, by decide, by decide, (by show 1 * 3 ≤ sizeLine; decide), fun q6 h6 => ?_⟩⟩⟩
    have u4 := same_upd (o := .lst ((List.replicate (3 : Int).toNat [V.str wS]).flatten ++ [V.str wO, V.str wS])) h4
    have u5 := same_upd (o := .lst [V.str wO]) h5
    have u6 := same_upd (o := .lst (List.replicate (3 : Int).toNat [V.str wO]).flatten) h6
    refine ⟨q4, q6, _, _, rfl, rfl, u6 _ _ (u5 _ _ upd_same), upd_same, (by show 5 + 3 ≤ sizeLine; decide), fun q7 h7 => ?_⟩
    have u7 := same_upd (o := .lst ((List.replicate (3 : Int).toNat [V.str wS]).flatten ++ [V.str wO, V.str wS] ++ (List.replicate (3 : Int).toNat [V.str wO]).flatten)) h7
    have u17 := (((((u1.trans u2).trans u3).trans u4).trans u5).trans u6).trans u7
    refine ⟨.list (words8.map PyData.str), .list (words8.map PyData.str), .lst (SqL.of (u17 _ _ R37.told)) (dp_strs words8), .lst (SqL.of upd_same) (dp_strs words8), words8_ok.1, words8_ok.1, _, rfl, ?_⟩
    rw [words8_ok.2]
    refine iteF ?_
    have R39 := R37.same u17
    have m39 := m37.kp (Kp.same u17)
    have good := good.kp (Kp.same u17)
    generalize upd _ q7 _ = G39 at R39 m39 good
    -- what is no place
    obtain ⟨ca, ys, vca, sca, eca, lca, hca⟩ := m39.cd.tup_ofS3
    have lys : ys.length = ds.length := hca.length
    subst vca
    refine ⟨_, rfl, 1, rfl, _, rfl, ca, ys, rfl, .inr (SqT.of eca), trivial, fun v6 H6 s6 e6 => ⟨10, 39, rfl, rfl, ⟨by decide, by decide, by decide⟩, trivial, fun v8 H8 s8 e8 => ⟨(by show 8 ≤ sizeLine; decide), fun pA hpA => ?_⟩⟩⟩
    rw [lys]
    have s9 := same_upd (o := .lst [V.non, .int (-1), .int ((ds.length : Nat) : Int), .bl true, .str "0", v6, .int (10 ^ 39), v8]) hpA
    have s69 := (s6.trans s8).trans s9
    have R40 := R39.same s69
    have m40 := m39.kp (Kp.same s69)
    have good := good.kp (Kp.same s69)
    have at40 : ∀ v ∈ [V.non, .int (-1), .int ((ds.length : Nat) : Int), .bl true, .str "0", v6, .int (10 ^ 39), v8], ∃ e ∈ atD ds.length, Dt (fun b => b ≠ d ∧ b ≠ pt) (upd H8 pA (.lst [V.non, .int (-1), .int ((ds.length : Nat) : Int), .bl true, .str "0", v6, .int (10 ^ 39), v8])) v e := by
      intro v hv
      unfold atD
      simp only [List.mem_cons, List.not_mem_nil, or_false] at hv
      rcases hv with rfl | rfl | rfl | rfl | rfl | rfl | rfl | rfl
      · exact ⟨.none, by simp, .at .non⟩
      · exact ⟨.int (-1), by simp, .at (.int _)⟩
      · exact ⟨.int (ds.length : Int), by simp, .at (.int _)⟩
      · exact ⟨.bool true, by simp, .at (.bl true)⟩
      · exact ⟨.str "0", by simp, .at (.str _)⟩
      · exact ⟨.tuple [], by simp, e6.strong fun b o hb eb => ⟨R39.free hb, s9 _ _ (s8 _ _ eb)⟩⟩
      · exact ⟨.int (10 ^ 39), by simp, .at (.int _)⟩
      · exact ⟨.list [.int 0], by simp, e8.strong fun b o hb eb => ⟨(R39.same s6).free hb, s9 _ _ eb⟩⟩
    refine ⟨d, pA, _, rfl, R40.dice, SqL.of upd_same, fun _ => (R39.free ((s6.trans s8).free hpA)).1, (by show 0 < 8; decide), (by show 8 < 1073741824; decide), fun G41 i3 av hv3 b41 hd41 => ?_⟩
    obtain ⟨ae, hae, dat⟩ := at40 av (List.mem_of_getElem? hv3)
    have k41 : Kp (fun b => b ≠ d ∧ b ≠ pt) _ G41 := Kp.but (fun b (z : b ≠ d ∧ b ≠ pt) => z.1) b41
    have dat := dat.kp k41
    have m41 := m40.kp k41
    have good := good.kp k41
    have R41 := R40.dice' ptd b41 hd41 (tabs_but2 R40.tabs R40.dice b41)
    obtain ⟨ai1, ai2, ai3, ai4, ai5, ai6⟩ : numB 0 ((ds.length : Int) - 1) ae = false ∧ ae.depth ≤ 4 ∧ ae.showable = true ∧ ae.shown.length ≤ 200 ∧ SeqAt.shaped (.list [.str (("number " : Str) ++ ae.shown), .str "fine"]) = true ∧ PyData.eqv (.list [.str (("number " : Str) ++ ae.shown), .str "fine"]) (.list [.str (("number " : Str) ++ ae.shown), .str "fine"]) = true := by
      have := at_ok ds.length (by have := FA.six; omega) ae hae
      unfold atB at this
      simpa only [Bool.and_eq_true, decide_eq_true_eq, Bool.not_eq_true'] using this
    -- the index that is none
    refine ⟨R41.tabs, fun G42 x42 T42 => ?_⟩
    have k42 : Kp (fun b => b ≠ d ∧ b ≠ pt) G41 G42 := Kp.ext x42
    obtain ⟨dx42, ex42⟩ := (m41.kp k42).at_
    refine ⟨_, rfl, _, rfl, x, dx42, _, rfl, ex42, _, x, ds, ks, av, ae, rfl, (m41.kp k42).st FA, dat.kp k42, ai1, ai2, fun G43 vx fs s43 hvx evx has => ?_⟩
    obtain ⟨xv, lx, dx43⟩ := has "value" ae rfl
    refine .inr (.inr ⟨rfl, vx, fs, xv, ae, _, rfl, evx, lx, dx43, ai3, by omega, by omega, (by show 1 ≤ sizeLine; decide), fun pt2 hpt2 => ?_⟩)
    have k43 : Kp (fun b => b ≠ d ∧ b ≠ pt) G41 G43 := k42.tr (Kp.same s43)
    have s44 := same_upd (o := .lst [V.str (("number " : Str) ++ ae.shown)]) hpt2
    have hd43 : Dice G43 d := (R41.dice.ext x42).mv s43
    have ptd2 : pt2 ≠ d := fun z => hd43.ne (by rw [← z]; exact hpt2)
    have x43 : ExtB d H G43 := R41.ext.tr (ExtB.ext (x42.trans (ExtN.of s43)))
    have np2 : ∀ o, H pt2 = some o → (∀ ps, o ≠ .tbl ps) → False := fun o e n => by
      have z := x43 pt2 o ptd2 e n
      rw [hpt2] at z
      cases z
    have up2 : ∀ a o, (a ≠ d ∧ a ≠ pt) → G43 a = some o → (a ≠ d ∧ a ≠ pt2) ∧ (upd G43 pt2 (.lst [V.str (("number " : Str) ++ ae.shown)])) a = some o := fun a o ha ea => ⟨⟨ha.1, ne_of_none ea hpt2⟩, s44 _ _ ea⟩
    have m44 := (m41.kp k43).strong up2
    have dat44 := (dat.kp k43).strong up2
    have good44 := (good.kp k43).strong up2
    have R44 : Run T H d pt2 [("number " : Str) ++ ae.shown] (upd G43 pt2 (.lst [V.str (("number " : Str) ++ ae.shown)])) := ⟨x43.tr (ExtB.ext (ExtN.of s44)), hd43.mv s44, (T42.ext s43).ext s44, upd_same⟩
    generalize upd G43 pt2 (.lst [V.str (("number " : Str) ++ ae.shown)]) = G44 at m44 dat44 good44 R44
    -- the renaming that is right
    refine ⟨_, rfl, .inl ⟨rfl, _, SqL.of R44.told⟩, R44.tabs, fun G45 x45 T45 => ?_⟩
    have k45 : Kp (fun b => b ≠ d ∧ b ≠ pt2) G44 G45 := Kp.ext x45
    obtain ⟨dx45, ex45⟩ := (m44.kp k45).at_
    refine ⟨_, rfl, x, dx45, _, rfl, ex45, rfl, _, rfl, rfl, _, x, ds, ks, .non, .ref gd, rfl, (m44.kp k45).st FA, .inr (.inr ⟨.inl rfl, told_good (good44.kp k45) (canon_nodup _) (fun n hn => (regs_facts n (D.inR n hn)).1) (fun n hn => (regs_facts n (D.inR n hn)).2.1), fun G46 v46 s46 => ?_⟩)⟩
    obtain ⟨e46, R46, k46⟩ := R44.step np2 (x45.trans (ExtN.of s46)) (T45.ext s46) wF
    refine ⟨pt2, _, _, rfl, rfl, e46, (by show 1 < sizeLine; decide), ?_⟩
    have m46 := m44.kp k46
    have dat46 := dat44.kp k46
    generalize upd G46 pt2 (.lst (([("number " : Str) ++ ae.shown] : List Str).map V.str ++ [V.str wF])) = G47 at m46 dat46 R46
    -- the words, and the stretch as it was
    have k7 : ("number " : Str).length = 7 := by decide +kernel
    have lenNum : ("number " : Str).length + ae.shown.length ≤ sizeLine := by omega
    refine ⟨_, rfl, _, rfl, av, ae, _, rfl, dat46, ai3, by omega, by omega, _, _, rfl, rfl, lenNum, (by show 2 ≤ sizeLine; decide), fun pF hpF => ?_⟩
    have s48 := same_upd (o := .lst [V.str (("number " : Str) ++ ae.shown), V.str "fine"]) hpF
    refine ⟨.list [.str (("number " : Str) ++ ae.shown), .str "fine"], .list [.str (("number " : Str) ++ ae.shown), .str "fine"], .lst (SqL.of (s48 _ _ R46.told)) (dp_strs [("number " : Str) ++ ae.shown, wF]), .lst (SqL.of upd_same) (dp_strs [("number " : Str) ++ ae.shown, wF]), ai5, ai5, _, rfl, ?_⟩
    rw [ai6]
    have R48 := R46.same s48
    have m48 := m46.kp (Kp.same s48)
    generalize upd G47 pF _ = G48 at R48 m48
    refine iteT ⟨_, rfl, _, rfl, _, rfl, made_ok m48.cd FA m48.kd fun G49 x49 dx49 s49 nx49 ex49 => ?_⟩
    have m49 := m48.kp (Kp.same s49)
    obtain ⟨dxo, exo⟩ := m49.at_
    have st2 : StI K C G49 x49 ds ks := ⟨dx49, kb, .ref ca, ex49, m49.cd.mv (fun _ _ => trivial) (fun _ _ _ z => z), SqT.of m49.kd, FA.near.rows, Nat.le_trans FA.near.few (by decide), FA.kept⟩
    refine ⟨x, dxo, _, .ref C, rfl, exo, R.W.insT _ _ _ _ ex49, R.W.notF, x, ds, ks, _, rfl, m49.st FA, .inl ⟨x49, ds, ks, rfl, st2, fun G50 s50 => ⟨_, rfl, ?_⟩⟩⟩
    rw [eqv_pure _ (rows_pure FA.near.rows), eqv_pure _ (keeps_sh FA.kept).1]
    exact q G50 ((R48.ext.tr (ExtB.ext (ExtN.of s49))).tr (ExtB.ext (ExtN.of s50))) ((R48.dice.mv s49).mv s50) ((R48.tabs.ext s49).ext s50)
end
end OM

namespace OM
open PySem PySem.Spec PyProof.Rows L2 LamX
abbrev sLaw6 : Stmt := top 66
def lamL6 : Str := "law" ++ ".<locals>." ++ "<lambda>"
abbrev nL6 : List Str := ["_law_script", "_law_at", "_law_dice_here", "_law_made", "_law_told"]
/-! the stretch of the law's own -/
def ds6 : List PyData := [.tuple [.str "put", .str "a"]]
abbrev wA : Str := "a"
abbrev wB6 : Str := "b"
abbrev ks6 : List Str := [wB6]
theorem facts6 : Facts ds6 ks6 := ⟨⟨by decide +kernel, by decide +kernel, by decide +kernel⟩, by decide +kernel, by decide⟩
theorem cells6 : cellsC ds6 = [] := (IsSet.canon ⟨by decide +kernel, by decide +kernel⟩).symm
theorem regs6 : regsC ds6 ks6 = [wA, wB6] := (IsSet.canon ⟨by decide +kernel, by decide +kernel⟩).symm
def swap6 (n : Str) : PyData := if n = wA then .str wB6 else .str wA
abbrev kvs6 : List (Key × V) := [(.inr wA, .str wB6), (.inr wB6, .str wA)]
theorem ren6 : renB [wA, wB6] kvs6 swap6 = true := by decide +kernel
theorem told_swap {S : Addr → Prop} {H : Hp} {a : Addr} (s : S a) (e : H a = some (.dK kvs6)) : ToldOk S H [wA, wB6] (.ref a) := by
  refine .inr ⟨fun z => (nomatch z), ?_⟩
  have t := Told.dic (S := S) (ns := [wA, wB6]) (dat := swap6) s e fun _ _ n hn u hu => by
    rcases List.mem_cons.mp hn with rfl | hn
    · have z : valV kvs6 (.inr wA) = some (.str wB6) := by rfl
      rw [z] at hu
      obtain rfl := Option.some.inj hu
      exact ⟨.at (.str wB6), by decide +kernel⟩
    · rw [List.mem_singleton.mp hn] at hu ⊢
      have z : valV kvs6 (.inr wB6) = some (.str wA) := by rfl
      rw [z] at hu
      obtain rfl := Option.some.inj hu
      exact ⟨.at (.str wA), by decide +kernel⟩
  rw [ren6] at t
  exact t
theorem told_none {S : Addr → Prop} {H : Hp} {a : Addr} (s : S a) (e : H a = some (.dK [])) : ToldOk S H [] (.ref a) := by
  refine .inr ⟨fun z => (nomatch z), ?_⟩
  have t := Told.dic (S := S) (ns := []) (dat := swap6) s e fun _ _ n hn => by cases hn
  have z : renB [] [] swap6 = true := by decide +kernel
  rw [z] at t
  exact t
theorem dt_dic0 {S : Addr → Prop} {H : Hp} {v : V} (h : Dt S H v (.dict [])) : ∃ a, v = .ref a ∧ S a ∧ H a = some (.dK []) := by
  cases h with
  | «at» a => cases a
  | @dic0 a s e => exact ⟨a, rfl, s, e⟩
/-- between two words that are told; no dice -/
structure Run0 (T : List (Addr × Str)) (pt : Addr) (ws : List Str) (G : Hp) : Prop where
  tabs : Tabs T G
  told : G pt = some (.lst (ws.map V.str))
theorem Run0.step {T : List (Addr × Str)} {G G2 : Hp} {pt : Addr} {ws : List Str} (R : Run0 T pt ws G) (x : ExtN G G2) (t : Tabs T G2) (w : Str) :
    G2 pt = some (.lst (ws.map V.str)) ∧ Run0 T pt (ws ++ [w]) (upd G2 pt (.lst (ws.map V.str ++ [.str w]))) ∧ Kp (fun b => b ≠ pt) G (upd G2 pt (.lst (ws.map V.str ++ [.str w]))) := by
  have e := x _ _ R.told (fun _ z => nomatch z)
  refine ⟨e, ⟨tabs_upl2 t e, ?_⟩, fun b o sb eb n => ?_⟩
  · rw [upd_same, List.map_append]
    rfl
  · rw [upd_ne sb]
    exact x _ _ eb n
theorem Run0.same {T : List (Addr × Str)} {G G2 : Hp} {pt : Addr} {ws : List Str} (R : Run0 T pt ws G) (s : Same G G2) : Run0 T pt ws G2 := ⟨R.tabs.ext s, s _ _ R.told⟩
theorem Run0.free {T : List (Addr × Str)} {G : Hp} {pt : Addr} {ws : List Str} (R : Run0 T pt ws G) {b : Addr} (h : G b = none) : b ≠ pt := fun z => by
  have e := R.told
  rw [← z, h] at e
  cases e
def words5 : List Str := [wO, wF, wF, wO, wF]
theorem words5_ok : SeqAt.shaped (.list (words5.map PyData.str)) = true ∧ PyData.eqv (.list (words5.map PyData.str)) (.list (words5.map PyData.str)) = true := by decide +kernel
theorem reg6_ok : SeqAt.shaped (strT [wA, wB6]) = true ∧ PyData.eqv (strT [wA, wB6]) (strT [wA, wB6]) = true := by decide +kernel
def spLaw6 (K : PySem.W.Frag) (T : List (Addr × Str)) : Sp := fun vs H Q _ => ∃ (a : Addr) (ns : List Int), vs = [.ref a] ∧ ns.length ≤ 63 ∧ SqL K H a (ns.map V.int) ∧ Tabs T H ∧ ∀ H', Q (.bl true) H'
theorem sq_extB {K : PySem.W.Frag} {d : Addr} {H H1 H2 : Hp} {a : Addr} {xs : List V} (h : SqL K H a xs) (n : H d = none) (s : Same H H1) (b : ExtB d H1 H2) : SqL K H2 a xs := by
  rcases h with (h | ⟨o, h⟩) | h
  · exact .inl (.inl (b _ _ (ne_of_none h n) (s _ _ h) (fun _ z => nomatch z)))
  · exact .inl (.inr ⟨o, b _ _ (ne_of_none h n) (s _ _ h) (fun _ z => nomatch z)⟩)
  · exact .inr h
structure Law6 (P : Program) (w : World) (K : PySem.W.Frag) (mg : Str → Option Value) (base : Heap) (T : List (Addr × Str)) (C PT cc : Addr) (c : Nat → Addr) : Prop where
  W : StW P w K mg base C c
  F : MetF P w K mg base c
  TB : TabB base mg cc PT
  dice : CallM P w K mg base "_law_dice" 1 ["_law_script", "_law_at"] (spDice K)
  right : ∃ (g : Addr) (d : FuncData), mg "_law_right" = some (.ref g) ∧ PySem.W.keepIn K (.ref g) = true ∧ Binds K d ["_law_dice_here"] [] ∧ GFn P w K mg base 23 g d ["_law_dice_here"] (spRight6 T)
  max : mg "max" = none
  min : mg "min" = none
  len : mg "len" = none
  rng : mg "range" = none
section
variable {P : Program} {w : World} {K : PySem.W.Frag} {mg : Str → Option Value} {base : Heap} {C PT cc f : Addr} {c : Nat → Addr} {fd : FuncData}
theorem scL6 : FnScope nL6 ["_law_script"] (defScope sLaw6) := ⟨rfl, rfl, rfl, by decide +kernel, rfl, by decide +kernel, by decide +kernel⟩
theorem ok_law6 {T : List (Addr × Str)} (hmT : (PT, lamL6) ∈ T) (huT : ∀ p ∈ T, p.1 = PT → p.2 = lamL6) (F : FunC K "law" "law" sLaw6 f fd cc) (R : Law6 P w K mg base T C PT cc c) (hs : ∃ o, base.get? sysModules = some o) : GFn P w K mg base 24 f fd ["_law_script"] (spLaw6 K T) := by
  obtain ⟨fM, dM, gM, FM, bM⟩ := R.F.met
  obtain ⟨oM, odM, kvM, docM, pmM, anM, cdM, ctM, oslM, rfl, lkM, hcM⟩ := FM.ex
  obtain ⟨fS, dS, mkS, gS, bS, GS⟩ := R.W.made
  obtain ⟨fK, dK, mK, GK, bK⟩ := R.W.keep
  obtain ⟨fN, dN, g1, g2, g3, mN, GN, kb1, kb2, kb3⟩ := R.W.ren
  obtain ⟨pr, fr, dr, hr', Gr, br⟩ := R.W.regs
  obtain ⟨fD, dD, gD, kD, bD, GD⟩ := R.dice
  obtain ⟨fR, dR, gR, kR, bR, GR⟩ := R.right
  refine gfn_ofC F scL6 (fun vs H Q E h => ?_) (fun A outer s H vs Q E hga hr h => ?_)
  · obtain ⟨a, ns, rfl, _⟩ := h
    rfl
  · obtain ⟨a, ns, rfl, hn, hS, hT, q⟩ := h
    have hgd : (A.deeper (envOfC "law" (defScope sLaw6) s.heap.objs.size f (.ref cc))).guards = some [] := hga
    have un := hr.un
    have hu : (A.deeper (envOfC "law" (defScope sLaw6) s.heap.objs.size f (.ref cc))).units + 64 < cLine := by omega
    have hu3 : (A.deeper (envOfC "law" (defScope sLaw6) s.heap.objs.size f (.ref cc))).units + 28 < cLine := by omega
    refine ⟨_, pss_cons (ps_for PassesOwn.never rfl (pi_range1 (by rfl) R.rng (pa_cons (pe_callB (call_max2 rfl) (by rfl) R.max (by decide +kernel) (pa_cons pe_int (pa_cons (pe_callB (call_min2 rfl) (by rfl) R.min (by decide +kernel) (pa_cons pe_int
          (pa_cons (pe_callB call_len_seq (by rfl) R.len PySem.boot_len (pa_cons (pv 0) pa_nil)) pa_nil))) pa_nil))) pa_nil)) (pg_name (i := 1) scL6.nd rfl (Or.inl rfl))
        (pss_cons (ps_set (i := 2) scL6.nd rfl (Or.inl rfl) (pe_call GD (hr.mono (by decide)) (by rfl) gD kD bD .nil pass0 (pa_cons (pv 0) (pa_cons (pv 1) pa_nil))))
        (pss_one (ps_if (PW.pt (pw_or (pt_not (pt_val (pe_callG GR hgd hr (by rfl) gR kR bR (pa_cons (pv 2) pa_nil)))) (pw_or1 (pt_not (pt_val (pe_callG GR hgd hr (by rfl) gR kR bR (pa_cons (pv 2) pa_nil))))))) (pss_one (ps_ret pe_bl)) pss_nil))))
      (pss_cons (ps_set (i := 3) scL6.nd rfl (Or.inr rfl) (pe_make mkS GS (hr.mono (by decide)) (by rfl) gS bS .nil (passes_call L2.takes0 (fun _ _ _ _ h => h)) (pa_cons (pe_ft (R := fun _ _ => True) (pa_fc true_st (pe_ft (pa_f1 true_st (pa_f1 true_st pa_fn))) pa_fn)) (pa_cons (pe_ft (R := fun _ _ => True) (pa_f1 true_st pa_fn)) pa_nil))))
      (pss_cons (ps_set (i := 4) scL6.nd rfl (Or.inl rfl) (pe_lst (pa_cons (pe_lamcall (T := T) (k := 20) (by rfl) gM FM.kp lkM hcM bM scMe rfl (Or.inl rfl) (metX_gives hgd hu3 hs R.F.rep R.F.M R.F.N) R.TB rfl hmT huT (hr.mono (by decide)) (lamS_by (by show lamSB (defScope sLaw6) _ = true; decide +kernel)) rfl (fun _ _ _ _ _ => rfl)
          (fun A outer s H E f c' hr2 => pe_methK (pv 3) R.W.T.cl mN GN (hr2.mono (by decide)) kb2 (passes_call (takes_of rfl rfl rfl rfl) (fun _ _ _ _ h => h)) (pk_cons (pe_disp (L2.pps_cons pe_str pe_str L2.pps_nil) rfl rfl (fun z => nomatch z) (by decide)) pk_nil))) pa_nil)))
      (pss_cons (ps_expr (pe_bm PySem.F.plainAttrs_list PySem.F.slot_list_append PySem.F.type_list_append mt_append (pv 4) (pa_cons (pe_lamcall (T := T) (k := 20) (by rfl) gM FM.kp lkM hcM bM scMe rfl (Or.inl rfl) (metX_gives hgd hu3 hs R.F.rep R.F.M R.F.N) R.TB rfl hmT huT (hr.mono (by decide)) (lamS_by (by show lamSB (defScope sLaw6) _ = true; decide +kernel)) rfl (fun _ _ _ _ _ => rfl)
          (fun A outer s H E f c' hr2 => pe_methK (pv 3) R.W.T.cl mN GN (hr2.mono (by decide)) kb2 (passes_call (takes_of rfl rfl rfl rfl) (fun _ _ _ _ h => h)) (pk_cons (pe_disp (L2.pps_cons pe_str pe_str (L2.pps_cons pe_str pe_str L2.pps_nil)) rfl rfl (fun z => nomatch z) (by decide)) pk_nil))) pa_nil)))
      (pss_cons (ps_expr (pe_bm PySem.F.plainAttrs_list PySem.F.slot_list_append PySem.F.type_list_append mt_append (pv 4) (pa_cons (pe_lamcall (T := T) (k := 20) (by rfl) gM FM.kp lkM hcM bM scMe rfl (Or.inl rfl) (metX_gives hgd hu3 hs R.F.rep R.F.M R.F.N) R.TB rfl hmT huT (hr.mono (by decide)) (lamS_by (by show lamSB (defScope sLaw6) _ = true; decide +kernel)) rfl (fun _ _ _ _ _ => rfl)
          (fun A outer s H E f c' hr2 => pe_methK (pv 3) R.W.T.cl mN GN (hr2.mono (by decide)) kb1 (passes_call (takes_of rfl rfl rfl rfl) (fun _ _ _ _ h => h)) (pk_cons (pe_fd0 (R := fun _ _ => True)) pk_nil))) pa_nil)))
      (pss_cons (ps_expr (pe_bm PySem.F.plainAttrs_list PySem.F.slot_list_append PySem.F.type_list_append mt_append (pv 4) (pa_cons (pe_lamcall (T := T) (k := 20) (by rfl) gM FM.kp lkM hcM bM scMe rfl (Or.inl rfl) (metX_gives hgd hu3 hs R.F.rep R.F.M R.F.N) R.TB rfl hmT huT (hr.mono (by decide)) (lamS_by (by show lamSB (defScope sLaw6) _ = true; decide +kernel)) rfl (fun _ _ _ _ _ => rfl)
          (fun A outer s H E f c' hr2 => pe_methK (pv 3) R.W.T.cl mN GN (hr2.mono (by decide)) kb1 (passes_call (takes_of rfl rfl rfl rfl) (fun _ _ _ _ h => h)) (pk_cons (pe_disp (L2.pps_cons pe_str pe_str L2.pps_nil) rfl rfl (fun z => nomatch z) (by decide)) pk_nil))) pa_nil)))
      (pss_cons (ps_expr (pe_bm PySem.F.plainAttrs_list PySem.F.slot_list_append PySem.F.type_list_append mt_append (pv 4) (pa_cons (pe_lamcall (T := T) (k := 20) (by rfl) gM FM.kp lkM hcM bM scMe rfl (Or.inl rfl) (metX_gives hgd hu3 hs R.F.rep R.F.M R.F.N) R.TB rfl hmT huT (hr.mono (by decide)) (lamS_by (by show lamSB (defScope sLaw6) _ = true; decide +kernel)) rfl (fun _ _ _ _ _ => rfl)
          (fun A outer s H E f c' hr2 => pe_meth (pv 3) R.W.T.cl mK GK (hr2.mono (by decide)) bK .nil (passes_call (takes_of rfl rfl rfl rfl) (fun _ _ _ _ h => h)) (pa_cons (pe_ft (R := fun _ _ => True) (pa_f1 true_st (pa_f1 true_st (pa_f1 true_st (pa_f1 true_st pa_fn))))) pa_nil))) pa_nil)))
      (pss_one (ps_ret (pe_and (pe_cmpR (op_eqD hu) (pv 4) (pe_lst (pa_cons pe_str (pa_cons pe_str (pa_cons pe_str (pa_cons pe_str (pa_cons pe_str pa_nil)))))) (nomark _)) (pe_one (pe_cmpR (op_eqD hu) (pe_prop (E := E0) (pv 3) R.W.T.cl hr' Gr (hr.mono (by decide)) br .nil pass0 (by rfl)) (pe_tup (pa_cons pe_str (pa_cons pe_str pa_nil))) (nomark _)))))))))))), ?_⟩
    refine ⟨_, rfl, a, _, rfl, .inl hS, 8, _, rfl, 1, _, rfl, _, rfl, ?_⟩
    have hj : 1 ≤ (if (if (((ns.map V.int).length : Nat) : Int) < 8 then (((ns.map V.int).length : Nat) : Int) else 8) > 1 then (if (((ns.map V.int).length : Nat) : Int) < 8 then (((ns.map V.int).length : Nat) : Int) else 8) else 1) ∧
        (if (if (((ns.map V.int).length : Nat) : Int) < 8 then (((ns.map V.int).length : Nat) : Int) else 8) > 1 then (if (((ns.map V.int).length : Nat) : Int) < 8 then (((ns.map V.int).length : Nat) : Int) else 8) else 1) ≤ 8 := by
      split <;> split <;> omega
    revert hj
    generalize (if (if (((ns.map V.int).length : Nat) : Int) < 8 then (((ns.map V.int).length : Nat) : Int) else 8) > 1 then (if (((ns.map V.int).length : Nat) : Int) < 8 then (((ns.map V.int).length : Nat) : Int) else 8) else 1) = jn
    intro hj
    refine ⟨by omega, by omega, fun i m σ H => m = jn.toNat - i ∧ i ≤ jn.toNat ∧ (∃ x1 x2, σ = [some (.ref a), x1, x2, none, none]) ∧ SqL K H a (ns.map V.int) ∧ Tabs T H, ⟨_, rfl, Nat.zero_le _, ⟨_, _, rfl⟩, hS, hT⟩, ?_⟩
    rintro i m σ H ⟨rfl, hi, ⟨x1, x2, rfl⟩, hS, hT⟩
    rcases Nat.lt_or_ge i jn.toNat with hlt | hge
    · refine .inr ⟨hlt, fun σ' H' => (∃ x1 x2, σ' = [some (.ref a), x1, x2, none, none]) ∧ SqL K H' a (ns.map V.int) ∧ Tabs T H', fun σ' H' h => ⟨jn.toNat - (i + 1), by omega, rfl, hlt, h.1, h.2⟩, ?_⟩
      rintro x H' ⟨rfl, rfl⟩
      refine ⟨_, rfl, _, rfl, a, ns, 0 + i, rfl, hS, fun H1 p s1 n1 d1 => ?_⟩
      refine ⟨_, rfl, p, rfl, d1, hT.ext s1, fun H2 b2 d2 t2 => ⟨true, rfl, iteF ⟨_, rfl, p, rfl, d2, t2, fun H3 b3 d3 t3 => ⟨true, rfl, ⟨⟨_, _, rfl⟩, sq_extB hS n1 s1 (b2.tr b3), t3⟩⟩⟩⟩⟩
    refine .inl ⟨hge, ?_⟩
    refine ⟨trivial, fun v1 G1 s1 e1 => ⟨trivial, fun v2 G2 s2 e2 => ?_⟩⟩
    obtain ⟨kb, ys, rfl, _, ekb, _, hy⟩ := e2.tup_ofS3
    have hy2 : DtAll (fun b => G1 b = none) G2 ys (ks6.map PyData.str) := hy
    rw [dt_strL hy2] at ekb
    have c2 : Dt (fun _ => True) G2 v1 (.tuple ds6) := e1.mv (fun _ _ => trivial) (fun b o _ z => s2 b o z)
    refine made_ok c2 facts6 ekb fun G3 x dx s3 nx ex => ?_
    have st3 : StI K C G3 x ds6 ks6 := ⟨dx, kb, v1, ex, c2.mv (fun _ z => z) (fun b o _ z => s3 b o z), SqT.of (s3 _ _ ekb), facts6.near.rows, Nat.le_trans facts6.near.few (by decide), facts6.kept⟩
    have m3 : MadeS C (fun _ => True) G3 x kb v1 ds6 ks6 := ⟨⟨dx, ex⟩, trivial, c2.mv (fun _ z => z) (fun b o _ z => s3 b o z), trivial, s3 _ _ ekb⟩
    have T3 := ((hT.ext s1).ext s2).ext s3
    -- the first word
    refine ⟨T3, fun G4 x4 T4 => ?_⟩
    have m4 := m3.kp (Kp.ext x4)
    obtain ⟨dx4, ex4⟩ := m4.at_
    refine ⟨_, rfl, x, dx4, _, rfl, ex4, rfl, fun pd hpd => ⟨upd_same, [(.inr wA, .str wB6)], rfl, by decide, rfl, fun _ => True, x, ds6, ks6, .non, .ref pd, rfl, ?_, .inr (.inl ⟨.inl rfl, ?_, fun G5 s5 => .inr (.inl ⟨rfl, (by show 1 ≤ sizeLine; decide), fun pt hpt => ?_⟩)⟩)⟩⟩
    · exact (m4.kp (Kp.same (same_put hpd (same_upd hpd)))).st facts6
    · rw [regs6]
      exact told_len trivial upd_same (by decide)
    have s45 : Same G4 G5 := (same_put hpd (same_upd hpd)).trans s5
    have m5 := m4.kp (Kp.same s45)
    have s6 := same_upd (o := .lst [V.str wO]) hpt
    have m6 : MadeS C (fun b => b ≠ pt) (upd G5 pt (.lst [V.str wO])) x kb v1 ds6 ks6 := m5.strong fun a o _ ea => ⟨ne_of_none ea hpt, s6 _ _ ea⟩
    have R6 : Run0 T pt [wO] (upd G5 pt (.lst [V.str wO])) := ⟨(T4.ext s45).ext s6, upd_same⟩
    generalize upd G5 pt (.lst [V.str wO]) = G6 at m6 R6
    -- the second word
    refine ⟨_, rfl, .inl ⟨rfl, _, SqL.of R6.told⟩, R6.tabs, fun G7 x7 T7 => ?_⟩
    have m7 := m6.kp (Kp.ext x7)
    obtain ⟨dx7, ex7⟩ := m7.at_
    refine ⟨_, rfl, x, dx7, _, rfl, ex7, rfl, fun pd hpd => ⟨upd_same, kvs6, rfl, by decide, rfl, fun _ => True, x, ds6, ks6, .non, .ref pd, rfl, ?_, .inr (.inr ⟨.inl rfl, ?_, fun G8 v8 s8 => ?_⟩)⟩⟩
    · exact (m7.kp (Kp.same (same_put hpd (same_upd hpd)))).st facts6
    · rw [regs6]
      exact told_swap trivial upd_same
    have s78 := (same_put hpd (same_upd hpd)).trans s8
    obtain ⟨e8, R8, k8⟩ := R6.step (x7.trans (ExtN.of s78)) (T7.ext s78) wF
    refine ⟨pt, _, _, rfl, rfl, e8, (by show 1 < sizeLine; decide), ?_⟩
    have m8 := m6.kp k8
    generalize upd G8 pt (.lst (([wO] : List Str).map V.str ++ [V.str wF])) = G9 at m8 R8
    -- the third word
    refine ⟨_, rfl, .inl ⟨rfl, _, SqL.of R8.told⟩, R8.tabs, fun G10 x10 T10 => ?_⟩
    have m10 := m8.kp (Kp.ext x10)
    obtain ⟨dx10, ex10⟩ := m10.at_
    refine ⟨_, rfl, x, dx10, _, rfl, ex10, rfl, trivial, fun v11 G11 s11 e11 => ?_⟩
    obtain ⟨pd, rfl, _, epd⟩ := dt_dic0 e11
    refine ⟨rfl, fun _ => True, x, ds6, ks6, .ref pd, .non, rfl, (m10.kp (Kp.same s11)).st facts6, .inr (.inr ⟨by rw [cells6]; exact told_none trivial epd, .inl rfl, fun G12 v12 s12 => ?_⟩)⟩
    obtain ⟨e12, R12, k12⟩ := R8.step (x10.trans (ExtN.of (s11.trans s12))) (T10.ext (s11.trans s12)) wF
    refine ⟨pt, _, _, rfl, rfl, e12, (by show 2 < sizeLine; decide), ?_⟩
    have m12 := m8.kp k12
    generalize upd G12 pt (.lst ((([wO] : List Str) ++ [wF]).map V.str ++ [V.str wF])) = G13 at m12 R12
    -- the fourth word
    refine ⟨_, rfl, .inl ⟨rfl, _, SqL.of R12.told⟩, R12.tabs, fun G14 x14 T14 => ?_⟩
    have m14 := m12.kp (Kp.ext x14)
    obtain ⟨dx14, ex14⟩ := m14.at_
    refine ⟨_, rfl, x, dx14, _, rfl, ex14, rfl, fun pd hpd => ⟨upd_same, [(.inr "x", .str "y")], rfl, by decide, rfl, fun _ => True, x, ds6, ks6, .ref pd, .non, rfl, ?_, .inl ⟨?_, fun G15 s15 => .inr (.inl ⟨rfl, ?_⟩)⟩⟩⟩
    · exact (m14.kp (Kp.same (same_put hpd (same_upd hpd)))).st facts6
    · rw [cells6]
      exact told_len trivial upd_same (by decide)
    have s145 := (same_put hpd (same_upd hpd)).trans s15
    obtain ⟨e15, R15, k15⟩ := R12.step (x14.trans (ExtN.of s145)) (T14.ext s145) wO
    refine ⟨pt, _, _, rfl, rfl, e15, (by show 3 < sizeLine; decide), ?_⟩
    have m15 := m12.kp k15
    generalize upd G15 pt (.lst ((([wO] : List Str) ++ [wF] ++ [wF]).map V.str ++ [V.str wO])) = G16 at m15 R15
    -- the fifth word
    refine ⟨_, rfl, .inl ⟨rfl, _, SqL.of R15.told⟩, R15.tabs, fun G17 x17 T17 => ?_⟩
    have m17 := m15.kp (Kp.ext x17)
    obtain ⟨dx17, ex17⟩ := m17.at_
    refine ⟨_, rfl, x, dx17, _, rfl, ex17, rfl, trivial, fun v18 G18 s18 e18 => ⟨_, x, dx17, v1, .ref kb, v18, _, rfl, s18 _ _ ex17, e18, by decide +kernel, fun _ G19 x19 dx19 s19 nx19 ex19 => ?_, fun z => absurd z (by decide +kernel)⟩⟩
    obtain ⟨e19, R19, k19⟩ := R15.step (x17.trans (ExtN.of (s18.trans s19))) (T17.ext (s18.trans s19)) wF
    refine ⟨pt, _, _, rfl, rfl, e19, (by show 4 < sizeLine; decide), ?_⟩
    have m19 := m15.kp k19
    generalize upd G19 pt (.lst ((([wO] : List Str) ++ [wF] ++ [wF] ++ [wO]).map V.str ++ [V.str wF])) = G20 at m19 R19
    -- the words, and the registers
    refine ⟨_, rfl, (by show 5 ≤ sizeLine; decide), fun pF hpF => ?_⟩
    have s21 := same_upd (o := .lst (words5.map V.str)) hpF
    refine ⟨.list (words5.map PyData.str), .list (words5.map PyData.str), .lst (SqL.of (s21 _ _ R19.told)) (dp_strs words5), .lst (SqL.of upd_same) (dp_strs words5), words5_ok.1, words5_ok.1, _, rfl, ?_⟩
    rw [words5_ok.2]
    have m21 := m19.kp (Kp.same s21)
    obtain ⟨dx21, ex21⟩ := m21.at_
    refine iteT ⟨_, rfl, x, dx21, _, rfl, ex21, x, ds6, ks6, rfl, m21.st facts6, fun G22 v22 s22 e22 => ?_⟩
    obtain ⟨nt22, x22, rfl, en22, _, h22⟩ := e22.tup_of
    have eR : canon (ks6 ++ rolesS "register" ds6) = [wA, wB6] := regs6
    rw [eR] at h22
    obtain rfl := dt_strL h22
    refine ⟨(by show 2 ≤ sizeLine; decide), fun pr23 hpr => ?_⟩
    have s23 := same_upd (o := .tup [V.str wA, V.str wB6]) hpr
    refine ⟨strT [wA, wB6], strT [wA, wB6], .tup (SqT.of (s23 _ _ en22)) (dp_strs [wA, wB6]), .tup (SqT.of upd_same) (dp_strs [wA, wB6]), reg6_ok.1, reg6_ok.1, ?_⟩
    rw [reg6_ok.2]
    exact q _
end
end OM

namespace OM
open PySem PySem.Spec PyProof.Rows L2 LamX
/-- the script as it is held, and the empty tables; nothing else is tracked -/
def ScrTs (K : PySem.W.Frag) (a : Addr) (ts : List Addr) (H : Hp) : Prop := ∀ b u, H b = some u → (b = a ∧ K.lookup a = none ∧ ∃ ob xs, u = HO.frz ob (.lst xs)) ∨ (b ∈ ts ∧ u = HO.tbl #[])
theorem run_tabs {P : Program} {w : World} {K : PySem.W.Frag} {mg mb : Str → Option Value} {n : Nat} {fa a : Addr} {cs : List (Addr × Addr)} {gd : FuncData} {x : Str} {sp : Sp} {z : Shared} {vs : List Value} {H : Hp} (Kz : K.In z.heap) (ng : z.heap.Ns mainGlobals mg) (nb : z.heap.Ns builtinsNs mb)
    (bb : ∀ y : Str, y ≠ "__name__" → mb y = bootBuiltins y) (lim : z.heap.NoLimit) (sm : ∃ mm, z.heap.Ns sysModules mm) (hg : z.gens = #[]) (ha : z.heap.get? a = some { cls := .type "list", data := .seq vs.toArray }) (hr : Room n callerA)
    (hb : ∃ (bm : Addr) (ob : Obj), mg "__builtins__" = some (.ref bm) ∧ bm ≠ builtinsNs ∧ z.heap.get? bm = some ob ∧ ob.cls = .type "module" ∧ ob.dict = some builtinsNs ∧ ob.data = .plain)
    (hP : ∀ p ∈ cs, z.heap.get? p.2 = some { cls := .none, data := .fields #[] }) (nP : ∀ p ∈ cs, K.lookup p.2 = none) (hC : ∀ p ∈ cs, PySem.W.CodeHd z.heap p.1 p.2)
    (F : ∀ base : Heap, K.In base → base.Ns mainGlobals mg → (∃ o, base.get? sysModules = some o) → (∀ p ∈ cs, TabB base mg p.1 p.2) → GFn P w K mg base n fa gd [x] sp) (hbind : ∀ (s : Shared) (u : Value), BindsTo s gd ⟨[u], []⟩ [(x, u)])
    (hS : ScrTs K a (cs.map (·.2)) H) (hok : HOk P w H z.heap) (tP : ∀ p ∈ cs, H p.2 = some (.tbl #[])) (hsp : sp [.ref a] H (fun v _ => v = .bl true) E0) :
    codeAny (model P w) callerA (.call (.ref fa) ⟨[.ref a], []⟩) (fun r z' => r = .ok (.ret (.bool true)) ∧ OldK z.heap z'.heap ∧ z'.os = z.os ∧ AllBare z'.gens) z := by
  have tabAt : ∀ {b : Addr}, b ∈ cs.map (·.2) → ∃ p ∈ cs, p.2 = b := fun hb => by
    obtain ⟨p, hp, e⟩ := List.mem_map.mp hb
    exact ⟨p, hp, e⟩
  -- what is no list of things and no empty table is not tracked
  have kept : ∀ {b : Addr} {o : Obj}, z.heap.get? b = some o → (∀ its k, o.data ≠ .seq its k) → o.data ≠ .fields #[] → (hidT z.heap H).get? b = some o := fun {b o} e h1 h2 => hidT_get e (by
    cases y : H b with
    | none => rfl
    | some u =>
      exfalso
      rcases hS _ _ y with ⟨rfl, _⟩ | ⟨hb, _⟩
      · rw [ha] at e
        cases e
        exact h1 _ _ rfl
      · obtain ⟨p, hp, rfl⟩ := tabAt hb
        rw [hP p hp] at e
        cases e
        exact h2 rfl)
  have toB : ∀ {b : Addr} {m : Str → Option Value}, z.heap.Ns b m → (hidT z.heap H).Ns b m := by
    rintro b m ⟨o, es, ep, e, d, r⟩
    refine ⟨o, es, ep, kept e (fun its k y => ?_) (fun y => ?_), d, r⟩
    · rw [d] at y
      cases y
    · rw [d] at y
      cases y
  have Kb : K.In (hidT z.heap H) := fun b o e => hidT_get (Kz b o e) (by
    cases y : H b with
    | none => rfl
    | some u =>
      exfalso
      rcases hS _ _ y with ⟨rfl, z0, _⟩ | ⟨hb, _⟩
      · rw [z0] at e
        cases e
      · obtain ⟨p, hp, rfl⟩ := tabAt hb
        rw [nP p hp] at e
        cases e)
  have M : Mod K mg (hidT z.heap H) := ⟨Kb, toB ng, ⟨mb, toB nb, bb⟩, by
    obtain ⟨mc, h1, h2⟩ := lim
    exact ⟨mc, toB h1, h2⟩⟩
  have hs : ∃ o, (hidT z.heap H).get? sysModules = some o := by
    obtain ⟨mm, y⟩ := sm
    obtain ⟨o, _, _, e, _⟩ := toB y
    exact ⟨o, e⟩
  have TB : ∀ p ∈ cs, TabB (hidT z.heap H) mg p.1 p.2 := fun p hp => by
    have hPp := hP p hp
    refine ⟨?_, ?_, fun y => ?_⟩
    · obtain ⟨o, us, file, tf, flags, tg, inF, text, tt, e1, r1, r2, r3, r⟩ := hC p hp
      refine ⟨o, us, file, tf, flags, tg, inF, text, tt, kept e1 (fun its k y => ?_) (fun y => ?_), r1, r2, r3, r⟩
      · rw [r2] at y
        cases y
      · rw [r2] at y
        cases y
        simp at r3
    · obtain ⟨bm, ob, b1, b2, b3, b4, b5, b6⟩ := hb
      refine ⟨bm, ob, b1, b2, fun y => ?_, fun y => ?_, kept b3 (fun its k y => ?_) (fun y => ?_), b4, b5, b6⟩
      · obtain ⟨o, es, ep, e, hd, _⟩ := ng
        rw [y, e] at b3
        cases b3
        rw [hd] at b6
        cases b6
      · rw [y, hPp] at b3
        cases b3
        cases b6
      · rw [b6] at y
        cases y
      · rw [b6] at y
        cases y
    · obtain ⟨o, es, ep, e, hd, _⟩ := ng
      rw [y, hPp] at e
      cases e
      cases hd
  have e0 : Env0 P w K mg (hidT z.heap H) callerA [] z H := ⟨rfl, M, fun b o e => of_hidT e, Nat.le_of_eq (hidT_size _ _), trivial, (fun b hb => by cases (show b ∈ ([] : List Addr) from hb)), hok, .of_eq hg⟩
  refine codeAny_mono ((F _ Kb (toB ng) hs TB).go callerA [] z H ⟨[.ref a], []⟩ [.ref a] [.ref a] _ _ rfl hr e0 (hbind z (.ref a)) (.cons rfl .nil) hsp) fun res z' y => ?_
  match res, y with
  | .error e, y => exact y.elim
  | .ok (.ret u), y =>
    obtain ⟨v, H', os, bare, un, hok', r', y'⟩ := y
    subst y'
    obtain rfl : u = Value.bool true := r'
    have stay : ∀ b o, b ∉ cs.map (·.2) → z.heap.get? b = some o → z'.heap.get? b = some o := fun b o ne e => by
      cases y : H b with
      | none => exact un.keep b o e y (fun k => by cases (show b ∈ ([] : List Addr) from k)) (fun k => by cases (show b ∈ ([] : List Addr) from k))
      | some u =>
        rcases hS _ _ y with ⟨rfl, _, ob, xs, rfl⟩ | ⟨hb, _⟩
        · have h1 := (hok b _ y).1
          have h2 := (hok' b _ (un.frzs b ob _ y)).1
          rw [e] at h1
          cases h1
          exact h2
        · exact absurd hb ne
    have grow : ∀ p ∈ cs, ∃ more : Array Value, z'.heap.get? p.2 = some { cls := .none, data := .fields (#[] ++ more) } := fun p hp => by
      obtain ⟨more, tm⟩ := un.tbls p.2 #[] (tP p hp)
      exact ⟨more, hok' p.2 _ tm⟩
    refine ⟨rfl, ⟨fun b o e => ?_, fun b o e => ?_⟩, os, bare⟩
    · by_cases hb : b ∈ cs.map (·.2)
      · obtain ⟨p, hp, rfl⟩ := tabAt hb
        rw [hP p hp] at e
        cases e
        obtain ⟨more, gm⟩ := grow p hp
        exact .inr (.inl ⟨((hC p hp).tab (hP p hp)).isCodeTable, rfl, #[], more, rfl, gm⟩)
      · exact .inl (stay b o hb e)
    · by_cases hb : b ∈ cs.map (·.2)
      · obtain ⟨p, hp, rfl⟩ := tabAt hb
        obtain ⟨more, gm⟩ := grow p hp
        exact ⟨_, gm⟩
      · exact ⟨o, stay b o hb e⟩
/-- the end: a promise that asks for no guards, with several tables of lambdas' code -/
theorem walkGs {l : PySem.W.OpenLaw} {n k : Nat} {q : Program} {loose : List Str} {XP : (Str → Option Value) → Heap → Prop} {YP : World → Heap → Prop} {d : DefRec} {K : Params → PySem.W.Frag} {x : Str} (hn : l.most = some n) (hn2 : n ≤ sizeLine)
    (hdf : d.params.defaults = []) (hi : importsNone q = true) (hr : Room k callerA) (hY : ∀ (w : World) (h : Heap), YP w h → (K w.params).In h)
    (F : ∀ (w : World) (mg : Str → Option Value) (fa : Addr) (h : Heap), YP w h → (K w.params).In h → h.Ns mainGlobals mg → mg d.name = some (.ref fa) → ∃ (gd : FuncData) (cs : List (Addr × Addr)) (sp : Sp), (∀ p ∈ cs, h.get? p.2 = some { cls := .none, data := .fields #[] }) ∧ (∀ p ∈ cs, (K w.params).lookup p.2 = none) ∧ (∀ p ∈ cs, PySem.W.CodeHd h p.1 p.2) ∧
      (∀ (s : Shared) (u : Value), BindsTo s gd ⟨[u], []⟩ [(x, u)]) ∧ (∀ (H : Hp) (a : Addr) (ns : List Int), ns.length ≤ n → SqL (K w.params) H a (ns.map V.int) → (∀ p ∈ cs, H p.2 = some (.tbl #[])) → sp [.ref a] H (fun v _ => v = .bl true) E0) ∧
      ∀ base : Heap, (K w.params).In base → base.Ns mainGlobals mg → (∃ o, base.get? sysModules = some o) → (∀ p ∈ cs, TabB base mg p.1 p.2) → GFn l.prog w (K w.params) mg base k fa gd [x] sp) : PySem.W.WalkO q loose XP YP l.row.toRowW d [] (fun f vs => PySem.call f vs) := by
  refine Att.attach_call hn hdf fun w s₀ z mg mb fa o pm cd doc a vs ns G Y ho hd hcd hmg hobj hints hlen hg => ?_
  have Kz := hY w _ Y
  obtain ⟨gd, cs, sp, hP, nP, hC, hb, hsp, hF⟩ := F w mg fa _ Y Kz G.T.g hmg
  have sm : ∃ mm, z.heap.Ns sysModules mm := by
    obtain ⟨mm, h1, _⟩ := (G.T.seer hi).mods
    exact ⟨mm, h1⟩
  have rv := vals_ints hints
  have hl : (ns.map V.int).length ≤ sizeLine := by
    rw [List.length_map]
    omega
  have memT : ∀ p ∈ cs, p.2 ∈ cs.map (·.2) := fun p hp => List.mem_map.mpr ⟨p, hp, rfl⟩
  have isT : ∀ b ∈ cs.map (·.2), z.heap.get? b = some { cls := .none, data := .fields #[] } := fun b hb => by
    obtain ⟨p, hp, e⟩ := List.mem_map.mp hb
    rw [← e]
    exact hP p hp
  have na : a ∉ cs.map (·.2) := fun y => by
    have e := isT a y
    rw [hobj] at e
    have e : Data.seq vs.toArray _ = Data.fields #[] := congrArg Obj.data (Option.some.inj e)
    cases e
  cases hk : (K w.params).lookup a with
  | some o1 =>
    have e := Kz a o1 hk
    rw [hobj] at e
    cases e
    exact run_tabs (H := fun b => if b ∈ cs.map (·.2) then some (.tbl #[]) else none) Kz G.T.g G.T.b G.T.builtins G.T.nolimit sm hg hobj hr G.T.bmain hP nP hC hF hb (fun b u y => by
        by_cases hb : b ∈ cs.map (·.2)
        · have y1 := (if_pos hb).symm.trans y
          exact .inr ⟨hb, (Option.some.inj y1).symm⟩
        · have y1 := (if_neg hb).symm.trans y
          cases y1) (fun b u y => by
        by_cases hb : b ∈ cs.map (·.2)
        · have y1 := (if_pos hb).symm.trans y
          cases y1
          exact isT b hb
        · have y1 := (if_neg hb).symm.trans y
          cases y1) (fun p hp => if_pos (memT p hp))
      (hsp _ a ns hlen (.inr ⟨_, vs.toArray, _, hk, rfl, rfl, rfl, by rw [List.size_toArray, ← rv.length]; exact hl, by simpa using rv⟩) (fun p hp => if_pos (memT p hp)))
  | none =>
    refine run_tabs (H := fun b => if b ∈ cs.map (·.2) then some (.tbl #[]) else if b = a then some (.frz { cls := .type "list", data := .seq vs.toArray } (.lst (ns.map V.int))) else none) Kz G.T.g G.T.b G.T.builtins G.T.nolimit sm hg hobj hr G.T.bmain hP nP hC hF hb (fun b u y => ?_) (fun b u y => ?_) (fun p hp => if_pos (memT p hp))
      (hsp _ a ns hlen (.inl (.inr ⟨{ cls := .type "list", data := .seq vs.toArray }, (if_neg na).trans (if_pos rfl)⟩)) (fun p hp => if_pos (memT p hp)))
    · by_cases hb : b ∈ cs.map (·.2)
      · have y1 := (if_pos hb).symm.trans y
        exact .inr ⟨hb, (Option.some.inj y1).symm⟩
      · have y1 := (if_neg hb).symm.trans y
        by_cases hc : b = a
        · have y2 := (if_pos hc).symm.trans y1
          exact .inl ⟨hc, hk, _, _, (Option.some.inj y2).symm⟩
        · have y2 := (if_neg hc).symm.trans y1
          cases y2
    · by_cases hb : b ∈ cs.map (·.2)
      · have y1 := (if_pos hb).symm.trans y
        cases y1
        exact isT b hb
      · have y1 := (if_neg hb).symm.trans y
        by_cases hc : b = a
        · have y2 := (if_pos hc).symm.trans y1
          cases y2
          rw [hc]
          exact ⟨hobj, hl, vs, _, rv, hobj⟩
        · have y2 := (if_neg hc).symm.trans y1
          cases y2
end OM

namespace OM
open PySem PySem.Spec PyProof.Rows L2 LamX
abbrev kwR : List (Str × V) := [("cells", .non), ("registers", .non)]
theorem ren_kb {K : PySem.W.Frag} {f : Addr} {fd : FuncData} (F : FunD K "renamed" "Stretch.renamed" (defArgs sRenM) (defBody sRenM) (defScope sRenM) [] kwR f fd) :
    ∃ g1 g2 g3, KBn K fd ["self", "cells", "registers"] 1 ["cells"] g1 kCell ∧ KBn K fd ["self", "cells", "registers"] 1 ["registers"] g2 kRegs ∧ KBn K fd ["self", "cells", "registers"] 1 ["cells", "registers"] g3 kBoth := by
  obtain ⟨m1, h1⟩ := F.kbinds0 (ps := ["self", "cells", "registers"]) 1 ["cells"] [("registers", .non)] (fun vs mz zs => vs ++ zs ++ mz) (by simp) (by simp) (fun a b c => (a.append c).append b) fun D doc pm an cdv ct us mv ws e1 e2 e3 => match us, mv, ws, e1, e2, e3 with
    | [_], [_], [_], _, _, _ => ⟨_, _, _, _, _, _, rfl, rfl, rfl⟩
  obtain ⟨m2, h2⟩ := F.kbinds0 (ps := ["self", "cells", "registers"]) 1 ["registers"] [("cells", .non)] (fun vs mz zs => vs ++ mz ++ zs) (by simp) (by simp) (fun a b c => (a.append b).append c) fun D doc pm an cdv ct us mv ws e1 e2 e3 => match us, mv, ws, e1, e2, e3 with
    | [_], [_], [_], _, _, _ => ⟨_, _, _, _, _, _, rfl, rfl, rfl⟩
  obtain ⟨m3, h3⟩ := F.kbinds0 (ps := ["self", "cells", "registers"]) 1 ["cells", "registers"] [] (fun vs mz zs => vs ++ zs) (by simp) (by simp) (fun a b c => a.append c) fun D doc pm an cdv ct us mv ws e1 e2 e3 => match us, mv, ws, e1, e2, e3 with
    | [_], [], [_, _], _, _, _ => rfl
  exact ⟨_, _, _, h1, h2, h3⟩
end OM

namespace OM
open PySem PySem.Spec PyProof.Rows L2 LamX
def HasFn (K : PySem.W.Frag) (x qual : Str) (st : Stmt) (f : Addr) : Prop := ∃ fd, Fun K x qual st f fd
def HasFnC (K : PySem.W.Frag) (x qual : Str) (st : Stmt) (f cc : Addr) : Prop := ∃ fd, FunC K x qual st f fd cc
def HasM (K : PySem.W.Frag) (f : Addr) : Prop := ∃ fd, FunD K "__init__" "MoveError.__init__" (defArgs sMI) (defBody sMI) (defScope sMI) [.str ""] [] f fd
def HasN (K : PySem.W.Frag) (f : Addr) : Prop := ∃ fd, FunD K "is_nested_code" "is_nested_code" (defArgs sNested) (defBody sNested) (defScope sNested) [.bl false] [] f fd
def HasS (K : PySem.W.Frag) (f a : Addr) : Prop := ∃ fd, FunD K "__init__" "Stretch.__init__" (defArgs sSI) (defBody sSI) (defScope sSI) [.ref a] [] f fd
/-- names that the text does not bind -/
def freeN : List Str := ["isinstance", "str", "len", "all", "tuple", "zip", "list", "sorted", "sum", "max", "min", "set", "repr", "range", "int", "abs", "bool", "dict", "ValueError", "RuntimeError"]
def freeB (K : PySem.W.Frag) : Bool := freeN.all fun x => decide (PySem.W.nsIn K mainGlobals x = some none)
theorem free_of {K : PySem.W.Frag} {h : Heap} {mg : Str → Option Value} (X : K.In h) (G : h.Ns mainGlobals mg) (b : freeB K = true) (x : Str) (hx : x ∈ freeN) : mg x = none :=
  PySem.W.mg_none_of X G (of_decide_eq_true (List.all_eq_true.mp b x hx))
/-- a written tuple of texts -/
def strV : Value → Option Str
  | .str x _ => some x
  | _ => none
def tupB (K : PySem.W.Frag) (a : Addr) (xs : List Str) : Bool := match K.lookup a with
  | some ⟨.type c, _, .seq its _, _⟩ => decide (c = "tuple") && (decide (its.toList.map strV = xs.map some) && decide (xs.length ≤ 100))
  | _ => false
theorem vals_strs : ∀ {us : List Value} {xs : List Str}, us.map strV = xs.map some → Vals (xs.map V.str) us
  | [], [], _ => .nil
  | [], _ :: _, h => by cases h
  | _ :: _, [], h => by cases h
  | u :: us, x :: xs, h => by
    rw [List.map_cons, List.map_cons] at h
    injection h with h1 h2
    refine .cons ?_ (vals_strs h2)
    unfold strV at h1
    split at h1
    · rename_i y t
      cases h1
      exact ⟨t, rfl⟩
    · cases h1
theorem tupB_ok {K : PySem.W.Frag} {a : Addr} {xs : List Str} (h : tupB K a xs = true) (H : Hp) : SqT K H a (xs.map V.str) := by
  unfold tupB at h
  split at h
  · rename_i c od its n sl hk
    rw [Bool.and_eq_true, Bool.and_eq_true] at h
    obtain ⟨h1, h2, h3⟩ := h
    have e := of_decide_eq_true h1
    subst e
    have e2 := of_decide_eq_true h2
    have e3 := of_decide_eq_true h3
    refine .inr ⟨_, its, n, hk, rfl, rfl, ?_, vals_strs e2⟩
    have l := congrArg List.length e2
    rw [List.length_map, List.length_map, Array.length_toList] at l
    rw [l]
    exact Nat.le_trans e3 (by decide)
  · cases h
def names7 : List Str := ["read", "write", "set", "copy", "get", "put", "if"]
def names8 : List Str := ["read", "write", "set", "copy", "get", "put", "if", "show"]
/-- FORMS, as it is written -/
def keysB (K : PySem.W.Frag) (d : Addr) : Bool := match K.lookup d with
  | some ⟨_, _, .dict es _, _⟩ => es.toList.all fun e => match e.key with
    | .str x _ => (formOf x).isSome || decide (x = "show")
    | _ => false
  | _ => false
def formsB (K : PySem.W.Frag) (d : Addr) : Bool := names7.all fun z => match PySem.W.nsIn K d z with
  | some (some (.ref a)) => tupB K a ((formOf z).getD [])
  | _ => false
def showB (K : PySem.W.Frag) (d : Addr) : Bool := match PySem.W.nsIn K d "show" with
  | some (some _) => true
  | _ => false
theorem showB_ok {K : PySem.W.Frag} {d : Addr} (h : showB K d = true) : ∃ u, PySem.W.nsIn K d "show" = some (some u) := by
  unfold showB at h
  split at h
  · rename_i u e
    exact ⟨u, e⟩
  · cases h
theorem keysB_ok {K : PySem.W.Frag} {d : Addr} (h : keysB K d = true) {z : Str} (hz : formOf z = none) (hs : z ≠ "show") : PySem.W.nsIn K d z = some none := by
  unfold keysB at h
  split at h
  · rename_i oc od es n sl hk
    have ha := List.all_eq_true.mp h
    unfold PySem.W.nsIn
    rw [hk]
    have f : es.toList.find? (·.key.isStr z) = none := List.find?_eq_none.mpr fun e he y => by
      have := ha e he
      split at this
      · rename_i x t hx
        rw [hx] at y
        have e2 : x = z := by simpa [Value.isStr] using y
        rw [e2, hz, decide_eq_false hs] at this
        cases this
      · cases this
    have g : es.toList.any (·.refKey) = false := by
      rw [Bool.eq_false_iff]
      intro y
      obtain ⟨e, he, q⟩ := List.any_eq_true.mp y
      have := ha e he
      split at this
      · rename_i x t hx
        unfold DictEntry.refKey at q
        rw [hx] at q
        cases q
      · cases this
    show (match es.toList.find? (·.key.isStr z) with
      | some e => some (some e.val)
      | none => if es.toList.any (·.refKey) then none else some none) = some none
    rw [f, g]
    rfl
  · cases h
theorem form_names {z : Str} {rs : List Str} (h : formOf z = some rs) : z ∈ names7 := by
  unfold formOf at h
  unfold names7
  repeat' split at h
  all_goals first
    | cases h; done
    | (subst_vars; decide)
theorem formsB_ok {K : PySem.W.Frag} {d : Addr} (h : formsB K d = true) {z : Str} {rs : List Str} (hz : formOf z = some rs) : ∃ a, PySem.W.nsIn K d z = some (some (.ref a)) ∧ ∀ H, SqT K H a (rs.map V.str) := by
  have := List.all_eq_true.mp h z (form_names hz)
  split at this
  · rename_i a ha
    rw [hz] at this
    exact ⟨a, ha, fun H => tupB_ok this H⟩
  · cases this
def exmB (K : PySem.W.Frag) (a b : Addr) (r : Bool) : Bool := decide (PySem.W.exmOne K (.ref a) (.ref b) = some r)
/-- the class Stretch -/
def strB (K : PySem.W.Frag) (C f : Addr) : Bool := PySem.W.plainGet K C Str.empty && (PySem.W.hasDictIn K C && (PySem.W.plainOver K C && (decide (PySem.W.findIn K (.ref C) "__setattr__" = some (some (.builtin "object.__setattr__"))) && (decide (PySem.W.findIn K (.ref C) "_code" = some none) && (decide (PySem.W.findIn K (.ref C) "_keeps" = some none) &&
  (PySem.W.makesIn K C && (decide (PySem.W.findIn K (.ref C) "__init__" = some (some (.ref f))) && (PySem.W.isFn K (.ref f) && PySem.W.keepIn K (.ref C)))))))))
theorem strB_ok {K : PySem.W.Frag} {mg : Str → Option Value} {C f : Addr} (h : strB K C f = true) : StrT K mg C ∧ Mk K C f := by
  unfold strB at h
  simp only [Bool.and_eq_true, decide_eq_true_eq] at h
  obtain ⟨h1, h2, h3, h4, h5, h6, h7, h8, h9, h10⟩ := h
  exact ⟨⟨⟨h1, h2, h3, h4⟩, h5, h6⟩, ⟨h7, h8, h9, h10⟩⟩
/-- the rest that is asked of the class Stretch -/
def strC (K : PySem.W.Frag) (C : Addr) : Bool := decide (PySem.W.findIn K (.ref C) "__class__" = some (some (.builtin "object.__class__"))) && (decide (PySem.W.specialIn K (.builtin "object.__class__") "__get__" = some (some (.builtin "getset_descriptor.__get__"))) &&
  (decide (PySem.W.takesIn K (.builtin "object.__class__") = some true) && (decide (PySem.W.mroIn K C (.type "object") = some true) && decide (PySem.W.kitOne K (.ref C) (.ref C) = some true))))
def methB (K : PySem.W.Frag) (f : Addr) : Bool := PySem.W.isFn K (.ref f) && PySem.W.keepIn K (.ref f)
theorem methB_ok {K : PySem.W.Frag} {f : Addr} (h : methB K f = true) : PySem.W.isFn K (.ref f) = true ∧ PySem.W.keepIn K (.ref f) = true := Bool.and_eq_true_iff.mp h
def tyns : List String := ["NoneType", "bool", "int", "str", "list", "tuple", "dict"]
def addB (K : PySem.W.Frag) (C : Addr) : Bool := tyns.all fun T => (PySem.W.findIn K (.type T) "__add__").isSome && ((PySem.W.findIn K (.type T) "__radd__").isSome && (decide (PySem.W.subIn K (.type T) (.ref C) = some false) && decide (PySem.W.kitOne K (.type T) (.ref C) = some false)))
theorem tyn_mem (e : PyData) : tyN e ∈ tyns := by cases e <;> simp [tyN, tyns]
theorem addB_ok {K : PySem.W.Frag} {C : Addr} (h : addB K C = true) (e : PyData) : AddT K C (tyN e) ∧ PySem.W.kitOne K (.type (tyN e)) (.ref C) = some false := by
  have := List.all_eq_true.mp h _ (tyn_mem e)
  simp only [Bool.and_eq_true, decide_eq_true_eq] at this
  obtain ⟨h1, h2, h3, h4⟩ := this
  exact ⟨⟨Option.isSome_iff_exists.mp h1, Option.isSome_iff_exists.mp h2, h3⟩, h4⟩
def kinB (K : PySem.W.Frag) (c0 c1 c2 c3 c4 c5 c6 c7 : Addr) : Bool := exmB K c1 c0 false && (exmB K c1 c1 true && (exmB K c3 c0 false && (exmB K c3 c1 false && (exmB K c3 c2 false && (exmB K c3 c3 true &&
  (exmB K c7 c0 false && (exmB K c7 c1 false && (exmB K c7 c2 false && (exmB K c7 c3 false && (exmB K c7 c4 false && (exmB K c7 c5 false && (exmB K c7 c6 false && exmB K c7 c7 true))))))))))))
theorem kinB_ok {K : PySem.W.Frag} {c : Nat → Addr} (h : kinB K (c 0) (c 1) (c 2) (c 3) (c 4) (c 5) (c 6) (c 7) = true) (x : XfC K (c 7)) (n : PySem.W.findIn K (.ref (c 7)) "value" = some none) : MetX K c := by
  unfold kinB exmB at h
  simp only [Bool.and_eq_true, decide_eq_true_eq] at h
  obtain ⟨h1, h2, h3, h4, h5, h6, h7, h8, h9, h10, h11, h12, h13, h14⟩ := h
  exact ⟨h1, h2, h3, h4, h5, h6, h7, h8, h9, h10, h11, h12, h13, h14, x, n⟩
def HasR (K : PySem.W.Frag) (f : Addr) : Prop := ∃ fd, FunD K "renamed" "Stretch.renamed" (defArgs sRenM) (defBody sRenM) (defScope sRenM) [] kwR f fd
theorem prop_mk {K : PySem.W.Frag} {C p g : Addr} {f : Str} {od : Option Addr} {vs : Array Value} {sl : Array (Option Value)} {rest : List Value} (h1 : PySem.W.findIn K (.ref C) f = some (some (.ref p))) (l : K.lookup p = some ⟨.type "property", od, .fields vs, sl⟩) (hv : vs.toList = .ref g :: rest)
    (h2 : decide (PySem.W.specialIn K (.ref p) "__get__" = some (some (.builtin "property.__get__"))) = true) (h3 : decide (PySem.W.takesIn K (.ref p) = some true) = true) : PropOf K C f p g :=
  ⟨h1, of_decide_eq_true h2, of_decide_eq_true h3, rest, by
    unfold PySem.W.recIn
    rw [l]
    simp [hv]⟩
theorem emp_mk {K : PySem.W.Frag} {a : Addr} {od : Option Addr} {n : Nat} {sl : Array (Option Value)} (l : K.lookup a = some ⟨.type "tuple", od, .seq #[] n, sl⟩) : Emp K a := ⟨_, n, l, rfl, rfl⟩
/-- what stands behind the top -/
structure Top6 (K : PySem.W.Frag) (w : World) (c g : Nat → Addr) (f0 f9 fS aS C fKe fA fG fN pC fC pR fR fE cr cl dF aW : Addr) : Prop where
  c0 : PySem.W.nsIn K mainGlobals "InvalidValue" = some (some (.ref (c 0)))
  c1 : PySem.W.nsIn K mainGlobals "InvalidStretch" = some (some (.ref (c 1)))
  c2 : PySem.W.nsIn K mainGlobals "InvalidProgram" = some (some (.ref (c 2)))
  c3 : PySem.W.nsIn K mainGlobals "InvalidOperation" = some (some (.ref (c 3)))
  c4 : PySem.W.nsIn K mainGlobals "ParseError" = some (some (.ref (c 4)))
  c5 : PySem.W.nsIn K mainGlobals "UnknownName" = some (some (.ref (c 5)))
  c6 : PySem.W.nsIn K mainGlobals "Unanswered" = some (some (.ref (c 6)))
  c7 : PySem.W.nsIn K mainGlobals "InvalidNumber" = some (some (.ref (c 7)))
  c8 : PySem.W.nsIn K mainGlobals "TooMany" = some (some (.ref (c 8)))
  c9 : PySem.W.nsIn K mainGlobals "NothingToUndo" = some (some (.ref (c 9)))
  c10 : PySem.W.nsIn K mainGlobals "Refused" = some (some (.ref (c 10)))
  iMAX_LETTERS : ∃ t, PySem.W.nsIn K mainGlobals "MAX_LETTERS" = some (some (.int 8 t))
  iMAX_REGISTERS : ∃ t, PySem.W.nsIn K mainGlobals "MAX_REGISTERS" = some (some (.int 2 t))
  iMAX_DEPTH : ∃ t, PySem.W.nsIn K mainGlobals "MAX_DEPTH" = some (some (.int 3 t))
  iMAX_KEPT : ∃ t, PySem.W.nsIn K mainGlobals "MAX_KEPT" = some (some (.int 4 t))
  iMAX_STATEMENTS : ∃ t, PySem.W.nsIn K mainGlobals "MAX_STATEMENTS" = some (some (.int 24 t))
  iMAX_CELLS : ∃ t, PySem.W.nsIn K mainGlobals "MAX_CELLS" = some (some (.int 4 t))
  iMAX_LETTERS_SENT : ∃ t, PySem.W.nsIn K mainGlobals "MAX_LETTERS_SENT" = some (some (.int 6 t))
  iMAX_SETS : ∃ t, PySem.W.nsIn K mainGlobals "MAX_SETS" = some (some (.int 6 t))
  iMAX_TESTS : ∃ t, PySem.W.nsIn K mainGlobals "MAX_TESTS" = some (some (.int 3 t))
  lets : ∃ t, PySem.W.nsIn K mainGlobals "LETTERS" = some (some (.str alphabet t))
  words : PySem.W.nsIn K mainGlobals "WORDS" = some (some (.ref aW))
  wordsT : tupB K aW words6 = true
  forms : PySem.W.nsIn K mainGlobals "FORMS" = some (some (.ref dF))
  formsD : He.dicW K dF = some (He.keysIn w.params names8)
  formsS : showB K dF = true
  formsK : keysB K dF = true
  formsV : formsB K dF = true
  stretch : PySem.W.nsIn K mainGlobals "Stretch" = some (some (.ref C))
  inS : PySem.W.findIn K (.ref C) "__init__" = some (some (.ref fS))
  k1 : KCls K (c 1) f0 "ValueError" []
  k3 : KCls K (c 3) f0 "ValueError" []
  k7 : KCls K (c 7) f9 "RuntimeError" ["value"]
  m0 : HasM K f0
  h9 : HasFn K "__init__" "InvalidNumber.__init__" sNI f9
  mS : HasS K fS aS
  emp : Emp K aS
  strOk : strB K C fS = true
  strCk : strC K C = true
  kpE : PySem.W.findIn K (.ref C) "keeping" = some (some (.ref fKe))
  kpF : HasFn K "keeping" "Stretch.keeping" sKeeping fKe
  kpB : methB K fKe = true
  adE : PySem.W.findIn K (.ref C) "__add__" = some (some (.ref fA))
  adF : HasFn K "__add__" "Stretch.__add__" sAddM fA
  adB : methB K fA = true
  radd : PySem.W.findIn K (.ref C) "__radd__" = some none
  selfK : PySem.W.selfFirst K C = true
  addT : addB K C = true
  giE : PySem.W.findIn K (.ref C) "__getitem__" = some (some (.ref fG))
  giF : HasFn K "__getitem__" "Stretch.__getitem__" sGetItem fG
  giB : methB K fG = true
  giN : PySem.W.fnIn K fG = true
  rnE : PySem.W.findIn K (.ref C) "renamed" = some (some (.ref fN))
  rnF : HasR K fN
  rnB : methB K fN = true
  ceE : PySem.W.findIn K (.ref C) "cells" = some (some (.ref pC))
  ceP : PropOf K C "cells" pC fC
  ceF : HasFn K "cells" "Stretch.cells" sCellsP fC
  reE : PySem.W.findIn K (.ref C) "registers" = some (some (.ref pR))
  reP : PropOf K C "registers" pR fR
  reF : HasFn K "registers" "Stretch.registers" sRegsP fR
  eqE : PySem.W.findIn K (.ref C) "__eq__" = some (some (.ref fE))
  eqF : HasFn K "__eq__" "Stretch.__eq__" sEqM fE
  eqB : methB K fE = true
  notF : PySem.W.notFirst K C (.ref C) = true
  kT : decide (PySem.W.kitOne K (.ref C) (.type "tuple") = some false) = true
  bV : PySem.W.findCls K (.type "ValueError") (.type "type") "__init__" = some (.val (.builtin "ValueError.__init__"))
  bR : PySem.W.findCls K (.type "RuntimeError") (.type "type") "__init__" = some (.val (.builtin "RuntimeError.__init__"))
  kin : kinB K (c 0) (c 1) (c 2) (c 3) (c 4) (c 5) (c 6) (c 7) = true
  xf : xfB K (c 7) = true
  xno : PySem.W.findIn K (.ref (c 7)) "value" = some none
  nn : freeB K = true
  n26 : PySem.W.nsIn K mainGlobals "is_nested_code" = some (some (.ref (g 26)))
  h26 : HasN K (g 26)
  n14 : PySem.W.nsIn K mainGlobals "_copied" = some (some (.ref (g 14)))
  h14 : HasFn K "_copied" "_copied" (top 14) (g 14)
  n19 : PySem.W.nsIn K mainGlobals "is_number" = some (some (.ref (g 19)))
  h19 : HasFn K "is_number" "is_number" (top 19) (g 19)
  n20 : PySem.W.nsIn K mainGlobals "is_whole" = some (some (.ref (g 20)))
  h20 : HasFn K "is_whole" "is_whole" (top 20) (g 20)
  n21 : PySem.W.nsIn K mainGlobals "is_name" = some (some (.ref (g 21)))
  h21 : HasFn K "is_name" "is_name" (top 21) (g 21)
  n22 : PySem.W.nsIn K mainGlobals "is_set" = some (some (.ref (g 22)))
  h22 : HasFn K "is_set" "is_set" (top 22) (g 22)
  n27 : PySem.W.nsIn K mainGlobals "_is_statement" = some (some (.ref (g 27)))
  h27 : HasFn K "_is_statement" "_is_statement" (top 27) (g 27)
  n28 : PySem.W.nsIn K mainGlobals "_fits" = some (some (.ref (g 28)))
  h28 : HasFn K "_fits" "_fits" (top 28) (g 28)
  n29 : PySem.W.nsIn K mainGlobals "flattened" = some (some (.ref (g 29)))
  h29 : HasFn K "flattened" "flattened" (top 29) (g 29)
  n30 : PySem.W.nsIn K mainGlobals "codes_in" = some (some (.ref (g 30)))
  h30 : HasFn K "codes_in" "codes_in" (top 30) (g 30)
  n31 : PySem.W.nsIn K mainGlobals "names_in" = some (some (.ref (g 31)))
  h31 : HasFn K "names_in" "names_in" (top 31) (g 31)
  n32 : PySem.W.nsIn K mainGlobals "_names_of" = some (some (.ref (g 32)))
  h32 : HasFn K "_names_of" "_names_of" (top 32) (g 32)
  n33 : PySem.W.nsIn K mainGlobals "most_on_path" = some (some (.ref (g 33)))
  h33 : HasFn K "most_on_path" "most_on_path" (top 33) (g 33)
  n34 : PySem.W.nsIn K mainGlobals "_most_at" = some (some (.ref (g 34)))
  h34 : HasFn K "_most_at" "_most_at" (top 34) (g 34)
  n35 : PySem.W.nsIn K mainGlobals "_path_kind" = some (some (.ref (g 35)))
  h35 : HasFn K "_path_kind" "_path_kind" (top 35) (g 35)
  n36 : PySem.W.nsIn K mainGlobals "renamed_code" = some (some (.ref (g 36)))
  h36 : HasFn K "renamed_code" "renamed_code" (top 36) (g 36)
  n37 : PySem.W.nsIn K mainGlobals "_renamed_statement" = some (some (.ref (g 37)))
  h37 : HasFn K "_renamed_statement" "_renamed_statement" (top 37) (g 37)
  n38 : PySem.W.nsIn K mainGlobals "_renamed_part" = some (some (.ref (g 38)))
  h38 : HasFn K "_renamed_part" "_renamed_part" (top 38) (g 38)
  n47 : PySem.W.nsIn K mainGlobals "is_code" = some (some (.ref (g 47)))
  h47 : HasFn K "is_code" "is_code" (top 47) (g 47)
  n49 : PySem.W.nsIn K mainGlobals "stretch_of" = some (some (.ref (g 49)))
  h49 : HasFn K "stretch_of" "stretch_of" (top 49) (g 49)
  n50 : PySem.W.nsIn K mainGlobals "is_bounded" = some (some (.ref (g 50)))
  h50 : HasFn K "is_bounded" "is_bounded" (top 50) (g 50)
  n51 : PySem.W.nsIn K mainGlobals "is_kept" = some (some (.ref (g 51)))
  h51 : HasFn K "is_kept" "is_kept" (top 51) (g 51)
  n52 : PySem.W.nsIn K mainGlobals "_new_names" = some (some (.ref (g 52)))
  h52 : HasFn K "_new_names" "_new_names" (top 52) (g 52)
  n53 : PySem.W.nsIn K mainGlobals "_is_renaming" = some (some (.ref (g 53)))
  h53 : HasFn K "_is_renaming" "_is_renaming" (top 53) (g 53)
  n55 : PySem.W.nsIn K mainGlobals "_law_dice" = some (some (.ref (g 55)))
  h55 : HasFn K "_law_dice" "_law_dice" (top 55) (g 55)
  n56 : PySem.W.nsIn K mainGlobals "_law_roll" = some (some (.ref (g 56)))
  h56 : HasFn K "_law_roll" "_law_roll" (top 56) (g 56)
  n57 : PySem.W.nsIn K mainGlobals "_law_one_of" = some (some (.ref (g 57)))
  h57 : HasFn K "_law_one_of" "_law_one_of" (top 57) (g 57)
  n58 : PySem.W.nsIn K mainGlobals "_law_mixed" = some (some (.ref (g 58)))
  h58 : HasFn K "_law_mixed" "_law_mixed" (top 58) (g 58)
  n59 : PySem.W.nsIn K mainGlobals "_law_statement" = some (some (.ref (g 59)))
  h59 : HasFn K "_law_statement" "_law_statement" (top 59) (g 59)
  n60 : PySem.W.nsIn K mainGlobals "_law_code" = some (some (.ref (g 60)))
  h60 : HasFn K "_law_code" "_law_code" (top 60) (g 60)
  n61 : PySem.W.nsIn K mainGlobals "_law_stretch" = some (some (.ref (g 61)))
  h61 : HasFn K "_law_stretch" "_law_stretch" (top 61) (g 61)
  n62 : PySem.W.nsIn K mainGlobals "_law_met" = some (some (.ref (g 62)))
  h62 : HasFn K "_law_met" "_law_met" (top 62) (g 62)
  n63 : PySem.W.nsIn K mainGlobals "_law_bad_keeps" = some (some (.ref (g 63)))
  h63 : HasFn K "_law_bad_keeps" "_law_bad_keeps" (top 63) (g 63)
  n64 : PySem.W.nsIn K mainGlobals "_law_bad_names" = some (some (.ref (g 64)))
  h64 : HasFn K "_law_bad_names" "_law_bad_names" (top 64) (g 64)
  n65 : PySem.W.nsIn K mainGlobals "_law_right" = some (some (.ref (g 65)))
  h65 : HasFnC K "_law_right" "_law_right" (top 65) (g 65) cr
  n66 : PySem.W.nsIn K mainGlobals "law" = some (some (.ref (g 66)))
  h66 : HasFnC K "law" "law" (top 66) (g 66) cl
theorem all_mk6 {l : PySem.W.OpenLaw} {w : World} {K : PySem.W.Frag} {h : Heap} {mg : Str → Option Value} {fa : Addr} {c g : Nat → Addr} {f0 f9 fS aS C fKe fA fG fN pC fC pR fR fE cr cl dF aW PR PL : Addr} (X : K.In h) (G : h.Ns mainGlobals mg) (hfa : mg "law" = some (.ref fa)) (T : Top6 K w c g f0 f9 fS aS C fKe fA fG fN pC fC pR fR fE cr cl dF aW) (ne : PR ≠ PL) :
    ∃ gd : FuncData, (∀ (s : Shared) (u : Value), BindsTo s gd ⟨[u], []⟩ [("_law_script", u)]) ∧ ∀ base : Heap, K.In base → base.Ns mainGlobals mg → (∃ o, base.get? sysModules = some o) → TabB base mg cr PR → TabB base mg cl PL → GFn l.prog w K mg base 24 fa gd ["_law_script"] (spLaw6 K [(PR, lamR6), (PL, lamL6)]) := by
  have gl : ∀ {x : Str} {u : Value}, PySem.W.nsIn K mainGlobals x = some (some u) → mg x = some u := fun e => PySem.W.mg_of X G e
  obtain rfl : g 66 = fa := by
    have e := hfa.symm.trans (gl T.n66)
    cases e
    rfl
  have no : ∀ x, x ∈ freeN → mg x = none := free_of X G T.nn
  obtain ⟨e14, E14⟩ := T.h14
  have r14 := E14.binds (ps := ["value"]) fun _ _ _ _ _ _ us hl => match us, hl with | [_], _ => rfl
  obtain ⟨e19, E19⟩ := T.h19
  have r19 := E19.binds (ps := ["value", "low", "high"]) fun _ _ _ _ _ _ us hl => match us, hl with | [_, _, _], _ => rfl
  obtain ⟨e20, E20⟩ := T.h20
  have r20 := E20.binds (ps := ["value"]) fun _ _ _ _ _ _ us hl => match us, hl with | [_], _ => rfl
  obtain ⟨e21, E21⟩ := T.h21
  have r21 := E21.binds (ps := ["value"]) fun _ _ _ _ _ _ us hl => match us, hl with | [_], _ => rfl
  obtain ⟨e22, E22⟩ := T.h22
  have r22 := E22.binds (ps := ["value"]) fun _ _ _ _ _ _ us hl => match us, hl with | [_], _ => rfl
  obtain ⟨e27, E27⟩ := T.h27
  have r27 := E27.binds (ps := ["value", "depth", "shows"]) fun _ _ _ _ _ _ us hl => match us, hl with | [_, _, _], _ => rfl
  obtain ⟨e28, E28⟩ := T.h28
  have r28 := E28.binds (ps := ["part", "role", "depth", "shows"]) fun _ _ _ _ _ _ us hl => match us, hl with | [_, _, _, _], _ => rfl
  obtain ⟨e29, E29⟩ := T.h29
  have r29 := E29.binds (ps := ["code"]) fun _ _ _ _ _ _ us hl => match us, hl with | [_], _ => rfl
  obtain ⟨e30, E30⟩ := T.h30
  have r30 := E30.binds (ps := ["statement"]) fun _ _ _ _ _ _ us hl => match us, hl with | [_], _ => rfl
  obtain ⟨e31, E31⟩ := T.h31
  have r31 := E31.binds (ps := ["code", "role"]) fun _ _ _ _ _ _ us hl => match us, hl with | [_, _], _ => rfl
  obtain ⟨e32, E32⟩ := T.h32
  have r32 := E32.binds (ps := ["statement", "role"]) fun _ _ _ _ _ _ us hl => match us, hl with | [_, _], _ => rfl
  obtain ⟨e33, E33⟩ := T.h33
  have r33 := E33.binds (ps := ["code", "kind"]) fun _ _ _ _ _ _ us hl => match us, hl with | [_, _], _ => rfl
  obtain ⟨e34, E34⟩ := T.h34
  have r34 := E34.binds (ps := ["statement", "kind"]) fun _ _ _ _ _ _ us hl => match us, hl with | [_, _], _ => rfl
  obtain ⟨e35, E35⟩ := T.h35
  have r35 := E35.binds (ps := ["statement"]) fun _ _ _ _ _ _ us hl => match us, hl with | [_], _ => rfl
  obtain ⟨e36, E36⟩ := T.h36
  have r36 := E36.binds (ps := ["code", "cells", "registers"]) fun _ _ _ _ _ _ us hl => match us, hl with | [_, _, _], _ => rfl
  obtain ⟨e37, E37⟩ := T.h37
  have r37 := E37.binds (ps := ["statement", "cells", "registers"]) fun _ _ _ _ _ _ us hl => match us, hl with | [_, _, _], _ => rfl
  obtain ⟨e38, E38⟩ := T.h38
  have r38 := E38.binds (ps := ["part", "role", "cells", "registers"]) fun _ _ _ _ _ _ us hl => match us, hl with | [_, _, _, _], _ => rfl
  obtain ⟨e47, E47⟩ := T.h47
  have r47 := E47.binds (ps := ["value"]) fun _ _ _ _ _ _ us hl => match us, hl with | [_], _ => rfl
  obtain ⟨e49, E49⟩ := T.h49
  have r49 := E49.binds (ps := ["code", "keeps"]) fun _ _ _ _ _ _ us hl => match us, hl with | [_, _], _ => rfl
  obtain ⟨e50, E50⟩ := T.h50
  have r50 := E50.binds (ps := ["code"]) fun _ _ _ _ _ _ us hl => match us, hl with | [_], _ => rfl
  obtain ⟨e51, E51⟩ := T.h51
  have r51 := E51.binds (ps := ["value"]) fun _ _ _ _ _ _ us hl => match us, hl with | [_], _ => rfl
  obtain ⟨e52, E52⟩ := T.h52
  have r52 := E52.binds (ps := ["names", "told"]) fun _ _ _ _ _ _ us hl => match us, hl with | [_, _], _ => rfl
  obtain ⟨e53, E53⟩ := T.h53
  have r53 := E53.binds (ps := ["names", "told"]) fun _ _ _ _ _ _ us hl => match us, hl with | [_, _], _ => rfl
  obtain ⟨e55, E55⟩ := T.h55
  have r55 := E55.binds (ps := ["_law_script", "_law_at"]) fun _ _ _ _ _ _ us hl => match us, hl with | [_, _], _ => rfl
  obtain ⟨e56, E56⟩ := T.h56
  have r56 := E56.binds (ps := ["_law_dice_here", "_law_total"]) fun _ _ _ _ _ _ us hl => match us, hl with | [_, _], _ => rfl
  obtain ⟨e57, E57⟩ := T.h57
  have r57 := E57.binds (ps := ["_law_dice_here", "_law_items"]) fun _ _ _ _ _ _ us hl => match us, hl with | [_, _], _ => rfl
  obtain ⟨e58, E58⟩ := T.h58
  have r58 := E58.binds (ps := ["_law_dice_here", "_law_items"]) fun _ _ _ _ _ _ us hl => match us, hl with | [_, _], _ => rfl
  obtain ⟨e59, E59⟩ := T.h59
  have r59 := E59.binds (ps := ["_law_dice_here", "_law_room", "_law_deep"]) fun _ _ _ _ _ _ us hl => match us, hl with | [_, _, _], _ => rfl
  obtain ⟨e60, E60⟩ := T.h60
  have r60 := E60.binds (ps := ["_law_dice_here", "_law_most", "_law_room", "_law_deep"]) fun _ _ _ _ _ _ us hl => match us, hl with | [_, _, _, _], _ => rfl
  obtain ⟨e61, E61⟩ := T.h61
  have r61 := E61.binds (ps := ["_law_dice_here", "_law_most", "_law_letters", "_law_tests"]) fun _ _ _ _ _ _ us hl => match us, hl with | [_, _, _, _], _ => rfl
  obtain ⟨e62, E62⟩ := T.h62
  have r62 := E62.binds (ps := ["_law_call"]) fun _ _ _ _ _ _ us hl => match us, hl with | [_], _ => rfl
  obtain ⟨e63, E63⟩ := T.h63
  have r63 := E63.binds (ps := ["_law_dice_here"]) fun _ _ _ _ _ _ us hl => match us, hl with | [_], _ => rfl
  obtain ⟨e64, E64⟩ := T.h64
  have r64 := E64.binds (ps := ["_law_dice_here", "_law_names"]) fun _ _ _ _ _ _ us hl => match us, hl with | [_, _], _ => rfl
  obtain ⟨e65, E65⟩ := T.h65
  have r65 := E65.fn.binds (ps := ["_law_dice_here"]) fun _ _ _ _ _ _ us hl => match us, hl with | [_], _ => rfl
  obtain ⟨e66, E66⟩ := T.h66
  have r66 := E66.fn.binds (ps := ["_law_script"]) fun _ _ _ _ _ _ us hl => match us, hl with | [_], _ => rfl
  obtain ⟨d9, F9⟩ := T.h9
  have b9 := F9.binds (ps := ["self", "value"]) fun _ _ _ _ _ _ us hl => match us, hl with | [_, _], _ => rfl
  obtain ⟨dKe, FKe⟩ := T.kpF
  have bKe := FKe.binds (ps := ["self", "names"]) fun _ _ _ _ _ _ us hl => match us, hl with | [_, _], _ => rfl
  obtain ⟨dA, FA⟩ := T.adF
  have bA := FA.binds (ps := ["self", "other"]) fun _ _ _ _ _ _ us hl => match us, hl with | [_, _], _ => rfl
  obtain ⟨dG, FG⟩ := T.giF
  have bG := FG.binds (ps := ["self", "at"]) fun _ _ _ _ _ _ us hl => match us, hl with | [_, _], _ => rfl
  obtain ⟨dCe, FCe⟩ := T.ceF
  have bCe := FCe.binds (ps := ["self"]) fun _ _ _ _ _ _ us hl => match us, hl with | [_], _ => rfl
  obtain ⟨dRe, FRe⟩ := T.reF
  have bRe := FRe.binds (ps := ["self"]) fun _ _ _ _ _ _ us hl => match us, hl with | [_], _ => rfl
  obtain ⟨dEq, FEq⟩ := T.eqF
  have bEq := FEq.binds (ps := ["self", "other"]) fun _ _ _ _ _ _ us hl => match us, hl with | [_, _], _ => rfl
  obtain ⟨e26, E26⟩ := T.h26
  have r26 : Binds K e26 ["value", "depth", "shows"] [] := by
    obtain ⟨ds, hv, hb⟩ := E26.binds1 (ps := ["value", "depth", "shows"]) 3 1 (by simp) rfl fun T kV doc pm an cdv ct us its h1 h2 => match us, its, h1, h2 with
      | [_, _, _], [_], _, _ => ⟨_, rfl, rfl⟩
    cases hv
    exact hb
  have r26d : ∃ ds, Vals [V.bl false] ds ∧ Binds K e26 ["value", "depth", "shows"] ds := E26.binds1 (ps := ["value", "depth", "shows"]) 2 0 (by simp) rfl fun T kV doc pm an cdv ct us its h1 h2 => match us, its, h1, h2 with
    | [_, _], [_], _, _ => ⟨_, rfl, rfl⟩
  obtain ⟨d0, F0⟩ := T.m0
  obtain ⟨dS, FS⟩ := T.mS
  obtain ⟨dR, FR⟩ := T.rnF
  obtain ⟨k1, k2, k3, kb1, kb2, kb3⟩ := ren_kb FR
  have b0 : Binds K d0 ["self", "why"] [] := by
    obtain ⟨ds, hv, hb⟩ := F0.binds1 (ps := ["self", "why"]) 2 1 (by simp) rfl fun T kV doc pm an cdv ct us its h1 h2 => match us, its, h1, h2 with
      | [_, _], [_], _, _ => ⟨_, rfl, rfl⟩
    cases hv
    exact hb
  have bS : Binds K dS ["self", "code", "keeps"] [] := by
    obtain ⟨ds, hv, hb⟩ := FS.binds1 (ps := ["self", "code", "keeps"]) 3 1 (by simp) rfl fun T kV doc pm an cdv ct us its h1 h2 => match us, its, h1, h2 with
      | [_, _, _], [_], _, _ => ⟨_, rfl, rfl⟩
    cases hv
    exact hb
  have bS1 : ∃ ds, Vals [V.ref aS] ds ∧ Binds K dS ["self", "code", "keeps"] ds := FS.binds1 (ps := ["self", "code", "keeps"]) 2 0 (by simp) rfl fun T kV doc pm an cdv ct us its h1 h2 => match us, its, h1, h2 with
    | [_, _], [_], _, _ => ⟨_, rfl, rfl⟩
  have gi : ∀ {x : Str} {i : Int}, (∃ t, PySem.W.nsIn K mainGlobals x = some (some (.int i t))) → ∃ t, mg x = some (.int i t) := fun ⟨t, e⟩ => ⟨t, gl e⟩
  have TD : TxtD mg := ⟨no _ (by decide), no _ (by decide), no _ (by decide)⟩
  have TC : TxtC mg := ⟨no _ (by decide), no _ (by decide), no _ (by decide), no _ (by decide)⟩
  have TN : TxtN K mg := ⟨no _ (by decide), no _ (by decide), no _ (by decide), no _ (by decide), gi T.iMAX_LETTERS, by
    obtain ⟨t, e⟩ := T.lets
    exact ⟨t, gl e⟩, ⟨aW, gl T.words, fun H => tupB_ok T.wordsT H⟩⟩
  have TF : TxtF K w mg := by
    obtain ⟨es, n, kd⟩ := He.dicW_ok T.formsD
    exact ⟨no _ (by decide), no _ (by decide), gi T.iMAX_REGISTERS, ⟨dF, es, n, gl T.forms, kd, fun z hz hs => keysB_ok T.formsK hz hs, showB_ok T.formsS, fun z rs hz => formsB_ok T.formsV hz⟩⟩
  have TS : TxtS mg := ⟨no _ (by decide), no _ (by decide), no _ (by decide), no _ (by decide), no _ (by decide)⟩
  have TB : TxtB mg := ⟨gi T.iMAX_STATEMENTS, gi T.iMAX_CELLS, gi T.iMAX_LETTERS_SENT, gi T.iMAX_SETS, gi T.iMAX_TESTS⟩
  have CF : CodeF K mg (g 26) (g 27) (g 28) (g 21) e26 e27 e28 e21 := ⟨E26, E27, E28, E21, gl T.n26, gl T.n27, gl T.n28, gl T.n21, r26, r26d, r27, r28, r21, TN⟩
  have DF : DiceF K mg (g 56) (g 57) e56 e57 := ⟨E56, E57, gl T.n56, gl T.n57, r56, r57, TD⟩
  have DC : DCodeF K mg (g 56) (g 57) (g 60) (g 59) e56 e57 e60 e59 := ⟨DF, E60, E59, gl T.n60, gl T.n59, r60, r59, no _ (by decide), no _ (by decide)⟩
  have FF : FlatF K mg (g 29) (g 30) (g 32) e29 e30 e32 := ⟨E29, E30, E32, gl T.n29, gl T.n30, gl T.n32, r29, r30, r32⟩
  have MF : MostF K mg (g 33) (g 34) (g 35) e33 e34 e35 := ⟨E33, E34, E35, gl T.n33, gl T.n34, gl T.n35, r33, r34, r35⟩
  have RF : RenF K mg (g 36) (g 37) (g 38) e36 e37 e38 := ⟨E36, E37, E38, gl T.n36, gl T.n37, gl T.n38, r36, r37, r38⟩
  have CP : CopF K mg (g 14) e14 := ⟨E14, TC, gl T.n14, r14⟩
  have MM : MetK mg c := ⟨gl T.c0, gl T.c1, gl T.c2, gl T.c3, gl T.c4, gl T.c5, gl T.c6, gl T.c7, gl T.c8, gl T.c9, gl T.c10⟩
  have MX : MetX K c := kinB_ok T.kin (xfB_ok T.xf) T.xno
  obtain ⟨ST, MS⟩ := strB_ok (mg := mg) T.strOk
  have sc := T.strCk
  unfold strC at sc
  simp only [Bool.and_eq_true, decide_eq_true_eq] at sc
  obtain ⟨s1, s2, s3, s4, s5⟩ := sc
  have SC : StrC K mg C fS aS dS := ⟨ST, MS, gl T.stretch, bS1, T.emp, s1, s2, s3, s4, s5⟩
  have mt : ∀ {m : Str} {f : Addr}, PySem.W.findIn K (.ref C) m = some (some (.ref f)) → methB K f = true → Meth K C m f := fun e h => ⟨e, (methB_ok h).1, (methB_ok h).2⟩
  refine ⟨e66, fun s u => ?_, fun base KB GB hs TR TL => ?_⟩
  · obtain ⟨oc, od, kV, doc, pm, an, ct, osl, rfl, lk, hcd⟩ := E66.ex
    exact .of_eq rfl
  · have GIC : FnOk l.prog w K mg base CX0 14 (g 47) e47 ["value"] spIsCode := ok_iscode E47 CF TF (gi T.iMAX_DEPTH)
    have GII : FnOk l.prog w K mg base CX0 14 (g 47) e47 ["value"] (spCodeI K C) := ok_codeI E47 CF TF (gi T.iMAX_DEPTH) (of_decide_eq_true T.kT)
    have GI0 : FnOk l.prog w K mg base CX0 1 f0 d0 ["self", "why"] (spI0 K "ValueError") := ok_iM F0 ⟨no _ (by decide), T.bV⟩
    have GB' : FnOk l.prog w K mg base CX0 10 (g 50) e50 ["code"] spBnd := ok_bounded E50 TF TS TB FF MF (gl T.n31) E31 r31
    have GK : FnOk l.prog w K mg base CX0 3 (g 51) e51 ["value"] spKept := ok_kept E51 TN TF (gl T.n21) E21 r21 (gl T.n22) E22 r22 (gi T.iMAX_KEPT)
    have GK0 : FnOk l.prog w K mg base CX0 3 (g 51) e51 ["value"] (spKept0 K) := ok_kept0 E51 TN TF (gl T.n21) E21 r21 (gl T.n22) E22 r22 (gi T.iMAX_KEPT)
    have GS : FnOk l.prog w K mg base (L2.CX l.prog w) 15 fS dS ["self", "code", "keeps"] (spMk K C (c 1)) := fn_or (ok_sinit FS ST T.k1 (gl T.c1) GI0 b0 (gl T.n47) E47.kp r47 GIC (gl T.n50) E50.kp r50 GB' (gl T.n51) E51.kp r51 GK) (ok_sinitI FS T.k1 (gl T.c1) GI0 b0 (gl T.n47) E47.kp r47 GII)
    have GS0 : FnOk l.prog w K mg base (L2.CX l.prog w) 15 fS dS ["self", "code", "keeps"] (spSI0 K C (c 1)) := ok_sinit0 FS ST T.k1 (gl T.c1) GI0 b0 (gl T.n47) E47.kp r47 GIC (gl T.n50) E50.kp r50 GB' (gl T.n51) E51.kp r51 GK0
    have GO : FnOk l.prog w K mg base CX0 17 (g 49) e49 ["code", "keeps"] (spOf C) := ok_of E49 SC GS0
    have GKe : FnOk l.prog w K mg base (L2.CX l.prog w) 18 fKe dKe ["self", "names"] (spKeepW C (c 3)) := ok_keepW FKe ST T.k3 (gl T.c3) GI0 b0 (gl T.n51) E51.kp r51 GK (gl T.n49) E49.kp r49 GO
    have GA : FnOk l.prog w K mg base (L2.CX l.prog w) 3 fA dA ["self", "other"] (spAddW K C (c 1)) := ok_addW FA (gl T.stretch) (no _ (by decide)) T.k1 (gl T.c1) GI0 b0
    have GNu : FnOk l.prog w K mg base CX0 2 (g 19) e19 ["value", "low", "high"] spNumD := ok_numD E19 (gl T.n20) E20.kp r20 (ok_wholeD E20 (no _ (by decide)) (no _ (by decide)) (no _ (by decide)))
    have GI9 : FnOk l.prog w K mg base CX0 6 f9 d9 ["self", "value"] (spI1 K "RuntimeError" "value" 4) := ok_i9 F9 CP ⟨no _ (by decide), T.bR⟩
    have GG : FnOk l.prog w K mg base (L2.CX l.prog w) 8 fG dG ["self", "at"] (spGetW K C (c 7)) := ok_getW FG ST (no _ (by decide)) (gl T.n19) E19.kp r19 GNu T.k7 (gl T.c7) GI9 b9
    have GNi : FnOk l.prog w K mg base CX0 6 (g 31) e31 ["code", "role"] spNamesIn := ok_namesin E31 TF TS FF
    have GCe : FnOk l.prog w K mg base CX0 7 fC dCe ["self"] (spRole K C fun ds _ => rolesS "cell" ds) := ok_cellsP ST (gl T.n31) E31.kp r31 GNi FCe
    have GRe : FnOk l.prog w K mg base CX0 7 fR dRe ["self"] (spRole K C fun ds ks => ks ++ rolesS "register" ds) := ok_regsP ST (gl T.n31) E31.kp r31 GNi TS (no _ (by decide)) FRe
    have GIs : FnOk l.prog w K mg base CX0 2 (g 53) e53 ["names", "told"] spIsRen := ok_isren E53 (no _ (by decide)) (no _ (by decide)) (no _ (by decide)) (no _ (by decide)) (gl T.n21) E21.kp r21 (ok_isname E21 TN)
    have GNn : FnOk l.prog w K mg base (L2.CX l.prog w) 4 (g 52) e52 ["names", "told"] (spNewN (c 3)) := ok_newn E52 (gl T.n53) E53.kp r53 GIs T.k3 (gl T.c3) GI0 b0
    have GRc : FnOk l.prog w K mg base CX0 13 (g 36) e36 ["code", "cells", "registers"] (spRCodeAt 4) := ok_rcode RF TF 4
    have GR : FnOk l.prog w K mg base (L2.CX l.prog w) 18 fN dR ["self", "cells", "registers"] (spRenM K C (c 3)) := ok_renM FR ST (no _ (by decide)) (no _ (by decide)) T.ceP GCe bCe T.reP GRe bRe (gl T.n52) E52.kp r52 GNn (gl T.n49) E49.kp r49 GO (gl T.n36) E36.kp r36 GRc
    have GE : FnOk l.prog w K mg base CX0 1 fE dEq ["self", "other"] (spEqM K C) := ok_eqM FEq SC (no _ (by decide))
    have G1 : FnOk l.prog w K mg base CX0 2 (g 57) e57 ["_law_dice_here", "_law_items"] (spOneOf K) := ok_oneof E57 TD E56 (gl T.n56) r56
    have SW : StW l.prog w K mg base C c := {
      T := ST
      made := ⟨fS, dS, MS, gl T.stretch, bS, GS⟩
      keep := ⟨fKe, dKe, mt T.kpE T.kpB, GKe, bKe⟩
      add := ⟨fA, dA, T.adE, (methB_ok T.adB).1, GA, bA⟩
      self := T.selfK
      radd := T.radd
      addT := addB_ok T.addT
      get := ⟨fG, dG, T.giE, (methB_ok T.giB).1, T.giN, GG, bG⟩
      ren := ⟨fN, dR, k1, k2, k3, mt T.rnE T.rnB, GR, kb1, kb2, kb3⟩
      cells := ⟨pC, fC, dCe, T.ceP, GCe, bCe⟩
      regs := ⟨pR, fR, dRe, T.reP, GRe, bRe⟩
      eq := ⟨fE, dEq, T.eqE, (methB_ok T.eqB).1, GE, bEq⟩
      insT := fun H a dx fs e => .base (.ins e ST.cl s1 s2 s3 s4)
      notF := T.notF }
    have MFF : MetF l.prog w K mg base c := ⟨⟨g 62, e62, gl T.n62, E62, r62⟩, MM, MX, no _ (by decide)⟩
    have R6 : Right6 l.prog w K mg base C PR cr c := {
      W := SW
      F := MFF
      TB := TR
      draw := ⟨g 61, e61, gl T.n61, E61.kp, r61, ok_stretch E61 DC E58 (gl T.n58) r58 (no _ (by decide)) (no _ (by decide))⟩
      badK := ⟨g 63, e63, gl T.n63, E63.kp, r63, ok_badk E63 (gl T.n57) E57.kp r57 G1⟩
      badN := ⟨g 64, e64, gl T.n64, E64.kp, r64, ok_badn E64 (no _ (by decide)) (no _ (by decide)) (no _ (by decide)) (gl T.n57) E57.kp r57 G1⟩
      one := ⟨g 57, e57, gl T.n57, E57.kp, r57, G1⟩
      len := no _ (by decide)
      dct := no _ (by decide) }
    have GRt : GFn l.prog w K mg base 23 (g 65) e65 ["_law_dice_here"] (spRight6 [(PR, lamR6), (PL, lamL6)]) := ok_right6 (List.mem_cons_self ..) (fun p hp e => by
      rcases List.mem_cons.mp hp with rfl | hp
      · rfl
      · rcases List.mem_cons.mp hp with rfl | hp
        · exact absurd e.symm ne
        · cases hp) E65 R6 hs
    exact ok_law6 (List.mem_cons_of_mem _ (List.mem_cons_self ..)) (fun p hp e => by
        rcases List.mem_cons.mp hp with rfl | hp
        · exact absurd e ne
        · rcases List.mem_cons.mp hp with rfl | hp
          · rfl
          · cases hp) E66 {
      W := SW
      F := MFF
      TB := TL
      dice := ⟨g 55, e55, gl T.n55, E55.kp, r55, ok_dice E55 TD⟩
      right := ⟨g 65, e65, gl T.n65, E65.fn.kp, r65, GRt⟩
      max := no _ (by decide)
      min := no _ (by decide)
      len := no _ (by decide)
      rng := no _ (by decide) } hs
end OM

namespace OM
open PySem PySem.Spec PyProof.Rows L2 LamX
theorem fn_mk3 {K : PySem.W.Frag} {x qual : Str} {st : Stmt} {f : Addr} {oc : Value} {od an : Option Addr} {osl : Array (Option Value)} {kV doc pm cdv ct : Value}
    (l : K.lookup f = some ⟨oc, od, .func (PySem.W.fnOf x qual (defArgs st) (defBody st) (defScope st) .none kV doc pm an cdv ct), osl⟩) (c : PySem.W.codeIn K cdv qual = true) (k : PySem.W.keepIn K (.ref f) = true) : HasFn K x qual st f := ⟨_, fun_mk l c k⟩
theorem fc_mk3 {K : PySem.W.Frag} {x qual : Str} {st : Stmt} {f cc : Addr} {oc : Value} {od an : Option Addr} {osl : Array (Option Value)} {kV doc pm ct : Value}
    (l : K.lookup f = some ⟨oc, od, .func (PySem.W.fnOf x qual (defArgs st) (defBody st) (defScope st) .none kV doc pm an (.ref cc) ct), osl⟩) (c : PySem.W.codeIn K (.ref cc) qual = true) (k : PySem.W.keepIn K (.ref f) = true) : HasFnC K x qual st f cc := ⟨_, ⟨⟨_, _, _, _, _, _, _, _, rfl, l, c⟩, k⟩⟩
theorem m_mk3 {K : PySem.W.Frag} {f T : Addr} {oc tc : Value} {od an td : Option Addr} {osl tsl : Array (Option Value)} {kV doc pm cdv ct : Value} {tk : Tok} {n : Nat}
    (l : K.lookup f = some ⟨oc, od, .func (PySem.W.fnOf "__init__" "MoveError.__init__" (defArgs sMI) (defBody sMI) (defScope sMI) (.ref T) kV doc pm an cdv ct), osl⟩) (c : PySem.W.codeIn K cdv "MoveError.__init__" = true)
    (k : PySem.W.keepIn K (.ref f) = true) (lt : K.lookup T = some ⟨tc, td, .seq #[.str "" tk] n, tsl⟩) : HasM K f :=
  ⟨_, ⟨⟨_, _, _, _, _, _, _, _, _, _, rfl, l, c, .inr ⟨fun z => (nomatch z), T, _, [.str "" tk], n, rfl, lt, rfl, .cons ⟨tk, rfl⟩ .nil⟩, .inl rfl⟩, k⟩⟩
theorem n_mk3 {K : PySem.W.Frag} {f T : Addr} {oc tc : Value} {od an td : Option Addr} {osl tsl : Array (Option Value)} {kV doc pm cdv ct : Value} {n : Nat}
    (l : K.lookup f = some ⟨oc, od, .func (PySem.W.fnOf "is_nested_code" "is_nested_code" (defArgs sNested) (defBody sNested) (defScope sNested) (.ref T) kV doc pm an cdv ct), osl⟩) (c : PySem.W.codeIn K cdv "is_nested_code" = true)
    (k : PySem.W.keepIn K (.ref f) = true) (lt : K.lookup T = some ⟨tc, td, .seq #[.bool false] n, tsl⟩) : HasN K f :=
  ⟨_, ⟨⟨_, _, _, _, _, _, _, _, _, _, rfl, l, c, .inr ⟨fun z => (nomatch z), T, _, [.bool false], n, rfl, lt, rfl, .cons rfl .nil⟩, .inl rfl⟩, k⟩⟩
theorem s_mk5 {K : PySem.W.Frag} {f T a : Addr} {oc tc : Value} {od an td : Option Addr} {osl tsl : Array (Option Value)} {kV doc pm cdv ct : Value} {n : Nat}
    (l : K.lookup f = some ⟨oc, od, .func (PySem.W.fnOf "__init__" "Stretch.__init__" (defArgs sSI) (defBody sSI) (defScope sSI) (.ref T) kV doc pm an cdv ct), osl⟩) (c : PySem.W.codeIn K cdv "Stretch.__init__" = true)
    (k : PySem.W.keepIn K (.ref f) = true) (lt : K.lookup T = some ⟨tc, td, .seq #[.ref a] n, tsl⟩) : HasS K f a :=
  ⟨_, ⟨⟨_, _, _, _, _, _, _, _, _, _, rfl, l, c, .inr ⟨fun z => (nomatch z), T, _, [.ref a], n, rfl, lt, rfl, .cons rfl .nil⟩, .inl rfl⟩, k⟩⟩
theorem r_mk6 {K : PySem.W.Frag} {f D : Addr} {oc : Value} {od an : Option Addr} {osl : Array (Option Value)} {doc pm cdv ct : Value}
    (l : K.lookup f = some ⟨oc, od, .func (PySem.W.fnOf "renamed" "Stretch.renamed" (defArgs sRenM) (defBody sRenM) (defScope sRenM) .none (.ref D) doc pm an cdv ct), osl⟩) (c : PySem.W.codeIn K cdv "Stretch.renamed" = true)
    (k : PySem.W.keepIn K (.ref f) = true) (d1 : PySem.W.nsIn K D "cells" = some (some .none)) (d2 : PySem.W.nsIn K D "registers" = some (some .none)) : HasR K f :=
  ⟨_, ⟨⟨_, _, _, _, _, _, _, _, _, _, rfl, l, c, .inl ⟨rfl, rfl⟩, .inr ⟨D, rfl, fun q hq => by
    rcases List.mem_cons.mp hq with rfl | hq
    · exact ⟨_, d1, rfl⟩
    · rw [List.mem_singleton.mp hq]
      exact ⟨_, d2, rfl⟩⟩⟩, k⟩⟩
section
variable {K : PySem.W.Frag} {C fI : Addr} {B nI iI : String} {tail : List Value} {nq q : Str} {N : Addr} {bs bm : List Value} {sn : List Str} {sub : List Value} {ab : Bool} {col : Option Bool} {dd : Option Addr} {k0 k1 k2 k3 k5 : Option Value} {x y : Str}
theorem kc_mk3 (Y : BaseX B nI iI tail) (lk : K.lookup C = some (excClassObj nq q C N bs bm true sn sub ab col dd k0 k1 k2 k3 k5 nI)) (rt : refsT tail bm = true) (sa : PySem.W.findIn K (.ref C) "__setattr__" = some (some (.builtin "object.__setattr__")))
    (ex : PySem.W.subIn K (.ref C) (.type "BaseException") = some true) (ty : PySem.W.typeIn K (.ref C) = some (.type "type")) (kp : PySem.W.keepIn K (.ref C) = true) (ic : PySem.W.findIn K (.ref C) "__init__" = some (some (.ref fI)))
    (ti : PySem.W.typeIn K (.ref fI) = some (.type "function")) (hb : tail.contains (.type B) = true) : KCls K C fI B [] :=
  ⟨⟨tail, ⟨⟨⟨_, _, _, _, _, _, _, _, _, _, _, _, _, _, _, _, _, _, Y, lk, rt⟩, sa, ex, ty, kp⟩, ic, ti⟩, hb⟩, fun _ h => (nomatch h)⟩
theorem kc_mk6 {x : Str} (Y : BaseX B nI iI tail) (lk : K.lookup C = some (excClassObj nq q C N bs bm true sn sub ab col dd k0 k1 k2 k3 k5 nI)) (rt : refsT tail bm = true) (sa : PySem.W.findIn K (.ref C) "__setattr__" = some (some (.builtin "object.__setattr__")))
    (ex : PySem.W.subIn K (.ref C) (.type "BaseException") = some true) (ty : PySem.W.typeIn K (.ref C) = some (.type "type")) (kp : PySem.W.keepIn K (.ref C) = true) (ic : PySem.W.findIn K (.ref C) "__init__" = some (some (.ref fI)))
    (ti : PySem.W.typeIn K (.ref fI) = some (.type "function")) (hb : tail.contains (.type B) = true) (hx : PySem.W.findIn K (.ref C) x = some none) : KCls K C fI B [x] :=
  ⟨⟨tail, ⟨⟨⟨_, _, _, _, _, _, _, _, _, _, _, _, _, _, _, _, _, _, Y, lk, rt⟩, sa, ex, ty, kp⟩, ic, ti⟩, hb⟩, fun f h => by
    rw [List.mem_singleton.mp h]
    exact hx⟩
end
theorem hd_mk {K : PySem.W.Frag} {c P : Addr} {o2 : Value} {d2 : Option Addr} {vs : Array Value} {s2 : Array (Option Value)} (h4 : K.lookup c = some ⟨o2, d2, .fields vs, s2⟩) (_h5 : vs[11]? = some (.ref P)) (h : PySem.W.codeHdIn K c P = true) : PySem.W.codeHdIn K c P = true := h
/-- the end with two tables, for a promise that asks for no guards -/
theorem walk6 {l : PySem.W.OpenLaw} {q : Program} {loose : List Str} {XP : (Str → Option Value) → Heap → Prop} {YP : World → Heap → Prop} {d : DefRec} {K : Params → PySem.W.Frag} {ts : List Addr} (hn : l.most = some 63) (hdf : d.params.defaults = []) (hi : importsNone q = true) (hd : d.name = "law")
    (hY : ∀ (w : World) (h : Heap), YP w h → (K w.params).In h) (hTs : ∀ (w : World) (h : Heap), YP w h → ∀ P ∈ ts, h.get? P = some (PySem.W.tabObj #[]))
    (T : ∀ w : World, ∃ c g f0 f9 fS aS C fKe fA fG fN pC fC pR fR fE cr cl dF aW PR PL, PR ∈ ts ∧ PL ∈ ts ∧ PR ≠ PL ∧ (K w.params).lookup PR = none ∧ (K w.params).lookup PL = none ∧ PySem.W.codeHdIn (K w.params) cr PR = true ∧ PySem.W.codeHdIn (K w.params) cl PL = true ∧ Top6 (K w.params) w c g f0 f9 fS aS C fKe fA fG fN pC fC pR fR fE cr cl dF aW) : PySem.W.WalkO q loose XP YP l.row.toRowW d [] (fun f vs => PySem.call f vs) := by
  refine walkGs (n := 63) (k := 24) (x := "_law_script") hn (by decide) hdf hi ⟨rfl, by decide, by decide⟩ hY (fun w mg fa h Y KX G hmg => ?_)
  obtain ⟨c, g, f0, f9, fS, aS, C, fKe, fA, fG, fN, pC, fC, pR, fR, fE, cr, cl, dF, aW, PR, PL, m1, m2, ne, l1, l2, k1, k2, t⟩ := T w
  rw [hd] at hmg
  obtain ⟨gd, hb, hF⟩ := all_mk6 (l := l) KX G hmg t ne
  refine ⟨gd, [(cr, PR), (cl, PL)], spLaw6 (K w.params) [(PR, lamR6), (PL, lamL6)], fun p hp => ?_, fun p hp => ?_, fun p hp => ?_, hb, fun H a ns hl hS hP => ⟨a, ns, rfl, hl, hS, fun p hp => ?_, fun _ => rfl⟩, fun base KB GB hs TBs => hF base KB GB hs (TBs _ (List.mem_cons_self ..)) (TBs _ (List.mem_cons_of_mem _ (List.mem_cons_self ..)))⟩
  · rcases List.mem_cons.mp hp with rfl | hp
    · exact hTs w h Y _ m1
    · rcases List.mem_cons.mp hp with rfl | hp
      · exact hTs w h Y _ m2
      · cases hp
  · rcases List.mem_cons.mp hp with rfl | hp
    · exact l1
    · rcases List.mem_cons.mp hp with rfl | hp
      · exact l2
      · cases hp
  · rcases List.mem_cons.mp hp with rfl | hp
    · exact PySem.W.codeHd_of_K KX k1
    · rcases List.mem_cons.mp hp with rfl | hp
      · exact PySem.W.codeHd_of_K KX k2
      · cases hp
  · rcases List.mem_cons.mp hp with rfl | hp
    · exact TabS.nil (hP _ (List.mem_cons_self ..))
    · rcases List.mem_cons.mp hp with rfl | hp
      · exact TabS.nil (hP _ (List.mem_cons_of_mem _ (List.mem_cons_self ..)))
      · cases hp
theorem top_mk6 {K : PySem.W.Frag} {w : World} {c0 c1 c2 c3 c4 c5 c6 c7 c8 c9 c10 g14 g19 g20 g21 g22 g26 g27 g28 g29 g30 g31 g32 g33 g34 g35 g36 g37 g38 g47 g49 g50 g51 g52 g53 g55 g56 g57 g58 g59 g60 g61 g62 g63 g64 g65 g66 f0 f9 fS aS C fKe fA fG fN pC fC pR fR fE cr cl dF aW : Addr} {t_iMAX_LETTERS t_iMAX_REGISTERS t_iMAX_DEPTH t_iMAX_KEPT t_iMAX_STATEMENTS t_iMAX_CELLS t_iMAX_LETTERS_SENT t_iMAX_SETS t_iMAX_TESTS t_lets : Tok}
    (a_c0 : PySem.W.nsIn K mainGlobals "InvalidValue" = some (some (.ref c0)))
    (a_c1 : PySem.W.nsIn K mainGlobals "InvalidStretch" = some (some (.ref c1)))
    (a_c2 : PySem.W.nsIn K mainGlobals "InvalidProgram" = some (some (.ref c2)))
    (a_c3 : PySem.W.nsIn K mainGlobals "InvalidOperation" = some (some (.ref c3)))
    (a_c4 : PySem.W.nsIn K mainGlobals "ParseError" = some (some (.ref c4)))
    (a_c5 : PySem.W.nsIn K mainGlobals "UnknownName" = some (some (.ref c5)))
    (a_c6 : PySem.W.nsIn K mainGlobals "Unanswered" = some (some (.ref c6)))
    (a_c7 : PySem.W.nsIn K mainGlobals "InvalidNumber" = some (some (.ref c7)))
    (a_c8 : PySem.W.nsIn K mainGlobals "TooMany" = some (some (.ref c8)))
    (a_c9 : PySem.W.nsIn K mainGlobals "NothingToUndo" = some (some (.ref c9)))
    (a_c10 : PySem.W.nsIn K mainGlobals "Refused" = some (some (.ref c10)))
    (a_iMAX_LETTERS : PySem.W.nsIn K mainGlobals "MAX_LETTERS" = some (some (.int 8 t_iMAX_LETTERS)))
    (a_iMAX_REGISTERS : PySem.W.nsIn K mainGlobals "MAX_REGISTERS" = some (some (.int 2 t_iMAX_REGISTERS)))
    (a_iMAX_DEPTH : PySem.W.nsIn K mainGlobals "MAX_DEPTH" = some (some (.int 3 t_iMAX_DEPTH)))
    (a_iMAX_KEPT : PySem.W.nsIn K mainGlobals "MAX_KEPT" = some (some (.int 4 t_iMAX_KEPT)))
    (a_iMAX_STATEMENTS : PySem.W.nsIn K mainGlobals "MAX_STATEMENTS" = some (some (.int 24 t_iMAX_STATEMENTS)))
    (a_iMAX_CELLS : PySem.W.nsIn K mainGlobals "MAX_CELLS" = some (some (.int 4 t_iMAX_CELLS)))
    (a_iMAX_LETTERS_SENT : PySem.W.nsIn K mainGlobals "MAX_LETTERS_SENT" = some (some (.int 6 t_iMAX_LETTERS_SENT)))
    (a_iMAX_SETS : PySem.W.nsIn K mainGlobals "MAX_SETS" = some (some (.int 6 t_iMAX_SETS)))
    (a_iMAX_TESTS : PySem.W.nsIn K mainGlobals "MAX_TESTS" = some (some (.int 3 t_iMAX_TESTS)))
    (a_lets : PySem.W.nsIn K mainGlobals "LETTERS" = some (some (.str alphabet t_lets)))
    (a_words : PySem.W.nsIn K mainGlobals "WORDS" = some (some (.ref aW)))
    (a_wordsT : tupB K aW words6 = true)
    (a_forms : PySem.W.nsIn K mainGlobals "FORMS" = some (some (.ref dF)))
    (a_formsD : He.dicW K dF = some (He.keysIn w.params names8))
    (a_formsS : showB K dF = true)
    (a_formsK : keysB K dF = true)
    (a_formsV : formsB K dF = true)
    (a_stretch : PySem.W.nsIn K mainGlobals "Stretch" = some (some (.ref C)))
    (a_inS : PySem.W.findIn K (.ref C) "__init__" = some (some (.ref fS)))
    (a_k1 : KCls K c1 f0 "ValueError" [])
    (a_k3 : KCls K c3 f0 "ValueError" [])
    (a_k7 : KCls K c7 f9 "RuntimeError" ["value"])
    (a_m0 : HasM K f0)
    (a_h9 : HasFn K "__init__" "InvalidNumber.__init__" sNI f9)
    (a_mS : HasS K fS aS)
    (a_emp : Emp K aS)
    (a_strOk : strB K C fS = true)
    (a_strCk : strC K C = true)
    (a_kpE : PySem.W.findIn K (.ref C) "keeping" = some (some (.ref fKe)))
    (a_kpF : HasFn K "keeping" "Stretch.keeping" sKeeping fKe)
    (a_kpB : methB K fKe = true)
    (a_adE : PySem.W.findIn K (.ref C) "__add__" = some (some (.ref fA)))
    (a_adF : HasFn K "__add__" "Stretch.__add__" sAddM fA)
    (a_adB : methB K fA = true)
    (a_radd : PySem.W.findIn K (.ref C) "__radd__" = some none)
    (a_selfK : PySem.W.selfFirst K C = true)
    (a_addT : addB K C = true)
    (a_giE : PySem.W.findIn K (.ref C) "__getitem__" = some (some (.ref fG)))
    (a_giF : HasFn K "__getitem__" "Stretch.__getitem__" sGetItem fG)
    (a_giB : methB K fG = true)
    (a_giN : PySem.W.fnIn K fG = true)
    (a_rnE : PySem.W.findIn K (.ref C) "renamed" = some (some (.ref fN)))
    (a_rnF : HasR K fN)
    (a_rnB : methB K fN = true)
    (a_ceE : PySem.W.findIn K (.ref C) "cells" = some (some (.ref pC)))
    (a_ceP : PropOf K C "cells" pC fC)
    (a_ceF : HasFn K "cells" "Stretch.cells" sCellsP fC)
    (a_reE : PySem.W.findIn K (.ref C) "registers" = some (some (.ref pR)))
    (a_reP : PropOf K C "registers" pR fR)
    (a_reF : HasFn K "registers" "Stretch.registers" sRegsP fR)
    (a_eqE : PySem.W.findIn K (.ref C) "__eq__" = some (some (.ref fE)))
    (a_eqF : HasFn K "__eq__" "Stretch.__eq__" sEqM fE)
    (a_eqB : methB K fE = true)
    (a_notF : PySem.W.notFirst K C (.ref C) = true)
    (a_kT : decide (PySem.W.kitOne K (.ref C) (.type "tuple") = some false) = true)
    (a_bV : PySem.W.findCls K (.type "ValueError") (.type "type") "__init__" = some (.val (.builtin "ValueError.__init__")))
    (a_bR : PySem.W.findCls K (.type "RuntimeError") (.type "type") "__init__" = some (.val (.builtin "RuntimeError.__init__")))
    (a_kin : kinB K c0 c1 c2 c3 c4 c5 c6 c7 = true)
    (a_xf : xfB K c7 = true)
    (a_xno : PySem.W.findIn K (.ref c7) "value" = some none)
    (a_nn : freeB K = true)
    (a_n26 : PySem.W.nsIn K mainGlobals "is_nested_code" = some (some (.ref g26)))
    (a_h26 : HasN K g26)
    (a_n14 : PySem.W.nsIn K mainGlobals "_copied" = some (some (.ref g14)))
    (a_h14 : HasFn K "_copied" "_copied" (top 14) g14)
    (a_n19 : PySem.W.nsIn K mainGlobals "is_number" = some (some (.ref g19)))
    (a_h19 : HasFn K "is_number" "is_number" (top 19) g19)
    (a_n20 : PySem.W.nsIn K mainGlobals "is_whole" = some (some (.ref g20)))
    (a_h20 : HasFn K "is_whole" "is_whole" (top 20) g20)
    (a_n21 : PySem.W.nsIn K mainGlobals "is_name" = some (some (.ref g21)))
    (a_h21 : HasFn K "is_name" "is_name" (top 21) g21)
    (a_n22 : PySem.W.nsIn K mainGlobals "is_set" = some (some (.ref g22)))
    (a_h22 : HasFn K "is_set" "is_set" (top 22) g22)
    (a_n27 : PySem.W.nsIn K mainGlobals "_is_statement" = some (some (.ref g27)))
    (a_h27 : HasFn K "_is_statement" "_is_statement" (top 27) g27)
    (a_n28 : PySem.W.nsIn K mainGlobals "_fits" = some (some (.ref g28)))
    (a_h28 : HasFn K "_fits" "_fits" (top 28) g28)
    (a_n29 : PySem.W.nsIn K mainGlobals "flattened" = some (some (.ref g29)))
    (a_h29 : HasFn K "flattened" "flattened" (top 29) g29)
    (a_n30 : PySem.W.nsIn K mainGlobals "codes_in" = some (some (.ref g30)))
    (a_h30 : HasFn K "codes_in" "codes_in" (top 30) g30)
    (a_n31 : PySem.W.nsIn K mainGlobals "names_in" = some (some (.ref g31)))
    (a_h31 : HasFn K "names_in" "names_in" (top 31) g31)
    (a_n32 : PySem.W.nsIn K mainGlobals "_names_of" = some (some (.ref g32)))
    (a_h32 : HasFn K "_names_of" "_names_of" (top 32) g32)
    (a_n33 : PySem.W.nsIn K mainGlobals "most_on_path" = some (some (.ref g33)))
    (a_h33 : HasFn K "most_on_path" "most_on_path" (top 33) g33)
    (a_n34 : PySem.W.nsIn K mainGlobals "_most_at" = some (some (.ref g34)))
    (a_h34 : HasFn K "_most_at" "_most_at" (top 34) g34)
    (a_n35 : PySem.W.nsIn K mainGlobals "_path_kind" = some (some (.ref g35)))
    (a_h35 : HasFn K "_path_kind" "_path_kind" (top 35) g35)
    (a_n36 : PySem.W.nsIn K mainGlobals "renamed_code" = some (some (.ref g36)))
    (a_h36 : HasFn K "renamed_code" "renamed_code" (top 36) g36)
    (a_n37 : PySem.W.nsIn K mainGlobals "_renamed_statement" = some (some (.ref g37)))
    (a_h37 : HasFn K "_renamed_statement" "_renamed_statement" (top 37) g37)
    (a_n38 : PySem.W.nsIn K mainGlobals "_renamed_part" = some (some (.ref g38)))
    (a_h38 : HasFn K "_renamed_part" "_renamed_part" (top 38) g38)
    (a_n47 : PySem.W.nsIn K mainGlobals "is_code" = some (some (.ref g47)))
    (a_h47 : HasFn K "is_code" "is_code" (top 47) g47)
    (a_n49 : PySem.W.nsIn K mainGlobals "stretch_of" = some (some (.ref g49)))
    (a_h49 : HasFn K "stretch_of" "stretch_of" (top 49) g49)
    (a_n50 : PySem.W.nsIn K mainGlobals "is_bounded" = some (some (.ref g50)))
    (a_h50 : HasFn K "is_bounded" "is_bounded" (top 50) g50)
    (a_n51 : PySem.W.nsIn K mainGlobals "is_kept" = some (some (.ref g51)))
    (a_h51 : HasFn K "is_kept" "is_kept" (top 51) g51)
    (a_n52 : PySem.W.nsIn K mainGlobals "_new_names" = some (some (.ref g52)))
    (a_h52 : HasFn K "_new_names" "_new_names" (top 52) g52)
    (a_n53 : PySem.W.nsIn K mainGlobals "_is_renaming" = some (some (.ref g53)))
    (a_h53 : HasFn K "_is_renaming" "_is_renaming" (top 53) g53)
    (a_n55 : PySem.W.nsIn K mainGlobals "_law_dice" = some (some (.ref g55)))
    (a_h55 : HasFn K "_law_dice" "_law_dice" (top 55) g55)
    (a_n56 : PySem.W.nsIn K mainGlobals "_law_roll" = some (some (.ref g56)))
    (a_h56 : HasFn K "_law_roll" "_law_roll" (top 56) g56)
    (a_n57 : PySem.W.nsIn K mainGlobals "_law_one_of" = some (some (.ref g57)))
    (a_h57 : HasFn K "_law_one_of" "_law_one_of" (top 57) g57)
    (a_n58 : PySem.W.nsIn K mainGlobals "_law_mixed" = some (some (.ref g58)))
    (a_h58 : HasFn K "_law_mixed" "_law_mixed" (top 58) g58)
    (a_n59 : PySem.W.nsIn K mainGlobals "_law_statement" = some (some (.ref g59)))
    (a_h59 : HasFn K "_law_statement" "_law_statement" (top 59) g59)
    (a_n60 : PySem.W.nsIn K mainGlobals "_law_code" = some (some (.ref g60)))
    (a_h60 : HasFn K "_law_code" "_law_code" (top 60) g60)
    (a_n61 : PySem.W.nsIn K mainGlobals "_law_stretch" = some (some (.ref g61)))
    (a_h61 : HasFn K "_law_stretch" "_law_stretch" (top 61) g61)
    (a_n62 : PySem.W.nsIn K mainGlobals "_law_met" = some (some (.ref g62)))
    (a_h62 : HasFn K "_law_met" "_law_met" (top 62) g62)
    (a_n63 : PySem.W.nsIn K mainGlobals "_law_bad_keeps" = some (some (.ref g63)))
    (a_h63 : HasFn K "_law_bad_keeps" "_law_bad_keeps" (top 63) g63)
    (a_n64 : PySem.W.nsIn K mainGlobals "_law_bad_names" = some (some (.ref g64)))
    (a_h64 : HasFn K "_law_bad_names" "_law_bad_names" (top 64) g64)
    (a_n65 : PySem.W.nsIn K mainGlobals "_law_right" = some (some (.ref g65)))
    (a_h65 : HasFnC K "_law_right" "_law_right" (top 65) g65 cr)
    (a_n66 : PySem.W.nsIn K mainGlobals "law" = some (some (.ref g66)))
    (a_h66 : HasFnC K "law" "law" (top 66) g66 cl) :
    Top6 K w (fun i => [c0, c1, c2, c3, c4, c5, c6, c7, c8, c9, c10].getD i 0) (fun i => [0, 0, 0, 0, 0, 0, 0, 0, 0, 0, 0, 0, 0, 0, g14, 0, 0, 0, 0, g19, g20, g21, g22, 0, 0, 0, g26, g27, g28, g29, g30, g31, g32, g33, g34, g35, g36, g37, g38, 0, 0, 0, 0, 0, 0, 0, 0, g47, 0, g49, g50, g51, g52, g53, 0, g55, g56, g57, g58, g59, g60, g61, g62, g63, g64, g65, g66].getD i 0) f0 f9 fS aS C fKe fA fG fN pC fC pR fR fE cr cl dF aW where
  c0 := a_c0
  c1 := a_c1
  c2 := a_c2
  c3 := a_c3
  c4 := a_c4
  c5 := a_c5
  c6 := a_c6
  c7 := a_c7
  c8 := a_c8
  c9 := a_c9
  c10 := a_c10
  iMAX_LETTERS := ⟨_, a_iMAX_LETTERS⟩
  iMAX_REGISTERS := ⟨_, a_iMAX_REGISTERS⟩
  iMAX_DEPTH := ⟨_, a_iMAX_DEPTH⟩
  iMAX_KEPT := ⟨_, a_iMAX_KEPT⟩
  iMAX_STATEMENTS := ⟨_, a_iMAX_STATEMENTS⟩
  iMAX_CELLS := ⟨_, a_iMAX_CELLS⟩
  iMAX_LETTERS_SENT := ⟨_, a_iMAX_LETTERS_SENT⟩
  iMAX_SETS := ⟨_, a_iMAX_SETS⟩
  iMAX_TESTS := ⟨_, a_iMAX_TESTS⟩
  lets := ⟨_, a_lets⟩
  words := a_words
  wordsT := a_wordsT
  forms := a_forms
  formsD := a_formsD
  formsS := a_formsS
  formsK := a_formsK
  formsV := a_formsV
  stretch := a_stretch
  inS := a_inS
  k1 := a_k1
  k3 := a_k3
  k7 := a_k7
  m0 := a_m0
  h9 := a_h9
  mS := a_mS
  emp := a_emp
  strOk := a_strOk
  strCk := a_strCk
  kpE := a_kpE
  kpF := a_kpF
  kpB := a_kpB
  adE := a_adE
  adF := a_adF
  adB := a_adB
  radd := a_radd
  selfK := a_selfK
  addT := a_addT
  giE := a_giE
  giF := a_giF
  giB := a_giB
  giN := a_giN
  rnE := a_rnE
  rnF := a_rnF
  rnB := a_rnB
  ceE := a_ceE
  ceP := a_ceP
  ceF := a_ceF
  reE := a_reE
  reP := a_reP
  reF := a_reF
  eqE := a_eqE
  eqF := a_eqF
  eqB := a_eqB
  notF := a_notF
  kT := a_kT
  bV := a_bV
  bR := a_bR
  kin := a_kin
  xf := a_xf
  xno := a_xno
  nn := a_nn
  n26 := a_n26
  h26 := a_h26
  n14 := a_n14
  h14 := a_h14
  n19 := a_n19
  h19 := a_h19
  n20 := a_n20
  h20 := a_h20
  n21 := a_n21
  h21 := a_h21
  n22 := a_n22
  h22 := a_h22
  n27 := a_n27
  h27 := a_h27
  n28 := a_n28
  h28 := a_h28
  n29 := a_n29
  h29 := a_h29
  n30 := a_n30
  h30 := a_h30
  n31 := a_n31
  h31 := a_h31
  n32 := a_n32
  h32 := a_h32
  n33 := a_n33
  h33 := a_h33
  n34 := a_n34
  h34 := a_h34
  n35 := a_n35
  h35 := a_h35
  n36 := a_n36
  h36 := a_h36
  n37 := a_n37
  h37 := a_h37
  n38 := a_n38
  h38 := a_h38
  n47 := a_n47
  h47 := a_h47
  n49 := a_n49
  h49 := a_h49
  n50 := a_n50
  h50 := a_h50
  n51 := a_n51
  h51 := a_h51
  n52 := a_n52
  h52 := a_h52
  n53 := a_n53
  h53 := a_h53
  n55 := a_n55
  h55 := a_h55
  n56 := a_n56
  h56 := a_h56
  n57 := a_n57
  h57 := a_h57
  n58 := a_n58
  h58 := a_h58
  n59 := a_n59
  h59 := a_h59
  n60 := a_n60
  h60 := a_h60
  n61 := a_n61
  h61 := a_h61
  n62 := a_n62
  h62 := a_h62
  n63 := a_n63
  h63 := a_h63
  n64 := a_n64
  h64 := a_h64
  n65 := a_n65
  h65 := a_h65
  n66 := a_n66
  h66 := a_h66
end OM

open PySem PySem.W PyProof.Rows OM in
set_option maxRecDepth 100000 in
set_option maxHeartbeats 0 in
theorem PySem.Challenge.cw_orderlymoves_k06_errors_of_stretches_holds : PySem.Challenge.rw_orderlymoves_k06_errors_of_stretches.Holds := by
  w_on; o_law; k_head; (case hw => w_witness2)
  k_fill
  refine OM.walk6 (l := PySem.Challenge.rw_orderlymoves_k06_errors_of_stretches) rfl rfl rfl rfl (fun w h Y => PySem.W.km_in_of Y) (fun w h Y => PySem.W.km_tabs_of Y) ?T
  case T =>
    intro w
    refine' ⟨_, _, _, _, _, _, _, _, _, _, _, _, _, _, _, _, _, _, _, _, _, _, ?m1, ?m2, ?ne, ?l1, ?l2, ?k1, ?k2, OM.top_mk6 ?a_c0 ?a_c1 ?a_c2 ?a_c3 ?a_c4 ?a_c5 ?a_c6 ?a_c7 ?a_c8 ?a_c9 ?a_c10 ?a_iMAX_LETTERS ?a_iMAX_REGISTERS ?a_iMAX_DEPTH ?a_iMAX_KEPT ?a_iMAX_STATEMENTS ?a_iMAX_CELLS ?a_iMAX_LETTERS_SENT ?a_iMAX_SETS ?a_iMAX_TESTS ?a_lets ?a_words ?a_wordsT ?a_forms ?a_formsD ?a_formsS ?a_formsK ?a_formsV ?a_stretch ?a_inS ?a_k1 ?a_k3 ?a_k7 ?a_m0 ?a_h9 ?a_mS ?a_emp ?a_strOk ?a_strCk ?a_kpE ?a_kpF ?a_kpB ?a_adE ?a_adF ?a_adB ?a_radd ?a_selfK ?a_addT ?a_giE ?a_giF ?a_giB ?a_giN ?a_rnE ?a_rnF ?a_rnB ?a_ceE ?a_ceP ?a_ceF ?a_reE ?a_reP ?a_reF ?a_eqE ?a_eqF ?a_eqB ?a_notF ?a_kT ?a_bV ?a_bR ?a_kin ?a_xf ?a_xno ?a_nn ?a_n26 ?a_h26 ?a_n14 ?a_h14 ?a_n19 ?a_h19 ?a_n20 ?a_h20 ?a_n21 ?a_h21 ?a_n22 ?a_h22 ?a_n27 ?a_h27 ?a_n28 ?a_h28 ?a_n29 ?a_h29 ?a_n30 ?a_h30 ?a_n31 ?a_h31 ?a_n32 ?a_h32 ?a_n33 ?a_h33 ?a_n34 ?a_h34 ?a_n35 ?a_h35 ?a_n36 ?a_h36 ?a_n37 ?a_h37 ?a_n38 ?a_h38 ?a_n47 ?a_h47 ?a_n49 ?a_h49 ?a_n50 ?a_h50 ?a_n51 ?a_h51 ?a_n52 ?a_h52 ?a_n53 ?a_h53 ?a_n55 ?a_h55 ?a_n56 ?a_h56 ?a_n57 ?a_h57 ?a_n58 ?a_h58 ?a_n59 ?a_h59 ?a_n60 ?a_h60 ?a_n61 ?a_h61 ?a_n62 ?a_h62 ?a_n63 ?a_h63 ?a_n64 ?a_h64 ?a_n65 ?a_h65 ?a_n66 ?a_h66⟩
    (case a_c0 => (k_is))
    (case a_c1 => (k_is))
    (case a_c2 => (k_is))
    (case a_c3 => (k_is))
    (case a_c4 => (k_is))
    (case a_c5 => (k_is))
    (case a_c6 => (k_is))
    (case a_c7 => (k_is))
    (case a_c8 => (k_is))
    (case a_c9 => (k_is))
    (case a_c10 => (k_is))
    (case a_iMAX_LETTERS => (k_is))
    (case a_iMAX_REGISTERS => (k_is))
    (case a_iMAX_DEPTH => (k_is))
    (case a_iMAX_KEPT => (k_is))
    (case a_iMAX_STATEMENTS => (k_is))
    (case a_iMAX_CELLS => (k_is))
    (case a_iMAX_LETTERS_SENT => (k_is))
    (case a_iMAX_SETS => (k_is))
    (case a_iMAX_TESTS => (k_is))
    (case a_lets => (k_is))
    (case a_words => (k_is))
    (case a_wordsT => (kernel_rfl))
    (case a_forms => (k_is))
    (case a_formsD => (kernel_rfl))
    (case a_formsS => (kernel_rfl))
    (case a_formsK => (kernel_rfl))
    (case a_formsV => (kernel_rfl))
    (case a_stretch => (k_is))
    (case a_inS => (k_is))
    (case a_k1 => (apply OM.kc_mk3 OM.base_VE; k_is; kernel_rfl; k_is; k_is; k_is; k_is; k_is; k_is; decide +kernel))
    (case a_k3 => (apply OM.kc_mk3 OM.base_VE; k_is; kernel_rfl; k_is; k_is; k_is; k_is; k_is; k_is; decide +kernel))
    (case a_k7 => (apply OM.kc_mk6 OM.base_RE; k_is; kernel_rfl; k_is; k_is; k_is; k_is; k_is; k_is; decide +kernel; k_is))
    (case a_m0 => (apply OM.m_mk3; k_is; k_is; k_is; k_is))
    (case a_h9 => (apply OM.fn_mk3; k_is; k_is; k_is))
    (case a_mS => (apply OM.s_mk5; k_is; k_is; k_is; k_is))
    (case a_emp => (apply OM.emp_mk; k_is))
    (case a_strOk => (kernel_rfl))
    (case a_strCk => (kernel_rfl))
    (case a_kpE => (k_is))
    (case a_kpF => (apply OM.fn_mk3; k_is; k_is; k_is))
    (case a_kpB => (kernel_rfl))
    (case a_adE => (k_is))
    (case a_adF => (apply OM.fn_mk3; k_is; k_is; k_is))
    (case a_adB => (kernel_rfl))
    (case a_radd => (k_is))
    (case a_selfK => (kernel_rfl))
    (case a_addT => (kernel_rfl))
    (case a_giE => (k_is))
    (case a_giF => (apply OM.fn_mk3; k_is; k_is; k_is))
    (case a_giB => (kernel_rfl))
    (case a_giN => (kernel_rfl))
    (case a_rnE => (k_is))
    (case a_rnF => (apply OM.r_mk6; k_is; k_is; k_is; k_is; k_is))
    (case a_rnB => (kernel_rfl))
    (case a_ceE => (k_is))
    (case a_ceP => (apply OM.prop_mk; k_is; k_is; rfl; kernel_rfl; kernel_rfl))
    (case a_ceF => (apply OM.fn_mk3; k_is; k_is; k_is))
    (case a_reE => (k_is))
    (case a_reP => (apply OM.prop_mk; k_is; k_is; rfl; kernel_rfl; kernel_rfl))
    (case a_reF => (apply OM.fn_mk3; k_is; k_is; k_is))
    (case a_eqE => (k_is))
    (case a_eqF => (apply OM.fn_mk3; k_is; k_is; k_is))
    (case a_eqB => (kernel_rfl))
    (case a_notF => (kernel_rfl))
    (case a_kT => (kernel_rfl))
    (case a_bV => (k_is))
    (case a_bR => (k_is))
    (case a_kin => (kernel_rfl))
    (case a_xf => (kernel_rfl))
    (case a_xno => (k_is))
    (case a_nn => (kernel_rfl))
    (case a_n26 => (k_is))
    (case a_h26 => (apply OM.n_mk3; k_is; k_is; k_is; k_is))
    (case a_n14 => (k_is))
    (case a_h14 => (apply OM.fn_mk3; k_is; k_is; k_is))
    (case a_n19 => (k_is))
    (case a_h19 => (apply OM.fn_mk3; k_is; k_is; k_is))
    (case a_n20 => (k_is))
    (case a_h20 => (apply OM.fn_mk3; k_is; k_is; k_is))
    (case a_n21 => (k_is))
    (case a_h21 => (apply OM.fn_mk3; k_is; k_is; k_is))
    (case a_n22 => (k_is))
    (case a_h22 => (apply OM.fn_mk3; k_is; k_is; k_is))
    (case a_n27 => (k_is))
    (case a_h27 => (apply OM.fn_mk3; k_is; k_is; k_is))
    (case a_n28 => (k_is))
    (case a_h28 => (apply OM.fn_mk3; k_is; k_is; k_is))
    (case a_n29 => (k_is))
    (case a_h29 => (apply OM.fn_mk3; k_is; k_is; k_is))
    (case a_n30 => (k_is))
    (case a_h30 => (apply OM.fn_mk3; k_is; k_is; k_is))
    (case a_n31 => (k_is))
    (case a_h31 => (apply OM.fn_mk3; k_is; k_is; k_is))
    (case a_n32 => (k_is))
    (case a_h32 => (apply OM.fn_mk3; k_is; k_is; k_is))
    (case a_n33 => (k_is))
    (case a_h33 => (apply OM.fn_mk3; k_is; k_is; k_is))
    (case a_n34 => (k_is))
    (case a_h34 => (apply OM.fn_mk3; k_is; k_is; k_is))
    (case a_n35 => (k_is))
    (case a_h35 => (apply OM.fn_mk3; k_is; k_is; k_is))
    (case a_n36 => (k_is))
    (case a_h36 => (apply OM.fn_mk3; k_is; k_is; k_is))
    (case a_n37 => (k_is))
    (case a_h37 => (apply OM.fn_mk3; k_is; k_is; k_is))
    (case a_n38 => (k_is))
    (case a_h38 => (apply OM.fn_mk3; k_is; k_is; k_is))
    (case a_n47 => (k_is))
    (case a_h47 => (apply OM.fn_mk3; k_is; k_is; k_is))
    (case a_n49 => (k_is))
    (case a_h49 => (apply OM.fn_mk3; k_is; k_is; k_is))
    (case a_n50 => (k_is))
    (case a_h50 => (apply OM.fn_mk3; k_is; k_is; k_is))
    (case a_n51 => (k_is))
    (case a_h51 => (apply OM.fn_mk3; k_is; k_is; k_is))
    (case a_n52 => (k_is))
    (case a_h52 => (apply OM.fn_mk3; k_is; k_is; k_is))
    (case a_n53 => (k_is))
    (case a_h53 => (apply OM.fn_mk3; k_is; k_is; k_is))
    (case a_n55 => (k_is))
    (case a_h55 => (apply OM.fn_mk3; k_is; k_is; k_is))
    (case a_n56 => (k_is))
    (case a_h56 => (apply OM.fn_mk3; k_is; k_is; k_is))
    (case a_n57 => (k_is))
    (case a_h57 => (apply OM.fn_mk3; k_is; k_is; k_is))
    (case a_n58 => (k_is))
    (case a_h58 => (apply OM.fn_mk3; k_is; k_is; k_is))
    (case a_n59 => (k_is))
    (case a_h59 => (apply OM.fn_mk3; k_is; k_is; k_is))
    (case a_n60 => (k_is))
    (case a_h60 => (apply OM.fn_mk3; k_is; k_is; k_is))
    (case a_n61 => (k_is))
    (case a_h61 => (apply OM.fn_mk3; k_is; k_is; k_is))
    (case a_n62 => (k_is))
    (case a_h62 => (apply OM.fn_mk3; k_is; k_is; k_is))
    (case a_n63 => (k_is))
    (case a_h63 => (apply OM.fn_mk3; k_is; k_is; k_is))
    (case a_n64 => (k_is))
    (case a_h64 => (apply OM.fn_mk3; k_is; k_is; k_is))
    (case a_n65 => (k_is))
    (case a_h65 => (apply OM.fc_mk3; k_is; k_is; k_is))
    (case a_n66 => (k_is))
    (case a_h66 => (apply OM.fc_mk3; k_is; k_is; k_is))
    (case k1 => (apply OM.hd_mk; k_is; rfl; kernel_rfl))
    (case k2 => (apply OM.hd_mk; k_is; rfl; kernel_rfl))
    (case m1 => (decide +kernel))
    (case m2 => (decide +kernel))
    (case ne => (decide))
    (case l1 => (kernel_rfl))
    (case l2 => (kernel_rfl))
