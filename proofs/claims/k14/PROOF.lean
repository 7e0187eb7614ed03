import PyProof.Rows.All
import Wide.All
import OpenK.AllK
import Wide.FinOn
import HandS.ForMost
import HandS.Exc
import HandS.ExcInit
import HandS.IsInst
import HandS.ExcIs
import HandS.ExcField
import HandS.TryMany
import HandS.Wide
import HandS.Comp
import HandS.DictComp
import HandS.Iter
import HandS.Dict
import HandS.Text
import HandS.Codes
import HandS.Zip
import HandS.TupAny
import HandS.More
import HandS.Defaults
import PyProof.NeKinds
import HandS.Set
import HandS.Base
import HandS.Call
import HandS.List
import HandS.SetBool
import HandS.Sort
import PyProof.Rows.SortShellAny
import HandS.TupSets
import HandS.SetFor
import HandS.Strs
import HandS.SortKw
import KE.DatumOrd
import HandS.WordsExc
import HandS.Ends
import HandS.Lambda
import HandS.Property
import HandS.OwnEq
import PyProof.InstNe
import HandS.FStr
import HandS.Style
import KE.KRevSl
import KE.GoesMore
import HandS.HeadHook3
import HandS.HeadNt
import KE.KStateDown
import HandS.Head0
import HandS.Head1
import HandS.Head2
import PySem.Challenge.RW_orderlymoves_k14_whole_covered_places_an
set_option Elab.async false
set_option linter.all false
set_option maxRecDepth 100000
set_option maxHeartbeats 4000000
namespace OM
open PySem
/-- what is asked of a built-in class's own __init__ -/
structure InitF (B initId : String) : Prop where
  init : Slot B "__init__" initId
  initEntry : entryFor table initId = some Builtin.«BaseException.__init__»
  initSplit : splitId initId = some (B, "__init__")
  initKind : builtinKind initId = some .slot
  initRow : Manifest.signature? initId = some ⟨.positional, "*", B, .self, [⟨"args", .varPos, false⟩]⟩
  noStar : (B != "*") = true
theorem InitF.of {B n i : String} (F : ExcCallFacts B n i) : InitF B i := ⟨F.init, F.initEntry, F.initSplit, F.initKind, F.initRow, F.noStar⟩
theorem initF_KE : InitF "KeyError" "KeyError.__init__" where
  init := .of (owner := "KeyError") (n := "__init__") (by rw [typeLookup_type, builtinLookup_eq_fast]; kernel_rfl) (by decide +kernel) (by decide +kernel) (by decide +kernel)
    (by first | exact .inl (by decide +kernel) | exact .inr (by decide +kernel)) (by rw [isSubtype_type]; kernel_rfl)
  initEntry := entryFor_alias (id' := "BaseException.__init__") (by rw [fastTable_eq_tree]; kernel_rfl) (by first | rfl | decide +kernel) (by decide +kernel) (by rw [fastTable_eq_tree]; kernel_rfl)
  initSplit := by kernel_rfl
  initKind := by kernel_rfl
  initRow := by kernel_rfl
  noStar := by decide +kernel

/-- own classes, then a built-in chain -/
def refsT (tail : List Value) : List Value → Bool
  | .ref _ :: r => refsT tail r
  | l => l == tail
structure BaseX (B newId initId : String) (tail : List Value) : Prop where
  F : ∃ Bn inN bmN, ExcBaseFacts Bn newId inN bmN ∧ tail.contains (.type Bn) = true
  I : InitF B initId
  hasB : tail.contains (.type B) = true
  noAttr : tail.contains (.type "AttributeError") = false
  noName : tail.contains (.type "NameError") = false
  pass : ∀ self : Value, refuseLoop self "__setattr__" tail = pure ()
  obj : tail.contains (.type "object") = true
  ne : tail.isEmpty = false
  ty : typeOf (.type B) = pure (.type "type")
  stub : Manifest.isStub B = false
theorem base_VE : BaseX "ValueError" "ValueError.__new__" "ValueError.__init__" [.type "ValueError", .type "Exception", .type "BaseException", .type "object"] :=
  ⟨⟨_, _, _, F.excBase_ValueError, by decide +kernel⟩, .of F.excBase_ValueError.toExcCallFacts, by decide +kernel, by decide +kernel, by decide +kernel, fun self => by kernel_rfl, by decide +kernel, rfl, by kernel_rfl, by decide +kernel⟩
theorem base_LE : BaseX "LookupError" "LookupError.__new__" "LookupError.__init__" [.type "LookupError", .type "Exception", .type "BaseException", .type "object"] :=
  ⟨⟨_, _, _, F.excBase_LookupError, by decide +kernel⟩, .of F.excBase_LookupError.toExcCallFacts, by decide +kernel, by decide +kernel, by decide +kernel, fun self => by kernel_rfl, by decide +kernel, rfl, by kernel_rfl, by decide +kernel⟩
theorem base_RE : BaseX "RuntimeError" "RuntimeError.__new__" "RuntimeError.__init__" [.type "RuntimeError", .type "Exception", .type "BaseException", .type "object"] :=
  ⟨⟨_, _, _, F.excBase_RuntimeError, by decide +kernel⟩, .of F.excBase_RuntimeError.toExcCallFacts, by decide +kernel, by decide +kernel, by decide +kernel, fun self => by kernel_rfl, by decide +kernel, rfl, by kernel_rfl, by decide +kernel⟩
theorem base_OE : BaseX "OverflowError" "OverflowError.__new__" "OverflowError.__init__" [.type "OverflowError", .type "ArithmeticError", .type "Exception", .type "BaseException", .type "object"] :=
  ⟨⟨_, _, _, F.excBase_OverflowError, by decide +kernel⟩, .of F.excBase_OverflowError.toExcCallFacts, by decide +kernel, by decide +kernel, by decide +kernel, fun self => by kernel_rfl, by decide +kernel, rfl, by kernel_rfl, by decide +kernel⟩
theorem base_IE : BaseX "IndexError" "IndexError.__new__" "IndexError.__init__" [.type "IndexError", .type "LookupError", .type "Exception", .type "BaseException", .type "object"] :=
  ⟨⟨_, _, _, F.excBase_IndexError, by decide +kernel⟩, .of F.excBase_IndexError.toExcCallFacts, by decide +kernel, by decide +kernel, by decide +kernel, fun self => by kernel_rfl, by decide +kernel, rfl, by kernel_rfl, by decide +kernel⟩
theorem base_AE : BaseX "ArithmeticError" "ArithmeticError.__new__" "ArithmeticError.__init__" [.type "ArithmeticError", .type "Exception", .type "BaseException", .type "object"] :=
  ⟨⟨_, _, _, F.excBase_ArithmeticError, by decide +kernel⟩, .of F.excBase_ArithmeticError.toExcCallFacts, by decide +kernel, by decide +kernel, by decide +kernel, fun self => by kernel_rfl, by decide +kernel, rfl, by kernel_rfl, by decide +kernel⟩
theorem base_KE : BaseX "KeyError" "LookupError.__new__" "KeyError.__init__" [.type "KeyError", .type "LookupError", .type "Exception", .type "BaseException", .type "object"] :=
  ⟨⟨_, _, _, F.excBase_LookupError, by decide +kernel⟩, initF_KE, by decide +kernel, by decide +kernel, by decide +kernel, fun self => by kernel_rfl, by decide +kernel, rfl, by kernel_rfl, by decide +kernel⟩
theorem refsT_cases {tail : List Value} : ∀ l : List Value, refsT tail l = true → (∃ c r, l = .ref c :: r ∧ refsT tail r = true) ∨ l = tail
  | [], e => .inr (beq_iff_eq.mp e)
  | .ref c :: r, e => .inl ⟨c, r, rfl, e⟩
  | .none :: _, e => .inr (beq_iff_eq.mp e)
  | .ellipsis :: _, e => .inr (beq_iff_eq.mp e)
  | .notImplemented :: _, e => .inr (beq_iff_eq.mp e)
  | .bool _ :: _, e => .inr (beq_iff_eq.mp e)
  | .int _ _ :: _, e => .inr (beq_iff_eq.mp e)
  | .float _ _ :: _, e => .inr (beq_iff_eq.mp e)
  | .str _ _ :: _, e => .inr (beq_iff_eq.mp e)
  | .bytes _ _ :: _, e => .inr (beq_iff_eq.mp e)
  | .type _ :: _, e => .inr (beq_iff_eq.mp e)
  | .builtin _ :: _, e => .inr (beq_iff_eq.mp e)
theorem refsT_pass {tail : List Value} {self : Value} (hp : refuseLoop self "__setattr__" tail = pure ()) : ∀ l : List Value, refsT tail l = true → refuseLoop self "__setattr__" l = pure () := by
  intro l
  induction l with
  | nil =>
    intro e
    rcases refsT_cases [] e with ⟨c, r', q, h⟩ | q
    · cases q
    · rw [q]; exact hp
  | cons a r ih =>
    intro e
    rcases refsT_cases (a :: r) e with ⟨c, r', q, h⟩ | q
    · obtain ⟨rfl, rfl⟩ := List.cons.inj q
      rw [refuseLoop_ref]; exact ih h
    · rw [q]; exact hp
theorem refsT_contains {tail : List Value} (X : String) : ∀ l : List Value, refsT tail l = true → l.contains (.type X) = tail.contains (.type X) := by
  intro l
  induction l with
  | nil =>
    intro e
    rcases refsT_cases [] e with ⟨c, r', q, h⟩ | q
    · cases q
    · rw [q]
  | cons a r ih =>
    intro e
    rcases refsT_cases (a :: r) e with ⟨c, r', q, h⟩ | q
    · obtain ⟨rfl, rfl⟩ := List.cons.inj q
      rw [List.contains_cons, ih h]; rfl
    · rw [q]
theorem refsT_ne {tail : List Value} (hn : tail.isEmpty = false) {l : List Value} (e : refsT tail l = true) : l.isEmpty = false := by
  rcases refsT_cases l e with ⟨c, r', q, h⟩ | q
  · rw [q]; rfl
  · rw [q]; exact hn

open PySem.HandSPX Builtin Builtin.ObjectAttr
section
variable {M : Model} {A : Around} {E : Value → Shared → Prop} {h : Heap} {g : Array GenState} {d : Drawn} {t : Nat} {os : OsState}
variable {nm q : Str} {C N : Addr} {bs bm bmB tail : List Value} {hdct : Bool} {sn : List Str} {sub : List Value} {ab : Bool} {col : Option Bool} {dd : Option Addr} {k0 k1 k2 k3 k5 : Option Value} {B newId initId : String}
theorem check_newX {Bn inN : String} {bmN : List Value} (F : ExcBaseFacts Bn newId inN bmN) (hB : bm.contains (.type Bn) = true) {rest : List Value} {Q : Unit → Shared → Prop}
    (hC : h.get? C = some (excClassObj nm q C N bs bm hdct sn sub ab col dd k0 k1 k2 k3 k5 newId)) (hq : Q () ⟨h, g, d, t, os⟩) : wpAny M A (checkBuiltinCall newId ⟨.ref C :: rest, []⟩) Q E ⟨h, g, d, t, os⟩ := by
  have hcont : (Value.ref C :: bm).contains (.type Bn) = true := by rw [List.contains_cons, hB, Bool.or_true]
  have hstar := F.noStar
  simp only [checkBuiltinCall, F.newKind, F.newSplit, F.newRow]
  repeat (first | refine wpAny_loadPart_at hC ?_ | (refine wpAny_isSubtype_exc hC ?_; rw [hcont]) | refine wpAny_staticBase_exc hC ?_ | refine wpAny_madeBy_exc hC ?_ | simp only [bne_self_eq_false, Bool.false_eq_true, if_false] | wp_step)
  exact hq
theorem check_initX (F : InitF B initId) (hB : bm.contains (.type B) = true) {e : Addr} {oe : Obj} {rest : List Value} {Q : Unit → Shared → Prop}
    (hC : h.get? C = some (excClassObj nm q C N bs bm hdct sn sub ab col dd k0 k1 k2 k3 k5 newId)) (he : h.get? e = some oe) (hcls : oe.cls = .ref C) (hq : Q () ⟨h, g, d, t, os⟩) :
    wpAny M A (checkBuiltinCall initId ⟨.ref e :: rest, []⟩) Q E ⟨h, g, d, t, os⟩ := by
  have hcB : (Value.ref C :: bm).contains (.type B) = true := by rw [List.contains_cons, hB, Bool.or_true]
  have hshort := F.noStar
  simp only [checkBuiltinCall, F.initKind, F.initSplit, F.initRow]
  repeat (first | (with_reducible refine wpAny_loadPart_at he ?_; rw [hcls]) | with_reducible refine wpAny_loadPart_at hC ?_ | (with_reducible refine wpAny_isSubtype_exc hC ?_; rw [hcB]) | wp_step)
  refine wpAny_onRaise ?_
  rw [show ∀ (a b : String) (n : Nat), Bind.check ⟨.positional, "*", B, .self, [⟨"args", .varPos, false⟩]⟩ a b n (List.map (fun x => x.fst) ({ pos := Value.ref e :: rest } : Args).kw) = pure () from
    fun a b n => check_star_args _ _ _ _ _ _]
  exact wpAny_pure hq
end
section
variable {prog : Program} {w : World} {A : Around} {E : Value → Shared → Prop} {R : Result → Shared → Prop} {h : Heap} {g : Array GenState} {d : Drawn} {t : Nat} {os : OsState}
variable {nm q : Str} {C N : Addr} {bs bm tail : List Value} {hdct : Bool} {sn : List Str} {sub : List Value} {ab : Bool} {col : Option Bool} {dd : Option Addr} {k0 k1 k2 k3 k5 : Option Value} {B newId initId : String}
theorem newX (X : BaseX B newId initId tail) (hm : refsT tail bm = true) {rest : List Value}
    (hC : h.get? C = some (excClassObj nm q C N bs bm hdct sn sub ab col dd k0 k1 k2 k3 k5 newId))
    (hq : R (.ok (.ret (.ref (h.objs.size + 1)))) ⟨(h.push { cls := .type "tuple", data := .seq rest.toArray }).push
      { cls := .ref C, data := .fields #[.ref h.objs.size, .none, .none, .none, .bool false, .none] }, g, d, t, os⟩) (hrest : rest.length ≤ sizeLine) :
    codeAny (model prog w) A (.builtin newId ⟨.ref C :: rest, []⟩) R ⟨h, g, d, t, os⟩ := by
  obtain ⟨Bn, inN, bmN, F, hBn⟩ := X.F
  have hends := F.ends
  have hcB : (Value.ref C :: bm).contains (.type Bn) = true := by rw [List.contains_cons, refsT_contains _ _ hm, hBn, Bool.or_true]
  have hcA : (Value.ref C :: bm).contains (.type "AttributeError") = false := by rw [List.contains_cons, refsT_contains _ _ hm, X.noAttr]; rfl
  have hcN : (Value.ref C :: bm).contains (.type "NameError") = false := by rw [List.contains_cons, refsT_contains _ _ hm, X.noName]; rfl
  refine codeAny_builtinAt F.entry ?_
  unfold Builtin.«BaseException.__new__»
  refine wpAt_bind ?_
  show wpAt _ _ _ (stack >>= _) _ _ _
  refine wpAt_bind (wpAt_stack fun p below => wpAt_of_wpAny ?_)
  wp_walk
  refine wpAt_of_wpAny ?_
  rw [F.owner]
  repeat (first | with_reducible refine wpAny_madeHere_exc F.canon hC ?_ | with_reducible refine wpAny_loadPart_at hC ?_ | (with_reducible refine wpAny_isSubtype_exc hC ?_; first | rw [hcB] | rw [hcA] | rw [hcN]) | wp_step)
  show R _ _
  rw [Heap.size_push]
  exact hq
theorem type_callX (X : BaseX B newId initId tail) (hm : refsT tail bm = true) {rest : List Value} {fI : Addr} {Q : Fin → Shared → Prop}
    (hC : h.get? C = some (excClassObj nm q C N bs bm hdct sn sub ab col dd k0 k1 k2 k3 k5 newId))
    (hi : W.Looks (model prog w) h (typeLookup (.ref C) "__init__") (some (.ref fI))) (hb : ∀ self, W.Looks (model prog w) h (bindSpecial (.ref fI) self) (.ref fI, [self])) (hrest : rest.length ≤ sizeLine)
    (hq : codeAny (model prog w) A (.call (.ref fI) ⟨.ref (h.objs.size + 1) :: rest, []⟩)
      (fun r s' => match r with | .ok (.ret v) => v = .none ∧ Q (.done (.ret (.ref (h.objs.size + 1)))) s' | .ok _ => False | .error e => E e s')
      ⟨(h.push (W.kdv_tup rest)).push (excO C h.objs.size), g, d, t, os⟩) :
    wpAny (model prog w) A (Builtin.«type.__call__» ⟨.ref C :: rest, []⟩) Q E ⟨h, g, d, t, os⟩ := by
  obtain ⟨Bn, inN, bmN, F, hBn⟩ := X.F
  repeat (first | with_reducible refine wpAny_loadPart_at hC ?_ | with_reducible refine wpAny_madeBy_exc hC ?_ | wp_step)
  refine codeAny_call_builtin_code (Code.quiet_builtin _ F.quiet) (check_newX F (by rw [refsT_contains _ _ hm, hBn]) hC ?_)
  refine newX X hm hC ?_ hrest
  show wpAny _ _ _ _ _ _
  have k : ∀ b o, h.get? b = some o → ((h.push (W.kdv_tup rest)).push (excO C h.objs.size)).get? b = some o := fun b o e => Heap.get?_push_of_some _ (Heap.get?_push_of_some _ e)
  have hC₁ := k _ _ hC
  have hget : ((h.push (W.kdv_tup rest)).push (excO C h.objs.size)).get? (h.objs.size + 1) = some (excO C h.objs.size) := by heap_get
  have hcC : (Value.ref C :: bm).contains (.ref C) = true := by simp
  have i1 := hi.keeps k
  have b1 := (hb (.ref (h.objs.size + 1))).keeps k
  unfold isInstance
  repeat (first | with_reducible refine wpAny_loadPart_at hget ?_ | (with_reducible refine wpAny_isSubtype_exc hC₁ ?_; rw [hcC]) | wp_step)
  show wpAny _ _ (typeLookup (.ref C) _) _ _ _
  refine i1.at ?_
  refine wpAny_holding (wpAny_bind (b1.at ?_))
  refine wpAny_bind (wpAny_call (codeAny_mono hq fun r s' z => ?_))
  rcases r with e | (v | _ | _ | _) <;> first | exact z | exact z.elim | skip
  obtain ⟨rfl, z⟩ := z
  first
    | exact wpAny_pure (wpAny_pure z)
    | (wp_walk; exact z)
theorem callX (X : BaseX B newId initId tail) (hm : refsT tail bm = true) {rest : List Value} {fI : Addr}
    (hC : h.get? C = some (excClassObj nm q C N bs bm hdct sn sub ab col dd k0 k1 k2 k3 k5 newId))
    (hi : W.Looks (model prog w) h (typeLookup (.ref C) "__init__") (some (.ref fI))) (hb : ∀ self, W.Looks (model prog w) h (bindSpecial (.ref fI) self) (.ref fI, [self])) (hrest : rest.length ≤ sizeLine)
    (hq : codeAny (model prog w) (A.under (.builtin "type.__call__" ⟨.ref C :: rest, []⟩)) (.call (.ref fI) ⟨.ref (h.objs.size + 1) :: rest, []⟩) (W.InitBack (h.objs.size + 1) R)
      ⟨(h.push (W.kdv_tup rest)).push (excO C h.objs.size), g, d, t, os⟩) :
    codeAny (model prog w) A (.call (.ref C) ⟨rest, []⟩) R ⟨h, g, d, t, os⟩ := by
  have f1 := tc_lookup
  have f2 := tc_bind (.ref C)
  have hTy : (⟨h, g, d, t, os⟩ : Shared).TypeIs (.ref C) "type" := ⟨_, hC, rfl⟩
  refine codeAny_of_tree ?_
  show wpAny _ _ (callAny (.ref C) _) _ _ _
  repeat (any_goals (first | assumption | with_reducible refine wpAny_loadPart_at hC ?_ | wp_step))
  refine ⟨rfl, ?_⟩
  refine codeAny_call_builtin_at (Code.quiet_builtin _ (by decide +kernel)) entry_typeCall (wpAny_check_type_call_sub hC (type_callX X hm hC hi hb hrest ?_))
  refine codeAny_mono hq fun r s' z => ?_
  rcases r with e | (v | _ | _ | _) <;> exact z
theorem init_baseX (X : BaseX B newId initId tail) {tail' : List Value} {newId' : String} (hm : refsT tail' bm = true) (hB : tail'.contains (.type B) = true) {e t0 : Addr} {rest : List Value}
    (hC : h.get? C = some (excClassObj nm q C N bs bm hdct sn sub ab col dd k0 k1 k2 k3 k5 newId')) (he : h.get? e = some (excO C t0)) (hrest : rest.length ≤ sizeLine)
    (hq : ∀ h' t1, (∀ b o, b ≠ e → h.get? b = some o → h'.get? b = some o) → h'.get? e = some (excO C t1) → R (.ok (.ret .none)) ⟨h', g, d, t, os⟩) :
    codeAny (model prog w) A (.call (.builtin initId) ⟨.ref e :: rest, []⟩) R ⟨h, g, d, t, os⟩ := by
  refine codeAny_call_builtin X.I.init.plain X.I.initEntry (check_initX X.I (by rw [refsT_contains _ _ hm, hB]) hC he rfl ?_)
  wp_walk
  refine hq _ h.objs.size (fun b o hb ho => ?_) ?_
  · rw [Heap.get?_update_other _ _ (Ne.symm hb)]
    exact Heap.get?_push_of_some _ ho
  · rw [Heap.get?_update_self _ (Heap.get?_push_of_some _ he) rfl]
    rfl
end
end OM

namespace OM
open PySem PySem.HandSPX Builtin Builtin.ObjectAttr
section
variable {prog : Program} {w : World} {A : Around} {E : Value → Shared → Prop} {R : Result → Shared → Prop} {hp : Heap} {g : Array GenState} {d : Drawn} {t : Nat} {os : OsState}
variable {B newId initId : String} {tail : List Value}
theorem osaX (Y : BaseX B newId initId tail) {K : W.Frag} {name : Str} {tk : Tok} {v : Value} {x C : Addr} {fv : Array Value} {cd : ClassData}
    (X : K.In hp) (hx : hp.get? x = some { cls := .ref C, data := .fields fv }) (hcd : W.clsIn K C = some cd) (hm : refsT tail cd.mro = true) (hh : cd.hasDict = true) (ha : W.findIn K (.ref C) name = some none)
    (hq : ∀ h' tk' dx, (∀ b o, b ≠ x → hp.get? b = some o → h'.get? b = some o) → hp.objs.size ≤ dx → dx ≠ x → h'.get? x = some { cls := .ref C, dict := some dx, data := .fields fv } →
      h'.Ns1 dx (fun y => if y = name then some v else none) → R (.ok (.ret .none)) ⟨h', g, d, tk', os⟩) :
    codeAny (model prog w) A (.call (.builtin "object.__setattr__") ⟨[.ref x, .str name tk, v], []⟩) R ⟨hp, g, d, t, os⟩ := by
  have I : W.InstAt hp x { cls := .ref C, data := .fields fv } C none := ⟨hx, rfl, rfl, trivial⟩
  have SF := F.store_object
  have ne := refsT_ne Y.ne hm
  have hob : cd.mro.contains (.type "object") = true := (refsT_contains "object" _ hm).trans Y.obj
  have hxs : x ≠ hp.objs.size := Nat.ne_of_lt (Heap.lt_size hx)
  have sub : W.Looks (model prog w) hp (isInstance (.ref x) (.type "object")) true := I.type.andThen (W.looks_mroIn X (by unfold W.mroIn; rw [hcd, Option.bind_some, if_neg (by rw [ne]; decide), hob]))
  refine codeAny_call_builtin SF.slot.plain SF.entry (@W.check_slot (model prog w) _ _ ⟨hp, g, d, t, os⟩ "object.__setattr__" "object" "__setattr__" (.ref x) [.str name tk, v] [] _ SF.kind SF.split sub (SF.args (.ref x) (.str name tk) v) ?_)
  have hmr : W.Looks (model prog w) hp (mroOf (.ref C)) cd.mro := (W.looks_clsIn X hcd).andThen .now
  have L3 : W.Looks (model prog w) hp (storeTaker? none) none := .now
  have hcls : W.Looks (model prog w) hp (classData C) cd := W.looks_clsIn X hcd
  rw [W.osa_eq, refuse_eq]
  refine wpAny_bind (wpAny_bind (I.type.at (wpAny_bind (hmr.at ?_))))
  rw [refsT_pass (Y.pass _) _ hm]
  refine wpAny_pure (wpAny_bind (I.type.at (wpAny_bind ((W.looks_findIn X ha).at (wpAny_bind (L3.at ?_))))))
  show wpAny _ _ (storeInOwnDict (.ref x) (.ref C) (.str name tk) name v false) _ _ _
  obtain ⟨nm, bs, mro, ns, qn, hd, sn, sb, ab, col, del⟩ := cd
  dsimp only at hh
  subst hh
  unfold storeInOwnDict ownDictForStores
  repeat (first | with_reducible refine store_in_new ?_ ?_ | with_reducible refine wpAny_loadPart_at hx ?_ | with_reducible refine hcls.at ?_ | wp_step)
  · exact ⟨_, #[], _, (Heap.get?_update_ne _ _ _ _ hxs.symm).trans (Heap.get?_push_at rfl rfl), rfl, fun e he => absurd he (by simp), fun _ => rfl⟩
  · intro h' tk' hn' hs
    have hx₁ : (hp.push { cls := .type "dict", data := .dict #[] }).get? x = some { cls := .ref C, data := .fields fv } := Heap.get?_push_of_some _ hx
    refine hq h' tk' hp.objs.size (fun b o hb ho => ?_) (Nat.le_refl _) hxs.symm ?_ hn'
    · exact (hs.2 b (Nat.ne_of_lt (Heap.lt_size ho))).trans ((Heap.get?_update_ne _ _ _ _ hb).trans (Heap.get?_push_of_some _ ho))
    · exact (hs.2 x hxs).trans (Heap.get?_update_self _ hx₁ rfl)
theorem osaX_old (Y : BaseX B newId initId tail) {K : W.Frag} {name : Str} {tk : Tok} {v : Value} {x C dx : Addr} {fv : Array Value} {cd : ClassData} {m0 : Str → Option Value} {nl : List Str}
    (X : K.In hp) (hx : hp.get? x = some { cls := .ref C, dict := some dx, data := .fields fv }) (hns : hp.Ns1 dx m0) (hw : Within m0 nl) (hz : nl.length ≤ 1000) (hcd : W.clsIn K C = some cd) (hm : refsT tail cd.mro = true) (hh : cd.hasDict = true)
    (ha : W.findIn K (.ref C) name = some none)
    (hq : ∀ h' tk', (∀ b o, b ≠ dx → hp.get? b = some o → h'.get? b = some o) → h'.Ns1 dx (fun y => if y = name then some v else m0 y) → R (.ok (.ret .none)) ⟨h', g, d, tk', os⟩) :
    codeAny (model prog w) A (.call (.builtin "object.__setattr__") ⟨[.ref x, .str name tk, v], []⟩) R ⟨hp, g, d, t, os⟩ := by
  obtain ⟨oD, esD, epD, hoD, hdD, _⟩ := hns.count hw
  have I : W.InstAt hp x { cls := .ref C, dict := some dx, data := .fields fv } C (some oD) := ⟨hx, rfl, rfl, hoD⟩
  have SF := F.store_object
  have ne := refsT_ne Y.ne hm
  have hob : cd.mro.contains (.type "object") = true := (refsT_contains "object" _ hm).trans Y.obj
  have sub : W.Looks (model prog w) hp (isInstance (.ref x) (.type "object")) true := I.type.andThen (W.looks_mroIn X (by unfold W.mroIn; rw [hcd, Option.bind_some, if_neg (by rw [ne]; decide), hob]))
  refine codeAny_call_builtin SF.slot.plain SF.entry (@W.check_slot (model prog w) _ _ ⟨hp, g, d, t, os⟩ "object.__setattr__" "object" "__setattr__" (.ref x) [.str name tk, v] [] _ SF.kind SF.split sub (SF.args (.ref x) (.str name tk) v) ?_)
  have hmr : W.Looks (model prog w) hp (mroOf (.ref C)) cd.mro := (W.looks_clsIn X hcd).andThen .now
  have L3 : W.Looks (model prog w) hp (storeTaker? none) none := .now
  have hcls : W.Looks (model prog w) hp (classData C) cd := W.looks_clsIn X hcd
  rw [W.osa_eq, refuse_eq]
  refine wpAny_bind (wpAny_bind (I.type.at (wpAny_bind (hmr.at ?_))))
  rw [refsT_pass (Y.pass _) _ hm]
  refine wpAny_pure (wpAny_bind (I.type.at (wpAny_bind ((W.looks_findIn X ha).at (wpAny_bind (L3.at ?_))))))
  show wpAny _ _ (storeInOwnDict (.ref x) (.ref C) (.str name tk) name v false) _ _ _
  obtain ⟨nm, bs, mro, ns, qn, hd, sn, sb, ab, col, del⟩ := cd
  dsimp only at hh
  subst hh
  unfold storeInOwnDict ownDictForStores
  repeat (first | with_reducible refine PySem.OEX.store_in_old hns hw hz ?_ | with_reducible refine wpAny_loadPart_at hx ?_ | with_reducible refine hcls.at ?_ | wp_step)
  intro h' tk' hn' hs
  exact hq h' tk' (fun b o hb ho => (hs.2 b hb).trans ho) hn'
end
end OM

namespace PySem.W
open PySem PySem.Calls PyProof.Rows
/-- a function read off its class: itself -/
theorem om_fn_get_none {prog : Program} {w : World} {A : Around} {R : Result → Shared → Prop} {s : Shared} {K : Frag} {p C : Addr} (X : K.In s.heap) (hp : typeIn K (.ref p) = some (.type "function"))
    (h : R (.ok (.ret (.ref p))) s) : codeAny (model prog w) A (.call (.builtin "function.__get__") ⟨[.ref p, .none, .ref C], []⟩) R s := by
  obtain ⟨o, ho, hc⟩ := Option.map_eq_some_iff.mp hp
  obtain ⟨hh, g, dr, t, os⟩ := s
  refine codeAny_call_builtin KF.slot_fn.plain KF.entry_fn (KF.slot_fn.check _ _ _ _ _ _ _ _ ⟨_, X _ _ ho, hc⟩ (KF.args_fn _ _ _) ?_)
  unfold Builtin.«function.__get__»
  refine wpAny_bind (wpAny_of_eq (a := ((.ref p : Value), (none : Option Value), some (.ref C : Value))) (by first | rfl | kernel_rfl) ?_)
  exact wpAny_pure h
end PySem.W

namespace OM
open PySem PySem.Spec PyProof.Rows L2
/-- what the written part says of an own exception class -/
structure OexB (K : PySem.W.Frag) (C : Addr) (tail : List Value) : Prop where
  cls : ∃ B newId initId nm q N bs bm sn sub ab col dd k0 k1 k2 k3 k5, BaseX B newId initId tail ∧ K.lookup C = some (excClassObj nm q C N bs bm true sn sub ab col dd k0 k1 k2 k3 k5 newId) ∧ refsT tail bm = true
  sa : PySem.W.findIn K (.ref C) "__setattr__" = some (some (.builtin "object.__setattr__"))
  exC : PySem.W.subIn K (.ref C) (.type "BaseException") = some true
  tyC : PySem.W.typeIn K (.ref C) = some (.type "type")
  kC : PySem.W.keepIn K (.ref C) = true
section
variable {X : Cx} {pins : List (Addr × Obj)} {σ : L2.St} {H : Hp} {s : Shared} {a C dx : Addr} {f : Str} {y : V} {u : Value} {fs : List (Str × V)} {Q : Unit → Shared → Prop} {E : Value → Shared → Prop} {A : Around} {tail : List Value}
theorem ostB_new (T : OexB X.K C tail) (I : Inv X pins σ H s) (e : H a = some (exo a C none)) (hno : PySem.W.findIn X.K (.ref C) f = some none) (ry : RelV y u)
    (h : ∀ dx s', H dx = none → dx ≠ a → Inv X pins σ (upd (upd H dx (exd dx [(f, y)])) a (exo a C (some dx))) s' → Q () s') : wpAny (model X.prog X.w) A (setAttr (.ref a) f u) Q E s := by
  obtain ⟨B, newId, initId, nm, q, N, bs, bm, sn, sub, ab, col, dd, k0, k1, k2, k3, k5, Y, hC, hbm⟩ := T.cls
  have hcl : PySem.W.clsIn X.K C = some { name := nm, bases := bs, mro := .ref C :: bm, ns := N, qualname := q, hasDict := true, slotNames := sn, subclasses := sub, abstract := ab, collection := col, hasDel := false } := by unfold PySem.W.clsIn; rw [hC] <;> rfl
  obtain ⟨t1, ho⟩ := exo_at I.hok e
  obtain ⟨hp, g, d, t, os⟩ := s
  refine PySem.W.set_plain I.kIn (ox := { cls := .ref C, dict := none, data := .fields #[.ref t1, .none, .none, .none, .bool false, .none] }) (od := none) ⟨ho, rfl, rfl, trivial⟩ T.sa ?_
  refine osaX Y I.kIn ho hcl (show refsT tail (.ref C :: bm) = true from hbm) rfl hno (fun h' tk' dx k dn dne hx hn => ?_)
  have hnd : H dx = none := I.hok.fresh dn
  have nd : ∀ {b : Addr} {o : Obj}, hp.get? b = some o → b ≠ dx := fun {b o} q => Nat.ne_of_lt (Nat.lt_of_lt_of_le (Heap.lt_size q) dn)
  have na : ∀ {b : Addr}, H b = none → b ≠ a := fun {b} n z => by
    rw [z, e] at n
    cases n
  have Un1 : Un X.fs [] H (upd (upd H dx (exd dx [(f, y)])) a (exo a C (some dx))) hp h' := {
    keep := fun b o q n _ _ => k b o (na n) q
    slot := fun b o q n _ _ => ⟨o.slots, k b o (na n) q⟩
    free := fun b o q n _ => by rw [upd_ne (na n), upd_ne (nd q)]; exact n
    there := fun b o q _ => by
      by_cases hb : b = a
      · exact ⟨_, by rw [hb]; exact hx⟩
      · exact ⟨o, k b o hb q⟩
    tups := fun b xs q => by rw [upd_ne (at_ne e q exo_tup), upd_ne (ne_of_none q hnd)]; exact q
    frzs := fun b o v q => by rw [upd_ne (at_ne e q exo_frz), upd_ne (ne_of_none q hnd)]; exact q
    tbls := fun b ps q => ⟨#[], by rw [upd_ne (at_ne e q exo_tbl), upd_ne (ne_of_none q hnd), q]; simp⟩ }
  refine h dx _ hnd dne (I.un (t' := tk') Un1 fun b o q => ?_)
  by_cases hb : b = a
  · subst hb
    rw [upd_same] at q
    cases q
    exact exo_ok hx
  · rw [upd_ne hb] at q
    by_cases hd : b = dx
    · subst hd
      rw [upd_same] at q
      cases q
      exact exd_ok hn (relO_put (fs := []) ry fun g => True.intro)
    · rw [upd_ne hd] at q
      exact (I.hok b o q).stay (fun c v hc z => k c v (by
          rcases hc with hc | hc
          · rw [hc]
            exact hb
          · exact at_ne e hc exo_own) z)
        (fun c hc => by rw [upd_ne (at_ne e hc exo_own), upd_ne (ne_of_none hc hnd)]; exact hc) (fun c xs hc => by rw [upd_ne (at_ne e hc exo_tup), upd_ne (ne_of_none hc hnd)]; exact hc)
theorem ostB_old (T : OexB X.K C tail) (I : Inv X pins σ H s) (e : H a = some (exo a C (some dx))) (ed : H dx = some (exd dx fs)) (hl : fs.length ≤ 900) (hno : PySem.W.findIn X.K (.ref C) f = some none) (ry : RelV y u)
    (h : ∀ s', Inv X pins σ (upd H dx (exd dx ((f, y) :: fs))) s' → Q () s') : wpAny (model X.prog X.w) A (setAttr (.ref a) f u) Q E s := by
  obtain ⟨B, newId, initId, nm, q, N, bs, bm, sn, sub, ab, col, dd, k0, k1, k2, k3, k5, Y, hC, hbm⟩ := T.cls
  have hcl : PySem.W.clsIn X.K C = some { name := nm, bases := bs, mro := .ref C :: bm, ns := N, qualname := q, hasDict := true, slotNames := sn, subclasses := sub, abstract := ab, collection := col, hasDel := false } := by unfold PySem.W.clsIn; rw [hC] <;> rfl
  obtain ⟨t1, ho⟩ := exo_at I.hok e
  obtain ⟨mA, hns, rel⟩ := exd_at I.hok ed
  have hw := within_of rel
  obtain ⟨hp, g, d, t, os⟩ := s
  obtain ⟨oD, _, _, hoD, _, _⟩ := hns.count hw
  refine PySem.W.set_plain I.kIn (ox := { cls := .ref C, dict := some dx, data := .fields #[.ref t1, .none, .none, .none, .bool false, .none] }) (od := some oD) ⟨ho, rfl, rfl, hoD⟩ T.sa ?_
  refine osaX_old Y I.kIn ho hns hw (by rw [List.length_map]; omega) hcl (show refsT tail (.ref C :: bm) = true from hbm) rfl hno (fun h' tk' k hn => ?_)
  have hd : ∃ o, h'.get? dx = some o := by
    obtain ⟨o, _, _, e', _⟩ := hn
    exact ⟨o, e'⟩
  exact h _ (I.write (t' := tk') (x := dx) (e := dx) (o := exd dx ((f, y) :: fs)) (by rw [ed]; exact True.intro) (.inl rfl) k hd (exd_ok hn (relO_put ry rel)))
/-- B.__init__(self, ..): nothing of it is told -/
theorem binit_ok {B nI initId : String} {tB : List Value} {us : List Value} {Q : Value → Shared → Prop} (Y : BaseX B nI initId tB) (T : OexB X.K C tail) (hB : tail.contains (.type B) = true) (I : Inv X pins σ H s) (e : H a = some (exo a C none)) (hl : us.length ≤ sizeLine)
    (h : ∀ s', Inv X pins σ H s' → Q .none s') : wpAny (model X.prog X.w) A (call (.builtin initId) (.ref a :: us)) Q E s := by
  obtain ⟨B', newId, initId', nm, q, N, bs, bm, sn, sub, ab, col, dd, k0, k1, k2, k3, k5, Y', hC, hbm⟩ := T.cls
  obtain ⟨t1, ho⟩ := exo_at I.hok e
  obtain ⟨hp, g, d, t, os⟩ := s
  refine wpAny_call (init_baseX Y hbm hB (I.kIn _ _ hC) ho hl fun h' t2 k hx => ?_)
  have J := I.write (t' := t) (x := a) (e := a) (o := exo a C none) (by rw [e]; exact True.intro) (.inl rfl) k ⟨_, hx⟩ (exo_ok hx)
  have eu : upd H a (exo a C none) = H := by
    funext b
    by_cases hb : b = a
    · rw [hb, upd_same, e]
    · rw [upd_ne hb]
  rw [eu] at J
  exact h _ J
end
/-- B.__init__(self, ..) -/
def tBin (K : PySem.W.Frag) (B : String) (ta : TA) : TE := fun σ H Q => ta σ H fun vs H1 => ∃ (a C : Addr) (tail : List Value) (ws : List V), vs = .ref a :: ws ∧ ws.length ≤ 1000 ∧ OexB K C tail ∧ tail.contains (.type B) = true ∧ H1 a = some (exo a C none) ∧ Q .non H1
/-- self.f = e -/
def tOsB (K : PySem.W.Frag) (f : Str) (to te : TE) : TS := fun D σ H => te σ H fun y H1 => to σ H1 fun x H2 => ∃ (a C : Addr) (tail : List Value), x = .ref a ∧ OexB K C tail ∧ PySem.W.findIn K (.ref C) f = some none ∧
  ((H2 a = some (exo a C none) ∧ ∀ dx, H2 dx = none → dx ≠ a → D.nx σ (upd (upd H2 dx (exd dx [(f, y)])) a (exo a C (some dx)))) ∨
    ∃ (dx : Addr) (fs : List (Str × V)), H2 a = some (exo a C (some dx)) ∧ H2 dx = some (exd dx fs) ∧ fs.length ≤ 900 ∧ D.nx σ (upd H2 dx (exd dx ((f, y) :: fs))))
/-- C.m(e, ..): a function of the class at C, called unbound -/
structure UMeth (K : PySem.W.Frag) (C : Addr) (m : Str) (f : Addr) : Prop where
  ga : PySem.W.specialIn K (.ref C) "__getattribute__" = some (some (.builtin "type.__getattribute__"))
  rd : PySem.W.readsIn K C (.type "type") = true
  at_ : PySem.W.findCls K (.ref C) (.type "type") m = some (.val (.ref f))
  ty : PySem.W.typeIn K (.ref f) = some (.type "function")
  kp : PySem.W.keepIn K (.ref f) = true
section
variable {X : Cx} {o e : Expr} {es : List Expr} {to te : TE} {ta : TA} {f : Str} {p p' p1 p2 pos apos : Pos} {x : Str}
theorem pe_binit {B nI initId : String} {tB : List Value} {pl : Sem Bool} (Y : BaseX B nI initId tB) (hg : Gl X x) (hm : X.mg x = none) (hv : bootBuiltins x = some (.type B)) (vV : PySem.W.findCls X.K (.type B) (.type "type") "__init__" = some (.val (.builtin initId))) (hi : PySem.W.handedIn (.builtin initId) = true) (ha : PA X (e :: es) ta)
    (hn : x ≠ "__name__" := by decide) (hd : (x == ("__debug__" : Str)) = false := by decide)
    (hc : eval (.Call (.Attribute (.Name x p1) "__init__" p2) (e :: es) [] pos) X.env = (do
      let ov ← eval (.Name x p1) X.env
      standAt p2.atName
      let (f, first) ← holding [ov] (getMethod ov "__init__" pl)
      callWith pos f first (backTo pos (starEach (e :: es) X.env)) (backToKw pos (keywordEach [] X.env))) := by rfl)
    (he : starEach (e :: es) X.env = (false, eval e X.env) :: starEach es X.env := by rfl) (hpl : (backTo pos (starEach es X.env)).any (·.1) = false := by rfl) :
    PE X (.Call (.Attribute (.Name x p1) "__init__" p2) (e :: es) [] pos) (tBin X.K B ta) := by
  refine ⟨fun pins s σ H Q I h => ?_⟩
  refine PySem.W.methodCall_KW (ld_blt I hg hm hv ?_ hn hd) hc
  obtain ⟨m, fr⟩ := I.fr
  refine PySem.W.method_type fr I.ok.mod.kin Y.ty Y.stub vV hi ?_
  show wpAny _ _ (callWith pos (Value.builtin initId) [] (backTo pos (starEach (e :: es) X.env)) []) _ _ _
  refine PyProof.Rows.callWith_method1 (thn (ha.run pos pins _ σ H _ (I.tok _) h) fun us s1 ⟨vs, H1, I1, r1, a, C, tail, ws, ev, hl, T, hB, ea, q⟩ => ?_) he hpl
  subst ev
  cases r1 with
  | @cons _ u0 _ ur ra rw' =>
    obtain rfl : u0 = Value.ref a := ra
    have hlen : ur.length ≤ sizeLine := by
      rw [← Paired.length rw', sizeLine_eq]
      omega
    exact binit_ok Y T hB I1 ea hlen fun s' J => ⟨.non, H1, J, rfl, q⟩
theorem ps_ostB (ho : PE X o to) (he : PE X e te) (hs : swapsWith e (some (.Attribute o f p')) pos.line X.env = pure false := by rfl) : PS X (.Assign [.Attribute o f p'] e pos) (tOsB X.K f to te) := by
  refine ⟨fun pins s σ H D I h => ?_⟩
  refine plainObj_wpAny_Assign_Attribute (thn (he.run pins s σ H _ I h) fun v s1 ⟨y, H1, I1, r1, q1⟩ => thn (ho.run pins s1 σ H1 _ I1 q1) fun u s2 ⟨x, H2, I2, r2, a, C, tail, ex, T, hno, q⟩ => ?_) hs
  subst ex
  obtain rfl : u = Value.ref a := r2
  rcases q with ⟨ea, q⟩ | ⟨dx, fs, ea, ed, hl, q⟩
  · exact ostB_new T I2 ea hno r1 fun dx s' n ne J => ⟨σ, _, J, q dx n ne⟩
  · exact ostB_old T I2 ea ed hl hno r1 fun s' J => ⟨σ, _, J, q⟩
def tUMe (C : Addr) (sp : Sp) (E : XK) (to : TE) (t : TA) : TE := fun σ H Q => to σ H fun x H1 => x = .ref C ∧ t σ H1 fun vs H2 => sp vs H2 Q E
theorem pe_umeth {CX : CXT} {k : Nat} {C fn : Addr} {m : Str} {fd : FuncData} {ps : List Str} {sp : Sp} {E : XK} {pl : Sem Bool} (ho : PE X o to) (U : UMeth X.K C m fn) (F : FnOk X.prog X.w X.K X.mg X.base CX k fn fd ps sp) (hr : Room k X.A) (hb : Binds X.K fd ps []) (hx : Passes CX X E) (ha : PA X (e :: es) ta)
    (hst : starEach (e :: es) X.env = (false, eval e X.env) :: starEach es X.env := by rfl) (hpl : (backTo pos (starEach es X.env)).any (·.1) = false := by rfl)
    (ht : eval (.Call (.Attribute o m apos) (e :: es) [] pos) X.env = (do
      let ov ← eval o X.env
      standAt apos.atName
      let (f, first) ← holding [ov] (getMethod ov m pl)
      callWith pos f first (backTo pos (starEach (e :: es) X.env)) (backToKw pos (keywordEach [] X.env))) := by rfl) :
    PE X (.Call (.Attribute o m apos) (e :: es) [] pos) (tUMe C sp E to ta) := by
  refine ⟨fun pins s σ H Q I h => ?_⟩
  refine PySem.W.methodCall_KW (pl := pl) (thn (ho.run pins s σ H _ I h) fun u s1 ⟨x, H1, I1, rx, ex, q⟩ => ?_) ht
  subst ex
  obtain rfl : u = Value.ref C := rx
  refine PySem.W.method_cls I1.kIn U.ga (PySem.W.cls_value I1.kIn U.rd U.at_ rfl ?_)
  have I2 : Inv X pins σ H1 { s1 with toks := s1.toks + 1 } := I1.tok _
  refine PySem.W.callWith_K (first := []) (h₀ := X.base) I.ok.mod.kin U.kp (thn (ha.run pos pins _ σ H1 _ I2 q) fun us s3 ⟨vs, H2, I3, rv, q2⟩ => ⟨I3.kIn, ?_⟩) hst hpl
  have q3 : sp (vs ++ []) H2 Q E := by rw [List.append_nil]; exact q2
  exact run_fn F hr hb (dvs := []) (ds := []) .nil hx I3 rv q3
end
end OM

namespace PySem.W
open PySem PySem.Spec PySem.Calls PyProof.Rows
theorem om_forIn_pass {M : Model} {A : Around} {β : Type} {f : Value → β → Sem (ForInStep β)} {b : β} {E : Value → Shared → Prop} {s : Shared} : ∀ {l : List Value} {Q : β → Shared → Prop},
    (∀ c ∈ l, ∀ (Q : ForInStep β → Shared → Prop), Q (.yield b) s → wpAny M A (f c b) Q E s) → Q b s → wpAny M A (forIn l b f) Q E s
  | [], Q, _, q => by
    rw [List.forIn_nil]
    exact wpAny_pure q
  | c :: l, Q, h, q => by
    rw [List.forIn_cons]
    refine wpAny_bind (h c List.mem_cons_self _ ?_)
    exact om_forIn_pass (fun c hc => h c (List.mem_cons_of_mem _ hc)) q
theorem om_forIn_any {M : Model} {A : Around} {β : Type} {f : Value → β → Sem (ForInStep β)} {b x : β} {E : Value → Shared → Prop} {s : Shared} (g : Value → Bool) : ∀ {l : List Value} {Q : β → Shared → Prop},
    (∀ c ∈ l, ∀ (Q : ForInStep β → Shared → Prop), Q (if g c = true then .done x else .yield b) s → wpAny M A (f c b) Q E s) → Q (if l.any g = true then x else b) s → wpAny M A (forIn l b f) Q E s
  | [], Q, _, q => by
    rw [List.forIn_nil]
    exact wpAny_pure q
  | c :: l, Q, h, q => by
    rw [List.forIn_cons]
    refine wpAny_bind (h c List.mem_cons_self _ ?_)
    rw [List.any_cons] at q
    cases e : g c with
    | true =>
      rw [e, Bool.true_or, if_pos rfl] at q
      rw [if_pos rfl]
      exact wpAny_pure q
    | false =>
      rw [e, Bool.false_or] at q
      rw [if_neg Bool.false_ne_true]
      exact om_forIn_any g (fun c hc => h c (List.mem_cons_of_mem _ hc)) q
theorem om_exmAny_all {K : Frag} {cls : Value} : ∀ {l : List Value} {b : Bool}, exmAny K cls l = some b → (∀ c ∈ l, exmOne K cls c = some (exmOne K cls c == some true)) ∧ b = l.any fun c => exmOne K cls c == some true
  | [], b, h => by
    have e : some false = some b := h
    cases e
    exact ⟨fun c hc => (nomatch hc), rfl⟩
  | c :: l, b, h => by
    obtain ⟨b1, d1, h1, h2, rfl⟩ := exmAny_cons h
    obtain ⟨i1, i2⟩ := om_exmAny_all h2
    refine ⟨fun x hx => ?_, ?_⟩
    · rcases List.mem_cons.mp hx with rfl | hx
      · rw [h1]
        cases b1 <;> rfl
      · exact i1 x hx
    · rw [List.any_cons, h1, ← i2]
      cases b1 <;> rfl
theorem om_exm_tup {M : Model} {K : Frag} {cs : List Value} {cls : Value} {tp e : Addr} {b : Bool} {h : Heap} {ot : Obj} {nt : Nat} (X : K.In h) (LT : Looks M h (typeOf (.ref e)) cls) (hp : h.get? tp = some ot) (hoc : ot.cls = .type "tuple") (hod : ot.data = .seq cs.toArray nt) (hx : exmAny K cls cs = some b) :
    Looks M h (excMatches (.ref e) (.ref tp)) b := by
  intro A Q E s k₀ q
  obtain ⟨hh, g, d, tk, os⟩ := s
  have k : ∀ b o, h.get? b = some o → hh.get? b = some o := k₀
  obtain ⟨oc, odd, odt, osl⟩ := ot
  dsimp only at hoc hod
  subst hoc hod
  have LT0 : Looks M h (isInstance (.ref tp) (.type "tuple")) true := ((Looks.ld hp).andThen .now).andThen (Looks.of_pure isSubtype_tuple_tuple)
  obtain ⟨hall, hb⟩ := om_exmAny_all hx
  have LT := LT.keeps k
  have LT0 := LT0.keeps k
  have hp' := k _ _ hp
  unfold excMatches
  refine wpAny_bind (LT0.at ?_)
  dsimp only
  rw [if_pos rfl]
  first
    | refine wpAny_bind (wpAny_seqItems hp' rfl ?_)
    | refine wpAny_bind (wpAny_bind (wpAny_seqItems hp' rfl (wpAny_pure ?_)))
  dsimp only [Option.getD_some, Option.getD]
  refine wpAny_bind (wpAny_pure ?_)
  refine wpAny_bind (om_forIn_pass (fun c hc Q q => ?_) ?_)
  · refine wpAny_bind (((exm_cls (M := M) X (hall c hc)).1.keeps k).at ?_)
    simp only [Bool.not_true, Bool.false_eq_true, if_false]
    exact wpAny_pure q
  · refine wpAny_bind (LT.at ?_)
    refine wpAny_bind (om_forIn_any (fun c => exmOne K cls c == some true) (x := (some true, ())) (fun c hc Q q => ?_) ?_)
    · refine wpAny_bind (((exm_cls (M := M) X (hall c hc)).2.keeps k).at ?_)
      cases e : (exmOne K cls c == some true) with
      | true =>
        rw [e, if_pos rfl] at q
        rw [if_pos rfl]
        exact wpAny_pure q
      | false =>
        rw [e, if_neg Bool.false_ne_true] at q
        rw [if_neg Bool.false_ne_true]
        exact wpAny_pure q
    · rw [← hb]
      cases b with
      | true =>
        rw [if_pos rfl]
        exact wpAny_pure q
      | false =>
        rw [if_neg Bool.false_ne_true]
        exact wpAny_pure q
end PySem.W

namespace PySem.W
open PySem PySem.Spec PySem.Calls PyProof.Rows
section
variable {prog : Program} {w : World} {A : Around} {E : Value → Shared → Prop} {s : Shared} {K : Frag} {x D : Addr} {ox : Obj}
theorem om_findObj_data {C : Addr} {od : Option Obj} {name : Str} {a g : Value} (hc : (clsIn K C).isSome = true) (ha : findIn K (.ref C) name = some (some a)) (hg : specialIn K a "__get__" = some (some g)) (ht : takesIn K a = some true) : findObj K C od name = some (.bind g a) := by
  obtain ⟨cd, hc⟩ := Option.isSome_iff_exists.mp hc
  unfold findObj
  rw [hc, Option.bind_some, ha, Option.bind_some]
  simp [hg, ht]
theorem om_classE {od : Option Obj} {Q : Option Value → Shared → Prop} (hga : findIn K (.ref D) "__getattribute__" = some (some (.builtin "BaseException.__getattribute__"))) (hgt : findIn K (.ref D) "__getattr__" = some none) (hsub : subIn K (.ref D) (.type "BaseException") = some true)
    (hdct : hasDictIn K D = true) (ha : findIn K (.ref D) "__class__" = some (some (.builtin "object.__class__")))
    (hn : specialIn K (.builtin "object.__class__") "__get__" = some (some (.builtin "getset_descriptor.__get__"))) (htk : takesIn K (.builtin "object.__class__") = some true) (hm : mroIn K D (.type "object") = some true)
    (X : K.In s.heap) (I : InstAt s.heap x ox D od) (h : Q (some (.ref D)) { s with toks := s.toks + 1 }) : wpAny (model prog w) A (getAttr? (.ref x) "__class__") Q E s := by
  have hf : findObj K D od "__class__" = some (.bind (.builtin "getset_descriptor.__get__") (.builtin "object.__class__")) := om_findObj_data (by obtain ⟨cd, hc, _⟩ := any_some hdct; rw [hc]; rfl) ha hn htk
  obtain ⟨hp, g, d, t, os⟩ := s
  have L0 := I.type (M := model prog w)
  have L1 := looks_findIn (M := model prog w) X hga
  have L2 := looks_findIn (M := model prog w) X hgt
  have L3 := looks_find (M := model prog w) X I hf
  have sub : Looks (model prog w) hp (isInstance (.ref x) (.type "BaseException")) true := L0.andThen (looks_subIn X hsub)
  have hx0 : (false && onTheHeap (Value.builtin "BaseException.__getattribute__")) = false := rfl
  have hx2 : (Value.builtin "BaseException.__getattribute__" == Value.builtin "object.__getattribute__") = false := by decide +kernel
  have hx1 : (onTheHeap (Value.ref D) && Value.builtin "BaseException.__getattribute__" == Value.builtin "object.__getattribute__") = false := by rw [hx2]; rfl
  unfold getAttr? getAttrBy? getAttrBy
  refine wpAny_bind (wpAny_mkText (wpAny_bind (wpAny_attempt (wpAny_holding (wpAny_bind (L0.at (wpAny_bind (L1.at ?_))))))))
  show wpAny _ _ (if (onTheHeap (Value.ref D) && Value.builtin "BaseException.__getattribute__" == Value.builtin "object.__getattribute__") = true then _ else _) _ _ _
  rw [hx1, if_neg Bool.false_ne_true]
  unfold getAttrByItsOwn hookBefore
  refine wpAny_bind ?_
  rw [if_pos (show onTheHeap (Value.ref D) = true from rfl)]
  refine L2.at ?_
  refine wpAny_bind (wpAny_attempt (wpAny_holding ?_))
  unfold callGetattribute
  rw [hx0, if_neg Bool.false_ne_true]
  unfold boundAndCalled
  rw [PySem.F.excAttr_ValueError.ga.bind (.ref x)]
  refine wpAny_bind (wpAny_pure ?_)
  show wpAny _ _ (call (.builtin "BaseException.__getattribute__") [.ref x, .str "__class__" t]) _ _ _
  refine wpAny_call (codeAny_call_builtin PySem.F.excAttr_ValueError.ga.plain PySem.F.entry_bexc_ga ?_)
  refine @check_slot (model prog w) _ _ ⟨hp, g, d, t + 1, os⟩ "BaseException.__getattribute__" "BaseException" "__getattribute__" (.ref x) [.str "__class__" t] [] _ (by decide +kernel) (by decide +kernel) sub (PySem.F.args_bexc_ga (.ref x) (.str "__class__" t)) ?_
  unfold Builtin.«object.__getattribute__»
  refine wpAny_bind (wpAny_of_eq (a := ((Value.ref x : Value), [Value.str "__class__" t])) (by first | rfl | (simp only [slotArgs]; rfl)) ?_)
  refine wpAny_bind (wpAny_pure (wpAny_bind (L0.at (wpAny_bind (L3.at ?_)))))
  show wpAny _ _ (holding [Value.builtin "object.__class__"] (call (.builtin "getset_descriptor.__get__") [.builtin "object.__class__", .ref x, .ref D]) >>= ret) _ _ _
  refine wpAny_bind (wpAny_holding (wpAny_call (class_get (s := ⟨hp, g, d, t + 1, os⟩) (ox := ox) (od := od) X I hm ?_)))
  refine wpAny_pure ?_
  show wpAny _ _ (handedOut (.ref D)) _ _ _
  rw [handedOut_of (v := .ref D) rfl]
  first
    | exact wpAny_pure (wpAny_pure h)
    | exact wpAny_pure h
    | exact wpAny_pure (wpAny_bind (wpAny_pure (wpAny_pure h)))
theorem om_kitx_exc {od : Option Obj} (hga : findIn K (.ref D) "__getattribute__" = some (some (.builtin "BaseException.__getattribute__"))) (hgt : findIn K (.ref D) "__getattr__" = some none) (hsub : subIn K (.ref D) (.type "BaseException") = some true) (hdct : hasDictIn K D = true) (ha : findIn K (.ref D) "__class__" = some (some (.builtin "object.__class__")))
    (hn : specialIn K (.builtin "object.__class__") "__get__" = some (some (.builtin "getset_descriptor.__get__"))) (htk : takesIn K (.builtin "object.__class__") = some true) (hm : mroIn K D (.type "object") = some true) :
    KitX K (.ref x) (.ref D) (fun h => InstAt h x ox D od) where
  ty := fun _ _ _ I => I.type
  it := fun _ _ X _ => by
    obtain ⟨cdD, hcD, _⟩ := any_some hdct
    unfold clsIn at hcD
    split at hcD
    · rename_i c' d' cd' sl' ho
      intro A' Q' E' s' k q
      unfold isType loadHead
      exact wpAny_bind (wpAny_loadPart (k _ _ (X _ _ ho)) (wpAny_pure q))
    · cases hcD
  ne := fun h tp dd its n sl X htp => by
    obtain ⟨cdD, hcD, _⟩ := any_some hdct
    refine Bool.eq_false_iff.mpr fun q => ?_
    have e : D = tp := Value.ref.inj (beq_iff_eq.mp q)
    subst e
    unfold clsIn at hcD
    split at hcD
    · rename_i c' d' cd' sl' ho
      have z := (X _ _ ho).symm.trans htp
      cases z
    · cases hcD
  ca := fun X I k => om_classE hga hgt hsub hdct ha hn htk hm X I k
end
end PySem.W

namespace OM
open PySem PySem.Spec PyProof.Rows L2
/-- the type of an exception that is tracked, or of None -/
inductive TyE (K : PySem.W.Frag) (H : Hp) : V → Value → Prop where
  | base {x : V} {t : Value} (h : TyX K H x t) : TyE K H x t
  | exc {a C : Addr} : ExcC K C → H a = some (exo a C none) → TyE K H (.ref a) (.ref C)
  | excD {a C dx : Addr} {fs : List (Str × V)} : ExcC K C → H a = some (exo a C (some dx)) → H dx = some (exd dx fs) → TyE K H (.ref a) (.ref C)
def rIsB (K : PySem.W.Frag) : List V → Hp → VK → Prop := fun xs H Q => ∃ (x c : V) (t u : Value) (b : Bool), xs = [x, c] ∧ ClsV c u ∧ TyE K H x t ∧ PySem.W.kitOne K t u = some b ∧ Q (.bl b) H
section
variable {X : Cx}
theorem exo_inst {P : Program} {w : World} {H : Hp} {h : Heap} {a C : Addr} (hok : HOk P w H h) (e : H a = some (exo a C none)) : ∃ ox, PySem.W.InstAt h a ox C none := by
  obtain ⟨t1, ho⟩ := exo_at hok e
  exact ⟨_, ho, rfl, rfl, trivial⟩
theorem exo_instD {P : Program} {w : World} {H : Hp} {h : Heap} {a C dx : Addr} {fs : List (Str × V)} (hok : HOk P w H h) (e : H a = some (exo a C (some dx))) (ed : H dx = some (exd dx fs)) : ∃ ox od, PySem.W.InstAt h a ox C (some od) ∧ ∀ f v, fs.lookup f = some v → ∃ u, RelV v u ∧ PySem.W.lookIn f od = some (some u) := by
  obtain ⟨t1, ho⟩ := exo_at hok e
  obtain ⟨mA, hns, rel⟩ := exd_at hok ed
  obtain ⟨od, hod, hl⟩ := lookIn_ns hns
  refine ⟨_, od, ⟨ho, rfl, rfl, hod⟩, fun f v e => ?_⟩
  obtain ⟨u, hu, ru⟩ := RelO.some_of (v := v) (o := mA f) (by rw [← e]; exact rel f)
  exact ⟨u, ru, by rw [hl, hu]⟩
theorem call_isB : CallR X (.builtin "isinstance") (rIsB X.K) := by
  intro pins s σ H xs us Q I r h
  obtain ⟨x, c, t, u, b, rfl, k, ty, e, q⟩ := h
  obtain ⟨u1, u2, rfl, r1, r2⟩ := vals2 r
  have e2 := k.eq r2
  subst e2
  cases ty with
  | base h0 =>
    obtain ⟨P, Z, p, hx⟩ := kit_of I r1 h0
    exact PySem.W.kia_one Z I.kIn p e hx fun tk => ⟨.bl b, H, I.tok tk, rfl, q⟩
  | @exc a C T ea =>
    obtain rfl : u1 = Value.ref a := r1
    obtain ⟨ox, J⟩ := exo_inst I.hok ea
    exact PySem.W.kia_one (PySem.W.om_kitx_exc T.hg T.hk T.hs T.hd T.ha T.hn T.ht T.hm) I.kIn J e (fun z => nomatch z) fun tk => ⟨.bl b, H, I.tok tk, rfl, q⟩
  | @excD a C dx fs T ea ed =>
    obtain rfl : u1 = Value.ref a := r1
    obtain ⟨ox, od, J, _⟩ := exo_instD I.hok ea ed
    exact PySem.W.kia_one (PySem.W.om_kitx_exc T.hg T.hk T.hs T.hd T.ha T.hn T.ht T.hm) I.kIn J e (fun z => nomatch z) fun tk => ⟨.bl b, H, I.tok tk, rfl, q⟩
/-- e.f, e an exception that is tracked -/
def tXfB (K : PySem.W.Frag) (f : Str) (te : TE) : TE := fun σ H Q => te σ H fun x H1 => ∃ (a C dx : Addr) (fs : List (Str × V)) (v : V), x = .ref a ∧ XfC K C ∧ PySem.W.findIn K (.ref C) f = some none ∧ H1 a = some (exo a C (some dx)) ∧ H1 dx = some (exd dx fs) ∧ fs.lookup f = some v ∧ Q v H1
theorem pe_xfB {e : Expr} {te : TE} {pos : Pos} {n : Str} (he : PE X e te) (hb : attributeBase e n X.env (eval e X.env) = eval e X.env := by rfl) : PE X (.Attribute e n pos) (tXfB X.K n te) := by
  refine ⟨fun pins s σ H Q I h => ?_⟩
  refine attr_of hb (thn (he.run pins s σ H _ I h) fun u s1 hh => ?_)
  obtain ⟨x, H1, I1, rx, a, C, dx, fs, v, ex, T, hno, ea, ed, l, q⟩ := hh
  subst ex
  obtain rfl : u = Value.ref a := rx
  obtain ⟨ox, od, J, hl⟩ := exo_instD I1.hok ea ed
  obtain ⟨u, ru, hu⟩ := hl n v l
  exact HandSPX.exc_get I1.kIn J T.ga T.gg T.exC (PySem.W.findObj_own T.hdC hno rfl hu) (handed_of ru) ⟨v, H1, I1.tok _, ru, q⟩
end

/-! ### making -/
structure MkB (K : PySem.W.Frag) (C fI : Addr) (tail : List Value) : Prop where
  T : OexB K C tail
  iC : PySem.W.findIn K (.ref C) "__init__" = some (some (.ref fI))
  tI : PySem.W.typeIn K (.ref fI) = some (.type "function")
section
variable {X : Cx} {CX : CXT} {k : Nat} {fI C : Addr} {fd : FuncData} {ps : List Str} {sp : Sp} {dvs : List V} {ds : List Value} {x : Str} {p pos : Pos} {e : Expr} {es : List Expr} {ta : TA} {tail : List Value}
theorem run_mkB {pins : List (Addr × Obj)} {σ : L2.St} {H : Hp} {s : Shared} {R : Value → Shared → Prop} {us : List Value} {vs : List V} {RR : Addr → Hp → Prop} (M : MkB X.K C fI tail) (F : FnOk X.prog X.w X.K X.mg X.base CX k fI fd ps sp) (hr : Room (k + 1) X.A) (hb : Binds X.K fd ps ds) (hd : Vals dvs ds)
    (hx : Passes CX X E0) (I : Inv X pins σ H s) (r : Vals vs us) (hz : vs.length ≤ 1000)
    (h : ∀ a, H a = none → sp (.ref a :: (vs ++ dvs)) (upd H a (exo a C none)) (fun v H2 => v = .non ∧ RR a H2) E0)
    (hR : ∀ s2 H2 hp2, s.heap.objs.size ≤ s.heap.objs.size + 1 → (∀ b o, s.heap.get? b = some o → hp2.get? b = some o) → Un (frs X.stack) [] (upd H (s.heap.objs.size + 1) (exo (s.heap.objs.size + 1) C none)) H2 hp2 s2.heap → HOk X.prog X.w H2 s2.heap → s2.os = s.os → AllBare s2.gens →
      Inv X pins σ H2 s2 → RR (s.heap.objs.size + 1) H2 → R (.ref (s.heap.objs.size + 1)) s2) :
    wpAny (model X.prog X.w) X.A (call (.ref C) us) R X.xe s := by
  obtain ⟨B, newId, initId, nm, q, N, bs, bm, sn, sub, ab, col, dd, k0, k1, k2, k3, k5, Y, hC, hbm⟩ := M.T.cls
  obtain ⟨hp, g, dr, tk, os⟩ := s
  have hsz : hp.objs.size ≤ hp.objs.size + 1 := Nat.le_succ _
  have hn : H (hp.objs.size + 1) = none := I.hok.fresh hsz
  have hq := h (hp.objs.size + 1) hn
  have kk : ∀ b o, hp.get? b = some o → ((hp.push (PySem.W.kdv_tup us)).push (PySem.HandSPX.excO C hp.objs.size)).get? b = some o := fun b o e => Heap.get?_push_of_some _ (Heap.get?_push_of_some _ e)
  have hget : ((hp.push (PySem.W.kdv_tup us)).push (PySem.HandSPX.excO C hp.objs.size)).get? (hp.objs.size + 1) = some (PySem.HandSPX.excO C hp.objs.size) := by heap_get
  have I2 : Inv X pins σ (upd H (hp.objs.size + 1) (exo (hp.objs.size + 1) C none)) ⟨(hp.push (PySem.W.kdv_tup us)).push (PySem.HandSPX.excO C hp.objs.size), g, dr, tk, os⟩ :=
    I.laid (t' := tk) (a := hp.objs.size + 1) (o := exo (hp.objs.size + 1) C none) (h' := (hp.push (PySem.W.kdv_tup us)).push (PySem.HandSPX.excO C hp.objs.size)) kk hsz (exo_ok hget)
  have r2 : Vals (V.ref (hp.objs.size + 1) :: (vs ++ dvs)) (Value.ref (hp.objs.size + 1) :: (us ++ ds)) := .cons rfl (r.append hd)
  have hl : (Value.ref (hp.objs.size + 1) :: us ++ ds).length = ps.length := by
    have e := r2.length
    rw [F.len _ _ _ _ hq] at e
    exact e.symm
  have hus : us.length ≤ sizeLine := by
    rw [← Paired.length r, sizeLine_eq]
    omega
  refine wpAny_call (callX Y hbm (I.kIn _ _ hC) (PySem.W.looks_findIn I.kIn M.iC) (fun self => PySem.W.bind_fn I.kIn self M.tI) hus
    (codeAny_mono (F.run _ X.stack _ _ ⟨Value.ref (hp.objs.size + 1) :: us, []⟩ (Value.ref (hp.objs.size + 1) :: (us ++ ds)) _ _ E0 (hr.make C us []) (I2.env0.make C us []) (hb _ (Value.ref (hp.objs.size + 1) :: us) I2.kIn hl) r2 hq) fun r s' hq' => ?_))
  cases r with
  | error er => exact hx pins σ _ _ er s' I2 hq'
  | ok fl =>
    cases fl with
    | ret u =>
      have hq2 := hq'
      obtain ⟨v, H2, os2, bare2, un2, hok2, rv, ev, rr⟩ := hq2
      subst ev
      obtain ⟨_, _, I3, _, _⟩ := I2.after (Q := fun _ _ => True) ⟨.non, H2, os2, bare2, un2, hok2, rv, trivial⟩
      have I3' : Inv X pins σ H2 s' := I2.call' (ch := []) os2 un2 hok2 bare2 (fun b z => absurd z (by simp))
      exact ⟨rv, hR s' H2 _ hsz kk un2 hok2 os2 bare2 I3' rr⟩
    | next => exact False.elim hq'
    | brk => exact False.elim hq'
    | cont => exact False.elim hq'
/-- C(e, ..) as a value: a new exception, tracked -/
def tMkV (C : Addr) (sp : Sp) (dvs : List V) (ta : TA) : TE := fun σ H Q => ta σ H fun vs H1 => vs.length ≤ 1000 ∧ ∀ a, H1 a = none → sp (.ref a :: (vs ++ dvs)) (upd H1 a (exo a C none)) (fun v H2 => v = .non ∧ Q (.ref a) H2) E0
theorem pe_mkV (M : MkB X.K C fI tail) (F : FnOk X.prog X.w X.K X.mg X.base CX k fI fd ps sp) (hr : Room (k + 1) X.A) (hg : Gl X x) (hm : X.mg x = some (.ref C)) (hb : Binds X.K fd ps ds) (hd : Vals dvs ds) (hx : Passes CX X E0)
    (ha : PA X (e :: es) ta) (hdb : (x == ("__debug__" : Str)) = false := by decide) (he : starEach (e :: es) X.env = (false, eval e X.env) :: starEach es X.env := by rfl) (hpl : (backTo pos (starEach es X.env)).any (·.1) = false := by rfl) :
    PE X (.Call (.Name x p) (e :: es) [] pos) (tMkV C sp dvs ta) := by
  refine ⟨fun pins s σ H Q I h => ?_⟩
  refine wpAny_Call_Name_kw (ld_glob I hg hm ?_ hdb)
  refine PySem.W.callWith_K (h₀ := X.base) I.ok.mod.kin M.T.kC (thn (ha.run pos pins s σ H _ I h) fun us s1 ⟨vs, H1, I1, r, hz, q⟩ => ⟨I1.kIn, ?_⟩) he hpl
  exact run_mkB (RR := fun a H2 => Q (.ref a) H2) M F hr hb hd hx I1 r hz q fun s2 H2 hp2 _ _ _ _ _ _ I2 rr => ⟨.ref _, H2, I2, rfl, rr⟩
theorem pe_mkV0 (M : MkB X.K C fI tail) (F : FnOk X.prog X.w X.K X.mg X.base CX k fI fd ps sp) (hr : Room (k + 1) X.A) (hg : Gl X x) (hm : X.mg x = some (.ref C)) (hb : Binds X.K fd ps ds) (hd : Vals dvs ds) (hx : Passes CX X E0)
    (hdb : (x == ("__debug__" : Str)) = false := by decide) : PE X (.Call (.Name x p) [] [] pos) (tMkV C sp dvs tNil) := by
  refine ⟨fun pins s σ H Q I h => ?_⟩
  refine wpAny_Call_Name_kw (ld_glob I hg hm ?_ hdb)
  refine PySem.W.callWith_K0 I.kIn M.T.kC ?_
  obtain ⟨hz, q⟩ := (show ([] : List V).length ≤ 1000 ∧ _ from h)
  exact run_mkB (us := []) (vs := []) (RR := fun a H2 => Q (.ref a) H2) M F hr hb hd hx I .nil hz q fun s2 H2 hp2 _ _ _ _ _ _ I2 rr => ⟨.ref _, H2, I2, rfl, rr⟩
/-- a made exception without a dict is let go -/
theorem mk_endN {pins : List (Addr × Obj)} {σ : L2.St} {H1 H2 : Hp} {hp hp2 h2 : Heap} {g1 g2 : Array GenState} {d1 d2 : Drawn} {t1 t2 : Nat} {os1 os2 : OsState} {a C : Addr} (I1 : Inv X pins σ H1 ⟨hp, g1, d1, t1, os1⟩)
    (ha : hp.objs.size ≤ a) (k : ∀ b o, hp.get? b = some o → hp2.get? b = some o) (un : Un (frs X.stack) [] (upd H1 a (exo a C none)) H2 hp2 h2) (hok : HOk X.prog X.w H2 h2) (ho : os2 = os1) (hb : AllBare g2)
    (ea : H2 a = some (exo a C none)) :
    ∃ (t0 : Addr) (G : Heap), Inv X pins σ (del H2 a) ⟨G, g2, d2, t2, os2⟩ ∧ (∀ b o, G.get? b = some o → h2.get? b = some o) ∧ G.get? a = none ∧
      h2.get? a = some ({ cls := .ref C, dict := none, data := .fields #[.ref t0, .none, .none, .none, .bool false, .none] } : Obj) ∧ (del H2 a) a = none := by
  obtain ⟨t0, hoe⟩ := exo_at hok ea
  have hn : H1 a = none := I1.hok.fresh ha
  obtain ⟨G, g1', g2'⟩ := restrict h2 fun b => decide (b ≠ a)
  have gk : ∀ b, b ≠ a → G.get? b = h2.get? b := fun b hb => g1' b (decide_eq_true hb)
  have ge : G.get? a = none := g2' a (by simp)
  have nha : ∀ {b : Addr} {o : Obj}, hp.get? b = some o → b ≠ a := fun {b o} z => Nat.ne_of_lt (Nat.lt_of_lt_of_le (Heap.lt_size z) ha)
  have up : ∀ {b : Addr}, b ≠ a → H1 b = none → upd H1 a (exo a C none) b = none := fun {b} hb n => by rw [upd_ne hb]; exact n
  have U : Un (frs X.stack) [] H1 (del H2 a) hp G := {
    keep := fun b o z n hf hx => by
      rw [gk b (nha z)]
      exact un.keep b o (k b o z) (up (nha z) n) hf hx
    slot := fun b o z n hf hx => by
      rw [gk b (nha z)]
      exact un.slot b o (k b o z) (up (nha z) n) hf hx
    free := fun b o z n hx => by
      rw [del_ne (nha z)]
      exact un.free b o (k b o z) (up (nha z) n) hx
    there := fun b o z hx => by
      rw [gk b (nha z)]
      exact un.there b o (k b o z) hx
    tups := fun b xs z => by
      rw [del_ne (ne_of_none z hn)]
      exact un.tups b xs (by rw [upd_ne (ne_of_none z hn)]; exact z)
    frzs := fun b o v z => by
      rw [del_ne (ne_of_none z hn)]
      exact un.frzs b o v (by rw [upd_ne (ne_of_none z hn)]; exact z)
    tbls := fun b ps z => by
      rw [del_ne (ne_of_none z hn)]
      exact un.tbls b ps (by rw [upd_ne (ne_of_none z hn)]; exact z) }
  have hok3 : HOk X.prog X.w (del H2 a) G := fun b o z => by
    have hba : b ≠ a := fun e => by
      rw [e, del_same] at z
      cases z
    rw [del_ne hba] at z
    have noa : ∀ {c : Addr}, H2 c = some (.own b) → c ≠ a := fun {c} hc => at_ne ea hc exo_own
    exact (hok b o z).stay (fun c v hc y => by
        have hca : c ≠ a := by
          rcases hc with hc | hc
          · rw [hc]
            exact hba
          · exact noa hc
        rw [gk c hca]
        exact y)
      (fun c hc => by rw [del_ne (noa hc)]; exact hc) (fun c xs hc => by rw [del_ne (at_ne ea hc exo_tup)]; exact hc)
  have J : Inv X pins σ (del H2 a) ⟨G, g2, d2, t2, os2⟩ := I1.call' (ch := []) ho U hok3 hb (fun b z => absurd z (by simp))
  refine ⟨t0, G, J, fun b o z => ?_, ge, hoe, del_same⟩
  by_cases hba : b = a
  · rw [hba, ge] at z
    cases z
  · exact (gk b hba).symm.trans z
/-- raise C(e, ..) -/
def MkR (C : Addr) (H1 : Hp) (Q : XK) (a : Addr) (H2 : Hp) : Prop := (H2 a = some (exo a C none) ∧ Q (.ref C) none (del H2 a)) ∨
  ∃ (d : Addr) (fs : List (Str × V)), H2 a = some (exo a C (some d)) ∧ H2 d = some (exd d fs) ∧ H1 d = none ∧ Q (.ref C) (some d) (upd (del H2 a) d (.xd fs))
def tMkR (C : Addr) (sp : Sp) (dvs : List V) (ta : TA) : L2.St → Hp → XK → Prop := fun σ H Q => ta σ H fun vs H1 => vs.length ≤ 1000 ∧ ∀ a, H1 a = none → sp (.ref a :: (vs ++ dvs)) (upd H1 a (exo a C none)) (fun v H2 => v = .non ∧ MkR C H1 Q a H2) E0
theorem pmk_B (M : MkB X.K C fI tail) (F : FnOk X.prog X.w X.K X.mg X.base CX k fI fd ps sp) (hr : Room (k + 1) X.A) (hg : Gl X x) (hm : X.mg x = some (.ref C)) (hb : Binds X.K fd ps ds) (hd : Vals dvs ds) (hx : Passes CX X E0)
    (ha : PA X (e :: es) ta) (hdb : (x == ("__debug__" : Str)) = false := by decide) (he : starEach (e :: es) X.env = (false, eval e X.env) :: starEach es X.env := by rfl) (hpl : (backTo pos (starEach es X.env)).any (·.1) = false := by rfl) :
    PMk X (.Call (.Name x p) (e :: es) [] pos) (tMkR C sp dvs ta) := by
  intro pins s σ H Q I h
  refine wpAny_Call_Name_kw (ld_glob I hg hm ?_ hdb)
  refine PySem.W.callWith_K (h₀ := X.base) I.ok.mod.kin M.T.kC (thn (ha.run pos pins s σ H _ I h) fun us s1 ⟨vs, H1, I1, r, hz, q⟩ => ⟨I1.kIn, ?_⟩) he hpl
  refine run_mkB (RR := MkR C H1 Q) M F hr hb hd hx I1 r hz q fun s2 H2 hp2 hsz kk un2 hok2 os2 bare2 _ rr => ?_
  obtain ⟨hp, g, dr, tk, os⟩ := s1
  obtain ⟨h2, g2, d2, t2, os'⟩ := s2
  rcases rr with ⟨ea, q2⟩ | ⟨d, fs, ea, ed, hd1, q2⟩
  · obtain ⟨t0, G, J, kG, ge, hoe, na⟩ := mk_endN (d2 := d2) (t2 := t2) I1 hsz kk un2 hok2 os2 bare2 ea
    exact ⟨_, _, _, ⟨G, g2, d2, t2, os'⟩, _, .ref C, none, rfl, J, kG, ge, hoe, ⟨rfl, rfl⟩, rfl, rfl, na, rfl, bare2, raises_own M.T.exC M.T.tyC, q2⟩
  · exact mk_end (raises_own M.T.exC M.T.tyC) I1 hsz kk un2 hok2 os2 bare2 ea ed hd1 q2
end
end OM

namespace OM
open PySem PySem.Spec PyProof.Rows L2
theorem flying_more {base h h' : Heap} {l : List Env} {e : Addr} {Z : Obj → Prop} (x : HandSPX.FlyingZ base l e Z h) (k : ∀ b o, h.get? b = some o → h'.get? b = some o) : HandSPX.FlyingZ base l e Z h' := by
  obtain ⟨k1, k2, k3, oe, vs, T, oT, ts, he, hz, hd, h1, hn, hne, hT, hdT, h3⟩ := x
  exact ⟨fun b o q => k b o (k1 b o q), k2, Heap.FunFrames.of_keeps (fun b o e _ => ⟨o, k b o e, rfl⟩) k3, oe, vs, T, oT, ts, k _ _ he, hz, hd, h1, hn, hne, k _ _ hT, hdT, h3⟩
/-- the test of a clause: ok cls b: it answers b for an exception of the class cls -/
structure TstR (X : Cx) (t : Expr) (ok : Value → Bool → Prop) : Prop where
  run : ∀ (a : Addr) (oe : Obj) (pn : List (Addr × Obj)) (σ : L2.St) (H : Hp) (s : Shared) (cls : Value) (b : Bool) (Q : Bool → Shared → Prop) (E E' : Value → Shared → Prop), Inv (X.suite a ((a, oe) :: pn)) [] σ H s → s.heap.get? a = some oe → oe.cls = cls → ok cls b →
    (∀ h', (∀ q o, s.heap.get? q = some o → h'.get? q = some o) → Q b { s with heap := h' }) →
    wpAny (model X.prog X.w) (X.A.mark (some (.ref a))) (eval t X.env) (fun c s₁ => wpAny (model X.prog X.w) (X.A.mark (some (.ref a))) (excMatches (.ref a) c) Q E' s₁) E s
section
variable {X : Cx} {x : Str} {c : Value} {np tpos : Pos} {tk : Nat}
theorem ld_names {a : Addr} {oe : Obj} {pn pins : List (Addr × Obj)} {σ : L2.St} {H : Hp} {s : Shared} {Q : Value → Shared → Prop} {E : Value → Shared → Prop} (hc : Names X x c) (S : Inv (X.suite a ((a, oe) :: pn)) pins σ H s) (q : Q c s) :
    wpAny (model X.prog X.w) (X.A.mark (some (.ref a))) (eval (.Name x np) X.env) Q E s := by
  obtain ⟨hg, hdbg, hm | ⟨hm, hv, hnn⟩⟩ := hc
  · exact ld_glob (X := X.suite a ((a, oe) :: pn)) S hg hm q hdbg
  · exact ld_blt (X := X.suite a ((a, oe) :: pn)) S hg hm hv q hnn hdbg
theorem tst_one (hc : Names X x c) : TstR X (.Name x np) (fun cls b => PySem.W.exmOne X.K cls c = some b) := by
  refine ⟨fun a oe pn σ H s cls b Q E E' S ha hcls hok q => ?_⟩
  refine ld_names hc S ?_
  have LT : PySem.W.Looks (model X.prog X.w) s.heap (typeOf (.ref a)) cls := fun A Q E s k q => wpAny_typeOf_ref (k _ _ ha) (by rw [hcls]; exact q)
  exact (PySem.W.exm_one (M := model X.prog X.w) S.kIn LT hok).here (q s.heap fun _ _ z => z)
/-- names of classes, one behind the other -/
inductive NamesT (X : Cx) : List Expr → List Value → Prop
  | nil : NamesT X [] []
  | cons {x : Str} {c : Value} {np : Pos} {es : List Expr} {cs : List Value} (hc : Names X x c) (r : NamesT X es cs) (he : starEach (.Name x np :: es) X.env = (false, eval (.Name x np) X.env) :: starEach es X.env := by rfl) : NamesT X (.Name x np :: es) (c :: cs)
theorem items_names {a : Addr} {oe : Obj} {pn : List (Addr × Obj)} {σ : L2.St} {H : Hp} {s : Shared} {E : Value → Shared → Prop} {pos : Pos} (S : Inv (X.suite a ((a, oe) :: pn)) [] σ H s) : ∀ {es : List Expr} {cs : List Value} {Q : List Value → Shared → Prop}, NamesT X es cs → Q cs s →
    wpAny (model X.prog X.w) (X.A.mark (some (.ref a))) (spliced (backTo pos (starEach es X.env))) Q E s
  | _, _, _, .nil, q => wpAny_items_nil q
  | _, _, Q, .cons hc r he, q => wpAny_items_cons (ld_names hc S (items_names (Q := fun vs s => Q (_ :: vs) s) S r q)) he
theorem tst_tup {es : List Expr} {cs : List Value} (hc : NamesT X es cs) (hz : cs.length ≤ sizeLine) : TstR X (.Tuple es tk tpos) (fun cls b => PySem.W.exmAny X.K cls cs = some b) := by
  refine ⟨fun a oe pn σ H s cls b Q E E' S ha hcls hok q => ?_⟩
  refine wpAny_Tuple (items_names S hc ⟨hz, ?_⟩)
  have kp : ∀ q o, s.heap.get? q = some o → (s.heap.push { cls := .type "tuple", data := .seq cs.toArray }).get? q = some o := fun _ _ z => Heap.get?_push_of_some _ z
  have LT : PySem.W.Looks (model X.prog X.w) (s.heap.push { cls := .type "tuple", data := .seq cs.toArray }) (typeOf (.ref a)) cls := fun A Q E s k q => wpAny_typeOf_ref (k _ _ (kp _ _ ha)) (by rw [hcls]; exact q)
  exact (PySem.W.om_exm_tup (M := model X.prog X.w) (S.kIn.keeps kp) LT (Heap.get?_push_size s.heap rfl) rfl rfl hok).here (q _ kp)
end
/-- a clause: its test, the slot of its name, its suite -/
abbrev Cl := (Value → Bool → Prop) × Option Nat × (Addr → Value → Option Addr → TS)
def offD (D : Ends) (i : Nat) : Ends := { nx := fun σ' H' => D.nx (σ'.set i none) H', rt := D.rt, bk := fun σ' H' => D.bk (σ'.set i none) H', ct := fun σ' H' => D.ct (σ'.set i none) H' }
def wTry (Wout : WX) (D : Ends) : List Cl → WX
  | [] => Wout
  | (ok, none, ts) :: r => fun cls d σ H => ∃ b, ok cls b ∧ (b = true → ∀ a, H a = none → ts a cls d D σ H) ∧ (b = false → wTry Wout D r cls d σ H)
  | (ok, some i, ts) :: r => fun cls d σ H => ∃ b, ok cls b ∧ (b = true → ∀ a, H a = none → ts a cls d (offD D i) (σ.set i (some (.ref a))) H) ∧ (b = false → wTry Wout D r cls d σ H)
inductive ClsOk (X : Cx) : List ExceptHandler → List Cl → Prop
  | nil : ClsOk X [] []
  | cons {t : Expr} {ok : Value → Bool → Prop} {ts : Addr → Value → Option Addr → TS} {b₀ : Stmt} {suite : List Stmt} {pos' : Pos} {hds : List ExceptHandler} {l : List Cl} (ht : TstR X t ok)
      (hsu : ∀ (a : Addr) (oe : Obj) (cls : Value) (d : Option Addr) (pn : List (Addr × Obj)), Zc cls d oe → (∃ vs, oe.data = .fields vs) → PSs (X.suite a ((a, oe) :: pn)) (b₀ :: suite) (ts a cls d)) (r : ClsOk X hds l) :
      ClsOk X (.ExceptHandler (some t) none (b₀ :: suite) pos' :: hds) ((ok, none, ts) :: l)
  | as {n : Str} {i : Nat} {t : Expr} {ok : Value → Bool → Prop} {ts : Addr → Value → Option Addr → TS} {b₀ : Stmt} {suite : List Stmt} {pos' : Pos} {hds : List ExceptHandler} {l : List Cl} (hN : X.N.Nodup) (hi : X.N[i]? = some n) (hln : X.env.kindOf n = some .local) (ht : TstR X t ok)
      (hsu : ∀ (a : Addr) (oe : Obj) (cls : Value) (d : Option Addr) (pn : List (Addr × Obj)), Zc cls d oe → (∃ vs, oe.data = .fields vs) → PSs (X.suite a ((a, oe) :: pn)) (b₀ :: suite) (ts a cls d)) (r : ClsOk X hds l) :
      ClsOk X (.ExceptHandler (some t) (some n) (b₀ :: suite) pos' :: hds) ((ok, some i, ts) :: l)
section
variable {X : Cx} {body : List Stmt} {h₀ : ExceptHandler} {hds : List ExceptHandler} {l : List Cl} {pos : Pos} {tb : WX → TS} {Wout : WX}
theorem ps_try_gen (hs : X.stack = X.env :: X.outer) (hf : X.env.frame = some X.env.locals) (tk : Takes X Wout)
    (hb : ∀ (W : WX) (pn : List (Addr × Obj)) (xe : Value → Shared → Prop), Takes (X.tr pn xe) W → PassesOwn (model X.prog X.w) X.A X.env xe → PSs (X.tr pn xe) body (tb W))
    (hh : ClsOk X (h₀ :: hds) l) : PS X (.Try body (h₀ :: hds) [] [] pos) (fun D σ H => tb (wTry Wout D l) D σ H) := by
  refine ⟨fun pins s σ H D I h => ?_⟩
  have ok := I.ok
  have hfr : X.A.frames = some (X.env :: X.outer) := by rw [ok.frames, hs]
  refine wpAny_Try_except ?_
  refine wpAny_mono ((hb (wTry Wout D l) (X.pn ++ pins) (fun e s₁ => wpAny (model X.prog X.w) X.A (noteFrame e X.env) (fun _ s₂ => wpAny (model X.prog X.w) X.A (setFlight e none) (fun _ s₃ =>
    wpAny (model X.prog X.w) X.A (handleBy e X.env (h₀ :: hds)) (SP X pins D) X.xe s₃) X.xe s₂) X.xe s₁) (fun u s' xx => ?_) PassesOwn.looking).run [] s σ H D (I.toTry _) h) (fun f s1 hsp => ?_) (fun e s1 he => he)
  · -- the catch
    obtain ⟨a, B, sI, pins', σ', H', cls, d, rfl, J', nb, up, sky, na, os, ag, w⟩ := xx
    have J : Inv X pins σ' H' sI := J'.ofTry ok
    have sky' : Sky B (X.env :: X.outer) a (Zc cls d) X.env.locals s'.heap := by rw [← hs]; exact sky
    show wpAny (model X.prog X.w) X.A (noteFrame (.ref a) X.env) _ _ _
    refine Sky.land Zc.steady hfr hf sky' fun h3 fl3 up3 => ?_
    have notFr : ∀ {h : Heap} {o : Obj} {vs : Array Value}, h.FunFrames B (X.env :: X.outer) → h.get? a = some o → o.data = .fields vs → a ∉ frs (X.env :: X.outer) := fun {h o vs} ff e dd hm => by
      obtain ⟨_, o', e', hnf⟩ := ff.mem hm
      rw [e] at e'; cases e'
      exact hnf _ dd
    have nfr : a ∉ frs (X.env :: X.outer) := by
      obtain ⟨oe3, vs3, he3, hz3, hd3⟩ := fl3.there
      exact notFr fl3.2.2.1 he3 hd3
    have nL : a ≠ X.env.locals := fun z => nfr (List.mem_filterMap.mpr ⟨X.env, List.mem_cons_self, by rw [hf, z]⟩)
    have nF : a ∉ X.fs := fun hm => by
      obtain ⟨e, he, q⟩ := List.mem_filterMap.mp hm
      exact nfr (List.mem_filterMap.mpr ⟨e, List.mem_cons_of_mem _ he, q⟩)
    have go : ∀ {hds' : List ExceptHandler} {l' : List Cl}, ClsOk X hds' l' → ∀ h5, HandSPX.FlyingZ B (X.env :: X.outer) a (Zc cls d) h5 → s'.heap.UpToSlots h5 → wTry Wout D l' cls d σ' H' →
        wpAny (model X.prog X.w) X.A (handleBy (.ref a) X.env hds') (SP X pins D) X.xe { s' with heap := h5 } := by
      intro hds' l' hk
      induction hk with
      | nil =>
        intro h3 fl3 up3 w
        refine wpAny_handleBy_nil ?_
        obtain ⟨k1, k2, k3, oe, vs, T, oT, ts', he, hz, hd, h1, hr⟩ := id fl3
        unfold PySem.passOn
        refine wpAny_bind (wpAny_field he hd h1 ?_)
        rw [if_neg (show ¬ ((Value.ref T == Value.none) = true) from by simp)]
        have fin : wpAny (model X.prog X.w) X.A (setFlight (.ref a) X.env.frame) (fun _ s4 => wpAny (model X.prog X.w) X.A (throw (.ref a) : Sem Flow) (SP X pins D) X.xe s4) X.xe { s' with heap := h3 } := by
          rw [hf]
          refine HandSPX.setFlight_upZ fl3 fun h4 hh4 up4 => wpAny_throw (tk _ _ ?_)
          exact ⟨a, B, sI, pins, σ', H', cls, d, rfl, J, nb, (up.trans up3).trans up4, .inr (.inr (by rw [hs]; exact hh4)), na, os, ag, w⟩
        first
          | exact wpAny_bind (wpAny_pure (wpAny_bind fin))
          | exact wpAny_bind fin
      | @cons t okp ts b₀ suite pos' hds2 l2 ht hsu r ih =>
        intro h3 fl3 up3 w
        obtain ⟨b, hb1, hyes, hno⟩ := w
        have J3 : Inv X pins σ' H' { s' with heap := h3 } := J.landed nb fl3.1 (up.trans up3) os ag
        obtain ⟨oe3, vs3, he3, hz3, hd3⟩ := fl3.there
        have S3 := J3.suite he3 hd3 na nL nF
        refine wpAny_handleBy_cons (codeAny_handlers_test ?_) (by intro q; cases q)
        refine ht.run a oe3 (X.pn ++ pins) σ' H' _ cls b _ _ _ S3 he3 hz3.1 hb1 (fun h6 k6 => ?_)
        have fl6 := flying_more fl3 k6
        have up6 : s'.heap.UpToSlots h6 := up3.trans (Heap.UpToSlots.of_keeps k6)
        cases b with
        | true =>
          refine codeAny_handlers_suite ?_
          refine HandSPX.lands_againZ fl6 fun h4 fl4 up4 => ?_
          have J4 : Inv X pins σ' H' { s' with heap := h4 } := J.landed nb fl4.1 ((up.trans up6).trans up4) os ag
          obtain ⟨oe4, vs4, he4, hz4, hd4⟩ := fl4.there
          have S4 := J4.suite he4 hd4 na nL nF
          refine wpAny_mono ((hsu a oe4 cls d (X.pn ++ pins) hz4 ⟨_, hd4⟩).run [] _ _ H' _ S4 (hyes rfl a na)) (fun f s6 hsp => ?_) (fun _ _ z => False.elim z)
          cases f with
          | next =>
            obtain ⟨σ6, H6, S6, q6⟩ := hsp
            exact ⟨_, _, S6.unsuite ok, q6⟩
          | brk =>
            obtain ⟨σ6, H6, S6, q6⟩ := hsp
            exact ⟨_, _, S6.unsuite ok, q6⟩
          | cont =>
            obtain ⟨σ6, H6, S6, q6⟩ := hsp
            exact ⟨_, _, S6.unsuite ok, q6⟩
          | ret u =>
            obtain ⟨v6, σ6, H6, S6, r6, q6⟩ := hsp
            exact ⟨_, _, _, S6.unsuite ok, r6, q6⟩
        | false =>
          show wpAny _ X.A (handleBy (.ref a) X.env hds2) _ _ _
          exact ih h6 fl6 up6 (hno rfl)
      | @as n i t okp ts b₀ suite pos' hds2 l2 hN hi hln ht hsu r ih =>
        intro h3 fl3 up3 w
        obtain ⟨b, hb1, hyes, hno⟩ := w
        have J3 : Inv X pins σ' H' { s' with heap := h3 } := J.landed nb fl3.1 (up.trans up3) os ag
        obtain ⟨oe3, vs3, he3, hz3, hd3⟩ := fl3.there
        have S3 := J3.suite he3 hd3 na nL nF
        refine wpAny_handleBy_cons (codeAny_handlers_test ?_) (by intro q; cases q)
        refine ht.run a oe3 (X.pn ++ pins) σ' H' _ cls b _ _ _ S3 he3 hz3.1 hb1 (fun h6 k6 => ?_)
        have fl6 := flying_more fl3 k6
        have up6 : s'.heap.UpToSlots h6 := up3.trans (Heap.UpToSlots.of_keeps k6)
        cases b with
        | true =>
          have hloc : Loc X.env.scope n := .inl hln
          refine codeAny_handlers_suite_as ?_
          refine HandSPX.lands_againZ fl6 fun h4 fl4 up4 => ?_
          have J4 : Inv X pins σ' H' { s' with heap := h4 } := J.landed nb fl4.1 ((up.trans up6).trans up4) os ag
          obtain ⟨oe4, vs4, he4, hz4, hd4⟩ := fl4.there
          have S4 := J4.suite he4 hd4 na nL nF
          refine store_ok (X := X.suite a ((a, oe4) :: (X.pn ++ pins))) (v := .ref a) S4 hN hi hloc rfl (fun s5 S5 => ?_) (.inr hln)
          refine wpAny_mono ((hsu a oe4 cls d (X.pn ++ pins) hz4 ⟨_, hd4⟩).run [] s5 _ H' _ S5 (hyes rfl a na)) (fun f s6 hsp => ?_) (fun _ _ z => False.elim z)
          have end_ : ∀ {σ6 : L2.St} {H6 : Hp} {Q : Shared → Prop}, Inv (X.suite a ((a, oe4) :: (X.pn ++ pins))) [] σ6 H6 s6 → (∀ s7, Inv X pins (σ6.set i none) H6 s7 → Q s7) →
              wpAny (model X.prog X.w) X.A (do bindName X.env n .none; unbindBehindTheSuite X.env n pos') (fun _ s7 => Q s7) X.xe s6 := fun {σ6 H6 Q} S6 hq => gone_ok (S6.unsuite ok) hN hi hln hq
          cases f with
          | next =>
            obtain ⟨σ6, H6, S6, q6⟩ := hsp
            exact end_ S6 fun s7 J7 => ⟨_, _, J7, q6⟩
          | brk =>
            obtain ⟨σ6, H6, S6, q6⟩ := hsp
            exact end_ S6 fun s7 J7 => ⟨_, _, J7, q6⟩
          | cont =>
            obtain ⟨σ6, H6, S6, q6⟩ := hsp
            exact end_ S6 fun s7 J7 => ⟨_, _, J7, q6⟩
          | ret u =>
            obtain ⟨v6, σ6, H6, S6, r6, q6⟩ := hsp
            exact end_ S6 fun s7 J7 => ⟨_, _, _, J7, r6, q6⟩
        | false =>
          show wpAny _ X.A (handleBy (.ref a) X.env hds2) _ _ _
          exact ih h6 fl6 up6 (hno rfl)
    exact go hh h3 fl3 up3 w
  · cases f with
    | next =>
      obtain ⟨σ', H', J', q⟩ := hsp
      exact wpAny_execs_nil ⟨σ', H', J'.ofTry ok, q⟩
    | brk =>
      obtain ⟨σ', H', J', q⟩ := hsp
      exact ⟨σ', H', J'.ofTry ok, q⟩
    | cont =>
      obtain ⟨σ', H', J', q⟩ := hsp
      exact ⟨σ', H', J'.ofTry ok, q⟩
    | ret u =>
      obtain ⟨v, σ', H', J', r, q⟩ := hsp
      exact ⟨v, σ', H', J'.ofTry ok, r, q⟩
end
end OM

namespace OM
open PySem L2
def top (i : Nat) : Stmt := PySem.Challenge.pw_orderlymoves_k14_whole_covered_places_an.main.body.getD i (.Pass ⟨0, 0, 0, 0⟩)
abbrev sDice : Stmt := top 79
abbrev sRoll : Stmt := top 80
abbrev sOneOf : Stmt := top 81

/-- all but a is as it was -/
def But (a : Addr) (H H' : Hp) : Prop := ∀ b o, b ≠ a → H b = some o → H' b = some o
/-- a dice: a list of three ints -/
def Dice (H : Hp) (a : Addr) : Prop := ∃ l m c : Int, H a = some (.lst [.int l, .int m, .int c])

structure TxtD (mg : Str → Option Value) : Prop where
  len : mg "len" = none
  int : mg "int" = none
  abs : mg "abs" = none

def spDice (K : PySem.W.Frag) : Sp := fun vs H Q _ => ∃ (a : Addr) (ns : List Int) (k : Nat), vs = [.ref a, .int (k : Int)] ∧ SqL K H a (ns.map V.int) ∧
  ∀ H' p, Same H H' → H p = none → Dice H' p → Q (.ref p) H'
def spRoll : Sp := fun vs H Q _ => ∃ (d : Addr) (n : Int), vs = [.ref d, .int n] ∧ Dice H d ∧ 0 < n ∧ n < 1073741824 ∧
  ∀ H' (r : Int), 0 ≤ r → r < n → But d H H' → Dice H' d → Q (.int r) H'
def spOneOf (K : PySem.W.Frag) : Sp := fun vs H Q _ => ∃ (d a : Addr) (xs : List V), vs = [.ref d, .ref a] ∧ Dice H d ∧ SqL K H a xs ∧ (H d ≠ none → a ≠ d) ∧ 0 < xs.length ∧ xs.length < 1073741824 ∧
  ∀ H' (i : Nat) v, xs[i]? = some v → But d H H' → Dice H' d → Q v H'

section
variable {P : Program} {w : World} {K : PySem.W.Frag} {mg : Str → Option Value} {base : Heap}
theorem scR : FnScope ["_law_dice_here", "_law_total", "_law_number", "_law_drawn", "_law_one", "_law_two"] ["_law_dice_here", "_law_total"] (defScope sRoll) := ⟨rfl, rfl, rfl, by decide +kernel, rfl, by decide +kernel, by decide +kernel⟩
theorem ok_roll {f : Addr} {fd : FuncData} (F : Fun K "_law_roll" "_law_roll" sRoll f fd) (T : TxtD mg) : FnOk P w K mg base CX0 1 f fd ["_law_dice_here", "_law_total"] spRoll := by
  refine F.ok scR (fun vs H Q E h => ?_) (fun cdv A outer s H vs Q E hr h => ?_)
  · obtain ⟨d, n, rfl, _⟩ := h
    rfl
  · obtain ⟨d, n, rfl, ⟨l, m, c, hd⟩, n0, n1, k⟩ := h
    have big : ∀ {x : Int}, 0 ≤ x → x < 2305843009213693952 → (-(2 ^ 64) < x ∧ x < 2 ^ 64) := fun h1 h2 => ⟨by omega, by omega⟩
    refine ⟨_, pss_cons (ps_set (i := 2) scR.nd rfl (Or.inl rfl) (pe_callTy call_int1 (by rfl) T.int (by decide +kernel) (pa_cons (pv 1) pa_nil)))
      (pss_cons (ps_if (pt_cmpR op_gt (pe_ix ix_list (pv 0) pe_int (fun _ _ => rfl)) pe_int (nomark _))
        (pss_cons (ps_set (i := 3) scR.nd rfl (Or.inl rfl) (pe_op op_mod (pe_ix ix_list (pv 0) pe_int (fun _ _ => rfl)) (pv 2)))
        (pss_cons (ps_asg (pe_op op_fdiv (pe_ix ix_list (pv 0) pe_int (fun _ _ => rfl)) (pv 2)) (pg_sub (pv 0) pe_int set_list))
        (pss_one (ps_ret (pe_callTy call_int1 (by rfl) T.int (by decide +kernel) (pa_cons (pv 3) pa_nil))))))
        pss_nil)
      (pss_cons (ps_asg (pe_op op_add (pe_ix ix_list (pv 0) pe_int (fun _ _ => rfl)) pe_int) (pg_sub (pv 0) pe_int set_list))
      (pss_cons (ps_set (i := 4) scR.nd rfl (Or.inl rfl) (pe_op op_mod (pe_op op_add (pe_ix ix_list (pv 0) pe_int (fun _ _ => rfl)) (pe_op op_mul pe_int (pe_ix ix_list (pv 0) pe_int (fun _ _ => rfl)))) pe_int))
      (pss_cons (ps_set (i := 5) scR.nd rfl (Or.inl rfl) (pe_op op_add (pe_op op_mul (pe_op op_mod (pe_op op_mul (pv 4) (pv 4)) pe_int) (pv 4)) (pe_op op_mul pe_int (pe_ix ix_list (pv 0) pe_int (fun _ _ => rfl)))))
      (pss_cons (ps_set (i := 5) scR.nd rfl (Or.inl rfl) (pe_op op_mod (pv 5) pe_int))
      (pss_one (ps_ret (pe_callTy call_int1 (by rfl) T.int (by decide +kernel) (pa_cons (pe_op op_mod (pe_op op_fdiv (pv 5) pe_int) (pv 2)) pa_nil))))))))), ?_⟩
    refine ⟨_, rfl, .inl ⟨_, rfl, ?_⟩⟩
    refine ⟨_, rfl, d, _, _, _, rfl, rfl, SqL.of hd, rfl, _, _, rfl, rfl, _, rfl, ite2 (fun h0 => ?_) (fun h0 => ?_)⟩
    · refine ⟨_, rfl, d, _, _, _, rfl, rfl, SqL.of hd, rfl, _, rfl, _, _, rfl, rfl, n0, ?_⟩
      refine ⟨_, rfl, d, _, _, _, rfl, rfl, SqL.of hd, rfl, _, rfl, _, _, rfl, rfl, ⟨n0, n1⟩, _, rfl, d, _, _, 0, rfl, rfl, hd, rfl, ?_⟩
      refine ⟨_, rfl, .inl ⟨_, rfl, ?_⟩⟩
      refine k _ _ (Int.emod_nonneg _ (by omega)) (Int.emod_lt_of_pos _ n0) (fun b o nb e => by rw [upd_ne nb]; exact e) ⟨_, _, _, upd_same⟩
    · refine ⟨_, rfl, d, _, _, _, rfl, rfl, SqL.of hd, rfl, _, _, rfl, rfl, _, rfl, d, _, _, 2, rfl, rfl, hd, rfl, ?_⟩
      have hd2 : upd H d (.lst [.int l, .int m, .int (c + 1)]) d = some (.lst [.int l, .int m, .int (c + 1)]) := upd_same
      refine ⟨_, rfl, d, _, _, _, rfl, rfl, SqL.of hd2, rfl, _, rfl, d, _, _, _, rfl, rfl, SqL.of hd2, rfl, _, _, rfl, rfl, .inl (by decide), _, _, rfl, rfl, _, _, rfl, rfl, (by show (0 : Int) < 2305843009213693951; decide), ?_⟩
      have o0 : 0 ≤ (m + 1000099 * (c + 1)) % 2305843009213693951 := Int.emod_nonneg _ (by decide)
      have o1 : (m + 1000099 * (c + 1)) % 2305843009213693951 < 2305843009213693951 := Int.emod_lt_of_pos _ (by decide)
      refine ⟨_, rfl, _, rfl, _, _, rfl, rfl, .inl (big o0 (by omega)), _, _, rfl, rfl, (by show (0 : Int) < 2305843009213693921; decide), _, rfl, _, _, rfl, rfl, .inr (big o0 (by omega)), _, rfl, d, _, _, _, rfl, rfl, SqL.of hd2, rfl, _, _, rfl, rfl, .inl (by decide), _, _, rfl, rfl, ?_⟩
      refine ⟨_, rfl, _, _, rfl, rfl, (by show (0 : Int) < 2305843009213693907; decide), ?_⟩
      refine ⟨_, rfl, _, _, rfl, rfl, ⟨by decide, by decide⟩, _, rfl, _, _, rfl, rfl, n0, .inl ⟨_, rfl, ?_⟩⟩
      exact k _ _ (Int.emod_nonneg _ (by omega)) (Int.emod_lt_of_pos _ n0) (fun b o nb e => by rw [upd_ne nb]; exact e) ⟨_, _, _, upd_same⟩
theorem scO : FnScope ["_law_dice_here", "_law_items"] ["_law_dice_here", "_law_items"] (defScope sOneOf) := ⟨rfl, rfl, rfl, by decide +kernel, rfl, by decide +kernel, by decide +kernel⟩
theorem But.seq {K : PySem.W.Frag} {H H' : Hp} {d a : Addr} {xs : List V} (e : But d H H') (n : H d ≠ none → a ≠ d) (dn : H d ≠ none) (h : SqL K H a xs) : SqL K H' a xs := by
  rcases h with (h | ⟨o, h⟩) | h
  · exact .inl (.inl (e _ _ (n dn) h))
  · exact .inl (.inr ⟨o, e _ _ (n dn) h⟩)
  · exact .inr h
theorem Dice.ne {H : Hp} {d : Addr} (h : Dice H d) : H d ≠ none := by
  obtain ⟨_, _, _, e⟩ := h
  rw [e]
  exact fun z => nomatch z
theorem ok_oneof {f fR : Addr} {fd fdR : FuncData} (F : Fun K "_law_one_of" "_law_one_of" sOneOf f fd) (T : TxtD mg) (FR : Fun K "_law_roll" "_law_roll" sRoll fR fdR) (gR : mg "_law_roll" = some (.ref fR)) (bR : Binds K fdR ["_law_dice_here", "_law_total"] []) :
    FnOk P w K mg base CX0 2 f fd ["_law_dice_here", "_law_items"] (spOneOf K) := by
  have GR : FnOk P w K mg base CX0 1 fR fdR ["_law_dice_here", "_law_total"] spRoll := ok_roll FR T
  refine F.ok scO (fun vs H Q E h => ?_) (fun cdv A outer s H vs Q E hr h => ?_)
  · obtain ⟨d, a, xs, rfl, _⟩ := h
    rfl
  · obtain ⟨d, a, xs, rfl, hd, hx, ne, l0, l1, k⟩ := h
    refine ⟨_, pss_one (ps_ret (pe_ix ix_list (pv 1) (pe_call GR hr rfl gR FR.kp bR .nil pass0 (pa_cons (pv 0) (pa_cons (pe_callB call_len_seq (by rfl) T.len PySem.boot_len (pa_cons (pv 1) pa_nil)) pa_nil))) (fun _ _ => rfl))), ?_⟩
    refine ⟨_, rfl, _, rfl, _, rfl, a, _, rfl, .inl hx, d, _, rfl, hd, by omega, by omega, fun H' r r0 r1 hb hd' => ?_⟩
    obtain ⟨i, rfl⟩ : ∃ i : Nat, r = (i : Int) := ⟨r.toNat, by omega⟩
    have hi : i < xs.length := by omega
    have hv : xs[i]? = some xs[i] := List.getElem?_eq_getElem hi
    exact ⟨a, xs, _, _, rfl, rfl, hb.seq ne hd.ne hx, atI_nat hv, k _ i _ hv hb hd'⟩
theorem scD : FnScope ["_law_script", "_law_at", "_law_cell", "_law_great", "_law_left", "_law_mixed_here"] ["_law_script", "_law_at"] (defScope sDice) := ⟨rfl, rfl, rfl, by decide +kernel, rfl, by decide +kernel, by decide +kernel⟩
/-- a power of a greater base -/
theorem op_powB {X : Cx} : OpR X (binaryOp .Pow) (rI (fun i j => 0 ≤ j ∧ (PySem.Builtin.Int.intBits i : Int) * j ≤ 2 ^ 27) fun i j => .int (i ^ j.toNat)) := opI fun _ _ _ _ _ _ _ hc q => PyProof.Rows.pow_int hc.1 hc.2 q
theorem ok_dice {f : Addr} {fd : FuncData} (F : Fun K "_law_dice" "_law_dice" sDice f fd) (T : TxtD mg) : FnOk P w K mg base CX0 1 f fd ["_law_script", "_law_at"] (spDice K) := by
  refine F.ok scD (fun vs H Q E h => ?_) (fun cdv A outer s H vs Q E hr h => ?_)
  · obtain ⟨a, ns, k, rfl, _⟩ := h
    rfl
  · obtain ⟨a, ns, k, rfl, hS, q⟩ := h
    refine ⟨_, pss_cons (ps_set (i := 2) scD.nd rfl (Or.inl rfl) (pe_op op_add (pe_op op_mul pe_int (pv 1)) pe_int))
      (pss_cons (ps_if (pt_cmpR op_lt (pv 1) (pe_callB call_len_seq (by rfl) T.len PySem.boot_len (pa_cons (pv 0) pa_nil)) (nomark _))
        (pss_one (ps_set (i := 2) scD.nd rfl (Or.inl rfl) (pe_ix ix_list (pv 0) (pv 1) (fun _ _ => rfl)))) pss_nil)
      (pss_cons (ps_set (i := 3) scD.nd rfl (Or.inl rfl) (pe_op op_mod (pe_callTy call_int1 (by rfl) T.int (by decide +kernel) (pa_cons (pe_callB call_abs (by rfl) T.abs (by decide +kernel) (pa_cons (pv 2) pa_nil)) pa_nil)) (pe_op op_powB (pe_op op_pow pe_int pe_int) pe_int)))
      (pss_cons (ps_set (i := 4) scD.nd rfl (Or.inl rfl) (pe_op op_fdivW (pv 3) (pe_op op_pow pe_int pe_int)))
      (pss_cons (ps_set (i := 5) scD.nd rfl (Or.inl rfl) (pe_op op_add (pe_op op_add (pe_op op_add (pe_op op_mul (pe_op op_mod (pv 3) pe_int) pe_int) (pe_op op_mul pe_int (pv 1))) (pe_op op_mul pe_int (pe_callTy call_int1 (by rfl) T.int (by decide +kernel) (pa_cons (pe_cmpR op_lt (pv 2) pe_int (nomark _)) pa_nil)))) pe_int))
      (pss_one (ps_ret (pe_lst (pa_cons (pv 4) (pa_cons (pe_op op_mod (pv 5) pe_int) (pa_cons pe_int pa_nil)))))))))), ?_⟩
    refine ⟨_, rfl, _, _, rfl, rfl, .inl (by decide), _, _, rfl, rfl, ?_⟩
    refine ⟨_, rfl, _, rfl, a, _, rfl, .inl hS, _, _, rfl, rfl, _, rfl, ite2 (fun h0 => ?_) (fun h0 => ?_)⟩
    · have h1 : k < ns.length := by
        rw [List.length_map] at h0
        have h2 := of_decide_eq_true h0
        omega
      have hv : (ns.map V.int)[k]? = some (V.int ns[k]) := by
        rw [List.getElem?_map, List.getElem?_eq_getElem h1]
        rfl
      refine ⟨_, rfl, _, rfl, a, _, _, _, rfl, rfl, hS, atI_nat hv, ?_⟩
      refine ⟨_, rfl, _, rfl, .inl ⟨_, rfl, ?_⟩⟩
      refine ⟨_, _, rfl, rfl, ⟨by decide, by decide, by decide⟩, _, _, rfl, rfl, ⟨by decide, by decide +kernel⟩, _, _, rfl, rfl, (by show (0 : Int) < (10 ^ (60 : Int).toNat) ^ (10 : Int).toNat; decide +kernel), ?_⟩
      refine ⟨_, rfl, _, _, rfl, rfl, ⟨by decide, by decide, by decide⟩, _, _, rfl, rfl, wide_div (b := 64) (by show (0 : Int) < 10 ^ (18 : Int).toNat; decide +kernel) (by show (10 ^ (18 : Int).toNat : Int).natAbs < 2 ^ 64; decide +kernel) (by decide) (by decide), ?_⟩
      refine ⟨_, rfl, _, _, rfl, rfl, (by show (0 : Int) < 2147483423; decide), _, _, rfl, rfl, .inr (by decide), _, rfl, _, _, rfl, rfl, .inl (by decide), _, _, rfl, rfl, _, rfl, _, _, rfl, rfl, .inr ⟨_, rfl, ?_⟩⟩
      refine ⟨_, _, rfl, rfl, .inl (by decide), _, _, rfl, rfl, _, _, rfl, rfl, ?_⟩
      refine ⟨_, rfl, _, rfl, _, _, rfl, rfl, (by show (0 : Int) < 2147483399; decide), (by show 3 ≤ sizeLine; decide), fun p hp => ?_⟩
      exact q _ p (fun b o e => by rw [upd_ne (ne_of_none e hp)]; exact e) hp ⟨_, _, _, upd_same⟩
    · refine ⟨_, rfl, _, rfl, .inl ⟨_, rfl, ?_⟩⟩
      refine ⟨_, _, rfl, rfl, ⟨by decide, by decide, by decide⟩, _, _, rfl, rfl, ⟨by decide, by decide +kernel⟩, _, _, rfl, rfl, (by show (0 : Int) < (10 ^ (60 : Int).toNat) ^ (10 : Int).toNat; decide +kernel), ?_⟩
      refine ⟨_, rfl, _, _, rfl, rfl, ⟨by decide, by decide, by decide⟩, _, _, rfl, rfl, wide_div (b := 64) (by show (0 : Int) < 10 ^ (18 : Int).toNat; decide +kernel) (by show (10 ^ (18 : Int).toNat : Int).natAbs < 2 ^ 64; decide +kernel) (by decide) (by decide), ?_⟩
      refine ⟨_, rfl, _, _, rfl, rfl, (by show (0 : Int) < 2147483423; decide), _, _, rfl, rfl, .inr (by decide), _, rfl, _, _, rfl, rfl, .inl (by decide), _, _, rfl, rfl, _, rfl, _, _, rfl, rfl, .inr ⟨_, rfl, ?_⟩⟩
      refine ⟨_, _, rfl, rfl, .inl (by decide), _, _, rfl, rfl, _, _, rfl, rfl, ?_⟩
      refine ⟨_, rfl, _, rfl, _, _, rfl, rfl, (by show (0 : Int) < 2147483399; decide), (by show 3 ≤ sizeLine; decide), fun p hp => ?_⟩
      exact q _ p (fun b o e => by rw [upd_ne (ne_of_none e hp)]; exact e) hp ⟨_, _, _, upd_same⟩
end
end OM

namespace OM
open PySem PySem.Spec PyProof.Rows L2
abbrev sCop : Stmt := top 7
/-- a key as a datum -/
def kD : Key → PyData
  | .inl i => .int i
  | .inr x => .str x
/-- values that are no objects -/
inductive At : V → PyData → Prop where
  | non : At .non .none
  | bl (b : Bool) : At (.bl b) (.bool b)
  | int (i : Int) : At (.int i) (.int i)
  | str (x : Str) : At (.str x) (.str x)
mutual
/-- v stands for the datum d, by objects of S alone -/
inductive Dt (S : Addr → Prop) (H : Hp) : V → PyData → Prop where
  | at {v : V} {d : PyData} (h : At v d) : Dt S H v d
  | lst {a : Addr} {xs : List V} {ds : List PyData} (s : S a) (e : H a = some (.lst xs)) (hl : xs.length ≤ 1000) (h : DtAll S H xs ds) : Dt S H (.ref a) (.list ds)
  | tup {a : Addr} {xs : List V} {ds : List PyData} (s : S a) (e : H a = some (.tup xs)) (hl : xs.length ≤ 1000) (h : DtAll S H xs ds) : Dt S H (.ref a) (.tuple ds)
  | dic0 {a : Addr} (s : S a) (e : H a = some (.dK [])) : Dt S H (.ref a) (.dict [])
  | dic1 {a : Addr} {k : Key} {v : V} {d : PyData} (s : S a) (e : H a = some (.dK [(k, v)])) (h : At v d) : Dt S H (.ref a) (.dict [(kD k, d)])
inductive DtAll (S : Addr → Prop) (H : Hp) : List V → List PyData → Prop where
  | nil : DtAll S H [] []
  | cons {v : V} {d : PyData} {vs : List V} {ds : List PyData} (h : Dt S H v d) (r : DtAll S H vs ds) : DtAll S H (v :: vs) (d :: ds)
end
section
variable {S S' : Addr → Prop} {H H' : Hp}
mutual
theorem Dt.mv (hS : ∀ a, S a → S' a) (hH : ∀ a o, S a → H a = some o → H' a = some o) : ∀ {v : V} {d : PyData}, Dt S H v d → Dt S' H' v d
  | _, _, .at h => .at h
  | _, _, .lst s e hl h => .lst (hS _ s) (hH _ _ s e) hl (DtAll.mv hS hH h)
  | _, _, .tup s e hl h => .tup (hS _ s) (hH _ _ s e) hl (DtAll.mv hS hH h)
  | _, _, .dic0 s e => .dic0 (hS _ s) (hH _ _ s e)
  | _, _, .dic1 s e h => .dic1 (hS _ s) (hH _ _ s e) h
theorem DtAll.mv (hS : ∀ a, S a → S' a) (hH : ∀ a o, S a → H a = some o → H' a = some o) : ∀ {vs : List V} {ds : List PyData}, DtAll S H vs ds → DtAll S' H' vs ds
  | _, _, .nil => .nil
  | _, _, .cons h r => .cons (Dt.mv hS hH h) (DtAll.mv hS hH r)
end
mutual
theorem Dt.strong (hS : ∀ a o, S a → H a = some o → S' a ∧ H' a = some o) : ∀ {v : V} {d : PyData}, Dt S H v d → Dt S' H' v d
  | _, _, .at h => .at h
  | _, _, .lst s e hl h => .lst (hS _ _ s e).1 (hS _ _ s e).2 hl (DtAll.strong hS h)
  | _, _, .tup s e hl h => .tup (hS _ _ s e).1 (hS _ _ s e).2 hl (DtAll.strong hS h)
  | _, _, .dic0 s e => .dic0 (hS _ _ s e).1 (hS _ _ s e).2
  | _, _, .dic1 s e h => .dic1 (hS _ _ s e).1 (hS _ _ s e).2 h
theorem DtAll.strong (hS : ∀ a o, S a → H a = some o → S' a ∧ H' a = some o) : ∀ {vs : List V} {ds : List PyData}, DtAll S H vs ds → DtAll S' H' vs ds
  | _, _, .nil => .nil
  | _, _, .cons h r => .cons (Dt.strong hS h) (DtAll.strong hS r)
end
theorem DtAll.snoc : ∀ {vs : List V} {ds : List PyData} {v : V} {d : PyData}, DtAll S H vs ds → Dt S H v d → DtAll S H (vs ++ [v]) (ds ++ [d])
  | _, _, _, _, .nil, h => .cons h .nil
  | _, _, _, _, .cons a r, h => .cons a (DtAll.snoc r h)
theorem DtAll.length : ∀ {vs : List V} {ds : List PyData}, DtAll S H vs ds → vs.length = ds.length
  | _, _, .nil => rfl
  | _, _, .cons _ r => congrArg (· + 1) (DtAll.length r)
theorem DtAll.get : ∀ {vs : List V} {ds : List PyData} {i : Nat} {v : V}, DtAll S H vs ds → vs[i]? = some v → ∃ d, ds[i]? = some d ∧ Dt S H v d
  | _, _, _, _, .nil, e => by simp at e
  | _, _, 0, _, .cons h _, e => by
    simp at e
    subst e
    exact ⟨_, rfl, h⟩
  | _, _, i + 1, _, .cons _ r, e => by
    obtain ⟨d, e2, h⟩ := DtAll.get (i := i) r (by simpa using e)
    exact ⟨d, by simpa using e2, h⟩
theorem depth_get : ∀ {ds : List PyData} {i : Nat} {d : PyData}, ds[i]? = some d → d.depth ≤ PyData.depthAll ds
  | [], _, _, e => by simp at e
  | x :: r, 0, d, e => by
    simp at e
    subst e
    unfold PyData.depthAll
    omega
  | x :: r, i + 1, d, e => by
    have q := depth_get (ds := r) (i := i) (d := d) (by simpa using e)
    unfold PyData.depthAll
    omega
/-- the type that isinstance sees -/
theorem At.ty {K : PySem.W.Frag} {v : V} {d : PyData} (h : At v d) : ∃ n, (n = "NoneType" ∨ n = "bool" ∨ n = "int" ∨ n = "str") ∧ TyX K H v (.type n) := by
  cases h with
  | non => exact ⟨_, .inl rfl, .base .non⟩
  | bl b => exact ⟨_, .inr (.inl rfl), .base (.bl b)⟩
  | int i => exact ⟨_, .inr (.inr (.inl rfl)), .base (.int i)⟩
  | str x => exact ⟨_, .inr (.inr (.inr rfl)), .base (.str x)⟩
end
/-- what _copied answers: the same datum, of objects that were not there -/
def spCop : Nat → Sp
  | 0 => fun _ _ _ _ => False
  | n + 1 => fun vs H Q _ => ∃ (S : Addr → Prop) (v : V) (d : PyData), vs = [v] ∧ Dt S H v d ∧ d.depth ≤ n ∧ ∀ H' v', Same H H' → Dt (fun a => H a = none) H' v' d → Q v' H'
structure TxtC (mg : Str → Option Value) : Prop where
  isi : mg "isinstance" = none
  lst : mg "list" = none
  tup : mg "tuple" = none
  dct : mg "dict" = none
/-- over the keys of a dict that is held -/
theorem dc_keys {d : Addr} {o : Obj} {kws : List (Key × V)} {g : TG} {tt : TT} {tk tv : TE} {vs : List Nat} {σ : L2.St} {H1 : Hp} {D : Addr} {Qd : Hp → Prop} (Pv : Nat → Hp → Prop) (h0 : Pv 0 (upd H1 D (.dK []))) (hl : ∀ i H, Pv i H → H d = some (.frz o (.dK kws)))
    (hs : ∀ i k v H, kws[i]? = some (k, v) → Pv i H → g (kV k) (wipe σ vs) H fun σ2 H2 => wipe σ2 vs = wipe σ vs ∧ tt σ2 H2 fun b H3 =>
      if b = true then tk σ2 H3 fun y H4 => tv σ2 H4 fun z H5 => ∃ kvs k, y = kV k ∧ H5 D = some (.dK kvs) ∧ kvs.length < sizeLine ∧ Pv (i + 1) (upd H5 D (.dK (putK kvs k z))) else Pv (i + 1) H3) (hd : ∀ H, Pv kws.length H → Qd H) :
    ∃ W : Nat → Nat → Hp → Prop, (∃ m, W 0 m (upd H1 D (.dK []))) ∧ ∀ i m H, W i m H →
      ((Itk d o kws).stop i H ∧ Qd H) ∨ ((Itk d o kws).go i H ∧ ∃ Nx : Hp → Prop, (∀ H', Nx H' → ∃ m', m' < m ∧ W (i + 1) m' H') ∧ ∀ x H', (Itk d o kws).yld i H x H' → g x (wipe σ vs) H' fun σ2 H2 => wipe σ2 vs = wipe σ vs ∧ tt σ2 H2 fun b H3 =>
        if b = true then tk σ2 H3 fun y H4 => tv σ2 H4 fun z H5 => ∃ kvs k, y = kV k ∧ H5 D = some (.dK kvs) ∧ kvs.length < sizeLine ∧ Nx (upd H5 D (.dK (putK kvs k z))) else Nx H3) := by
  refine ⟨fun i m H => i ≤ kws.length ∧ m = kws.length - i ∧ Pv i H, ⟨_, Nat.zero_le _, rfl, h0⟩, ?_⟩
  rintro i m H ⟨hi, rfl, p⟩
  have q := hl i H p
  rcases Nat.lt_or_ge i kws.length with hlt | hge
  · refine .inr ⟨⟨q, hlt⟩, Pv (i + 1), fun H' p' => ⟨kws.length - (i + 1), by omega, hlt, rfl, p'⟩, fun x H' y => ?_⟩
    obtain ⟨rfl, k, v, e, rfl⟩ := y
    exact hs i k v _ e p
  · obtain rfl : i = kws.length := by omega
    exact .inl ⟨⟨q, hge⟩, hd H p⟩
section
variable {P : Program} {w : World} {K : PySem.W.Frag} {mg : Str → Option Value} {base : Heap}
theorem scC : FnScope ["value", "part", "key"] ["value"] (defScope sCop) := ⟨rfl, rfl, rfl, by decide +kernel, rfl, by decide +kernel, by decide +kernel⟩
theorem isi_b {H : Hp} {x : V} {n m : String} {r : Bool} {Q : VK} (ty : TyX K H x (.type n)) (h : kitB n m = some r) (q : Q (.bl r) H) : rIsi K [x, .ty m] H Q := ⟨x, .ty m, _, _, r, rfl, .ty m, ty, kit_ty h, q⟩
/-- if isinstance(x, T): , x the name in the i-th slot -/
theorem isi_if {σ : L2.St} {i : Nat} {H : Hp} {x : V} {n m : String} {r : Bool} {Q : Bool → Hp → Prop} (hv : σ[i]? = some (some x)) (ty : TyX K H x (.type n)) (h : kitB n m = some r) (q : Q r H) : tB (tCB (rIsi K) (tCons (tVar i) (tCons (tC (.ty m)) tNil))) σ H Q :=
  ⟨x, hv, isi_b (Q := fun y H1 => ∃ c, y = V.bl c ∧ Q c H1) ty h ⟨r, rfl, q⟩⟩
end
end OM

namespace OM
open PySem PySem.Spec PyProof.Rows L2
section
variable {P : Program} {w : World} {K : PySem.W.Frag} {mg : Str → Option Value} {base : Heap}
theorem same_upd {H : Hp} {D : Addr} {o : HO} (h : H D = none) : Same H (upd H D o) := fun b u e => by rw [upd_ne (ne_of_none e h)]; exact e
theorem same_put {H H' : Hp} {D : Addr} {o : HO} (h : H D = none) (s : Same H H') : Same H (upd H' D o) := fun b u e => by rw [upd_ne (ne_of_none e h)]; exact s b u e
/-- what holds of the parts that were copied so far -/
def PvC (H : Hp) (D : Addr) (ds : List PyData) (i : Nat) (H' : Hp) : Prop := Same H H' ∧ ∃ acc : List V, H' D = some (.lst acc) ∧ DtAll (fun a => H a = none ∧ a ≠ D) H' acc (ds.take i)
theorem PvC.one {S : Addr → Prop} {H H3 : Hp} {D : Addr} {xs : List V} {ds : List PyData} {i m : Nat} {x : V} (hD : H D = none) (hl : xs.length ≤ 1000) (h : DtAll S H xs ds) (hdep : PyData.depthAll ds ≤ m) (hx : xs[i]? = some x) (p : PvC H D ds i H3) :
    spCop (m + 1) [x] H3 (fun y H4 => ∃ acc, H4 D = some (.lst acc) ∧ acc.length < sizeLine ∧ PvC H D ds (i + 1) (upd H4 D (.lst (acc ++ [y])))) E0 := by
  obtain ⟨sm, acc, hD3, da⟩ := p
  obtain ⟨d, hdi, hdt⟩ := h.get hx
  refine ⟨S, x, d, rfl, hdt.mv (fun _ z => z) (fun a o _ e => sm a o e), Nat.le_trans (depth_get hdi) hdep, fun H4 v' sm4 dt4 => ⟨acc, sm4 _ _ hD3, ?_, ?_⟩⟩
  · have e1 := da.length
    rw [List.length_take] at e1
    have e2 : (1000 : Nat) < sizeLine := by decide
    have e3 := h.length
    omega
  · refine ⟨same_put hD (sm.trans sm4), acc ++ [v'], upd_same, ?_⟩
    have et : ds.take (i + 1) = ds.take i ++ [d] := by
      rw [List.take_add_one, hdi] <;> rfl
    rw [et]
    refine DtAll.snoc (da.mv (fun _ z => z) fun a o s e => by rw [upd_ne s.2]; exact sm4 _ _ e) (dt4.mv (fun a (s : H3 a = none) => ⟨sm.free s, fun z => by rw [z, hD3] at s; cases s⟩) fun a o s e => ?_)
    have s' : H3 a = none := s
    rw [upd_ne (fun z => by rw [z, hD3] at s'; cases s')]
    exact e
theorem PvC.all {S : Addr → Prop} {H H5 : Hp} {D : Addr} {xs : List V} {ds : List PyData} (h : DtAll S H xs ds) (p : PvC H D ds xs.length H5) : Same H H5 ∧ ∃ acc : List V, H5 D = some (.lst acc) ∧ acc.length = xs.length ∧ DtAll (fun a => H a = none ∧ a ≠ D) H5 acc ds := by
  obtain ⟨sm, acc, hD5, da⟩ := p
  rw [h.length, List.take_length] at da
  exact ⟨sm, acc, hD5, da.length.trans h.length.symm, da⟩
theorem PvC.zero {H : Hp} {D : Addr} {ds : List PyData} (hD : H D = none) : PvC H D ds 0 (upd H D (.lst [])) := ⟨same_upd hD, [], upd_same, .nil⟩
theorem unlock_same {H H' : Hp} {a : Addr} {od : Obj} {u : HO} (e : H a = some u) (sm : Same (upd H a (.frz od u)) H') : Same H (upd H' a u) := fun b o z => by
  by_cases hb : b = a
  · rw [hb] at z ⊢
    rw [upd_same, ← z, e]
  · rw [upd_ne hb]
    exact sm b o (by rw [upd_ne hb]; exact z)
theorem At.of {S : Addr → Prop} {H : Hp} {v v' : V} {d : PyData} (h : At v d) (x : Dt S H v' d) : At v' d := by
  cases h <;> (cases x; assumption)
theorem cop_step {f : Addr} {fd : FuncData} {n : Nat} (F : Fun K "_copied" "_copied" sCop f fd) (T : TxtC mg) (gC : mg "_copied" = some (.ref f)) (bC : Binds K fd ["value"] []) (G : FnOk P w K mg base CX0 n f fd ["value"] (spCop n)) :
    FnOk P w K mg base CX0 (n + 1) f fd ["value"] (spCop (n + 1)) := by
  refine F.ok scC (fun vs H Q E h => ?_) (fun cdv A outer s H vs Q E hr h => ?_)
  · obtain ⟨S, v, d, rfl, _⟩ := h
    rfl
  · obtain ⟨S, v, d, rfl, hd, hdep, q⟩ := h
    have un : (A.deeper (envOfC "_copied" (defScope sCop) s.heap.objs.size f cdv)).units + 1 < cLine := by
      have := hr.un
      omega
    refine ⟨_, pss_cons (ps_if (pt_val (pe_callB call_isi (by rfl) T.isi (by decide +kernel) (pa_cons (pv 0) (pa_cons (pe_bltn (v := .ty "list") (u := .type "list") (by rfl) T.lst (by decide +kernel) rfl) pa_nil))))
        (pss_one (ps_ret (pe_lc (own := [("part", 1)]) rfl scC.nd (pi_list (pv 0)) (blkOk_by (N := ["value", "part", "key"]) (sc := defScope sCop) (by decide +kernel)) (fun _ _ _ _ _ => pg_name (i := 1) scC.nd rfl (Or.inl rfl)) (fun _ _ _ _ _ => pts_nil)
          (fun _ _ _ _ _ => pe_call G hr rfl gC F.kp bC .nil pass0 (pa_cons (pv 1) pa_nil))))) pss_nil)
      (pss_cons (ps_if (pt_val (pe_callB call_isi (by rfl) T.isi (by decide +kernel) (pa_cons (pv 0) (pa_cons (pe_bltn (v := .ty "tuple") (u := .type "tuple") (by rfl) T.tup (by decide +kernel) rfl) pa_nil))))
        (pss_one (ps_ret (pe_callTy call_tuple_of (by rfl) T.tup (by decide +kernel) (pa_cons (pe_lc (own := [("part", 1)]) rfl scC.nd (pi_tup (pv 0)) (blkOk_by (N := ["value", "part", "key"]) (sc := defScope sCop) (by decide +kernel)) (fun _ _ _ _ _ => pg_name (i := 1) scC.nd rfl (Or.inl rfl)) (fun _ _ _ _ _ => pts_nil)
          (fun _ _ _ _ _ => pe_call G hr rfl gC F.kp bC .nil pass0 (pa_cons (pv 1) pa_nil))) pa_nil)))) pss_nil)
      (pss_cons (ps_if (pt_val (pe_callB call_isi (by rfl) T.isi (by decide +kernel) (pa_cons (pv 0) (pa_cons (pe_bltn (v := .ty "dict") (u := .type "dict") (by rfl) T.dct (by decide +kernel) rfl) pa_nil))))
        (pss_one (ps_ret (pe_lock (pe_dc (own := [("key", 2)]) rfl scC.nd (pi_keys (pv 0)) (blkOk_by (N := ["value", "part", "key"]) (sc := defScope sCop) (by decide +kernel)) (fun _ _ _ _ _ => pg_name (i := 2) scC.nd rfl (Or.inl rfl)) (fun _ _ _ _ _ => pts_nil)
          (fun _ _ _ _ _ => pv 2) (fun _ _ _ _ _ => pe_call G hr rfl gC F.kp bC .nil pass0 (pa_cons (pe_dget un (pv 0) (pv 2) (fun _ _ => rfl)) pa_nil)))))) pss_nil)
      (pss_one (ps_ret (pv 0))))), ?_⟩
    cases hd with
    | «at» h =>
      obtain ⟨t, ht, ty⟩ := h.ty (K := K) (H := H)
      have k1 : kitB t "list" = some false := by rcases ht with rfl | rfl | rfl | rfl <;> decide +kernel
      have k2 : kitB t "tuple" = some false := by rcases ht with rfl | rfl | rfl | rfl <;> decide +kernel
      have k3 : kitB t "dict" = some false := by rcases ht with rfl | rfl | rfl | rfl <;> decide +kernel
      refine isi_if (x := v) rfl ty k1 (iteF ?_)
      refine isi_if (x := v) rfl ty k2 (iteF ?_)
      refine isi_if (x := v) rfl ty k3 (iteF ?_)
      exact ⟨_, rfl, q _ _ (Same.refl _) (.at h)⟩
    | @lst a xs ds sa e hl h =>
      unfold PyData.depth at hdep
      obtain ⟨m, rfl⟩ : ∃ m, n = m + 1 := ⟨n - 1, by omega⟩
      refine isi_if (x := .ref a) (n := "list") (r := true) rfl (.base (.lst e)) (by decide +kernel) (iteT ?_)
      refine ⟨_, rfl, a, rfl, ⟨xs, SqL.of e⟩, fun D hD => lc_list (PvC H D ds) (PvC.zero hD) (fun i H' _ p => SqL.of (p.1 _ _ e)) (fun i x H3 hx p => ?_) (fun H5 p => ?_)⟩
      · exact ⟨rfl, _, rfl, PvC.one hD hl h (by omega) hx p⟩
      · obtain ⟨sm, acc, hD5, hlen, da⟩ := p.all h
        exact q _ _ sm (.lst hD hD5 (by omega) (da.mv (fun _ z => z.1) fun _ _ _ z => z))
    | @tup a xs ds sa e hl h =>
      unfold PyData.depth at hdep
      obtain ⟨m, rfl⟩ : ∃ m, n = m + 1 := ⟨n - 1, by omega⟩
      refine isi_if (x := .ref a) (n := "tuple") (r := false) rfl (.base (.tup e)) (by decide +kernel) (iteF ?_)
      refine isi_if (x := .ref a) (n := "tuple") (r := true) rfl (.base (.tup e)) (by decide +kernel) (iteT ?_)
      refine ⟨_, rfl, a, rfl, ⟨xs, SqT.of e⟩, fun D hD => lc_tup (PvC H D ds) (PvC.zero hD) (fun i H' _ p => SqT.of (p.1 _ _ e)) (fun i x H3 hx p => ?_) (fun H5 p => ?_)⟩
      · exact ⟨rfl, _, rfl, PvC.one hD hl h (by omega) hx p⟩
      · obtain ⟨sm, acc, hD5, hlen, da⟩ := p.all h
        refine ⟨D, acc, rfl, .inl ⟨SqL.of hD5, fun l hn => q _ _ (same_put (sm.free hn) sm) (.tup (sm.free hn) upd_same (by omega) (da.mv (fun _ z => z.1) fun b o s z => ?_))⟩⟩
        rw [upd_ne (ne_of_none z hn)]
        exact z
    | @dic0 a sa e =>
      refine isi_if (x := .ref a) (n := "dict") (r := false) rfl (.base (.dK e)) (by decide +kernel) (iteF ?_)
      refine isi_if (x := .ref a) (n := "dict") (r := false) rfl (.base (.dK e)) (by decide +kernel) (iteF ?_)
      refine isi_if (x := .ref a) (n := "dict") (r := true) rfl (.base (.dK e)) (by decide +kernel) (iteT ?_)
      refine ⟨a, .dK [], e, True.intro, fun od => ⟨_, rfl, a, od, rfl, .inl ⟨[], upd_same, fun D hD => dc_keys (fun _ H' => Same (upd H a (.frz od (.dK []))) H' ∧ H' D = some (.dK [])) ⟨same_upd hD, upd_same⟩ (fun i H' p => p.1 _ _ upd_same) (fun i k v H3 hx p => by simp at hx) (fun H5 p => ?_)⟩⟩⟩
      have hDa : D ≠ a := fun z => by rw [z, upd_same] at hD; cases hD
      rw [upd_ne hDa] at hD
      exact ⟨p.1 _ _ upd_same, q _ _ (unlock_same e p.1) (.dic0 hD (by rw [upd_ne hDa]; exact p.2))⟩
    | @dic1 a k v d sa e h =>
      have hdk : At v d → d.depth = 0 := fun z => by cases z <;> rfl
      obtain ⟨m, rfl⟩ : ∃ m, n = m + 1 := ⟨n - 1, by
        have z : 1 ≤ PyData.depth (.dict [(kD k, d)]) := by
          unfold PyData.depth
          omega
        omega⟩
      refine isi_if (x := .ref a) (n := "dict") (r := false) rfl (.base (.dK e)) (by decide +kernel) (iteF ?_)
      refine isi_if (x := .ref a) (n := "dict") (r := false) rfl (.base (.dK e)) (by decide +kernel) (iteF ?_)
      refine isi_if (x := .ref a) (n := "dict") (r := true) rfl (.base (.dK e)) (by decide +kernel) (iteT ?_)
      refine ⟨a, .dK [(k, v)], e, True.intro, fun od => ⟨_, rfl, a, od, rfl, .inl ⟨[(k, v)], upd_same, fun D hD => dc_keys (fun i H' => Same (upd H a (.frz od (.dK [(k, v)]))) H' ∧ ((i = 0 ∧ H' D = some (.dK [])) ∨ (i = 1 ∧ ∃ v', H' D = some (.dK [(k, v')]) ∧ At v' d)))
        ⟨same_upd hD, .inl ⟨rfl, upd_same⟩⟩ (fun i H' p => p.1 _ _ upd_same) (fun i k' v0 H3 hx p => ?_) (fun H5 p => ?_)⟩⟩⟩
      · cases i with
        | succ i => simp at hx
        | zero =>
          obtain ⟨rfl, rfl⟩ : k = k' ∧ v = v0 := by simpa using hx
          obtain ⟨sm, ⟨_, hD3⟩ | ⟨z, _⟩⟩ := p
          · refine ⟨rfl, _, rfl, _, rfl, _, rfl, a, v, rfl, .inl ⟨[(k, v)], k, .inr ⟨od, sm _ _ upd_same⟩, rfl, ?_⟩, fun _ => True, v, d, rfl, .at h, by rw [hdk h]; exact Nat.zero_le _, fun H4 v' sm4 dt4 => ⟨[], k, rfl, sm4 _ _ hD3, by decide, same_put hD (sm.trans sm4), .inr ⟨rfl, v', ?_, h.of dt4⟩⟩⟩
            · unfold valV
              simp
            · exact upd_same
          · cases z
      · have hDa : D ≠ a := fun z => by rw [z, upd_same] at hD; cases hD
        rw [upd_ne hDa] at hD
        obtain ⟨sm, ⟨z, _⟩ | ⟨_, v', hD5, h5⟩⟩ := p
        · cases z
        · exact ⟨sm _ _ upd_same, q _ _ (unlock_same e sm) (.dic1 hD (by rw [upd_ne hDa]; exact hD5) h5)⟩
end
end OM

namespace OM
open PySem PySem.Spec PyProof.Rows L2
/-- the type of a datum, by name -/
def tyN : PyData → String
  | .none => "NoneType"
  | .bool _ => "bool"
  | .int _ => "int"
  | .str _ => "str"
  | .list _ => "list"
  | .tuple _ => "tuple"
  | .dict _ => "dict"
theorem Dt.tyx {K : PySem.W.Frag} {S : Addr → Prop} {H : Hp} {v : V} {d : PyData} (h : Dt S H v d) : TyX K H v (.type (tyN d)) := by
  cases h with
  | «at» a =>
    cases a with
    | non => exact .base .non
    | bl b => exact .base (.bl b)
    | int i => exact .base (.int i)
    | str x => exact .base (.str x)
  | lst s e hl h => exact .base (.lst e)
  | tup s e hl h => exact .base (.tup e)
  | dic0 s e => exact .base (.dK e)
  | dic1 s e h => exact .base (.dK e)
def isStrD : PyData → Bool
  | .str _ => true
  | _ => false
def isTupD : PyData → Bool
  | .tuple _ => true
  | _ => false
theorem kit_str (d : PyData) : kitB (tyN d) "str" = some (isStrD d) := by
  have k0 : kitB "NoneType" "str" = some false := by decide +kernel
  have k1 : kitB "bool" "str" = some false := by decide +kernel
  have k2 : kitB "int" "str" = some false := by decide +kernel
  have k3 : kitB "str" "str" = some true := by decide +kernel
  have k4 : kitB "list" "str" = some false := by decide +kernel
  have k5 : kitB "tuple" "str" = some false := by decide +kernel
  have k6 : kitB "dict" "str" = some false := by decide +kernel
  cases d <;> assumption
theorem kit_tup (d : PyData) : kitB (tyN d) "tuple" = some (isTupD d) := by
  have k0 : kitB "NoneType" "tuple" = some false := by decide +kernel
  have k1 : kitB "bool" "tuple" = some false := by decide +kernel
  have k2 : kitB "int" "tuple" = some false := by decide +kernel
  have k3 : kitB "str" "tuple" = some false := by decide +kernel
  have k4 : kitB "list" "tuple" = some false := by decide +kernel
  have k5 : kitB "tuple" "tuple" = some true := by decide +kernel
  have k6 : kitB "dict" "tuple" = some false := by decide +kernel
  cases d <;> assumption
/-- if isinstance(x, T): .. as a value -/
theorem isi_te {K : PySem.W.Frag} {σ : L2.St} {i : Nat} {H : Hp} {x : V} {n m : String} {r : Bool} {Q : VK} (hv : σ[i]? = some (some x)) (ty : TyX K H x (.type n)) (h : kitB n m = some r) (q : Q (.bl r) H) : tCB (rIsi K) (tCons (tVar i) (tCons (tC (.ty m)) tNil)) σ H Q := by
  refine ⟨x, hv, ?_⟩
  exact (show rIsi K [x, .ty m] H Q from isi_b ty h q)
/-! ### names -/
def letS (x : Str) : Bool := x.cps.toList.all fun c => decide (97 ≤ c) && decide (c ≤ 122)
def words6 : List Str := ["else", "end", "get", "if", "put", "show"]
def nameS (x : Str) : Bool := decide (1 ≤ x.length) && (decide (x.length ≤ 8) && (letS x && !words6.contains x))
def isNameD : PyData → Bool
  | .str x => nameS x
  | _ => false

mutual
def smlD : PyData → Bool
  | .str x => decide (x.length ≤ 1000) && PyData.strOk x
  | .list xs => smlAll xs
  | .tuple xs => smlAll xs
  | _ => true
def smlAll : List PyData → Bool
  | [] => true
  | x :: r => smlD x && smlAll r
end
theorem sml_get : ∀ {ds : List PyData} {i : Nat} {d : PyData}, smlAll ds = true → ds[i]? = some d → smlD d = true
  | [], _, _, _, e => by simp at e
  | x :: r, 0, d, h, e => by
    simp at e
    subst e
    unfold smlAll at h
    exact (Bool.and_eq_true_iff.mp h).1
  | x :: r, i + 1, d, h, e => by
    unfold smlAll at h
    exact sml_get (Bool.and_eq_true_iff.mp h).2 (by simpa using e)
/-- over a text's signs -/
theorem lc_its {x : Str} {g : TG} {tt : TT} {te : TE} {vs : List Nat} {σ : L2.St} {H1 : Hp} {D : Addr} {Qd : Hp → Prop} (Pv : Nat → Hp → Prop) (h0 : Pv 0 (upd H1 D (.lst [])))
    (hs : ∀ i c H, x.cps.toList[i]? = some c → Pv i H → g (.str ⟨#[c]⟩) (wipe σ vs) H fun σ2 H2 => wipe σ2 vs = wipe σ vs ∧ tt σ2 H2 fun b H3 =>
      if b = true then te σ2 H3 fun y H4 => ∃ acc, H4 D = some (.lst acc) ∧ acc.length < sizeLine ∧ Pv (i + 1) (upd H4 D (.lst (acc ++ [y]))) else Pv (i + 1) H3) (hd : ∀ H, Pv x.cps.toList.length H → Qd H) :
    ∃ W : Nat → Nat → Hp → Prop, (∃ m, W 0 m (upd H1 D (.lst []))) ∧ ∀ i m H, W i m H →
      ((Its x).stop i H ∧ Qd H) ∨ ((Its x).go i H ∧ ∃ Nx : Hp → Prop, (∀ H', Nx H' → ∃ m', m' < m ∧ W (i + 1) m' H') ∧ ∀ v H', (Its x).yld i H v H' → g v (wipe σ vs) H' fun σ2 H2 => wipe σ2 vs = wipe σ vs ∧ tt σ2 H2 fun b H3 =>
        if b = true then te σ2 H3 fun y H4 => ∃ acc, H4 D = some (.lst acc) ∧ acc.length < sizeLine ∧ Nx (upd H4 D (.lst (acc ++ [y]))) else Nx H3) := by
  have hsz : x.cps.toList.length = x.cps.size := Array.length_toList
  refine ⟨fun i m H => i ≤ x.cps.size ∧ m = x.cps.size - i ∧ Pv i H, ⟨_, Nat.zero_le _, rfl, h0⟩, ?_⟩
  rintro i m H ⟨hi, rfl, p⟩
  rcases Nat.lt_or_ge i x.cps.size with hlt | hge
  · refine .inr ⟨hlt, Pv (i + 1), fun H' p' => ⟨x.cps.size - (i + 1), by omega, hlt, rfl, p'⟩, ?_⟩
    rintro v H' ⟨rfl, c, hc, rfl⟩
    exact hs i c _ (by rw [Array.getElem?_toList]; exact hc) p
  · obtain rfl : i = x.cps.size := by omega
    exact .inl ⟨Nat.le_refl _, hd H (by rw [hsz]; exact p)⟩
end OM

namespace OM
open PySem PySem.Spec PyProof.Rows L2
abbrev sIsName : Stmt := top 17
def alphabet : Str := "abcdefghijklmnopqrstuvwxyz"
theorem alpha_tl : alphabet.cps.toList = [97, 98, 99, 100, 101, 102, 103, 104, 105, 106, 107, 108, 109, 110, 111, 112, 113, 114, 115, 116, 117, 118, 119, 120, 121, 122] := by decide +kernel
theorem in_alpha (c : Nat) : (!(Builtin.Str.occurrences alphabet ⟨#[c]⟩ 0 alphabet.length 1).isEmpty) = (decide (97 ≤ c) && decide (c ≤ 122)) := by
  rw [StrLaws.found_one, alpha_tl, Bool.eq_iff_iff]
  simp only [decide_eq_true_eq, Bool.and_eq_true, List.mem_cons, List.not_mem_nil, or_false]
  omega
/-- a word among the six -/
theorem inV_words (x : Str) : inV (.str x) (words6.map V.str) = words6.contains x := by
  have h : ∀ y : Str, (y == x) = (x == y) := fun y => by rw [Bool.eq_iff_iff, beq_iff_eq, beq_iff_eq, eq_comm]
  unfold inV words6
  simp only [List.map_cons, List.map_nil, List.any_cons, List.any_nil, List.contains_cons, List.contains_nil, eqV, h]
/-- constants of the module, as values -/
structure TxtN (K : PySem.W.Frag) (mg : Str → Option Value) : Prop where
  isi : mg "isinstance" = none
  str : mg "str" = none
  len : mg "len" = none
  all : mg "all" = none
  most : ∃ t, mg "MAX_LETTERS" = some (.int 8 t)
  lets : ∃ t, mg "LETTERS" = some (.str alphabet t)
  words : ∃ a, mg "WORDS" = some (.ref a) ∧ ∀ H, SqT K H a (words6.map V.str)
def spName : Sp := fun vs H Q _ => ∃ (S : Addr → Prop) (v : V) (d : PyData), vs = [v] ∧ Dt S H v d ∧ smlD d = true ∧ ∀ H', Same H H' → Q (.bl (isNameD d)) H'
def let1 (c : Nat) : Bool := decide (97 ≤ c) && decide (c ≤ 122)
theorem letS_map (x : Str) : ((x.cps.toList.map let1).all id) = letS x := by
  unfold letS
  rw [List.all_map]
  rfl
theorem name_yes {x : Str} (h1 : decide ((1 : Int) ≤ (x.length : Int)) = true) (h2 : decide ((x.length : Int) ≤ 8) = true) (h3 : (x.cps.toList.map let1).all id = true) : isNameD (.str x) = !inV (.str x) (words6.map V.str) := by
  have e1 := of_decide_eq_true h1
  have e2 := of_decide_eq_true h2
  rw [letS_map] at h3
  show nameS x = _
  unfold nameS
  rw [h3, decide_eq_true (show 1 ≤ x.length by omega), decide_eq_true (show x.length ≤ 8 by omega), inV_words]
  rfl
theorem name_no {x : Str} (h : ¬ decide ((1 : Int) ≤ (x.length : Int)) = true ∨ ¬ decide ((x.length : Int) ≤ 8) = true ∨ ¬ (x.cps.toList.map let1).all id = true) : isNameD (.str x) = false := by
  show nameS x = _
  unfold nameS
  rcases h with h | h | h
  · have : ¬ 1 ≤ x.length := fun z => h (decide_eq_true (by omega))
    rw [decide_eq_false this]
    rfl
  · have : ¬ x.length ≤ 8 := fun z => h (decide_eq_true (by omega))
    rw [decide_eq_false this, Bool.false_and, Bool.and_false]
  · rw [letS_map] at h
    have : letS x = false := by
      cases y : letS x with
      | false => rfl
      | true => exact absurd y h
    rw [this, Bool.false_and, Bool.and_false, Bool.and_false]
def PvN (H : Hp) (D : Addr) (x : Str) (i : Nat) (H' : Hp) : Prop := Same H H' ∧ H' D = some (.lst (((x.cps.toList.take i).map let1).map V.bl))
theorem PvN.step {H H4 : Hp} {D : Addr} {x : Str} {i c : Nat} {b : Bool} (hD : H D = none) (hl : x.length ≤ 1000) (hc : x.cps.toList[i]? = some c) (p : PvN H D x i H4) (hb : b = let1 c) : ∃ acc, H4 D = some (.lst acc) ∧ acc.length < sizeLine ∧ PvN H D x (i + 1) (upd H4 D (.lst (acc ++ [V.bl b]))) := by
  refine ⟨_, p.2, ?_, same_put hD p.1, ?_⟩
  · have hz : x.cps.toList.length = x.length := Array.length_toList
    rw [List.length_map, List.length_map, List.length_take]
    have : (1000 : Nat) < sizeLine := by decide
    omega
  · rw [upd_same, hb, List.take_add_one, hc, List.map_append, List.map_append]
    rfl
theorem PvN.all {H H5 : Hp} {D : Addr} {x : Str} (p : PvN H D x x.cps.toList.length H5) : Same H H5 ∧ H5 D = some (.lst ((x.cps.toList.map let1).map V.bl)) := by
  have e := p.2
  rw [List.take_length] at e
  exact ⟨p.1, e⟩
section
variable {P : Program} {w : World} {K : PySem.W.Frag} {mg : Str → Option Value} {base : Heap} {f : Addr} {fd : FuncData}
theorem scN : FnScope ["value", "letter"] ["value"] (defScope sIsName) := ⟨rfl, rfl, rfl, by decide +kernel, rfl, by decide +kernel, by decide +kernel⟩
theorem ok_isname (F : Fun K "is_name" "is_name" sIsName f fd) (T : TxtN K mg) : FnOk P w K mg base CX0 1 f fd ["value"] spName := by
  refine F.ok scN (fun vs H Q E h => ?_) (fun cdv A outer s H vs Q E hr h => ?_)
  · obtain ⟨S, v, d, rfl, _⟩ := h
    rfl
  · obtain ⟨S, v, d, rfl, hd, sm, q⟩ := h
    obtain ⟨t1, g1⟩ := T.most
    obtain ⟨t2, g2⟩ := T.lets
    obtain ⟨aw, g3, hw⟩ := T.words
    refine ⟨_, pss_one (ps_ret (pe_and (pe_callB call_isi (by rfl) T.isi (by decide +kernel) (pa_cons (pv 0) (pa_cons (pe_bltn (v := .ty "str") (u := .type "str") (by rfl) T.str (by decide +kernel) rfl) pa_nil)))
      (pe_and (pe_chain op_le op_le pe_int (pe_callB call_len_str (by rfl) T.len PySem.boot_len (pa_cons (pv 0) pa_nil)) (pe_glob (v := .int 8) (by rfl) g1 ⟨t1, rfl⟩))
      (pe_and (pe_callB (cr_all rfl) (by rfl) T.all (by decide +kernel) (pa_cons (pe_lc (own := [("letter", 1)]) rfl scN.nd (pi_str (pv 0)) (blkOk_by (N := ["value", "letter"]) (sc := defScope sIsName) (by decide +kernel))
          (fun _ _ _ _ _ => pg_name (i := 1) scN.nd rfl (Or.inl rfl)) (fun _ _ _ _ _ => pts_nil) (fun _ _ _ _ _ => pe_cmpR op_in_str (pv 1) (pe_glob (v := .str alphabet) (by rfl) g2 ⟨t2, rfl⟩) (by rfl))) pa_nil))
      (pe_one (pe_cmpR op_notIn_seq (pv 0) (pe_glob (v := .ref aw) (by rfl) g3 rfl) (by rfl))))))), ?_⟩
    cases hs : isStrD d with
    | false =>
      have e : isNameD d = false := by cases d <;> first | rfl | cases hs
      refine isi_te (x := v) rfl hd.tyx ((kit_str d).trans (congrArg some hs)) ⟨_, rfl, iteF ?_⟩
      have z := q H (Same.refl _)
      rw [e] at z
      exact z
    | true =>
      cases d with
      | str x =>
        have ev : v = .str x := by
          cases hd with
          | «at» a => cases a <;> rfl
        subst ev
        have hl : x.length ≤ 1000 := of_decide_eq_true (Bool.and_eq_true_iff.mp (show (decide (x.length ≤ 1000) && PyData.strOk x) = true by unfold smlD at sm; exact sm)).1
        refine isi_te (x := .str x) rfl hd.tyx ((kit_str (.str x)).trans rfl) ⟨_, rfl, iteT ?_⟩
        refine ⟨_, rfl, x, rfl, Nat.le_trans hl (by decide), 1, (x.length : Int), rfl, rfl, _, rfl, ite2 (fun h1 => ?_) (fun h1 => ?_)⟩
        · refine ⟨(x.length : Int), 8, rfl, rfl, _, rfl, ite2 (fun h2 => ?_) (fun h2 => ?_)⟩
          · refine ⟨_, rfl, x, rfl, fun Dl hD => lc_its (PvN H Dl x) ⟨same_upd hD, upd_same⟩ (fun i c H3 hc p => ?_) (fun H5 p => ?_)⟩
            · refine ⟨rfl, _, rfl, ⟨#[c]⟩, alphabet, rfl, rfl, p.step hD hl hc (in_alpha c)⟩
            · obtain ⟨s5, e5⟩ := p.all
              refine ⟨Dl, _, rfl, SqL.of e5, _, rfl, ite2 (fun h3 => ?_) (fun h3 => ?_)⟩
              · refine ⟨_, rfl, aw, _, rfl, .inr (hw _), rfl, by decide, ?_⟩
                have z := q _ s5
                rw [show isNameD (.str x) = !inV (.str x) (words6.map V.str) from name_yes h1 h2 h3] at z
                exact z
              · have z := q _ s5
                rw [show isNameD (.str x) = false from name_no (.inr (.inr h3))] at z
                exact z
          · have z := q H (Same.refl _)
            rw [show isNameD (.str x) = false from name_no (.inr (.inl h2))] at z
            exact z
        · refine ⟨_, rfl, iteF ?_⟩
          have z := q H (Same.refl _)
          rw [show isNameD (.str x) = false from name_no (.inl h1)] at z
          exact z
      | _ => cases hs
end
end OM

namespace OM
open PySem PySem.Spec PyProof.Rows L2
def chS (c : Nat) : V := .str ⟨#[c]⟩
def chD (c : Nat) : PyData := .str ⟨#[c]⟩
theorem chs_all {K : PySem.W.Frag} {H : Hp} : ∀ l : List Nat, DpAll K H (l.map chS) (l.map chD)
  | [] => .nil
  | c :: r => .cons (.str _) (chs_all r)
theorem ch_ok {c : Nat} (h : c < 0x110000) : PyData.canLay0 (.str ⟨#[c]⟩) = true := by
  unfold PyData.canLay0
  show (#[c] : Array Nat).all (fun c => decide (c < 0x110000)) = true
  simp [h]
theorem chs_lay : ∀ l : List Nat, (∀ c ∈ l, c < 0x110000) → PyData.canLayAll0 (l.map chD) = true
  | [], _ => rfl
  | c :: r, h => by
    show (PyData.canLay0 (.str ⟨#[c]⟩) && PyData.canLayAll0 (r.map chD)) = true
    rw [chs_lay r fun x hx => h x (List.mem_cons_of_mem _ hx), ch_ok (h c (List.mem_cons_self ..))]
    rfl
theorem chs_dep : ∀ l : List Nat, PyData.depthAll (l.map chD) = 0
  | [] => rfl
  | c :: r => by
    show max (PyData.depth (.str ⟨#[c]⟩)) (PyData.depthAll (r.map chD)) = 0
    rw [chs_dep r]
    rfl
theorem chs_sh (l : List Nat) (hc : ∀ c ∈ l, c < 0x110000) : SeqAt.shaped (.list (l.map chD)) = true := by
  show (PyData.canLay0 (.list (l.map chD)) && decide (PyData.depth (.list (l.map chD)) ≤ 64)) = true
  have h1 : PyData.canLay0 (.list (l.map chD)) = true := by
    unfold PyData.canLay0
    exact chs_lay l hc
  have h2 : PyData.depth (.list (l.map chD)) ≤ 64 := by
    unfold PyData.depth
    rw [chs_dep]
    decide
  rw [h1, decide_eq_true h2]
  rfl
theorem nil_sh : SeqAt.shaped (.list []) = true := by decide +kernel
theorem eqv_nil (l : List Nat) : PyData.eqv (.list (l.map chD)) (.list []) = l.isEmpty := by
  cases l with
  | nil => decide +kernel
  | cons c r =>
    show PyData.eqv (.list (chD c :: r.map chD)) (.list []) = false
    unfold PyData.eqv PyData.eqvAll
    rfl
theorem le_a (c : Nat) : (!decide ((⟨#[c]⟩ : Str).cps.toList < ("a" : Str).cps.toList)) = decide (97 ≤ c) := by
  have e : ("a" : Str).cps.toList = [97] := by decide +kernel
  rw [e, Bool.eq_iff_iff]
  have z : ([c] < [97]) ↔ c < 97 := by
    refine ⟨fun h => ?_, fun h => List.Lex.rel h⟩
    cases h with
    | rel h => exact h
    | cons h => cases h
  rw [Bool.not_eq_true', decide_eq_false_iff_not, decide_eq_true_iff, z]
  omega
theorem le_z (c : Nat) : (!decide (("z" : Str).cps.toList < (⟨#[c]⟩ : Str).cps.toList)) = decide (c ≤ 122) := by
  have e : ("z" : Str).cps.toList = [122] := by decide +kernel
  rw [e, Bool.eq_iff_iff]
  have z : ([122] < [c]) ↔ 122 < c := by
    refine ⟨fun h => ?_, fun h => List.Lex.rel h⟩
    cases h with
    | rel h => exact h
    | cons h => cases h
  show ((!decide ([122] < [c])) = true) ↔ _
  rw [Bool.not_eq_true', decide_eq_false_iff_not, decide_eq_true_iff, z]
  omega
theorem bad_none (l : List Nat) : (l.filter fun c => !let1 c).isEmpty = l.all let1 := by
  induction l with
  | nil => rfl
  | cons c r ih =>
    rw [List.filter_cons, List.all_cons]
    cases h : let1 c with
    | true => simpa using ih
    | false => simp
def PvB (H : Hp) (D : Addr) (x : Str) (i : Nat) (H' : Hp) : Prop := Same H H' ∧ H' D = some (.lst (((x.cps.toList.take i).filter fun c => !let1 c).map chS))
theorem PvB.no {H H4 : Hp} {D : Addr} {x : Str} {i c : Nat} (hc : x.cps.toList[i]? = some c) (p : PvB H D x i H4) (h : let1 c = true) : PvB H D x (i + 1) H4 := by
  refine ⟨p.1, ?_⟩
  rw [p.2, List.take_add_one, hc, List.filter_append]
  simp [h]
theorem PvB.step {H H4 : Hp} {D : Addr} {x : Str} {i c : Nat} (hD : H D = none) (hl : x.length ≤ 1000) (hc : x.cps.toList[i]? = some c) (p : PvB H D x i H4) (h : let1 c = false) : ∃ acc, H4 D = some (.lst acc) ∧ acc.length < sizeLine ∧ PvB H D x (i + 1) (upd H4 D (.lst (acc ++ [V.str ⟨#[c]⟩]))) := by
  refine ⟨_, p.2, ?_, same_put hD p.1, ?_⟩
  · have hz : x.cps.toList.length = x.length := Array.length_toList
    rw [List.length_map]
    have h1 := List.length_filter_le (fun c => !let1 c) (x.cps.toList.take i)
    rw [List.length_take] at h1
    have : (1000 : Nat) < sizeLine := by decide
    omega
  · rw [upd_same, List.take_add_one, hc, List.filter_append, List.map_append]
    simp [h, chS]
theorem lname_yes {x : Str} (hw : words6.contains x = false) (h1 : decide ((0 : Int) < (x.length : Int)) = true) (h2 : decide ((x.length : Int) < 9) = true) : isNameD (.str x) = (x.cps.toList.all let1) := by
  have e1 := of_decide_eq_true h1
  have e2 := of_decide_eq_true h2
  show nameS x = _
  unfold nameS
  rw [hw, decide_eq_true (show 1 ≤ x.length by omega), decide_eq_true (show x.length ≤ 8 by omega)]
  simp [letS]
  rfl
theorem lname_no {x : Str} (h : words6.contains x = true ∨ ¬ decide ((0 : Int) < (x.length : Int)) = true ∨ ¬ decide ((x.length : Int) < 9) = true) : isNameD (.str x) = false := by
  show nameS x = _
  unfold nameS
  rcases h with h | h | h
  · rw [h, Bool.not_true, Bool.and_false, Bool.and_false, Bool.and_false]
  · have : ¬ 1 ≤ x.length := fun z => h (decide_eq_true (by omega))
    rw [decide_eq_false this]
    rfl
  · have : ¬ x.length ≤ 8 := fun z => h (decide_eq_true (by omega))
    rw [decide_eq_false this, Bool.false_and, Bool.and_false]
section
variable {P : Program} {w : World} {K : PySem.W.Frag} {mg : Str → Option Value} {base : Heap} {f : Addr} {fd : FuncData}
end
end OM

namespace OM
open PySem PySem.Spec PyProof.Rows L2
/-- a tuple of anything == () -/
theorem op_eqT0 {X : Cx} (hu : X.A.units < cLine) : OpR X (compareOp .Eq) (fun x y H Q => ∃ a b xs, x = .ref a ∧ y = .ref b ∧ SqT X.K H a xs ∧ SqT X.K H b [] ∧ Q (.bl xs.isEmpty) H) := by
  intro pins s σ H x y v u Q I rx ry h
  obtain ⟨a, b, xs, rfl, rfl, ha, hb, q⟩ := h
  obtain rfl : v = Value.ref a := rx
  obtain rfl : u = Value.ref b := ry
  obtain ⟨us, r1, p1, _⟩ := I.tuple ha
  obtain ⟨ws, r2, p2, _⟩ := I.tuple hb
  cases r2
  refine SeqAt.eq_tupleAt (e := fun _ => true) p1 p2 hu (fun j h1 h2 => absurd h2 (by simp)) ⟨.bl _, H, I, rfl, ?_⟩
  have e : ((List.range (min us.toArray.size (([] : List Value).toArray).size)).all (fun _ => true) && us.toArray.size == (([] : List Value).toArray).size) = xs.isEmpty := by
    have l := r1.length
    cases xs with
    | nil =>
      have : us = [] := List.length_eq_zero_iff.mp l.symm
      subst this
      rfl
    | cons x r =>
      cases us with
      | nil => simp at l
      | cons u us => simp
  rw [e]
  exact q
/-- over two tuples side by side -/
theorem lc_zipT {K : PySem.W.Frag} {a b : Addr} {xs ys : List V} {g : TG} {tt : TT} {te : TE} {vs : List Nat} {σ : L2.St} {H1 : Hp} {D : Addr} {Qd : Hp → Prop} (hlen : xs.length = ys.length) (Pv : Nat → Hp → Prop) (h0 : Pv 0 (upd H1 D (.lst []))) (hl : ∀ i H, Pv i H → SqT K H a xs ∧ SqT K H b ys)
    (hs : ∀ i x y T H, xs[i]? = some x → ys[i]? = some y → Pv i H → H T = none → g (.ref T) (wipe σ vs) (upd H T (.tup [x, y])) fun σ2 H2 => wipe σ2 vs = wipe σ vs ∧ tt σ2 H2 fun b H3 =>
      if b = true then te σ2 H3 fun y H4 => ∃ acc, H4 D = some (.lst acc) ∧ acc.length < sizeLine ∧ Pv (i + 1) (upd H4 D (.lst (acc ++ [y]))) else Pv (i + 1) H3) (hd : ∀ H, Pv xs.length H → Qd H) :
    ∃ W : Nat → Nat → Hp → Prop, (∃ m, W 0 m (upd H1 D (.lst []))) ∧ ∀ i m H, W i m H →
      ((RZ.ItzT K a b).stop i H ∧ Qd H) ∨ ((RZ.ItzT K a b).go i H ∧ ∃ Nx : Hp → Prop, (∀ H', Nx H' → ∃ m', m' < m ∧ W (i + 1) m' H') ∧ ∀ v H', (RZ.ItzT K a b).yld i H v H' → g v (wipe σ vs) H' fun σ2 H2 => wipe σ2 vs = wipe σ vs ∧ tt σ2 H2 fun b H3 =>
        if b = true then te σ2 H3 fun y H4 => ∃ acc, H4 D = some (.lst acc) ∧ acc.length < sizeLine ∧ Nx (upd H4 D (.lst (acc ++ [y]))) else Nx H3) := by
  refine ⟨fun i m H => i ≤ xs.length ∧ m = xs.length - i ∧ Pv i H, ⟨_, Nat.zero_le _, rfl, h0⟩, ?_⟩
  rintro i m H ⟨hi, rfl, p⟩
  obtain ⟨qx, qy⟩ := hl i H p
  rcases Nat.lt_or_ge i xs.length with hlt | hge
  · have hx : xs[i]? = some xs[i] := List.getElem?_eq_getElem hlt
    have hy : ys[i]? = some (ys[i]'(by omega)) := List.getElem?_eq_getElem (by omega)
    refine .inr ⟨⟨xs, ys, _, _, qx, qy, hx, hy⟩, Pv (i + 1), fun H' p' => ⟨xs.length - (i + 1), by omega, hlt, rfl, p'⟩, ?_⟩
    rintro v H' ⟨T, x', y', rfl, hT, rfl, f1, f2⟩
    exact hs i x' y' T H (f1 xs qx) (f2 ys qy) p hT
  · obtain rfl : i = xs.length := by omega
    exact .inl ⟨⟨xs, ys, qx, qy, .inl (Nat.le_refl _)⟩, hd H p⟩
/-! ### code, as a datum -/
def formOf (w : Str) : Option (List Str) :=
  if w = "read" then some ["register", "cell"] else if w = "write" then some ["cell", "register"] else if w = "set" then some ["register", "function", "registers"] else if w = "copy" then some ["register", "register"]
  else if w = "get" then some ["register"] else if w = "put" then some ["register"] else if w = "if" then some ["test", "register", "code", "code"] else if w = "show" then some ["register"] else none
mutual
/-- no `show` stands in a datum -/
def nsD : PyData → Bool
  | .str x => decide (x ≠ "show")
  | .tuple ds => nsAll ds
  | _ => true
def nsAll : List PyData → Bool
  | [] => true
  | d :: r => nsD d && nsAll r
end
theorem nsAll_all : ∀ {ds : List PyData}, nsAll ds = ds.all nsD
  | [] => by
    unfold nsAll
    rfl
  | d :: r => by
    unfold nsAll
    rw [nsAll_all, List.all_cons]
theorem nsD_tup {ds : List PyData} : nsD (.tuple ds) = nsAll ds := by rw [nsD]
/-- the flag that lets `show`, or none there -/
def ShO (b : Bool) (d : PyData) : Prop := b = true ∨ nsD d = true
theorem ShO.get {b : Bool} {ds : List PyData} {d : PyData} {i : Nat} (h : ShO b (.tuple ds)) (hd : ds[i]? = some d) : ShO b d := h.imp id fun z => by
  rw [nsD_tup, nsAll_all] at z
  exact List.all_eq_true.mp z d (List.mem_of_getElem? hd)
def argsD : PyData → Bool
  | .tuple ds => decide (ds.length ≤ 2) && ds.all isNameD
  | _ => false
def fitD (cd : PyData → Bool) (d : PyData) (role : Str) : Bool := if role = "code" then cd d else if role = "registers" then argsD d else isNameD d
def rowD (cd : PyData → Bool) : PyData → Bool
  | .tuple (.str w :: rest) => match formOf w with
    | some rs => decide (rest.length = rs.length) && (List.zipWith (fitD cd) rest rs).all id
    | none => false
  | _ => false
def codeD : Nat → PyData → Bool
  | 0, .tuple ds => ds.all (rowD fun _ => false)
  | n + 1, .tuple ds => ds.all (rowD (codeD n))
  | _, _ => false
def cdOf : Nat → PyData → Bool
  | 0 => fun _ => false
  | n + 1 => codeD n
theorem codeD_tup (n : Nat) (ds : List PyData) : codeD n (.tuple ds) = ds.all (rowD (cdOf n)) := by
  cases n <;> rfl
abbrev sNested : Stmt := top 33
abbrev sStmt : Stmt := top 34
abbrev sFits : Stmt := top 35
def spNested : Sp := fun vs H Q _ => ∃ (S : Addr → Prop) (v : V) (d : PyData) (n : Nat), vs = [v, .int n] ∧ Dt S H v d ∧ smlD d = true ∧ ∀ H', Same H H' → Q (.bl (codeD n d)) H'
/-- the contract at one depth -/
def spNestedAt : Nat → Sp
  | 0 => fun _ _ _ _ => False
  | n + 1 => fun vs H Q _ => ∃ (S : Addr → Prop) (v : V) (d : PyData), vs = [v, .int n] ∧ Dt S H v d ∧ smlD d = true ∧ ∀ H', Same H H' → Q (.bl (codeD n d)) H'
def spStmt (n : Nat) : Sp := fun vs H Q _ => ∃ (S : Addr → Prop) (v : V) (d : PyData), vs = [v, .int n] ∧ Dt S H v d ∧ smlD d = true ∧ ∀ H', Same H H' → Q (.bl (rowD (cdOf n) d)) H'
def spFits (n : Nat) : Sp := fun vs H Q _ => ∃ (S : Addr → Prop) (v : V) (d : PyData) (r : Str), vs = [v, .str r, .int n] ∧ Dt S H v d ∧ smlD d = true ∧ ∀ H', Same H H' → Q (.bl (fitD (cdOf n) d r)) H'
/-! the same with the third argument -/
def spNestedAtS : Nat → Sp
  | 0 => fun _ _ _ _ => False
  | n + 1 => fun vs H Q _ => ∃ (S : Addr → Prop) (v : V) (d : PyData) (b : Bool), vs = [v, .int n, .bl b] ∧ ShO b d ∧ Dt S H v d ∧ smlD d = true ∧ ∀ H', Same H H' → Q (.bl (codeD n d)) H'
def spStmtS (n : Nat) : Sp := fun vs H Q _ => ∃ (S : Addr → Prop) (v : V) (d : PyData) (b : Bool), vs = [v, .int n, .bl b] ∧ ShO b d ∧ Dt S H v d ∧ smlD d = true ∧ ∀ H', Same H H' → Q (.bl (rowD (cdOf n) d)) H'
def spFitsS (n : Nat) : Sp := fun vs H Q _ => ∃ (S : Addr → Prop) (v : V) (d : PyData) (r : Str) (b : Bool), vs = [v, .str r, .int n, .bl b] ∧ ShO b d ∧ Dt S H v d ∧ smlD d = true ∧ ∀ H', Same H H' → Q (.bl (fitD (cdOf n) d r)) H'
/-- the modules' constants about statements -/
structure TxtF (K : PySem.W.Frag) (w : World) (mg : Str → Option Value) : Prop where
  tup : mg "tuple" = none
  zip : mg "zip" = none
  most : ∃ t, mg "MAX_REGISTERS" = some (.int 2 t)
  forms : ∃ d es n, mg "FORMS" = some (.ref d) ∧ KDict K w d es n ∧ (∀ z, formOf z = none → PySem.W.nsIn K d z = some none) ∧ ∀ z rs, formOf z = some rs → ∃ a, PySem.W.nsIn K d z = some (some (.ref a)) ∧ ∀ H, SqT K H a (rs.map V.str)
/-- a list of truths that grows -/
def PvM (H : Hp) (D : Addr) (bs : List Bool) (i : Nat) (H' : Hp) : Prop := Same H H' ∧ H' D = some (.lst ((bs.take i).map V.bl))
theorem PvM.zero {H : Hp} {D : Addr} {bs : List Bool} (hD : H D = none) : PvM H D bs 0 (upd H D (.lst [])) := ⟨same_upd hD, upd_same⟩
theorem PvM.step {H H3 H4 : Hp} {D : Addr} {bs : List Bool} {i : Nat} {b : Bool} (hD : H D = none) (hl : bs.length ≤ 1000) (hb : bs[i]? = some b) (p : PvM H D bs i H3) (s : Same H3 H4) : ∃ acc, H4 D = some (.lst acc) ∧ acc.length < sizeLine ∧ PvM H D bs (i + 1) (upd H4 D (.lst (acc ++ [V.bl b]))) := by
  refine ⟨_, s _ _ p.2, ?_, same_put hD (p.1.trans s), ?_⟩
  · rw [List.length_map, List.length_take]
    have : (1000 : Nat) < sizeLine := by decide
    omega
  · rw [upd_same, List.take_add_one, hb, List.map_append]
    rfl
theorem PvM.all {H H5 : Hp} {D : Addr} {bs : List Bool} {n : Nat} (p : PvM H D bs n H5) (hn : n = bs.length) : Same H H5 ∧ H5 D = some (.lst (bs.map V.bl)) := by
  have e := p.2
  rw [hn, List.take_length] at e
  exact ⟨p.1, e⟩
theorem all_map_id {α : Type} (f : α → Bool) (l : List α) : (l.map f).all id = l.all f := by
  rw [List.all_map]
  rfl
theorem Dt.tup_of {S : Addr → Prop} {H : Hp} {v : V} {ds : List PyData} (h : Dt S H v (.tuple ds)) : ∃ a xs, v = .ref a ∧ H a = some (.tup xs) ∧ xs.length ≤ 1000 ∧ DtAll S H xs ds := by
  cases h with
  | «at» a => cases a
  | @tup a xs _ s e hl h => exact ⟨a, xs, rfl, e, hl, h⟩
section
variable {P : Program} {w : World} {K : PySem.W.Frag} {mg : Str → Option Value} {base : Heap} {f fS fF fN fI : Addr} {fd dS dF dN dI : FuncData}
theorem scF : FnScope ["part", "role", "depth", "shows", "name"] ["part", "role", "depth", "shows"] (defScope sFits) := ⟨rfl, rfl, rfl, by decide +kernel, rfl, by decide +kernel, by decide +kernel⟩
theorem ok_fits {n k : Nat} (F : Fun K "_fits" "_fits" sFits f fd) (T : TxtN K mg) (TF : TxtF K w mg) (gN : mg "is_nested_code" = some (.ref fN)) (kN : PySem.W.keepIn K (.ref fN) = true) (bN : Binds K dN ["value", "depth", "shows"] []) (GN : FnOk P w K mg base CX0 (k + 1) fN dN ["value", "depth", "shows"] (spNestedAtS n))
    (gI : mg "is_name" = some (.ref fI)) (kI : PySem.W.keepIn K (.ref fI) = true) (bI : Binds K dI ["value"] []) (GI : FnOk P w K mg base CX0 1 fI dI ["value"] spName) : FnOk P w K mg base CX0 (k + 2) f fd ["part", "role", "depth", "shows"] (spFitsS n) := by
  refine F.ok scF (fun vs H Q E h => ?_) (fun cdv A outer s H vs Q E hr h => ?_)
  · obtain ⟨S, v, d, r, b, rfl, _⟩ := h
    rfl
  · obtain ⟨S, v, d, r, b, rfl, sho, hd, sm, q⟩ := h
    obtain ⟨t1, g1⟩ := TF.most
    refine ⟨_, pss_cons (ps_if (pt_cmpR op_eq (pv 1) pe_str (nomark _)) (pss_one (ps_ret (pe_and (pe_cmpR op_gt (pv 2) pe_int (nomark _)) (pe_one (pe_call GN hr (by rfl) gN kN bN .nil pass0 (pa_cons (pv 0) (pa_cons (pe_op op_sub (pv 2) pe_int) (pa_cons (pv 3) pa_nil)))))))) pss_nil)
      (pss_cons (ps_if (pt_cmpR op_eq (pv 1) pe_str (nomark _)) (pss_one (ps_ret (pe_and (pe_callB call_isi (by rfl) T.isi (by decide +kernel) (pa_cons (pv 0) (pa_cons (pe_bltn (v := .ty "tuple") (u := .type "tuple") (by rfl) TF.tup (by decide +kernel) rfl) pa_nil)))
          (pe_and (pe_cmpR op_le (pe_callB call_len_seq (by rfl) T.len PySem.boot_len (pa_cons (pv 0) pa_nil)) (pe_glob (v := .int 2) (by rfl) g1 ⟨t1, rfl⟩) (nomark _))
          (pe_one (pe_callB (cr_all rfl) (by rfl) T.all (by decide +kernel) (pa_cons (pe_lc (own := [("name", 4)]) rfl scF.nd (pi_tup (pv 0)) (blkOk_by (N := ["part", "role", "depth", "shows", "name"]) (sc := defScope sFits) (by decide +kernel))
            (fun _ _ _ _ _ => pg_name (i := 4) scF.nd rfl (Or.inl rfl)) (fun _ _ _ _ _ => pts_nil) (fun _ _ _ _ _ => pe_call GI (hr.mono (by omega)) (by rfl) gI kI bI .nil pass0 (pa_cons (pv 4) pa_nil))) pa_nil))))))) pss_nil)
      (pss_one (ps_ret (pe_call GI (hr.mono (by omega)) (by rfl) gI kI bI .nil pass0 (pa_cons (pv 0) pa_nil))))), ?_⟩
    refine ⟨_, rfl, rfl, _, rfl, ite2 (fun h1 => ?_) (fun h1 => ?_)⟩
    · obtain rfl : r = "code" := V.str.inj (of_decide_eq_true h1)
      refine ⟨_, rfl, (n : Int), 0, rfl, rfl, _, rfl, ite2 (fun k => ?_) (fun k => ?_)⟩
      · have k' : (0 : Int) < (n : Int) := of_decide_eq_true k
        obtain ⟨m, rfl⟩ : ∃ m, n = m + 1 := ⟨n - 1, by omega⟩
        refine ⟨_, rfl, _, rfl, ((m + 1 : Nat) : Int), 1, rfl, rfl, _, rfl, S, v, d, b, ?_, sho, hd, sm, fun H' s' => q H' s'⟩
        show [v, V.int (((m + 1 : Nat) : Int) - 1), V.bl b] = [v, V.int (m : Int), V.bl b]
        rw [show (((m + 1 : Nat) : Int) - 1) = (m : Int) by omega]
      · obtain rfl : n = 0 := by
          have : ¬ (0 : Int) < (n : Int) := fun z => k (decide_eq_true z)
          omega
        exact q H (Same.refl _)
    · have hc : r ≠ "code" := fun z => h1 (decide_eq_true (congrArg V.str z))
      refine ⟨_, rfl, rfl, _, rfl, ite2 (fun h2 => ?_) (fun h2 => ?_)⟩
      · obtain rfl : r = "registers" := V.str.inj (of_decide_eq_true h2)
        have q : ∀ H', Same H H' → Q (.bl (argsD d)) H' := fun H' s' => q H' s'
        cases ht : isTupD d with
        | false =>
          have e : argsD d = false := by cases d <;> first | rfl | cases ht
          refine isi_te (x := v) rfl hd.tyx ((kit_tup d).trans (congrArg some ht)) ⟨_, rfl, iteF ?_⟩
          have z := q H (Same.refl _)
          rw [e] at z
          exact z
        | true =>
          cases d with
          | tuple ds =>
            obtain ⟨a, xs, rfl, ea, hl, hx⟩ := hd.tup_of
            have sa : smlAll ds = true := by
              unfold smlD at sm
              exact sm
            refine isi_te (x := .ref a) rfl (.base (.tup ea)) (kit_tup (.tuple ds)) ⟨_, rfl, iteT ?_⟩
            refine ⟨_, rfl, a, xs, rfl, .inr (SqT.of ea), (xs.length : Int), 2, rfl, rfl, _, rfl, ite2 (fun k => ?_) (fun k => ?_)⟩
            · have k' : ds.length ≤ 2 := by
                have := of_decide_eq_true k
                rw [← hx.length]
                omega
              refine ⟨_, rfl, a, rfl, ⟨xs, SqT.of ea⟩, fun Dl hD => lc_tup (PvM H Dl (ds.map isNameD)) (PvM.zero hD) (fun i H' _ p => SqT.of (p.1 _ _ ea)) (fun i x H3 hi p => ?_) (fun H5 p => ?_)⟩
              · obtain ⟨e, he, hde⟩ := hx.get hi
                exact ⟨rfl, _, rfl, S, x, e, rfl, hde.mv (fun _ z => z) (fun b o _ eb => p.1 b o eb), sml_get sa he, fun H4 s4 => p.step hD (by rw [List.length_map]; omega) (by rw [List.getElem?_map, he]; rfl) s4⟩
              · obtain ⟨s5, e5⟩ := p.all (by rw [List.length_map]; exact hx.length)
                refine ⟨Dl, _, rfl, SqL.of e5, ?_⟩
                have z := q _ s5
                rw [show argsD (.tuple ds) = (decide (ds.length ≤ 2) && ds.all isNameD) from rfl, decide_eq_true k', Bool.true_and, ← all_map_id] at z
                exact z
            · have k' : ¬ ds.length ≤ 2 := fun z => k (decide_eq_true (by rw [hx.length]; omega))
              have z := q H (Same.refl _)
              rw [show argsD (.tuple ds) = (decide (ds.length ≤ 2) && ds.all isNameD) from rfl, decide_eq_false k', Bool.false_and] at z
              exact z
          | _ => cases ht
      · have hg : r ≠ "registers" := fun z => h2 (decide_eq_true (congrArg V.str z))
        refine ⟨_, rfl, S, v, d, rfl, hd, sm, fun H' s' => ?_⟩
        have z := q H' s'
        unfold fitD at z
        rw [if_neg hc, if_neg hg] at z
        exact z
end
end OM

namespace OM
open PySem PySem.Spec PyProof.Rows L2
theorem cutHs {A C : Prop} (f : C → A) (b : C) : A := f b
theorem sml_tail {d : PyData} {ds : List PyData} (h : smlAll (d :: ds) = true) : smlD d = true ∧ smlAll ds = true := by
  unfold smlAll at h
  exact Bool.and_eq_true_iff.mp h
theorem at0 {x : V} {r : List V} : atI (x :: r) 0 = some x := by
  show atI (x :: r) ((0 : Nat) : Int) = some x
  exact atI_nat rfl
theorem cut_tail {x : V} {r : List V} : cutV (x :: r) (some 1) none = r := by
  unfold cutV
  rw [show HT.sIx (x :: r).length 0 (some 1) = 1 from by
    rw [show (some (1 : Int)) = some ((1 : Nat) : Int) from rfl, HT.sIx_nat]
    show min 1 (r.length + 1) = 1
    omega, HT.sIx_none]
  show (r.take (r.length + 1 - 1)) = r
  rw [Nat.add_sub_cancel, List.take_length]
theorem cut_part {x : V} {r : List V} : ¬ (HT.sIx (x :: r).length 0 (some 1) = 0 ∧ HT.sIx (x :: r).length (x :: r).length none = (x :: r).length) := fun h => by
  have e : HT.sIx (x :: r).length 0 (some 1) = 1 := by
    rw [show (some (1 : Int)) = some ((1 : Nat) : Int) from rfl, HT.sIx_nat]
    show min 1 (r.length + 1) = 1
    omega
  rw [e] at h
  exact absurd h.1 (by decide)
theorem rowD_no {cd : PyData → Bool} {w : Str} {rest : List PyData} (h : formOf w = none) : rowD cd (.tuple (.str w :: rest)) = false := by
  show (match formOf w with | some rs => decide (rest.length = rs.length) && (List.zipWith (fitD cd) rest rs).all id | none => false) = false
  rw [h]
theorem rowD_yes {cd : PyData → Bool} {w : Str} {rest : List PyData} {rs : List Str} (h : formOf w = some rs) : rowD cd (.tuple (.str w :: rest)) = (decide (rest.length = rs.length) && (List.zipWith (fitD cd) rest rs).all id) := by
  show (match formOf w with | some rs => decide (rest.length = rs.length) && (List.zipWith (fitD cd) rest rs).all id | none => false) = _
  rw [h]
theorem form_len {w : Str} {rs : List Str} (h : formOf w = some rs) : rs.length ≤ 4 := by
  unfold formOf at h
  repeat (first | (split at h) | (cases h; decide) | cases h)
section
variable {P : Program} {w : World} {K : PySem.W.Frag} {mg : Str → Option Value} {base : Heap} {f fF : Addr} {fd dF : FuncData}
theorem scSt : FnScope ["value", "depth", "shows", "form", "part", "role"] ["value", "depth", "shows"] (defScope sStmt) := ⟨rfl, rfl, rfl, by decide +kernel, rfl, by decide +kernel, by decide +kernel⟩
theorem ok_stmt {n k : Nat} (F : Fun K "_is_statement" "_is_statement" sStmt f fd) (T : TxtN K mg) (TF : TxtF K w mg) (gF : mg "_fits" = some (.ref fF)) (kF : PySem.W.keepIn K (.ref fF) = true) (bF : Binds K dF ["part", "role", "depth", "shows"] []) (GF : FnOk P w K mg base CX0 k fF dF ["part", "role", "depth", "shows"] (spFitsS n)) :
    FnOk P w K mg base CX0 (k + 1) f fd ["value", "depth", "shows"] (spStmtS n) := by
  refine F.ok scSt (fun vs H Q E h => ?_) (fun cdv A outer s H vs Q E hr h => ?_)
  · obtain ⟨S, v, d, b, rfl, _⟩ := h
    rfl
  · obtain ⟨S, v, d, b, rfl, sho, hd, sm, q⟩ := h
    obtain ⟨fa, es, nn, gM, KD, hno, hyes⟩ := TF.forms
    have hu : (A.deeper (envOfC "_is_statement" (defScope sStmt) s.heap.objs.size f cdv)).units < cLine := by
      have := hr.un
      omega
    refine ⟨_, pss_cons (ps_if (PW.pt (pw_or (pt_not (pt_val (pe_callB call_isi (by rfl) T.isi (by decide +kernel) (pa_cons (pv 0) (pa_cons (pe_bltn (v := .ty "tuple") (u := .type "tuple") (by rfl) TF.tup (by decide +kernel) rfl) pa_nil)))))
        (pw_or (pt_cmpR (op_eqT0 hu) (pv 0) (pe_tup pa_nil) (by rfl))
        (pw_or1 (pt_not (pt_val (pe_callB call_isi (by rfl) T.isi (by decide +kernel) (pa_cons (pe_ix ix_tup (pv 0) pe_int (fun _ _ => rfl)) (pa_cons (pe_bltn (v := .ty "str") (u := .type "str") (by rfl) T.str (by decide +kernel) rfl) pa_nil)))))))))
        (pss_one (ps_ret pe_bl)) pss_nil)
      (pss_cons (ps_if (PW.pt (pw_or (pt_cmpR (op_notIn_kd KD) (pe_ix ix_tup (pv 0) pe_int (fun _ _ => rfl)) (pe_glob (v := .ref fa) (by rfl) gM rfl) (by rfl)) (pw_or1 (PW.pt (pw_and (pt_cmpR op_eq (pe_ix ix_tup (pv 0) pe_int (fun _ _ => rfl)) pe_str (nomark _)) (pw_and1 (pt_not (pt_val (pv 2))))))))) (pss_one (ps_ret pe_bl)) pss_nil)
      (pss_cons (ps_set (i := 3) scSt.nd rfl (Or.inl rfl) (pe_ix ix_kdict (pe_glob (v := .ref fa) (by rfl) gM rfl) (pe_ix ix_tup (pv 0) pe_int (fun _ _ => rfl)) (fun _ _ => rfl)))
      (pss_one (ps_ret (pe_and (pe_cmpR op_eq (pe_callB call_len_seq (by rfl) T.len PySem.boot_len (pa_cons (pv 0) pa_nil)) (pe_op op_add (pe_callB call_len_seq (by rfl) T.len PySem.boot_len (pa_cons (pv 3) pa_nil)) pe_int) (nomark _))
        (pe_one (pe_callB (cr_all rfl) (by rfl) T.all (by decide +kernel) (pa_cons (pe_lc (g := gTup K 2 (gCons (gName 4) (gCons (gName 5) gNil))) (own := [("part", 4), ("role", 5)]) rfl scSt.nd (RZ.pi_zipA (by rfl) TF.zip (pa_cons (pe_slice sl_tupA (pv 0) (po_some pe_int) po_none) (pa_cons (pv 3) pa_nil)))
            (blkOk_by (N := ["value", "depth", "shows", "form", "part", "role"]) (sc := defScope sStmt) (by decide +kernel)) (fun _ _ _ _ _ => pg_tup rfl (pgs_cons (pg_name (i := 4) scSt.nd rfl (Or.inl rfl)) (pgs_cons (pg_name (i := 5) scSt.nd rfl (Or.inl rfl)) pgs_nil))) (fun _ _ _ _ _ => pts_nil)
            (fun _ _ _ _ _ => pe_call GF hr (by rfl) gF kF bF .nil pass0 (pa_cons (pv 4) (pa_cons (pv 5) (pa_cons (pv 1) (pa_cons (pv 2) pa_nil)))))) pa_nil)))))))), ?_⟩
    have z0 : ∀ {b : Bool}, b = rowD (cdOf n) d → ∀ H', Same H H' → Q (.bl b) H' := fun {b} e H' s' => by
      rw [e]
      exact q H' s'
    cases ht : isTupD d with
    | false =>
      have e : false = rowD (cdOf n) d := by cases d <;> first | rfl | cases ht
      exact isi_te (x := v) rfl hd.tyx ((kit_tup d).trans (congrArg some ht)) ⟨_, rfl, iteT (iteT (z0 e H (Same.refl _)))⟩
    | true =>
      cases d with
      | tuple ds =>
        obtain ⟨a, xs, rfl, ea, hl, hx⟩ := hd.tup_of
        have sa : smlAll ds = true := by
          unfold smlD at sm
          exact sm
        refine isi_te (x := .ref a) rfl (.base (.tup ea)) (kit_tup (.tuple ds)) ⟨_, rfl, iteF ?_⟩
        refine ⟨_, rfl, (by show 0 ≤ sizeLine; decide), fun p0 hp0 => ?_⟩
        have s0 := same_upd (o := .tup []) hp0
        have ea0 := s0 _ _ ea
        cases hx with
        | nil => exact ⟨a, p0, [], rfl, rfl, SqT.of ea0, SqT.of upd_same, _, rfl, iteT (iteT (z0 rfl _ s0))⟩
        | @cons x0 d0 xr dr hx0 hxr =>
          refine ⟨a, p0, _, rfl, rfl, SqT.of ea0, SqT.of upd_same, _, rfl, iteF ?_⟩
          have hx1 : Dt S (upd H p0 (.tup [])) x0 d0 := hx0.mv (fun _ z => z) fun b o _ e => s0 b o e
          obtain ⟨sm0, smr⟩ := sml_tail sa
          refine ⟨_, rfl, a, _, 0, x0, rfl, rfl, SqT.of ea0, at0, x0, .ty "str", _, _, isStrD d0, rfl, .ty _, hx1.tyx, kit_ty (kit_str d0), _, rfl, ?_⟩
          cases hs : isStrD d0 with
          | false =>
            have e : false = rowD (cdOf n) (.tuple (d0 :: dr)) := by cases d0 <;> first | rfl | cases hs
            exact iteT (z0 e _ s0)
          | true =>
            cases d0 with
            | str w0 =>
              have ev : x0 = .str w0 := by
                cases hx0 with
                | «at» a => cases a <;> rfl
              subst ev
              refine iteF ?_
              cases hf : formOf w0 with
              | none =>
                exact ⟨_, rfl, a, _, 0, _, rfl, rfl, SqT.of ea0, at0, w0, none, rfl, rfl, hno w0 hf, _, rfl, iteT (z0 (rowD_no hf).symm _ s0)⟩
              | some rs =>
                obtain ⟨pf, hnf, hsf⟩ := hyes w0 rs hf
                refine ⟨_, rfl, a, _, 0, _, rfl, rfl, SqT.of ea0, at0, w0, _, rfl, rfl, hnf, _, rfl, iteF ?_⟩
                refine cutHs (fun c => ⟨_, rfl, a, _, 0, _, rfl, rfl, SqT.of ea0, at0, rfl, _, rfl, ite2 (fun k => ?_) (fun _ => iteF c)⟩) ?_
                · have b1 : b = true := sho.resolve_right fun z => by
                    have e : w0 = "show" := V.str.inj (of_decide_eq_true k)
                    rw [nsD_tup, e] at z
                    unfold nsAll nsD at z
                    rw [decide_eq_false (by simp), Bool.false_and] at z
                    cases z
                  subst b1
                  exact ⟨_, rfl, _, rfl, iteF c⟩
                refine ⟨_, rfl, a, _, 0, _, rfl, rfl, SqT.of ea0, at0, fa, w0, .ref pf, rfl, rfl, ⟨es, nn, _, KD.at_, KD.lit, hnf, rfl⟩, ?_⟩
                refine ⟨_, rfl, a, _, rfl, .inr (SqT.of ea0), _, rfl, pf, _, rfl, .inr (hsf _), _, _, rfl, rfl, rfl, _, rfl, ite2 (fun k1 => ?_) (fun k1 => ?_)⟩
                · have k2 := V.int.inj (of_decide_eq_true k1)
                  have e1 : dr.length = rs.length := by
                    rw [List.length_map, List.length_cons, hxr.length] at k2
                    omega
                  have e0 : xr.length = rs.length := hxr.length.trans e1
                  refine ⟨_, rfl, 1, rfl, a, _, rfl, SqT.of ea0, fun hw => absurd hw cut_part, fun _ pc hpc => ?_⟩
                  rw [cut_tail]
                  have s1 := s0.trans (same_upd (o := .tup xr) hpc)
                  refine ⟨_, rfl, pc, pf, xr, rs.map V.str, rfl, .inr ⟨SqT.of upd_same, hsf _, fun Dl hD => lc_zipT (by rw [List.length_map]; exact e0) (PvM _ Dl (List.zipWith (fitD (cdOf n)) dr rs)) (PvM.zero hD)
                    (fun i H' p => ⟨SqT.of (p.1 _ _ upd_same), hsf _⟩) (fun i x y T H3 hxi hyi p hT => ?_) (fun H5 p => ?_)⟩⟩
                  · obtain ⟨e, he, hde⟩ := hxr.get hxi
                    rw [List.getElem?_map] at hyi
                    obtain ⟨r0, hr0, rfl⟩ := Option.map_eq_some_iff.mp hyi
                    have sT := (s1.trans p.1).trans (same_upd (o := .tup [x, .str r0]) hT)
                    refine ⟨T, _, rfl, SqT.of upd_same, rfl, _, _, rfl, _, _, rfl, rfl, rfl, ?_⟩
                    refine ⟨_, rfl, _, rfl, _, rfl, _, rfl, S, x, e, r0, b, rfl, ShO.get (i := i + 1) sho (by simpa using he), hde.mv (fun _ z => z) (fun b o _ eb => sT b o eb), sml_get smr he, fun H4 s4 => ?_⟩
                    refine p.step hD ?_ ?_ ((same_upd hT).trans s4)
                    · have := form_len hf
                      rw [List.length_zipWith]
                      omega
                    · rw [List.getElem?_zipWith, he, hr0]
                  · obtain ⟨s5, e5⟩ := p.all (by rw [List.length_zipWith, e0, e1]; omega)
                    refine ⟨Dl, _, rfl, SqL.of e5, ?_⟩
                    refine z0 ?_ _ (s1.trans s5)
                    rw [rowD_yes hf, decide_eq_true e1, Bool.true_and]
                · have e1 : ¬ dr.length = rs.length := fun z => k1 (decide_eq_true (by
                    rw [List.length_map, List.length_cons, hxr.length, z]
                    rfl))
                  refine z0 ?_ _ s0
                  rw [rowD_yes hf, decide_eq_false e1, Bool.false_and]
            | _ => cases hs
      | _ => cases ht
end
end OM

namespace OM
open PySem PySem.Spec PyProof.Rows L2
abbrev sIsCode : Stmt := top 51
section
variable {P : Program} {w : World} {K : PySem.W.Frag} {mg : Str → Option Value} {base : Heap} {f fS fF fN fI : Addr} {fd dS dF dN dI : FuncData}
theorem scNe : FnScope ["value", "depth", "shows", "part"] ["value", "depth", "shows"] (defScope sNested) := ⟨rfl, rfl, rfl, by decide +kernel, rfl, by decide +kernel, by decide +kernel⟩
theorem nested_step {n k : Nat} {dvs : List V} (F : FunD K "is_nested_code" "is_nested_code" (defArgs sNested) (defBody sNested) (defScope sNested) dvs [] f fd) (T : TxtN K mg) (TF : TxtF K w mg) (gS : mg "_is_statement" = some (.ref fS)) (kS : PySem.W.keepIn K (.ref fS) = true) (bS : Binds K dS ["value", "depth", "shows"] []) (GS : FnOk P w K mg base CX0 k fS dS ["value", "depth", "shows"] (spStmtS n)) :
    FnOk P w K mg base CX0 (k + 1) f fd ["value", "depth", "shows"] (spNestedAtS (n + 1)) := by
  refine F.ok scNe (fun vs H Q E h => ?_) (fun cdv A outer s H vs Q E hr h => ?_)
  · obtain ⟨S, v, d, b, rfl, _⟩ := h
    rfl
  · obtain ⟨S, v, d, b, rfl, sho, hd, sm, q⟩ := h
    refine ⟨_, pss_one (ps_ret (pe_and (pe_callB call_isi (by rfl) T.isi (by decide +kernel) (pa_cons (pv 0) (pa_cons (pe_bltn (v := .ty "tuple") (u := .type "tuple") (by rfl) TF.tup (by decide +kernel) rfl) pa_nil)))
      (pe_one (pe_callB (cr_all rfl) (by rfl) T.all (by decide +kernel) (pa_cons (pe_lc (own := [("part", 3)]) rfl scNe.nd (pi_tup (pv 0)) (blkOk_by (N := ["value", "depth", "shows", "part"]) (sc := defScope sNested) (by decide +kernel))
          (fun _ _ _ _ _ => pg_name (i := 3) scNe.nd rfl (Or.inl rfl)) (fun _ _ _ _ _ => pts_nil) (fun _ _ _ _ _ => pe_call GS hr (by rfl) gS kS bS .nil pass0 (pa_cons (pv 3) (pa_cons (pv 1) (pa_cons (pv 2) pa_nil))))) pa_nil))))), ?_⟩
    cases ht : isTupD d with
    | false =>
      have e : codeD n d = false := by cases d <;> cases n <;> first | rfl | cases ht
      refine isi_te (x := v) rfl hd.tyx ((kit_tup d).trans (congrArg some ht)) ⟨_, rfl, iteF ?_⟩
      have z := q H (Same.refl _)
      rw [e] at z
      exact z
    | true =>
      cases d with
      | tuple ds =>
        obtain ⟨a, xs, rfl, ea, hl, hx⟩ := hd.tup_of
        have sa : smlAll ds = true := by
          unfold smlD at sm
          exact sm
        refine isi_te (x := .ref a) rfl (.base (.tup ea)) (kit_tup (.tuple ds)) ⟨_, rfl, iteT ?_⟩
        refine ⟨_, rfl, a, rfl, ⟨xs, SqT.of ea⟩, fun Dl hD => lc_tup (PvM H Dl (ds.map (rowD (cdOf n)))) (PvM.zero hD) (fun i H' _ p => SqT.of (p.1 _ _ ea)) (fun i x H3 hi p => ?_) (fun H5 p => ?_)⟩
        · obtain ⟨e, he, hde⟩ := hx.get hi
          have := hx.length
          exact ⟨rfl, _, rfl, _, rfl, _, rfl, S, x, e, b, rfl, sho.get he, hde.mv (fun _ z => z) (fun b o _ eb => p.1 b o eb), sml_get sa he, fun H4 s4 => p.step hD (by rw [List.length_map]; omega) (by rw [List.getElem?_map, he]; rfl) s4⟩
        · obtain ⟨s5, e5⟩ := p.all (by rw [List.length_map]; exact hx.length)
          refine ⟨Dl, _, rfl, SqL.of e5, ?_⟩
          have z := q _ s5
          rw [codeD_tup, ← all_map_id] at z
          exact z
      | _ => cases ht
/-- the three that call one another -/
structure CodeF (K : PySem.W.Frag) (mg : Str → Option Value) (fN fS fF fI : Addr) (dN dS dF dI : FuncData) : Prop where
  FN : FunD K "is_nested_code" "is_nested_code" (defArgs sNested) (defBody sNested) (defScope sNested) [.bl false] [] fN dN
  FS : Fun K "_is_statement" "_is_statement" sStmt fS dS
  FF : Fun K "_fits" "_fits" sFits fF dF
  FI : Fun K "is_name" "is_name" sIsName fI dI
  gN : mg "is_nested_code" = some (.ref fN)
  gS : mg "_is_statement" = some (.ref fS)
  gF : mg "_fits" = some (.ref fF)
  gI : mg "is_name" = some (.ref fI)
  bN : Binds K dN ["value", "depth", "shows"] []
  bN1 : ∃ ds, Vals [V.bl false] ds ∧ Binds K dN ["value", "depth", "shows"] ds
  bS : Binds K dS ["value", "depth", "shows"] []
  bF : Binds K dF ["part", "role", "depth", "shows"] []
  bI : Binds K dI ["value"] []
  T : TxtN K mg
theorem ok_nested (C : CodeF K mg fN fS fF fI dN dS dF dI) (TF : TxtF K w mg) : ∀ n, FnOk P w K mg base CX0 (3 * n + 1) fN dN ["value", "depth", "shows"] (spNestedAtS n)
  | 0 => ⟨fun _ _ _ _ h => h.elim, fun _ _ _ _ _ _ _ _ _ _ _ _ _ h => h.elim⟩
  | n + 1 => nested_step C.FN C.T TF C.gS C.FS.kp C.bS (ok_stmt C.FS C.T TF C.gF C.FF.kp C.bF (ok_fits C.FF C.T TF C.gN C.FN.kp C.bN (ok_nested C TF n) C.gI C.FI.kp C.bI (ok_isname C.FI C.T)))
def spIsCode : Sp := fun vs H Q _ => ∃ (S : Addr → Prop) (v : V) (d : PyData), vs = [v] ∧ nsD d = true ∧ Dt S H v d ∧ smlD d = true ∧ ∀ H', Same H H' → Q (.bl (codeD 3 d)) H'
theorem scIC : FnScope ["value"] ["value"] (defScope sIsCode) := ⟨rfl, rfl, rfl, by decide +kernel, rfl, by decide +kernel, by decide +kernel⟩
theorem ok_iscode (F : Fun K "is_code" "is_code" sIsCode f fd) (C : CodeF K mg fN fS fF fI dN dS dF dI) (TF : TxtF K w mg) (gD : ∃ t, mg "MAX_DEPTH" = some (.int 3 t)) : FnOk P w K mg base CX0 14 f fd ["value"] spIsCode := by
  have G : FnOk P w K mg base CX0 13 fN dN ["value", "depth", "shows"] (spNestedAtS 4) := ok_nested C TF 4
  obtain ⟨t, g3⟩ := gD
  obtain ⟨dsN, rN, bN1⟩ := C.bN1
  refine F.ok scIC (fun vs H Q E h => ?_) (fun cdv A outer s H vs Q E hr h => ?_)
  · obtain ⟨S, v, d, rfl, _⟩ := h
    rfl
  · obtain ⟨S, v, d, rfl, ns, hd, sm, q⟩ := h
    exact ⟨_, pss_one (ps_ret (pe_call G hr (by rfl) C.gN C.FN.kp bN1 rN pass0 (pa_cons (pv 0) (pa_cons (pe_glob (v := .int 3) (by rfl) g3 ⟨t, rfl⟩) pa_nil)))), _, rfl, S, v, d, false, rfl, .inr ns, hd, sm, q⟩
end
end OM

namespace OM
open PySem PySem.Spec PyProof.Rows L2
theorem all_true (n : Nat) : ((List.range n).all fun _ => true) = true := List.all_eq_true.mpr fun _ _ => rfl
def rL0 (K : PySem.W.Frag) (neg : Bool) : R2 := fun x y H Q => ∃ a b xs, x = .ref a ∧ y = .ref b ∧ SqL K H a xs ∧ SqL K H b [] ∧ Q (.bl (if neg then !xs.isEmpty else xs.isEmpty)) H
/-- a list of anything == [] -/
theorem op_eqL0 {X : Cx} (hu : X.A.units < cLine) : OpR X (compareOp .Eq) (rL0 X.K false) := by
  intro pins s σ H x y v u Q I rx ry h
  obtain ⟨a, b, xs, rfl, rfl, ha, hb, q⟩ := h
  obtain rfl : v = Value.ref a := rx
  obtain rfl : u = Value.ref b := ry
  obtain ⟨us, r1, p1, _⟩ := I.list ha
  obtain ⟨ws, r2, p2, _⟩ := I.list hb
  cases r2
  have l := r1.length
  cases xs with
  | nil =>
    obtain rfl : us = [] := List.length_eq_zero_iff.mp l.symm
    refine SeqAt.eq_listAt (e := fun _ => true) p1.isList p2.isList rfl hu (fun j h1 h2 => absurd h2 (by simp)) ⟨.bl _, H, I, rfl, ?_⟩
    rw [all_true]
    exact q
  | cons x0 xr =>
    refine SeqAt.eq_list_lengthsAt p1.isList p2.isList ?_ hu ⟨.bl false, H, I, rfl, q⟩
    cases us with
    | nil => simp at l
    | cons u us => simp
theorem op_neL0 {X : Cx} (hu : X.A.units < cLine) : OpR X (compareOp .NotEq) (rL0 X.K true) := by
  intro pins s σ H x y v u Q I rx ry h
  obtain ⟨a, b, xs, rfl, rfl, ha, hb, q⟩ := h
  obtain rfl : v = Value.ref a := rx
  obtain rfl : u = Value.ref b := ry
  obtain ⟨us, r1, p1, _⟩ := I.list ha
  obtain ⟨ws, r2, p2, _⟩ := I.list hb
  cases r2
  have l := r1.length
  cases xs with
  | nil =>
    obtain rfl : us = [] := List.length_eq_zero_iff.mp l.symm
    refine SeqAt.RcNeAt.lists (e := fun _ => true) p1.isList p2.isList rfl hu (fun j h1 h2 => absurd h2 (by simp)) X.prog X.w X.xe _ ⟨.bl _, H, I, rfl, ?_⟩
    rw [all_true]
    exact q
  | cons x0 xr =>
    refine SeqAt.RcNeAt.lists_lengths p1.isList p2.isList ?_ hu X.prog X.w X.xe _ ⟨.bl true, H, I, rfl, q⟩
    cases us with
    | nil => simp at l
    | cons u us => simp
/-- a list of what is none of a kind: empty, if all are -/
def PvF (H : Hp) (D : Addr) (bs : List Bool) (i : Nat) (H' : Hp) : Prop := Same H H' ∧ ∃ acc : List V, H' D = some (.lst acc) ∧ acc.length ≤ i ∧ acc.isEmpty = (bs.take i).all id
theorem PvF.zero {H : Hp} {D : Addr} {bs : List Bool} (hD : H D = none) : PvF H D bs 0 (upd H D (.lst [])) := ⟨same_upd hD, [], upd_same, Nat.le_refl _, rfl⟩
theorem PvF.yes {H H3 H4 : Hp} {D : Addr} {bs : List Bool} {i : Nat} (hb : bs[i]? = some true) (p : PvF H D bs i H3) (s : Same H3 H4) : PvF H D bs (i + 1) H4 := by
  obtain ⟨sm, acc, e, l, z⟩ := p
  refine ⟨sm.trans s, acc, s _ _ e, by omega, ?_⟩
  rw [List.take_add_one, hb, List.all_append, z]
  simp
theorem PvF.no {H H3 H4 : Hp} {D : Addr} {bs : List Bool} {i : Nat} {y : V} (hD : H D = none) (hl : bs.length ≤ 1000) (hb : bs[i]? = some false) (p : PvF H D bs i H3) (s : Same H3 H4) : ∃ acc, H4 D = some (.lst acc) ∧ acc.length < sizeLine ∧ PvF H D bs (i + 1) (upd H4 D (.lst (acc ++ [y]))) := by
  obtain ⟨sm, acc, e, l, z⟩ := p
  have hi : i < bs.length := (List.getElem?_eq_some_iff.mp hb).1
  refine ⟨acc, s _ _ e, Nat.lt_of_le_of_lt (show acc.length ≤ 1000 by omega) (by decide), same_put hD (sm.trans s), acc ++ [y], upd_same, by rw [List.length_append]; show acc.length + 1 ≤ _; omega, ?_⟩
  rw [List.take_add_one, hb, List.all_append]
  simp
theorem PvF.all {H H5 : Hp} {D : Addr} {bs : List Bool} {n : Nat} (p : PvF H D bs n H5) (hn : n = bs.length) : Same H H5 ∧ ∃ acc : List V, H5 D = some (.lst acc) ∧ acc.isEmpty = bs.all id := by
  obtain ⟨sm, acc, e, l, z⟩ := p
  rw [hn, List.take_length] at z
  exact ⟨sm, acc, e, z⟩
def spLCodeAt : Nat → Sp
  | 0 => fun _ _ _ _ => False
  | n + 1 => fun vs H Q _ => ∃ (S : Addr → Prop) (v : V) (d : PyData), vs = [v, .int n] ∧ Dt S H v d ∧ smlD d = true ∧ ∀ H', Same H H' → Q (.bl (codeD n d)) H'
section
variable {P : Program} {w : World} {K : PySem.W.Frag} {mg : Str → Option Value} {base : Heap} {f fR : Addr} {fd dR : FuncData}
end
end OM

namespace OM
open PySem PySem.Spec PyProof.Rows L2
def lenI (w : Str) : Int := match formOf w with
  | some rs => (rs.length : Int)
  | none => -1
theorem row_if (cd : PyData → Bool) (d1 d2 d3 d4 : PyData) : rowD cd (.tuple [.str "if", d1, d2, d3, d4]) = (isNameD d1 && (isNameD d2 && (cd d3 && (cd d4 && true)))) := by
  rw [rowD_yes (rs := ["test", "register", "code", "code"]) (by decide +kernel)]
  rfl
theorem row_if_len {cd : PyData → Bool} {r : List PyData} (h : ¬ r.length = 4) : rowD cd (.tuple (.str "if" :: r)) = false := by
  rw [rowD_yes (rs := ["test", "register", "code", "code"]) (by decide +kernel)]
  show (decide (r.length = 4) && _) = false
  rw [decide_eq_false h, Bool.false_and]
theorem row_if0 {r : List PyData} : rowD (cdOf 0) (.tuple (.str "if" :: r)) = false := by
  by_cases h : r.length = 4
  · match r, h with
    | [d1, d2, d3, d4], _ =>
      rw [row_if]
      show (isNameD d1 && (isNameD d2 && (false && _))) = false
      rw [Bool.false_and, Bool.and_false, Bool.and_false]
  · exact row_if_len h
theorem row_set (cd : PyData → Bool) (d1 d2 d3 : PyData) : rowD cd (.tuple [.str "set", d1, d2, d3]) = (isNameD d1 && (isNameD d2 && (argsD d3 && true))) := by
  rw [rowD_yes (rs := ["register", "function", "registers"]) (by decide +kernel)]
  rfl
theorem row_set_len {cd : PyData → Bool} {r : List PyData} (h : ¬ r.length = 3) : rowD cd (.tuple (.str "set" :: r)) = false := by
  rw [rowD_yes (rs := ["register", "function", "registers"]) (by decide +kernel)]
  show (decide (r.length = 3) && _) = false
  rw [decide_eq_false h, Bool.false_and]
/-- the other statements have names alone -/
theorem row_plain {cd : PyData → Bool} {w : Str} {r : List PyData} (h1 : w ≠ "if") (h2 : w ≠ "set") : rowD cd (.tuple (.str w :: r)) = (decide ((r.length : Int) = lenI w) && r.all isNameD) := by
  cases hf : formOf w with
  | none =>
    rw [rowD_no hf]
    have : ¬ ((r.length : Int) = lenI w) := fun z => by
      unfold lenI at z
      rw [hf] at z
      have z' : (r.length : Int) = -1 := z
      omega
    rw [decide_eq_false this, Bool.false_and]
  | some rs =>
    rw [rowD_yes hf]
    have el : ((r.length : Int) = lenI w) ↔ r.length = rs.length := by
      unfold lenI
      rw [hf]
      show ((r.length : Int) = (rs.length : Int)) ↔ _
      omega
    have pl : rs = (["register", "cell"] : List Str) ∨ rs = (["cell", "register"] : List Str) ∨ rs = (["register", "register"] : List Str) ∨ rs = (["register"] : List Str) := by
      unfold formOf at hf
      by_cases a : w = "read"
      · rw [if_pos a] at hf; exact .inl (Option.some.inj hf).symm
      rw [if_neg a] at hf
      by_cases b : w = "write"
      · rw [if_pos b] at hf; exact .inr (.inl (Option.some.inj hf).symm)
      rw [if_neg b, if_neg h2] at hf
      by_cases c : w = "copy"
      · rw [if_pos c] at hf; exact .inr (.inr (.inl (Option.some.inj hf).symm))
      rw [if_neg c] at hf
      by_cases d : w = "get"
      · rw [if_pos d] at hf; exact .inr (.inr (.inr (Option.some.inj hf).symm))
      rw [if_neg d] at hf
      by_cases e : w = "put"
      · rw [if_pos e] at hf; exact .inr (.inr (.inr (Option.some.inj hf).symm))
      rw [if_neg e, if_neg h1] at hf
      by_cases g : w = "show"
      · rw [if_pos g] at hf; exact .inr (.inr (.inr (Option.some.inj hf).symm))
      rw [if_neg g] at hf
      cases hf
    by_cases hl : r.length = rs.length
    · rw [decide_eq_true hl, decide_eq_true (el.mpr hl), Bool.true_and, Bool.true_and]
      rcases pl with rfl | rfl | rfl | rfl
      · match r, hl with
        | [d1, d2], _ => rfl
      · match r, hl with
        | [d1, d2], _ => rfl
      · match r, hl with
        | [d1, d2], _ => rfl
      · match r, hl with
        | [d1], _ => rfl
    · rw [decide_eq_false hl, decide_eq_false (fun z => hl (el.mp z)), Bool.false_and, Bool.false_and]
end OM

namespace OM
open PySem PySem.Spec PyProof.Rows L2
theorem names_hs {S : Addr → Prop} {Hb : Hp} {xs : List V} {ds : List PyData} {Dl : Addr} {s0 s1 s2 s3 s4 : Option V} (hD : Hb Dl = none) (hx : DtAll S Hb xs ds) (sm : smlAll ds = true) (hl : ds.length ≤ 1000) : ∀ i x H3, xs[i]? = some x → PvF Hb Dl (ds.map isNameD) i H3 →
    gName 4 x (wipe [s0, s1, s2, s3, s4] [4]) H3 fun σ2 H2 => wipe σ2 [4] = wipe [s0, s1, s2, s3, s4] [4] ∧ tNot (tB (tCall spName [] E0 (tCons (tVar 4) tNil))) σ2 H2 fun b H3 =>
      if b = true then tVar 4 σ2 H3 fun y H4 => ∃ acc, H4 Dl = some (.lst acc) ∧ acc.length < sizeLine ∧ PvF Hb Dl (ds.map isNameD) (i + 1) (upd H4 Dl (.lst (acc ++ [y]))) else PvF Hb Dl (ds.map isNameD) (i + 1) H3 := by
  intro i x H3 hi p
  obtain ⟨e, he, hde⟩ := hx.get hi
  have hb : (ds.map isNameD)[i]? = some (isNameD e) := by
    rw [List.getElem?_map, he]
    rfl
  refine ⟨rfl, _, rfl, S, x, e, rfl, hde.mv (fun _ z => z) (fun b o _ eb => p.1 b o eb), sml_get sm he, fun H4 s4 => ⟨_, rfl, ?_⟩⟩
  cases hv : isNameD e with
  | true =>
    rw [hv] at hb
    exact iteF (p.yes hb s4)
  | false =>
    rw [hv] at hb
    exact iteT ⟨_, rfl, p.no hD (by rw [List.length_map]; exact hl) hb s4⟩
theorem DtAll.four {S : Addr → Prop} {H : Hp} {xs : List V} {ds : List PyData} (h : DtAll S H xs ds) (l : ds.length = 4) : ∃ x1 x2 x3 x4 d1 d2 d3 d4, xs = [x1, x2, x3, x4] ∧ ds = [d1, d2, d3, d4] ∧ Dt S H x1 d1 ∧ Dt S H x2 d2 ∧ Dt S H x3 d3 ∧ Dt S H x4 d4 := by
  match ds, l with
  | [d1, d2, d3, d4], _ =>
    cases h with
    | cons h1 h =>
      cases h with
      | cons h2 h =>
        cases h with
        | cons h3 h =>
          cases h with
          | cons h4 h =>
            cases h
            exact ⟨_, _, _, _, _, _, _, _, rfl, rfl, h1, h2, h3, h4⟩
theorem DtAll.three {S : Addr → Prop} {H : Hp} {xs : List V} {ds : List PyData} (h : DtAll S H xs ds) (l : ds.length = 3) : ∃ x1 x2 x3 d1 d2 d3, xs = [x1, x2, x3] ∧ ds = [d1, d2, d3] ∧ Dt S H x1 d1 ∧ Dt S H x2 d2 ∧ Dt S H x3 d3 := by
  match ds, l with
  | [d1, d2, d3], _ =>
    cases h with
    | cons h1 h =>
      cases h with
      | cons h2 h =>
        cases h with
        | cons h3 h =>
          cases h
          exact ⟨_, _, _, _, _, _, rfl, rfl, h1, h2, h3⟩
theorem cut4 {x1 x2 x3 x4 : V} : cutV [x1, x2, x3, x4] none (some 2) = [x1, x2] := rfl
theorem cut3 {x1 x2 x3 : V} : cutV [x1, x2, x3] none (some 2) = [x1, x2] := rfl
theorem part4 {x1 x2 x3 x4 : V} : ¬ (HT.sIx [x1, x2, x3, x4].length 0 none = 0 ∧ HT.sIx [x1, x2, x3, x4].length [x1, x2, x3, x4].length (some 2) = [x1, x2, x3, x4].length) := fun h => by
  have z : (2 : Nat) = 4 := h.2
  cases z
theorem part3 {x1 x2 x3 : V} : ¬ (HT.sIx [x1, x2, x3].length 0 none = 0 ∧ HT.sIx [x1, x2, x3].length [x1, x2, x3].length (some 2) = [x1, x2, x3].length) := fun h => by
  have z : (2 : Nat) = 3 := h.2
  cases z
theorem DtAll.same {S : Addr → Prop} {H H' : Hp} {xs : List V} {ds : List PyData} (h : DtAll S H xs ds) (s : Same H H') : DtAll S H' xs ds := h.mv (fun _ z => z) fun b o _ e => s b o e
theorem Dt.sameS {S : Addr → Prop} {H H' : Hp} {v : V} {d : PyData} (h : Dt S H v d) (s : Same H H') : Dt S H' v d := h.mv (fun _ z => z) fun b o _ e => s b o e
theorem smlAll_len {ds : List PyData} {xs : List V} {S : Addr → Prop} {H : Hp} (h : DtAll S H xs ds) (l : xs.length ≤ 1000) : ds.length ≤ 1000 := by
  rw [← h.length]
  exact l
section
variable {P : Program} {w : World} {K : PySem.W.Frag} {mg : Str → Option Value} {base : Heap} {f fC fL : Addr} {fd dC dL : FuncData}
end
end OM

namespace OM
open PySem PySem.Spec PyProof.Rows L2
section
variable {P : Program} {w : World} {K : PySem.W.Frag} {mg : Str → Option Value} {base : Heap} {fC fR fL : Addr} {dC dR dL : FuncData}
end
end OM

namespace OM
open PySem PySem.Spec PyProof.Rows L2
abbrev sMixed : Stmt := top 82
def spMixed (K : PySem.W.Frag) : Sp := fun vs H Q _ => ∃ (d a : Addr) (xs : List V), vs = [.ref d, .ref a] ∧ Dice H d ∧ (SqL K H a xs ∨ SqT K H a xs) ∧ xs.length ≤ 1000 ∧
  ∀ H' p ys, But d H H' → Dice H' d → H p = none → H' p = some (.lst ys) → ys.Perm xs → Q (.ref p) H'
theorem seq_nat {k n : Nat} (h : k < n) : seqIndex? (k : Int) n = some k := by
  unfold seqIndex?
  have h1 : ¬ ((k : Int) < 0) := by omega
  have h2 : (0 : Int) ≤ (k : Int) := by omega
  have h3 : (k : Int) < (n : Int) := by omega
  simp [h1, h2, h3]
theorem perm_erase : ∀ {l : List V} {i : Nat} (h : i < l.length), (l[i] :: l.eraseIdx i).Perm l
  | x :: r, 0, _ => .refl _
  | x :: r, i + 1, h => by
    have ih := perm_erase (l := r) (i := i) (Nat.lt_of_succ_lt_succ h)
    exact (List.Perm.swap x _ _).trans (ih.cons x)
section
variable {P : Program} {w : World} {K : PySem.W.Frag} {mg : Str → Option Value} {base : Heap} {f fR : Addr} {fd fdR : FuncData}
theorem scMx : FnScope ["_law_dice_here", "_law_items", "_law_left", "_law_found"] ["_law_dice_here", "_law_items"] (defScope sMixed) := ⟨rfl, rfl, rfl, by decide +kernel, rfl, by decide +kernel, by decide +kernel⟩
theorem ok_mixed (F : Fun K "_law_mixed" "_law_mixed" sMixed f fd) (T : TxtD mg) (hl : mg "list" = none) (FR : Fun K "_law_roll" "_law_roll" sRoll fR fdR) (gR : mg "_law_roll" = some (.ref fR)) (bR : Binds K fdR ["_law_dice_here", "_law_total"] []) :
    FnOk P w K mg base CX0 2 f fd ["_law_dice_here", "_law_items"] (spMixed K) := by
  have GR : FnOk P w K mg base CX0 1 fR fdR ["_law_dice_here", "_law_total"] spRoll := ok_roll FR T
  refine F.ok scMx (fun vs H Q E h => ?_) (fun cdv A outer s H vs Q E hr h => ?_)
  · obtain ⟨d, a, xs, rfl, _⟩ := h
    rfl
  · obtain ⟨d, a, xs, rfl, hd, hx, hn, q⟩ := h
    have hu : (A.deeper (envOfC "_law_mixed" (defScope sMixed) s.heap.objs.size f cdv)).units < cLine := by
      have := hr.un
      omega
    refine ⟨_, pss_cons (ps_par (i := 2) (j := 3) rfl scMx.nd rfl rfl (by decide) (by rfl) (by rfl) (pa_cons (pe_callTy call_list_of (by rfl) hl (by decide +kernel) (pa_cons (pv 1) pa_nil)) (pa_cons (pe_lst pa_nil) pa_nil)) (by rfl))
      (pss_cons (ps_while PassesOwn.never (pt_cmpR (op_neL0 hu) (pv 2) (pe_lst pa_nil) (by rfl))
        (pss_one (ps_expr (pe_bm PySem.F.plainAttrs_list PySem.F.slot_list_append PySem.F.type_list_append mt_append (pv 3) (pa_cons (pe_bm PySem.F.plainAttrs_list PySem.F.slot_list_pop PySem.F.type_list_pop mt_popAt (pv 2)
          (pa_cons (pe_call GR hr (by rfl) gR FR.kp bR .nil pass0 (pa_cons (pv 0) (pa_cons (pe_callB call_len_seq (by rfl) T.len PySem.boot_len (pa_cons (pv 2) pa_nil)) pa_nil))) pa_nil)) pa_nil)))))
      (pss_one (ps_ret (pv 3)))), ?_⟩
    obtain ⟨l0, m0, c0, ed⟩ := hd
    refine ⟨_, rfl, a, xs, rfl, hx, fun l hnl => ⟨(by show 0 ≤ sizeLine; decide), fun p hnp => ⟨_, _, rfl, ?_⟩⟩⟩
    have s1 := (same_upd (o := .lst xs) hnl).trans (same_upd (o := .lst []) hnp)
    have ld : l ≠ d := fun z => by
      rw [z, ed] at hnl
      cases hnl
    have pd : p ≠ d := fun z => by
      rw [z, same_upd hnl _ _ ed] at hnp
      cases hnp
    have pl : p ≠ l := fun z => by
      rw [z, upd_same] at hnp
      cases hnp
    have hp0 : H p = none := (same_upd (o := .lst xs) hnl).free hnp
    refine ⟨fun m σ H' => σ = [some (.ref d), some (.ref a), some (.ref l), some (.ref p)] ∧ Dice H' d ∧ But d H H' ∧ ∃ ls ys, H' l = some (.lst ls) ∧ H' p = some (.lst ys) ∧ ls.length = m ∧ (ys ++ ls).Perm xs,
      ⟨xs.length, rfl, ⟨l0, m0, c0, s1 _ _ ed⟩, fun b o _ e => s1 b o e, xs, [], same_upd hnp _ _ upd_same, upd_same, rfl, .refl _⟩, ?_⟩
    rintro m σ H' ⟨rfl, hd', bt, ls, ys, el, ep, hm, pm⟩
    have lsz : ys.length + ls.length = xs.length := by
      have := pm.length_eq
      rw [List.length_append] at this
      exact this
    refine ⟨_, rfl, (by show 0 ≤ sizeLine; decide), fun pe hpe => ⟨l, pe, ls, rfl, rfl, SqL.of (same_upd hpe _ _ el), SqL.of upd_same, _, rfl, ?_⟩⟩
    have se := same_upd (o := .lst []) hpe
    have hdE : Dice (upd H' pe (.lst [])) d := by
      obtain ⟨a1, a2, a3, e⟩ := hd'
      exact ⟨a1, a2, a3, se _ _ e⟩
    have elE := se _ _ el
    have epE := se _ _ ep
    have btE : But d H (upd H' pe (.lst [])) := fun b o hb e => se _ _ (bt b o hb e)
    revert hdE elE epE btE
    generalize upd H' pe (.lst []) = G
    intro hdE elE epE btE
    cases ls with
    | nil =>
      refine iteF ⟨_, rfl, q G p ys btE hdE hp0 epE (by simpa using pm)⟩
    | cons x0 lr =>
      refine iteT ⟨fun σ' H' => σ' = [some (.ref d), some (.ref a), some (.ref l), some (.ref p)] ∧ Dice H' d ∧ But d H H' ∧ ∃ ls ys, H' l = some (.lst ls) ∧ H' p = some (.lst ys) ∧ ls.length = lr.length ∧ (ys ++ ls).Perm xs,
        fun σ' H' h => ⟨lr.length, by rw [← hm]; exact Nat.lt_succ_self _, h⟩, ?_⟩
      have lr1 : lr.length + 1 ≤ 1000 := by
        have : (x0 :: lr).length = lr.length + 1 := rfl
        omega
      refine ⟨_, rfl, .inl ⟨rfl, ys, SqL.of epE⟩, _, rfl, .inl ⟨rfl, _, SqL.of elE⟩, _, rfl, _, rfl, l, _, rfl, .inl (SqL.of elE), d, ((x0 :: lr).length : Int), rfl, hdE, ?_, ?_, fun G2 r r0 r1 b2 hd2 => ?_⟩
      · show (0 : Int) < ((lr.length + 1 : Nat) : Int)
        omega
      · show (((lr.length + 1 : Nat) : Int)) < 1073741824
        omega
      · have r1' : r < ((lr.length + 1 : Nat) : Int) := r1
        obtain ⟨k, rfl⟩ : ∃ k : Nat, r = (k : Int) := ⟨r.toNat, by omega⟩
        have hk : k < (x0 :: lr).length := by
          show k < lr.length + 1
          omega
        have hy : (x0 :: lr)[k]? = some ((x0 :: lr)[k]) := List.getElem?_eq_getElem hk
        have el2 := b2 _ _ ld elE
        have ep2 := b2 _ _ pd epE
        refine ⟨l, x0 :: lr, (k : Int), k, (x0 :: lr)[k], rfl, rfl, el2, by omega, by omega, seq_nat hk, hy, p, ys, _, rfl, rfl, by rw [upd_ne pl]; exact ep2, ?_, rfl, ?_, ?_, ?_⟩
        · have : (1000 : Nat) < sizeLine := by decide
          omega
        · obtain ⟨a1, a2, a3, e⟩ := hd2
          exact ⟨a1, a2, a3, by rw [upd_ne (Ne.symm pd), upd_ne (Ne.symm ld)]; exact e⟩
        · intro b o hb e
          have nl : b ≠ l := ne_of_none e hnl
          have np : b ≠ p := ne_of_none e hp0
          rw [upd_ne np, upd_ne nl]
          exact b2 _ _ hb (btE b o hb e)
        · refine ⟨_, _, by rw [upd_ne (Ne.symm pl), upd_same], upd_same, ?_, ?_⟩
          · rw [List.length_eraseIdx_of_lt hk]
            rfl
          · rw [List.append_assoc]
            exact (List.Perm.append_left ys (perm_erase hk)).trans pm
end
end OM

namespace OM
open PySem PySem.Spec PyProof.Rows L2
abbrev sState : Stmt := top 83
abbrev sCode : Stmt := top 84
def regs4 : List Str := ["a", "b", "r", "x"]
def cells3 : List Str := ["x", "y", "zz"]
mutual
/-- a drawn statement: how deep ifs may stand in it, its letters, sets and ifs, its size -/
inductive StD : Nat → PyData → Nat → Nat → Nat → Nat → Prop where
  | read {n : Nat} {r x : Str} (hr : r ∈ regs4) (hx : x ∈ cells3) : StD n (.tuple [.str "read", .str r, .str x]) 0 0 0 1
  | write {n : Nat} {r x : Str} (hx : x ∈ cells3) (hr : r ∈ regs4) : StD n (.tuple [.str "write", .str x, .str r]) 0 0 0 1
  | copy {n : Nat} {r a : Str} (hr : r ∈ regs4) (ha : a ∈ regs4) : StD n (.tuple [.str "copy", .str r, .str a]) 0 0 0 1
  | letter {n : Nat} {w r : Str} (hw : w = "get" ∨ w = "put") (hr : r ∈ regs4) : StD n (.tuple [.str w, .str r]) 1 0 0 1
  | set {n : Nat} {r f : Str} {as : List Str} (hr : r ∈ regs4) (hf : f = "f" ∨ f = "g") (ha : ∀ a ∈ as, a ∈ regs4) (hl : as.length ≤ 2) : StD n (.tuple [.str "set", .str r, .str f, .tuple (as.map PyData.str)]) 0 1 0 1
  | iff {n : Nat} {p r : Str} {ys ns : List PyData} {l1 s1 t1 z1 l2 s2 t2 z2 : Nat} (hp : p = "p" ∨ p = "q") (hr : r ∈ regs4) (hy : CoD n ys l1 s1 t1 z1) (hyl : ys.length ≤ 2) (hn : CoD n ns l2 s2 t2 z2) (hnl : ns.length ≤ 2) :
      StD (n + 1) (.tuple [.str "if", .str p, .str r, .tuple ys, .tuple ns]) (l1 + l2) (s1 + s2) (t1 + t2 + 1) (z1 + z2 + 1)
inductive CoD : Nat → List PyData → Nat → Nat → Nat → Nat → Prop where
  | nil {n : Nat} : CoD n [] 0 0 0 0
  | cons {n : Nat} {d : PyData} {ds : List PyData} {l s t z l' s' t' z' : Nat} (h : StD n d l s t z) (r : CoD n ds l' s' t' z') : CoD n (d :: ds) (l + l') (s + s') (t + t') (z + z')
end
theorem CoD.snoc {n : Nat} {d : PyData} {l' s' t' z' : Nat} (x : StD n d l' s' t' z') : ∀ {ds : List PyData} {l s t z : Nat}, CoD n ds l s t z → CoD n (ds ++ [d]) (l + l') (s + s') (t + t') (z + z')
  | _, _, _, _, _, .nil => by
    have := CoD.cons x .nil
    simpa using this
  | _, _, _, _, _, .cons h r => by
    have q := CoD.cons h (CoD.snoc x r)
    simpa [Nat.add_assoc] using q
/-- all but two is as it was -/
def But2 (a b : Addr) (H H' : Hp) : Prop := ∀ c o, c ≠ a → c ≠ b → H c = some o → H' c = some o
theorem But2.trans {a b : Addr} {H H1 H2 : Hp} (x : But2 a b H H1) (y : But2 a b H1 H2) : But2 a b H H2 := fun c o h1 h2 e => y c o h1 h2 (x c o h1 h2 e)
theorem But.two {a b : Addr} {H H' : Hp} (x : But a H H') : But2 a b H H' := fun c o h1 _ e => x c o h1 e
theorem Same.two {a b : Addr} {H H' : Hp} (x : Same H H') : But2 a b H H' := fun c o _ _ e => x c o e
/-- the room that is left -/
def RoomL (H : Hp) (q : Addr) (l s t : Nat) : Prop := H q = some (.lst [.int l, .int s, .int t])
def spState (n : Nat) : Sp := fun vs H Q _ => ∃ (d q : Addr) (l s t : Nat), vs = [.ref d, .ref q, .int n] ∧ Dice H d ∧ RoomL H q l s t ∧ d ≠ q ∧ ∀ H' v e l1 s1 t1 z1, But2 d q H H' → Dice H' d → StD n e l1 s1 t1 z1 → l1 ≤ l → s1 ≤ s → t1 ≤ t → RoomL H' q (l - l1) (s - s1) (t - t1) →
  Dt (fun b => H b = none) H' v e → Q v H'
def spCodeAt : Nat → Sp
  | 0 => fun _ _ _ _ => False
  | n + 1 => fun vs H Q _ => ∃ (d q : Addr) (m l s t : Nat), vs = [.ref d, .int m, .ref q, .int n] ∧ m ≤ 100 ∧ Dice H d ∧ RoomL H q l s t ∧ d ≠ q ∧ ∀ H' v ds l1 s1 t1 z1, But2 d q H H' → Dice H' d → CoD n ds l1 s1 t1 z1 → ds.length ≤ m → l1 ≤ l → s1 ≤ s → t1 ≤ t → RoomL H' q (l - l1) (s - s1) (t - t1) →
    Dt (fun b => H b = none) H' v (.tuple ds) → Q v H'
section
variable {P : Program} {w : World} {K : PySem.W.Frag} {mg : Str → Option Value} {base : Heap} {f fR fO fC fS : Addr} {fd fdR fdO dC dS : FuncData}
/-- the functions of the dice -/
structure DiceF (K : PySem.W.Frag) (mg : Str → Option Value) (fR fO : Addr) (fdR fdO : FuncData) : Prop where
  FR : Fun K "_law_roll" "_law_roll" sRoll fR fdR
  FO : Fun K "_law_one_of" "_law_one_of" sOneOf fO fdO
  gR : mg "_law_roll" = some (.ref fR)
  gO : mg "_law_one_of" = some (.ref fO)
  bR : Binds K fdR ["_law_dice_here", "_law_total"] []
  bO : Binds K fdO ["_law_dice_here", "_law_items"] []
  T : TxtD mg
theorem scCd : FnScope ["_law_dice_here", "_law_most", "_law_room", "_law_deep", "_law_found", "_law_turn"] ["_law_dice_here", "_law_most", "_law_room", "_law_deep"] (defScope sCode) := ⟨rfl, rfl, rfl, by decide +kernel, rfl, by decide +kernel, by decide +kernel⟩
theorem code_step {n k : Nat} (F : Fun K "_law_code" "_law_code" sCode f fd) (D : DiceF K mg fR fO fdR fdO) (rng : mg "range" = none) (tup : mg "tuple" = none) (gS : mg "_law_statement" = some (.ref fS)) (kS : PySem.W.keepIn K (.ref fS) = true) (bS : Binds K dS ["_law_dice_here", "_law_room", "_law_deep"] [])
    (GS : FnOk P w K mg base CX0 (k + 1) fS dS ["_law_dice_here", "_law_room", "_law_deep"] (spState n)) : FnOk P w K mg base CX0 (k + 2) f fd ["_law_dice_here", "_law_most", "_law_room", "_law_deep"] (spCodeAt (n + 1)) := by
  have GR : FnOk P w K mg base CX0 1 fR fdR ["_law_dice_here", "_law_total"] spRoll := ok_roll D.FR D.T
  refine F.ok scCd (fun vs H Q E h => ?_) (fun cdv A outer s H vs Q E hr h => ?_)
  · obtain ⟨d, q, m, l, s, t, rfl, _⟩ := h
    rfl
  · obtain ⟨d, q, m, l, s1, t, rfl, hm, hd, hq, ne, c⟩ := h
    refine ⟨_, pss_cons (ps_set (i := 4) scCd.nd rfl (Or.inl rfl) (pe_lst pa_nil))
      (pss_cons (ps_for PassesOwn.never rfl (pi_range1 (by rfl) rng (pa_cons (pe_call GR (hr.mono (by omega)) (by rfl) D.gR D.FR.kp D.bR .nil pass0 (pa_cons (pv 0) (pa_cons (pe_op op_add (pv 1) pe_int) pa_nil))) pa_nil)) (pg_name (i := 5) scCd.nd rfl (Or.inl rfl))
        (pss_one (ps_expr (pe_bm PySem.F.plainAttrs_list PySem.F.slot_list_append PySem.F.type_list_append mt_append (pv 4) (pa_cons (pe_call GS hr (by rfl) gS kS bS .nil pass0 (pa_cons (pv 0) (pa_cons (pv 2) (pa_cons (pv 3) pa_nil)))) pa_nil)))))
      (pss_one (ps_ret (pe_callTy call_tuple_of (by rfl) tup (by decide +kernel) (pa_cons (pv 4) pa_nil))))), ?_⟩
    have dn : ∀ {G : Hp}, Dice G d → G d ≠ none := fun {G} h => h.ne
    refine ⟨(by show 0 ≤ sizeLine; decide), fun p hp => ?_⟩
    have pd : p ≠ d := fun z => dn hd (by rw [← z]; exact hp)
    have pq : p ≠ q := fun z => by
      rw [z, hq] at hp
      cases hp
    have sp := same_upd (o := .lst []) hp
    have hd0 : Dice (upd H p (.lst [])) d := by
      obtain ⟨a1, a2, a3, e⟩ := hd
      exact ⟨a1, a2, a3, sp _ _ e⟩
    refine ⟨_, rfl, _, rfl, (m : Int), 1, rfl, rfl, d, ((m : Int) + 1), rfl, hd0, by omega, by omega, fun H1 r r0 r1 b1 hd1 => ⟨r, rfl, by omega, by omega, ?_⟩⟩
    have free : ∀ {G : Hp}, But2 d q H G → Dice G d → (∃ u, G q = some u) → ∀ b, G b = none → H b = none := fun {G} bt hdg hqg b hb => by
      cases y : H b with
      | none => rfl
      | some o =>
        by_cases e1 : b = d
        · subst e1
          exact absurd hb (dn hdg)
        · by_cases e2 : b = q
          · subst e2
            obtain ⟨u, hu⟩ := hqg
            rw [hu] at hb
            cases hb
          · rw [bt b o e1 e2 y] at hb
            cases hb
    refine ⟨fun i m' σ G => m' = r.toNat - i ∧ i ≤ r.toNat ∧ (∃ x5, σ = [some (.ref d), some (.int m), some (.ref q), some (.int n), some (.ref p), x5]) ∧ Dice G d ∧ But2 d q H G ∧ ∃ vs ds l1 s2 t1 z1, G p = some (.lst vs) ∧ DtAll (fun b => H b = none ∧ b ≠ p) G vs ds ∧
      CoD n ds l1 s2 t1 z1 ∧ ds.length = i ∧ l1 ≤ l ∧ s2 ≤ s1 ∧ t1 ≤ t ∧ RoomL G q (l - l1) (s1 - s2) (t - t1), ⟨_, rfl, Nat.zero_le _, ⟨_, rfl⟩, hd1, (Same.two (H' := upd H p (.lst [])) sp).trans b1.two, [], [], 0, 0, 0, 0, b1 _ _ pd upd_same, .nil, .nil, rfl, Nat.zero_le _, Nat.zero_le _, Nat.zero_le _, b1 _ _ (Ne.symm ne) (sp _ _ hq)⟩, ?_⟩
    rintro i m' σ G ⟨rfl, hi, ⟨x5, rfl⟩, hdG, bt, vs, ds, l1, s2, t1, z1, ep, dall, cd, hlen, hl1, hs2, ht1, hroom⟩
    have hr' : r.toNat ≤ m := by omega
    rcases Nat.lt_or_ge i r.toNat with hlt | hge
    · refine .inr ⟨hlt, fun σ' G' => (∃ x5, σ' = [some (.ref d), some (.int m), some (.ref q), some (.int n), some (.ref p), x5]) ∧ Dice G' d ∧ But2 d q H G' ∧ ∃ vs ds l1 s2 t1 z1, G' p = some (.lst vs) ∧ DtAll (fun b => H b = none ∧ b ≠ p) G' vs ds ∧
        CoD n ds l1 s2 t1 z1 ∧ ds.length = i + 1 ∧ l1 ≤ l ∧ s2 ≤ s1 ∧ t1 ≤ t ∧ RoomL G' q (l - l1) (s1 - s2) (t - t1), fun σ' G' h => ⟨r.toNat - (i + 1), by omega, rfl, hlt, h⟩, ?_⟩
      rintro x G' ⟨rfl, rfl⟩
      refine ⟨_, rfl, .inl ⟨rfl, vs, SqL.of ep⟩, _, rfl, _, rfl, _, rfl, d, q, l - l1, s1 - s2, t - t1, rfl, hdG, hroom, ne, fun G2 v e l2 s3 t2 z2 b2 hd2 st hl2 hs3 ht2 hr2 dt2 => ?_⟩
      have ep2 := b2 _ _ pd pq ep
      refine ⟨p, vs, v, rfl, rfl, ep2, ?_, ⟨_, rfl⟩, ?_, ?_, vs ++ [v], ds ++ [e], l1 + l2, s2 + s3, t1 + t2, z1 + z2, upd_same, ?_, cd.snoc st, ?_, by omega, by omega, by omega, ?_⟩
      · have := dall.length
        have : (1000 : Nat) < sizeLine := by decide
        omega
      · obtain ⟨a1, a2, a3, e⟩ := hd2
        exact ⟨a1, a2, a3, by rw [upd_ne (Ne.symm pd)]; exact e⟩
      · intro b o h1 h2 eb
        rw [upd_ne (ne_of_none eb hp)]
        exact b2 b o h1 h2 (bt b o h1 h2 eb)
      · refine DtAll.snoc (dall.strong fun b o hb eo => ⟨hb, ?_⟩) (dt2.strong fun b o hb eo => ?_)
        · rw [upd_ne hb.2]
          exact b2 b o (fun z => dn hd (by rw [← z]; exact hb.1)) (fun z => by rw [z, hq] at hb; cases hb.1) eo
        · have hb' : G' b = none := hb
          have bp : b ≠ p := fun z => by
            rw [z, ep] at hb'
            cases hb'
          exact ⟨⟨free bt hdG ⟨_, hroom⟩ b hb', bp⟩, by rw [upd_ne bp]; exact eo⟩
      · rw [List.length_append, hlen]
        rfl
      · show upd G2 p _ q = _
        rw [upd_ne (Ne.symm pq)]
        have := hr2
        unfold RoomL at this
        rw [this, Nat.sub_sub, Nat.sub_sub, Nat.sub_sub]
    · obtain rfl : i = r.toNat := by omega
      refine .inl ⟨Nat.le_refl _, ?_⟩
      refine ⟨_, rfl, p, vs, rfl, .inl ⟨SqL.of ep, fun tp htp => ?_⟩⟩
      have st := same_upd (o := .tup vs) htp
      refine c _ (.ref tp) ds l1 s2 t1 z1 (bt.trans (Same.two (H' := upd G tp (.tup vs)) st)) ?_ cd (by omega) hl1 hs2 ht1 (st _ _ hroom) (.tup (free bt hdG ⟨_, hroom⟩ tp htp) upd_same ?_ (dall.strong fun b o hb eo => ⟨hb.1, st _ _ eo⟩))
      · obtain ⟨a1, a2, a3, e⟩ := hdG
        exact ⟨a1, a2, a3, st _ _ e⟩
      · have := dall.length
        omega
end
end OM

namespace OM
open PySem PySem.Spec PyProof.Rows L2
/-- one of some texts, in a list just made -/
theorem one_str {K : PySem.W.Frag} {G : Hp} {d p : Addr} {ws : List Str} {Q : VK} {E : XK} (hd : Dice G d) (hp : G p = none) (h0 : 0 < ws.length) (hl : ws.length ≤ 1000) (q : ∀ G' x, x ∈ ws → But d G G' → Dice G' d → Q (.str x) G') :
    spOneOf K [.ref d, .ref p] (upd G p (.lst (ws.map V.str))) Q E := by
  have s := same_upd (o := .lst (ws.map V.str)) hp
  have pd : p ≠ d := fun z => hd.ne (by rw [← z]; exact hp)
  refine ⟨d, p, ws.map V.str, rfl, ?_, SqL.of upd_same, fun _ => pd, by rw [List.length_map]; exact h0, by rw [List.length_map]; omega, fun G' i v hv b hd' => ?_⟩
  · obtain ⟨a1, a2, a3, e⟩ := hd
    exact ⟨a1, a2, a3, s _ _ e⟩
  · rw [List.getElem?_map] at hv
    obtain ⟨x, hx, rfl⟩ := Option.map_eq_some_iff.mp hv
    exact q G' x (List.mem_of_getElem? hx) (fun c o h e => b c o h (s c o e)) hd'
theorem But.trans' {a : Addr} {H H1 H2 : Hp} (x : But a H H1) (y : But a H1 H2) : But a H H2 := fun c o h1 e => y c o h1 (x c o h1 e)
theorem Same.but' {a : Addr} {H H' : Hp} (x : Same H H') : But a H H' := fun c o _ e => x c o e
theorem cutP {A B : Prop} (f : B → A) (b : B) : A := f b
theorem reg4 {x : Str} (h : x ∈ (["a", "b", "r", "x"] : List Str)) : x ∈ regs4 := h
theorem dt_strs {S : Addr → Prop} {G : Hp} : ∀ as : List Str, DtAll S G (as.map V.str) (as.map PyData.str)
  | [] => .nil
  | a :: as => .cons (.at (.str _)) (dt_strs as)
theorem pq_of {x : Str} (h : x ∈ (["p", "p", "q"] : List Str)) : x = "p" ∨ x = "q" := by
  rcases List.mem_cons.mp h with h | h
  · exact .inl h
  rcases List.mem_cons.mp h with h | h
  · exact .inl h
  · exact .inr (List.mem_singleton.mp h)
theorem two_of {x a b : Str} (h : x ∈ [a, b]) : x = a ∨ x = b := by
  rcases List.mem_cons.mp h with h | h
  · exact .inl h
  · exact .inr (List.mem_singleton.mp h)
theorem cell4 {x : Str} (h : x ∈ (["x", "y", "x", "zz"] : List Str)) : x ∈ cells3 := by
  rcases List.mem_cons.mp h with rfl | h
  · exact .head _
  rcases List.mem_cons.mp h with rfl | h
  · exact .tail _ (.head _)
  rcases List.mem_cons.mp h with rfl | h
  · exact .head _
  rcases List.mem_cons.mp h with rfl | h
  · exact .tail _ (.tail _ (.head _))
  cases h
section
variable {P : Program} {w : World} {K : PySem.W.Frag} {mg : Str → Option Value} {base : Heap} {f fR fO fC : Addr} {fd fdR fdO dC : FuncData}
theorem scSm : FnScope ["_law_dice_here", "_law_room", "_law_deep", "_law_way", "_law_cell", "_law_one", "_law_other", "_law_args", "_law_yes"] ["_law_dice_here", "_law_room", "_law_deep"] (defScope sState) := ⟨rfl, rfl, rfl, by decide +kernel, rfl, by decide +kernel, by decide +kernel⟩
theorem ok_state {n k : Nat} (F : Fun K "_law_statement" "_law_statement" sState f fd) (D : DiceF K mg fR fO fdR fdO) (gC : mg "_law_code" = some (.ref fC)) (kC : PySem.W.keepIn K (.ref fC) = true) (bC : Binds K dC ["_law_dice_here", "_law_most", "_law_room", "_law_deep"] [])
    (GC : FnOk P w K mg base CX0 (k + 2) fC dC ["_law_dice_here", "_law_most", "_law_room", "_law_deep"] (spCodeAt n)) : FnOk P w K mg base CX0 (k + 3) f fd ["_law_dice_here", "_law_room", "_law_deep"] (spState n) := by
  have GR : FnOk P w K mg base CX0 1 fR fdR ["_law_dice_here", "_law_total"] spRoll := ok_roll D.FR D.T
  have GO : FnOk P w K mg base CX0 2 fO fdO ["_law_dice_here", "_law_items"] (spOneOf K) := ok_oneof D.FO D.T D.FR D.gR D.bR
  refine F.ok scSm (fun vs H Q E h => ?_) (fun cdv A outer s H vs Q E hr h => ?_)
  · obtain ⟨d, q, l, s, t, rfl, _⟩ := h
    rfl
  · obtain ⟨d, q, l, s1, t, rfl, hd, hq, ne, c⟩ := h
    refine ⟨_, pss_cons (ps_par (i := 3) (j := 4) rfl scSm.nd rfl rfl (by decide) (by rfl) (by rfl) (pa_cons (pe_call GR (hr.mono (by omega)) (by rfl) D.gR D.FR.kp D.bR .nil pass0 (pa_cons (pv 0) (pa_cons pe_int pa_nil)))
        (pa_cons (pe_call GO (hr.mono (by omega)) (by rfl) D.gO D.FO.kp D.bO .nil pass0 (pa_cons (pv 0) (pa_cons (pe_lst (pa_cons pe_str (pa_cons pe_str (pa_cons pe_str (pa_cons pe_str pa_nil))))) pa_nil))) pa_nil)) (by rfl))
      (pss_cons (ps_par (i := 5) (j := 6) rfl scSm.nd rfl rfl (by decide) (by rfl) (by rfl) (pa_cons (pe_call GO (hr.mono (by omega)) (by rfl) D.gO D.FO.kp D.bO .nil pass0 (pa_cons (pv 0) (pa_cons (pe_lst (pa_cons pe_str (pa_cons pe_str (pa_cons pe_str (pa_cons pe_str pa_nil))))) pa_nil)))
        (pa_cons (pe_call GO (hr.mono (by omega)) (by rfl) D.gO D.FO.kp D.bO .nil pass0 (pa_cons (pv 0) (pa_cons (pe_lst (pa_cons pe_str (pa_cons pe_str (pa_cons pe_str (pa_cons pe_str pa_nil))))) pa_nil))) pa_nil)) (by rfl))
      (pss_cons (ps_if (pt_cmpR op_lt (pv 3) pe_int (nomark _)) (pss_one (ps_ret (pe_tup (pa_cons pe_str (pa_cons (pv 5) (pa_cons (pv 4) pa_nil)))))) pss_nil)
      (pss_cons (ps_if (pt_cmpR op_lt (pv 3) pe_int (nomark _)) (pss_one (ps_ret (pe_tup (pa_cons pe_str (pa_cons (pv 4) (pa_cons (pv 5) pa_nil)))))) pss_nil)
      (pss_cons (ps_if (PW.pt (pw_and (pt_cmpR op_lt (pv 3) pe_int (nomark _)) (pw_and1 (pt_cmpR op_gt (pe_ix ix_list (pv 1) pe_int (fun _ _ => rfl)) pe_int (nomark _)))))
        (pss_cons (ps_asg (pe_op op_sub (pe_ix ix_list (pv 1) pe_int (fun _ _ => rfl)) pe_int) (pg_sub (pv 1) pe_int set_list))
        (pss_one (ps_ret (pe_tup (pa_cons (pe_call GO (hr.mono (by omega)) (by rfl) D.gO D.FO.kp D.bO .nil pass0 (pa_cons (pv 0) (pa_cons (pe_lst (pa_cons pe_str (pa_cons pe_str pa_nil))) pa_nil))) (pa_cons (pv 5) pa_nil)))))) pss_nil)
      (pss_cons (ps_if (PW.pt (pw_and (pt_cmpR op_eq (pv 3) pe_int (nomark _)) (pw_and1 (pt_cmpR op_gt (pe_ix ix_list (pv 1) pe_int (fun _ _ => rfl)) pe_int (nomark _)))))
        (pss_cons (ps_asg (pe_op op_sub (pe_ix ix_list (pv 1) pe_int (fun _ _ => rfl)) pe_int) (pg_sub (pv 1) pe_int set_list))
        (pss_cons (ps_set (i := 7) scSm.nd rfl (Or.inl rfl) (pe_call GO (hr.mono (by omega)) (by rfl) D.gO D.FO.kp D.bO .nil pass0 (pa_cons (pv 0) (pa_cons (pe_lst (pa_cons (pe_tup pa_nil) (pa_cons (pe_tup (pa_cons (pv 6) pa_nil)) (pa_cons (pe_tup (pa_cons (pv 6) pa_nil))
            (pa_cons (pe_tup (pa_cons (pv 5) (pa_cons (pv 6) pa_nil))) (pa_cons (pe_tup (pa_cons (pv 6) (pa_cons (pv 6) pa_nil))) pa_nil)))))) pa_nil))))
        (pss_one (ps_ret (pe_tup (pa_cons pe_str (pa_cons (pv 5) (pa_cons (pe_call GO (hr.mono (by omega)) (by rfl) D.gO D.FO.kp D.bO .nil pass0 (pa_cons (pv 0) (pa_cons (pe_lst (pa_cons pe_str (pa_cons pe_str pa_nil))) pa_nil))) (pa_cons (pv 7) pa_nil))))))))) pss_nil)
      (pss_cons (ps_if (PW.pt (pw_and (pt_cmpR op_gt (pv 3) pe_int (nomark _)) (pw_and (pt_cmpR op_gt (pe_ix ix_list (pv 1) pe_int (fun _ _ => rfl)) pe_int (nomark _)) (pw_and1 (pt_cmpR op_gt (pv 2) pe_int (nomark _))))))
        (pss_cons (ps_asg (pe_op op_sub (pe_ix ix_list (pv 1) pe_int (fun _ _ => rfl)) pe_int) (pg_sub (pv 1) pe_int set_list))
        (pss_cons (ps_set (i := 8) scSm.nd rfl (Or.inl rfl) (pe_call GC hr (by rfl) gC kC bC .nil pass0 (pa_cons (pv 0) (pa_cons pe_int (pa_cons (pv 1) (pa_cons (pe_op op_sub (pv 2) pe_int) pa_nil))))))
        (pss_one (ps_ret (pe_tup (pa_cons pe_str (pa_cons (pe_call GO (hr.mono (by omega)) (by rfl) D.gO D.FO.kp D.bO .nil pass0 (pa_cons (pv 0) (pa_cons (pe_lst (pa_cons pe_str (pa_cons pe_str (pa_cons pe_str pa_nil)))) pa_nil))) (pa_cons (pv 6) (pa_cons (pv 8)
            (pa_cons (pe_call GC hr (by rfl) gC kC bC .nil pass0 (pa_cons (pv 0) (pa_cons pe_int (pa_cons (pv 1) (pa_cons (pe_op op_sub (pv 2) pe_int) pa_nil))))) pa_nil)))))))))) pss_nil)
      (pss_one (ps_ret (pe_tup (pa_cons pe_str (pa_cons (pv 5) (pa_cons (pv 6) pa_nil)))))))))))), ?_⟩
    refine ⟨_, rfl, d, 13, rfl, hd, by omega, by omega, fun H1 wy w0 w1 b1 hd1 => ?_⟩
    refine ⟨_, rfl, (by show (4 : Nat) ≤ sizeLine; decide), fun p1 hp1 => one_str (E := E) (ws := ["x", "y", "x", "zz"]) hd1 hp1 (by decide) (by decide) fun H2 cell hcell b2 hd2 => ?_⟩
    refine ⟨_, _, rfl, _, rfl, (by show (4 : Nat) ≤ sizeLine; decide), fun p2 hp2 => one_str (E := E) (ws := ["a", "b", "r", "x"]) hd2 hp2 (by decide) (by decide) fun H3 one hone b3 hd3 => ?_⟩
    refine ⟨_, rfl, (by show (4 : Nat) ≤ sizeLine; decide), fun p3 hp3 => one_str (E := E) (ws := ["a", "b", "r", "x"]) hd3 hp3 (by decide) (by decide) fun H4 oth hoth b4 hd4 => ?_⟩
    refine ⟨_, _, rfl, ?_⟩
    have b1 : But d H H1 := b1
    have t4 : But d H H4 := ((b1.trans' b2).trans' b3).trans' b4
    have t4' : But2 d q H H4 := t4.two
    have r4 : RoomL H4 q l s1 t := t4 _ _ (Ne.symm ne) hq
    have dn : ∀ {G : Hp}, Dice G d → G d ≠ none := fun {G} h => h.ne
    have free : ∀ {G : Hp}, But2 d q H G → Dice G d → (∃ u, G q = some u) → ∀ b, G b = none → H b = none := fun {G} bt hdg hqg b hb => by
      cases y : H b with
      | none => rfl
      | some o =>
        by_cases e1 : b = d
        · subst e1
          exact absurd hb (dn hdg)
        · by_cases e2 : b = q
          · subst e2
            obtain ⟨u, hu⟩ := hqg
            rw [hu] at hb
            cases hb
          · rw [bt b o e1 e2 y] at hb
            cases hb
    have leaf : ∀ {G : Hp} {p9 : Addr} {vs : List V} {ds : List PyData} {l1 s2 t1 z1 : Nat}, But2 d q H G → Dice G d → RoomL G q (l - l1) (s1 - s2) (t - t1) → G p9 = none → vs.length ≤ 1000 → DtAll (fun b => H b = none) (upd G p9 (.tup vs)) vs ds → StD n (.tuple ds) l1 s2 t1 z1 → l1 ≤ l → s2 ≤ s1 → t1 ≤ t → Q (.ref p9) (upd G p9 (.tup vs)) :=
      fun {G p9 vs ds l1 s2 t1 z1} bt hdG hroom hp9 hv dall st h1 h2 h3 => by
        have s9 := same_upd (o := .tup vs) hp9
        refine c _ (.ref p9) _ l1 s2 t1 z1 (bt.trans (Same.two s9)) ?_ st h1 h2 h3 (s9 _ _ hroom) (.tup (free bt hdG ⟨_, hroom⟩ p9 hp9) upd_same hv dall)
        obtain ⟨a1, a2, a3, e⟩ := hdG
        exact ⟨a1, a2, a3, s9 _ _ e⟩
    have st5 : ∀ ys : List V, Dice (upd H4 q (.lst ys)) d ∧ But2 d q H (upd H4 q (.lst ys)) := fun ys => ⟨by
      obtain ⟨a1, a2, a3, e⟩ := hd4
      exact ⟨a1, a2, a3, by rw [upd_ne ne]; exact e⟩, fun c o h1 h2 e => by rw [upd_ne h2]; exact t4' c o h1 h2 e⟩
    refine ⟨_, rfl, wy, 3, rfl, rfl, _, rfl, ite2 (fun h => ?_) (fun h => ?_)⟩
    · refine ⟨_, rfl, _, rfl, (by show 3 ≤ sizeLine; decide), fun p9 hp9 => ?_⟩
      exact leaf (l1 := 0) (s2 := 0) (t1 := 0) t4' hd4 r4 hp9 (by show 3 ≤ 1000; decide) (.cons (.at (.str _)) (.cons (.at (.str _)) (.cons (.at (.str _)) .nil))) (.read (reg4 hone) (cell4 hcell)) (Nat.zero_le _) (Nat.zero_le _) (Nat.zero_le _)
    refine ⟨_, rfl, wy, 6, rfl, rfl, _, rfl, ite2 (fun h => ?_) (fun h => ?_)⟩
    · refine ⟨_, rfl, _, rfl, (by show 3 ≤ sizeLine; decide), fun p9 hp9 => ?_⟩
      exact leaf (l1 := 0) (s2 := 0) (t1 := 0) t4' hd4 r4 hp9 (by show 3 ≤ 1000; decide) (.cons (.at (.str _)) (.cons (.at (.str _)) (.cons (.at (.str _)) .nil))) (.write (cell4 hcell) (reg4 hone)) (Nat.zero_le _) (Nat.zero_le _) (Nat.zero_le _)
    apply cutP
    · intro rest
      refine ⟨_, rfl, wy, 10, rfl, rfl, _, rfl, ite2 (fun h10 => ⟨_, rfl, q, _, _, _, rfl, rfl, SqL.of r4, rfl, _, _, rfl, rfl, _, rfl, ite2 (fun hl => ?_) (fun _ => rest)⟩) (fun _ => iteF rest)⟩
      have hl1 : 0 < l := by
        have := of_decide_eq_true hl
        omega
      refine ⟨_, rfl, q, _, _, _, rfl, rfl, SqL.of r4, rfl, _, _, rfl, rfl, _, rfl, q, _, _, 0, rfl, rfl, r4, rfl, ?_⟩
      have e5 : ((l - 1 : Nat) : Int) = (l : Int) - 1 := by omega
      have r5 : RoomL (upd H4 q (.lst [V.int ((l : Int) - 1), .int s1, .int t])) q (l - 1) s1 t := by
        unfold RoomL
        rw [e5]
        exact upd_same
      obtain ⟨hd5, t5⟩ := st5 [V.int ((l : Int) - 1), .int s1, .int t]
      refine ⟨_, rfl, (by show 2 ≤ sizeLine; decide), fun p5 hp5 => one_str (E := E) (ws := ["get", "put"]) hd5 hp5 (by decide) (by decide) fun H6 wd hwd b6 hd6 => ⟨_, rfl, (by show 2 ≤ sizeLine; decide), fun p9 hp9 => ?_⟩⟩
      exact leaf (l1 := 1) (s2 := 0) (t1 := 0) (t5.trans b6.two) hd6 (b6 _ _ (Ne.symm ne) r5) hp9 (by show 2 ≤ 1000; decide) (.cons (.at (.str _)) (.cons (.at (.str _)) .nil)) (.letter (two_of hwd) (reg4 hone)) (by omega) (Nat.zero_le _) (Nat.zero_le _)
    apply cutP
    · intro rest
      refine ⟨_, rfl, rfl, _, rfl, ite2 (fun h10 => ⟨_, rfl, q, _, _, _, rfl, rfl, SqL.of r4, rfl, _, _, rfl, rfl, _, rfl, ite2 (fun hl => ?_) (fun _ => rest)⟩) (fun _ => iteF rest)⟩
      have hl1 : 0 < s1 := by
        have := of_decide_eq_true hl
        omega
      refine ⟨_, rfl, q, _, _, _, rfl, rfl, SqL.of r4, rfl, _, _, rfl, rfl, _, rfl, q, _, _, 1, rfl, rfl, r4, rfl, ?_⟩
      have e5 : ((s1 - 1 : Nat) : Int) = (s1 : Int) - 1 := by omega
      have r5 : RoomL (upd H4 q (.lst [V.int l, .int ((s1 : Int) - 1), .int t])) q l (s1 - 1) t := by
        unfold RoomL
        rw [e5]
        exact upd_same
      obtain ⟨hd5, t5⟩ := st5 [V.int l, .int ((s1 : Int) - 1), .int t]
      refine ⟨_, rfl, (by show 0 ≤ sizeLine; decide), fun pa ha => ⟨_, rfl, (by show 1 ≤ sizeLine; decide), fun pb hb => ⟨_, rfl, (by show 1 ≤ sizeLine; decide), fun pc hc => ⟨_, rfl, _, rfl, (by show 2 ≤ sizeLine; decide), fun pd hd' => ⟨_, rfl, _, rfl, (by show 2 ≤ sizeLine; decide), fun pe he => ⟨(by show 5 ≤ sizeLine; decide), fun pf hf => ?_⟩⟩⟩⟩⟩⟩
      have sa := same_upd (o := .tup []) ha
      have sb := same_upd (o := .tup [.str oth]) hb
      have sc := same_upd (o := .tup [.str oth]) hc
      have sd := same_upd (o := .tup [.str one, .str oth]) hd'
      have se := same_upd (o := .tup [.str oth, .str oth]) he
      have sf := same_upd (o := .lst [.ref pa, .ref pb, .ref pc, .ref pd, .ref pe]) hf
      have dice : ∀ {G G' : Hp}, Same G G' → Dice G d → Dice G' d := fun s9 h => by
        obtain ⟨a1, a2, a3, e⟩ := h
        exact ⟨a1, a2, a3, s9 _ _ e⟩
      have hda := dice sa hd5
      have hdb := dice sb hda
      have hdc := dice sc hdb
      have hdd := dice sd hdc
      have hde := dice se hdd
      have hdf := dice sf hde
      have ta := t5.trans (Same.two sa)
      have tb := ta.trans (Same.two sb)
      have tc := tb.trans (Same.two sc)
      have td := tc.trans (Same.two sd)
      have te := td.trans (Same.two se)
      have tf := te.trans (Same.two sf)
      have ra := sa _ _ r5
      have rb := sb _ _ ra
      have rc := sc _ _ rb
      have rd := sd _ _ rc
      have re := se _ _ rd
      have rf := sf _ _ re
      have nd : ∀ {G : Hp} {a : Addr}, Dice G d → G a = none → a ≠ d := fun h e z => dn h (by rw [← z]; exact e)
      refine ⟨d, pf, [.ref pa, .ref pb, .ref pc, .ref pd, .ref pe], rfl, hdf, SqL.of upd_same, fun _ => nd hde hf, (by show (0 : Nat) < 5; decide), (by show (5 : Nat) < 1073741824; decide), fun H6 i v hv b6 hd6 => ?_⟩
      have key : ∃ (p : Addr) (as : List Str), v = .ref p ∧ H p = none ∧ H6 p = some (.tup (as.map V.str)) ∧ as.length ≤ 2 ∧ ∀ a ∈ as, a ∈ regs4 := by
        have hv := List.mem_of_getElem? hv
        rcases List.mem_cons.mp hv with rfl | hv
        · exact ⟨pa, [], rfl, free t5 hd5 ⟨_, r5⟩ _ ha, b6 _ _ (nd hd5 ha) (sf _ _ (se _ _ (sd _ _ (sc _ _ (sb _ _ upd_same))))), Nat.zero_le _, fun a h => by cases h⟩
        rcases List.mem_cons.mp hv with rfl | hv
        · exact ⟨pb, [oth], rfl, free ta hda ⟨_, ra⟩ _ hb, b6 _ _ (nd hda hb) (sf _ _ (se _ _ (sd _ _ (sc _ _ upd_same)))), by simp, fun a h => by rw [List.mem_singleton.mp h]; exact reg4 hoth⟩
        rcases List.mem_cons.mp hv with rfl | hv
        · exact ⟨pc, [oth], rfl, free tb hdb ⟨_, rb⟩ _ hc, b6 _ _ (nd hdb hc) (sf _ _ (se _ _ (sd _ _ upd_same))), by simp, fun a h => by rw [List.mem_singleton.mp h]; exact reg4 hoth⟩
        rcases List.mem_cons.mp hv with rfl | hv
        · exact ⟨pd, [one, oth], rfl, free tc hdc ⟨_, rc⟩ _ hd', b6 _ _ (nd hdc hd') (sf _ _ (se _ _ upd_same)), by simp, fun a h => by
            rcases two_of h with rfl | rfl
            · exact reg4 hone
            · exact reg4 hoth⟩
        rcases List.mem_cons.mp hv with rfl | hv
        · exact ⟨pe, [oth, oth], rfl, free td hdd ⟨_, rd⟩ _ he, b6 _ _ (nd hdd he) (sf _ _ upd_same), by simp, fun a h => by
            rcases two_of h with rfl | rfl
            · exact reg4 hoth
            · exact reg4 hoth⟩
        cases hv
      obtain ⟨p6, as, rfl, np6, ep6, las, has⟩ := key
      refine ⟨_, rfl, _, rfl, (by show 2 ≤ sizeLine; decide), fun p7 hp7 => one_str (E := E) (ws := ["f", "g"]) hd6 hp7 (by decide) (by decide) fun H8 ff hff b8 hd8 => ⟨_, rfl, (by show 4 ≤ sizeLine; decide), fun p9 hp9 => ?_⟩⟩
      have t6 := tf.trans b6.two
      have r6 := b6 _ _ (Ne.symm ne) rf
      have s9 := same_upd (o := .tup [.str "set", .str one, .str ff, .ref p6]) hp9
      have n6 : p6 ≠ d := fun z => dn hd (by rw [← z]; exact np6)
      refine leaf (l1 := 0) (s2 := 1) (t1 := 0) (t6.trans b8.two) hd8 (b8 _ _ (Ne.symm ne) r6) hp9 (by show 4 ≤ 1000; decide) (.cons (.at (.str _)) (.cons (.at (.str _)) (.cons (.at (.str _)) (.cons (.tup np6 (s9 _ _ (b8 _ _ n6 ep6)) ?_ (dt_strs as)) .nil)))) (.set (reg4 hone) (two_of hff) has las) (Nat.zero_le _) (by omega) (Nat.zero_le _)
      rw [List.length_map]
      omega
    apply cutP
    · intro rest
      refine ⟨_, rfl, wy, 10, rfl, rfl, _, rfl, ite2 (fun h10 => ⟨_, rfl, q, _, _, _, rfl, rfl, SqL.of r4, rfl, _, _, rfl, rfl, _, rfl, ite2 (fun hl => ⟨_, rfl, n, 0, rfl, rfl, _, rfl, ite2 (fun hn => ?_) (fun _ => rest)⟩) (fun _ => iteF rest)⟩) (fun _ => iteF rest)⟩
      have hl1 : 0 < t := by
        have := of_decide_eq_true hl
        omega
      have hn1 : 0 < n := by
        have := of_decide_eq_true hn
        omega
      refine ⟨_, rfl, q, _, _, _, rfl, rfl, SqL.of r4, rfl, _, _, rfl, rfl, _, rfl, q, _, _, 2, rfl, rfl, r4, rfl, ?_⟩
      have e5 : ((t - 1 : Nat) : Int) = (t : Int) - 1 := by omega
      have r5 : RoomL (upd H4 q (.lst [V.int l, .int s1, .int ((t : Int) - 1)])) q l s1 (t - 1) := by
        unfold RoomL
        rw [e5]
        exact upd_same
      obtain ⟨hd5, t5⟩ := st5 [V.int l, .int s1, .int ((t : Int) - 1)]
      obtain ⟨n', rfl⟩ : ∃ n', n = n' + 1 := ⟨n - 1, by omega⟩
      have en : (((n' + 1 : Nat) : Int) - 1) = (n' : Int) := by omega
      have ev : [V.ref d, .int 2, .ref q, .int (((n' + 1 : Nat) : Int) - 1)] = [V.ref d, .int ((2 : Nat) : Int), .ref q, .int (n' : Int)] := by
        rw [en]
        rfl
      refine ⟨_, rfl, _, rfl, _, rfl, _, _, rfl, rfl, d, q, 2, l, s1, t - 1, ev, by omega, hd5, r5, ne, fun H6 yv ys l6 s6 t6 z6 b6 hd6 cy hyl hl6 hs6 ht6 r6 dy => ?_⟩
      refine ⟨_, rfl, (by show 3 ≤ sizeLine; decide), fun p7 hp7 => one_str (E := E) (ws := ["p", "p", "q"]) hd6 hp7 (by decide) (by decide) fun H7 pp hpp b7 hd7 => ?_⟩
      have r7 := b7 _ _ (Ne.symm ne) r6
      have t7 := (t5.trans b6).trans b7.two
      refine ⟨_, rfl, _, rfl, _, rfl, _, rfl, _, rfl, _, _, rfl, rfl, d, q, 2, l - l6, s1 - s6, t - 1 - t6, ev, by omega, hd7, r7, ne, fun H8 nv ns l8 s8 t8 z8 b8 hd8 cn hnl hl8 hs8 ht8 r8 dn8 => ⟨(by show 5 ≤ sizeLine; decide), fun p9 hp9 => ?_⟩⟩
      have s9 := same_upd (o := .tup [.str "if", .str pp, .str oth, yv, nv]) hp9
      have away : ∀ {G : Hp} {b : Addr}, Dice G d → (∃ u, G q = some u) → G b = none → b ≠ d ∧ b ≠ q := fun h hq' e => ⟨fun z => dn h (by rw [← z]; exact e), fun z => by
        obtain ⟨u, hu⟩ := hq'
        rw [z, hu] at e
        cases e⟩
      have e8 : RoomL H8 q (l - (l6 + l8)) (s1 - (s6 + s8)) (t - (t6 + t8 + 1)) := by
        have := r8
        unfold RoomL at this ⊢
        rw [this, Nat.sub_sub, Nat.sub_sub, Nat.sub_sub, Nat.sub_sub, show 1 + (t6 + t8) = t6 + t8 + 1 by omega]
      have dy' : Dt (fun b => H b = none) (upd H8 p9 (.tup [.str "if", .str pp, .str oth, yv, nv])) yv (.tuple ys) := dy.strong fun b o hb eo => ⟨free t5 hd5 ⟨_, r5⟩ b hb, s9 _ _ (b8 b o (away hd5 ⟨_, r5⟩ hb).1 (away hd5 ⟨_, r5⟩ hb).2 (b7 b o (away hd5 ⟨_, r5⟩ hb).1 eo))⟩
      have dn' : Dt (fun b => H b = none) (upd H8 p9 (.tup [.str "if", .str pp, .str oth, yv, nv])) nv (.tuple ns) := dn8.strong fun b o hb eo => ⟨free t7 hd7 ⟨_, r7⟩ b hb, s9 _ _ eo⟩
      exact leaf (l1 := l6 + l8) (s2 := s6 + s8) (t1 := t6 + t8 + 1) (t7.trans b8) hd8 e8 hp9 (by show 5 ≤ 1000; decide) (.cons (.at (.str _)) (.cons (.at (.str _)) (.cons (.at (.str _)) (.cons dy' (.cons dn' .nil))))) (.iff (pq_of hpp) (reg4 hoth) cy hyl cn hnl) (by omega) (by omega) (by omega)
    refine ⟨_, rfl, _, rfl, (by show 3 ≤ sizeLine; decide), fun p9 hp9 => ?_⟩
    exact leaf (l1 := 0) (s2 := 0) (t1 := 0) t4' hd4 r4 hp9 (by show 3 ≤ 1000; decide) (.cons (.at (.str _)) (.cons (.at (.str _)) (.cons (.at (.str _)) .nil))) (.copy (reg4 hone) (reg4 hoth)) (Nat.zero_le _) (Nat.zero_le _) (Nat.zero_le _)
end
end OM

namespace OM
open PySem PySem.Spec PyProof.Rows L2
section
variable {P : Program} {w : World} {K : PySem.W.Frag} {mg : Str → Option Value} {base : Heap} {fR fO fC fS : Addr} {fdR fdO dC dS : FuncData}
/-- the functions that draw code -/
structure DCodeF (K : PySem.W.Frag) (mg : Str → Option Value) (fR fO fC fS : Addr) (fdR fdO dC dS : FuncData) : Prop where
  D : DiceF K mg fR fO fdR fdO
  FC : Fun K "_law_code" "_law_code" sCode fC dC
  FS : Fun K "_law_statement" "_law_statement" sState fS dS
  gC : mg "_law_code" = some (.ref fC)
  gS : mg "_law_statement" = some (.ref fS)
  bC : Binds K dC ["_law_dice_here", "_law_most", "_law_room", "_law_deep"] []
  bS : Binds K dS ["_law_dice_here", "_law_room", "_law_deep"] []
  rng : mg "range" = none
  tup : mg "tuple" = none
theorem ok_dcode (C : DCodeF K mg fR fO fC fS fdR fdO dC dS) : ∀ n, FnOk P w K mg base CX0 (2 * n + 2) fC dC ["_law_dice_here", "_law_most", "_law_room", "_law_deep"] (spCodeAt n)
  | 0 => ⟨fun _ _ _ _ h => h.elim, fun _ _ _ _ _ _ _ _ _ _ _ _ _ h => h.elim⟩
  | n + 1 => code_step C.FC C.D C.rng C.tup C.gS C.FS.kp C.bS (ok_state C.FS C.D C.gC C.FC.kp C.bC (ok_dcode C n))
end
end OM

namespace OM
open PySem PySem.Spec PyProof.Rows L2
abbrev sStretch : Stmt := top 85
/-- a drawn stretch: its code within its room, its kept registers apart and in order -/
def spStretch : Sp := fun vs H Q _ => ∃ (d : Addr) (m l t : Nat), vs = [.ref d, .int m, .int l, .int t] ∧ m ≤ 100 ∧ Dice H d ∧ ∀ H' v ds l1 s1 t1 z1 (ks : List Str), But d H H' → Dice H' d → CoD 2 ds l1 s1 t1 z1 → ds.length ≤ m → l1 ≤ l → s1 ≤ 3 → t1 ≤ t →
  sortedS ks = true → ks.Nodup → (∀ k ∈ ks, k ∈ regs4) → Dt (fun b => H b = none) H' v (.tuple [.tuple ds, .tuple (ks.map PyData.str)]) → Q v H'
def unS : V → Str
  | .str x => x
  | _ => ""
theorem perm_strs {ys : List V} {ws : List Str} (h : ys.Perm (ws.map V.str)) : ∃ xs : List Str, ys = xs.map V.str ∧ xs.Perm ws := by
  refine ⟨ys.map unS, ?_, ?_⟩
  · rw [List.map_map]
    have : ys.map (V.str ∘ unS) = ys.map id := List.map_congr_left fun y hy => by
      obtain ⟨x, _, rfl⟩ := List.mem_map.mp (h.mem_iff.mp hy)
      rfl
    rw [this, List.map_id]
  · have q := h.map unS
    rw [List.map_map] at q
    have : ws.map (unS ∘ V.str) = ws.map id := List.map_congr_left fun y _ => rfl
    rw [this, List.map_id] at q
    exact q
theorem cut_strs (ws : List Str) (lo hi : Option Int) : ∃ xs : List Str, cutV (ws.map V.str) lo hi = xs.map V.str ∧ xs.Sublist ws := by
  unfold cutV
  rw [← List.map_drop, ← List.map_take]
  exact ⟨_, rfl, (List.take_sublist _ _).trans (List.drop_sublist _ _)⟩
theorem regs4_nodup : regs4.Nodup := by decide +kernel
section
variable {P : Program} {w : World} {K : PySem.W.Frag} {mg : Str → Option Value} {base : Heap} {f fR fO fC fS fM : Addr} {fd fdR fdO dC dS dM : FuncData}
theorem scStr : FnScope ["_law_dice_here", "_law_most", "_law_letters", "_law_tests", "_law_keeps"] ["_law_dice_here", "_law_most", "_law_letters", "_law_tests"] (defScope sStretch) := ⟨rfl, rfl, rfl, by decide +kernel, rfl, by decide +kernel, by decide +kernel⟩
theorem ok_stretch (F : Fun K "_law_stretch" "_law_stretch" sStretch f fd) (C : DCodeF K mg fR fO fC fS fdR fdO dC dS) (FM : Fun K "_law_mixed" "_law_mixed" sMixed fM dM) (gM : mg "_law_mixed" = some (.ref fM)) (bM : Binds K dM ["_law_dice_here", "_law_items"] []) (lst : mg "list" = none) (srt : mg "sorted" = none) :
    FnOk P w K mg base CX0 9 f fd ["_law_dice_here", "_law_most", "_law_letters", "_law_tests"] spStretch := by
  have GO : FnOk P w K mg base CX0 2 fO fdO ["_law_dice_here", "_law_items"] (spOneOf K) := ok_oneof C.D.FO C.D.T C.D.FR C.D.gR C.D.bR
  have GM : FnOk P w K mg base CX0 2 fM dM ["_law_dice_here", "_law_items"] (spMixed K) := ok_mixed FM C.D.T lst C.D.FR C.D.gR C.D.bR
  have GC : FnOk P w K mg base CX0 8 fC dC ["_law_dice_here", "_law_most", "_law_room", "_law_deep"] (spCodeAt 3) := ok_dcode C 3
  refine F.ok scStr (fun vs H Q E h => ?_) (fun cdv A outer s H vs Q E hr h => ?_)
  · obtain ⟨d, m, l, t, rfl, _⟩ := h
    rfl
  · obtain ⟨d, m, l, t, rfl, hm, hd, c⟩ := h
    refine ⟨_, pss_cons (ps_set (i := 4) scStr.nd rfl (Or.inl rfl) (pe_callB cr_sortedS (by rfl) srt (by decide +kernel) (pa_cons (pe_slice sl_list (pe_call GM (hr.mono (by omega)) (by rfl) gM FM.kp bM .nil pass0 (pa_cons (pv 0) (pa_cons (pe_lst (pa_cons pe_str (pa_cons pe_str (pa_cons pe_str (pa_cons pe_str pa_nil))))) pa_nil)))
        po_none (po_some (pe_call GO (hr.mono (by omega)) (by rfl) C.D.gO C.D.FO.kp C.D.bO .nil pass0 (pa_cons (pv 0) (pa_cons (pe_lst (pa_cons pe_int (pa_cons pe_int (pa_cons pe_int (pa_cons pe_int (pa_cons pe_int (pa_cons pe_int pa_nil))))))) pa_nil))))) pa_nil)))
      (pss_one (ps_ret (pe_tup (pa_cons (pe_call GC hr (by rfl) C.gC C.FC.kp C.bC .nil pass0 (pa_cons (pv 0) (pa_cons (pv 1) (pa_cons (pe_lst (pa_cons (pv 2) (pa_cons pe_int (pa_cons (pv 3) pa_nil)))) (pa_cons pe_int pa_nil)))))
        (pa_cons (pe_callTy call_tuple_of (by rfl) C.tup (by decide +kernel) (pa_cons (pv 4) pa_nil)) pa_nil))))), ?_⟩
    refine ⟨_, rfl, (by show 4 ≤ sizeLine; decide), fun p1 hp1 => ?_⟩
    have dice : ∀ {G G' : Hp}, Same G G' → Dice G d → Dice G' d := fun s9 h => by
      obtain ⟨a1, a2, a3, e⟩ := h
      exact ⟨a1, a2, a3, s9 _ _ e⟩
    have dn : ∀ {G : Hp}, Dice G d → G d ≠ none := fun {G} h => h.ne
    have nd : ∀ {G : Hp} {a : Addr}, Dice G d → G a = none → a ≠ d := fun h e z => dn h (by rw [← z]; exact e)
    have s1 := same_upd (o := .lst (regs4.map V.str)) hp1
    have hd1 := dice s1 hd
    refine ⟨d, p1, regs4.map V.str, rfl, hd1, .inl (SqL.of upd_same), (by decide), fun H2 p ys b2 hd2 hpn ep perm => ?_⟩
    obtain ⟨ws, rfl, pw⟩ := perm_strs perm
    refine ⟨_, rfl, (by show 6 ≤ sizeLine; decide), fun p3 hp3 => ?_⟩
    have s3 := same_upd (o := .lst [.int 0, .int 0, .int 1, .int 1, .int 2, .int 4]) hp3
    have hd3 := dice s3 hd2
    refine ⟨d, p3, [.int 0, .int 0, .int 1, .int 1, .int 2, .int 4], rfl, hd3, SqL.of upd_same, fun _ => nd hd2 hp3, (by show (0 : Nat) < 6; decide), (by show (6 : Nat) < 1073741824; decide), fun H4 i v hv b4 hd4 => ?_⟩
    have key : ∃ k : Int, v = .int k := by
      have hv := List.mem_of_getElem? hv
      simp only [List.mem_cons, List.not_mem_nil, or_false] at hv
      rcases hv with rfl | rfl | rfl | rfl | rfl | rfl <;> exact ⟨_, rfl⟩
    obtain ⟨k, rfl⟩ := key
    obtain ⟨xs, ex, sub⟩ := cut_strs ws none (some k)
    have epd : p ≠ d := nd hd1 hpn
    have ep4 := b4 _ _ epd (s3 _ _ ep)
    refine ⟨k, rfl, p, ws.map V.str, rfl, SqL.of ep4, fun p5 hp5 => ?_⟩
    rw [ex]
    have wl : ws.length = 4 := pw.length_eq
    have xl := sub.length_le
    refine ⟨p5, xs, rfl, SqL.of upd_same, by omega, fun zs p6 pz sz hp6 => ?_⟩
    have s5 := same_upd (o := .lst (xs.map V.str)) hp5
    have s6 := same_upd (o := .lst (zs.map V.str)) hp6
    have hd6 := dice s6 (dice s5 hd4)
    refine ⟨_, rfl, _, rfl, _, rfl, _, rfl, (by show 3 ≤ sizeLine; decide), fun p7 hp7 => ?_⟩
    have s7 := same_upd (o := .lst [.int l, .int 3, .int t]) hp7
    have hd7 := dice s7 hd6
    refine ⟨d, p7, m, l, 3, t, rfl, hm, hd7, upd_same, Ne.symm (nd hd6 hp7), fun H8 v ds l1 s1' t1 z1 b8 hd8 cd hlen hl1 hs1 ht1 r8 dt8 => ?_⟩
    have free : ∀ {G : Hp}, But d H G → Dice G d → ∀ b, G b = none → H b = none := fun {G} bt hdg b hb => by
      cases y : H b with
      | none => rfl
      | some o =>
        by_cases e1 : b = d
        · subst e1
          exact absurd hb (dn hdg)
        · rw [bt b o e1 y] at hb
          cases hb
    have t6 : But d H (upd (upd H4 p5 (.lst (xs.map V.str))) p6 (.lst (zs.map V.str))) := (((((Same.but' (a := d) s1).trans' b2).trans' (Same.but' (a := d) s3)).trans' b4).trans' (Same.but' (a := d) s5)).trans' (Same.but' (a := d) s6)
    have t7 := t6.trans' (Same.but' (a := d) s7)
    have t8 : But d H H8 := fun b o hb e => b8 b o hb (fun z => by
      have := t6 b o hb e
      rw [z, hp7] at this
      cases this) (t7 b o hb e)
    have n6d : p6 ≠ d := nd (dice s5 hd4) hp6
    have n67 : p6 ≠ p7 := fun z => by
      rw [← z, upd_same] at hp7
      cases hp7
    have e6 : H8 p6 = some (.lst (zs.map V.str)) := b8 _ _ n6d n67 (s7 _ _ upd_same)
    refine ⟨_, rfl, p6, zs.map V.str, rfl, .inl ⟨SqL.of e6, fun p9 hp9 => ⟨(by show 2 ≤ sizeLine; decide), fun pt hpt => ?_⟩⟩⟩
    have s9 := same_upd (o := .tup (zs.map V.str)) hp9
    have st := same_upd (o := .tup [v, .ref p9]) hpt
    have zl : zs.length ≤ 4 := by
      rw [pz.length_eq]
      omega
    have sm := s9.trans st
    refine c _ (.ref pt) ds l1 s1' t1 z1 zs (t8.trans' (Same.but' (a := d) sm)) (dice sm hd8) cd hlen hl1 hs1 ht1 sz (pz.nodup_iff.mpr (sub.nodup (pw.nodup_iff.mpr regs4_nodup))) (fun x hx => pw.mem_iff.mp (sub.subset (pz.mem_iff.mp hx)))
      (.tup (free (t8.trans' (Same.but' (a := d) s9)) (dice s9 hd8) pt hpt) upd_same (by show 2 ≤ 1000; decide) (.cons (dt8.strong fun b o hb eo => ⟨free t7 hd7 b hb, sm _ _ eo⟩) (.cons (.tup (free t8 hd8 p9 hp9) (st _ _ upd_same) ?_ (dt_strs zs)) .nil)))
    rw [List.length_map]
    omega
end
end OM

/-! sets of texts: their members as a list without repeats -/
namespace OM
open PySem PySem.Spec PyProof.Rows L2
/-- the text of an entry -/
def keyT : Int × Value → Str
  | (_, .str x _) => x
  | _ => ""
/-- an entry that is a text -/
def IsTx (w : World) (e : Int × Value) : Prop := ∃ x tk, e = (hashStr w x, Value.str x tk)
structure TabX (w : World) (es : Array (Int × Value)) (t : SetTable) (L : List Str) : Prop where
  tx : ∀ e ∈ es.toList, IsTx w e
  pm : (es.toList.map keyT).Perm L
  nd : L.Nodup
  few : L.length < scanBound
  fit : t.fits es.size = true
  ris : Ris t.place.toList
  led : w.params.followText "set-order" = true ∨ t.led = true
def SetTx (w : World) (h : Heap) (a : Addr) (L : List Str) : Prop := ∃ o es ep t, h.get? a = some o ∧ o.ExactSet ∧ o.data = .set es ep t ∧ TabX w es t L
def addX (L : List Str) (x : Str) : List Str := if x ∈ L then L else x :: L
section
variable {P : Program} {w : World} {h h' : Heap} {a : Addr} {L : List Str} {es : Array (Int × Value)} {t : SetTable}
theorem TabX.size (T : TabX w es t L) : es.size = L.length := by
  have e := T.pm.length_eq
  rw [List.length_map, Array.length_toList] at e
  exact e
theorem TabX.bound (T : TabX w es t L) : es.size < scanBound := by
  rw [T.size]
  exact T.few
theorem SetTx.mv (R : SetTx w h a L) (k : ∀ o, h.get? a = some o → h'.get? a = some o) : SetTx w h' a L :=
  let ⟨o, es, ep, t, ho, r⟩ := R
  ⟨o, es, ep, t, k o ho, r⟩
theorem tx_elems {l : List (Int × Value)} (g : ∀ e ∈ l, IsTx w e) : ElemsOf (strKind P w) l := by
  intro e he
  obtain ⟨x, tk, rfl⟩ := g e he
  exact ⟨⟨x, beq_self_eq_true x, rfl⟩, rfl⟩
theorem tx_is {e : Int × Value} (g : IsTx w e) (x : Str) : (strKind P w).is x e.2 = true ↔ keyT e = x := by
  obtain ⟨y, tk, rfl⟩ := g
  exact beq_iff_eq (a := y) (b := x)
theorem tx_mem {l : List (Int × Value)} (g : ∀ e ∈ l, IsTx w e) (x : Str) : x ∈ l.map keyT ↔ ∃ e ∈ l, (strKind P w).is x e.2 = true := by
  rw [List.mem_map]
  exact ⟨fun ⟨e, he, q⟩ => ⟨e, he, (tx_is (g e he) x).mpr q⟩, fun ⟨e, he, q⟩ => ⟨e, he, (tx_is (g e he) x).mp q⟩⟩
theorem SetTx.of (R : SetTx w h a L) : h.SetOf (strKind P w) a (fun x => decide (x ∈ L)) L.length := by
  obtain ⟨o, es, ep, t, ho, hx, hd, T⟩ := R
  exact ⟨o, es, ep, t, ho, hx, hd, tx_elems T.tx, fun x => by rw [decide_eq_true_iff, ← T.pm.mem_iff, tx_mem T.tx], T.bound, T.fit, T.size⟩
end
section
variable {P : Program} {w : World} {A : Around} {E : Value → Shared → Prop} {s : Shared} {a : Addr} {L : List Str}
/-- a table that is put in, and laid anew where it is too full -/
theorem tx_stored {g : Bool → Sem Unit} (quiet : ∀ b s1 (Z : Unit → Shared → Prop), Z () s1 → wpAny (model P w) A (g b) Z E s1) {o : Obj} {es : Array (Int × Value)} {ep : Nat} {t : SetTable} (at_ : s.heap.get? a = some o) (hex : o.ExactSet) (hd : o.data = .set es ep t)
    {es1 : Array (Int × Value)} {t2 : SetTable} {L' : List Str} (T : TabX w es1 t2 L') {wasDummy : Bool} {R : Option Bool → Shared → Prop} (fin : ∀ h', Heap.SameBut a s.heap h' → SetTx w h' a L' → R (some true) { s with heap := h' }) :
    wpAny (model P w) A (storeSet a es1 t2 >>= fun _ => if (!wasDummy && t2.tooFull) = true then (g (relayAll t2 es1 (SetTable.grown es1.size)).2.2 >>= fun _ => storeSet a (relayAll t2 es1 (SetTable.grown es1.size)).1 (relayAll t2 es1 (SetTable.grown es1.size)).2.1 >>= fun _ => pure (some true)) else pure (some true)) R E s := by
  have one := store_at (es' := es1) (t' := t2) at_ hd
  have b1 := Heap.SameBut.update s.heap a (Obj.putSet es1 t2)
  refine wpAny_bind (wpAny_storeSet_of at_ hd ?_ (fits_of_scanBound T.bound))
  by_cases full : (!wasDummy && t2.tooFull) = true
  · rw [if_pos full]
    have q1 := relayAll_perm t2 es1 (SetTable.grown es1.size)
    have q2 := relayAll_fits t2 es1 (SetTable.grown es1.size)
    have q3 := relayAll_ris t2 es1 (SetTable.grown es1.size)
    have q4 := relayAll_led t2 es1 (SetTable.grown es1.size)
    revert q1 q2 q3 q4
    rcases relayAll t2 es1 (SetTable.grown es1.size) with ⟨es2, t3, gave⟩
    intro q1 q2 q3 q4
    have T3 : TabX w es2 t3 L' := ⟨fun e he => T.tx e (q1.mem_iff.mp he), (q1.map keyT).trans T.pm, T.nd, T.few, q2, q3, T.led.imp id fun z => q4.trans z⟩
    refine wpAny_bind (quiet _ _ _ (wpAny_bind (wpAny_storeSet_of one rfl ?_ (fits_of_scanBound T3.bound))))
    exact wpAny_pure (fin _ (b1.trans (Heap.SameBut.update _ a _)) ⟨_, es2, _, t3, store_at (es' := es2) (t' := t3) one rfl, hex, rfl, T3⟩)
  · rw [if_neg full]
    exact wpAny_pure (fin _ b1 ⟨_, es1, _, t2, one, hex, rfl, T⟩)
theorem TabX.more {es es1 : Array (Int × Value)} {t t1 : SetTable} {x : Str} {tk : Tok} (T : TabX w es t L) (new : x ∉ L) (room : L.length + 1 < scanBound) (pm : es1.toList.Perm (es.push (hashStr w x, Value.str x tk)).toList) (f : t1.fits es1.size = true) (r : Ris t1.place.toList) (l : t1.led = t.led) : TabX w es1 t1 (x :: L) := by
  rw [Array.toList_push] at pm
  have pc := pm.trans (List.perm_append_singleton _ _)
  refine ⟨fun e he => ?_, (pc.map keyT).trans (T.pm.cons x), List.nodup_cons.mpr ⟨new, T.nd⟩, room, f, r, T.led.imp id fun z => l.trans z⟩
  rcases List.mem_cons.mp (pc.mem_iff.mp he) with z | z
  · exact ⟨x, tk, z⟩
  · exact T.tx e z
theorem tx_hashed {x : Str} {tk : Tok} {Q : Bool → Shared → Prop} (R : SetTx w s.heap a L) (room : L.length + 1 < scanBound) (fin : ∀ b h', Heap.SameBut a s.heap h' → SetTx w h' a (addX L x) → Q b { s with heap := h' }) :
    wpAny (model P w) A (setAddHashed a (.str x tk) (hashStr w x)) Q E s := by
  have R0 := R
  obtain ⟨o, es, ep, t, at_, hex, hd, T⟩ := R
  have own : (strKind P w).is x (.str x tk) = true := beq_self_eq_true x
  have scan : (Value.str x tk).scannable = true := rfl
  have els : ElemsOf (strKind P w) es.toList := tx_elems T.tx
  unfold setAddHashed setAddHashedIn
  refine wpAny_holding <| wpAny_bind <| wpAny_setState_of at_ hd T.fit ?_
  dsimp only
  rw [byScan_of scan T.bound els]
  simp only [↓reduceIte]
  unfold setAddByScan
  refine wpAny_bind <| wpAny_bind <| wpAny_rule <| wpAny_bind <| wpAny_setScan_of own at_ hd T.fit els ?_
  cases look : List.findIdx? (fun e => (strKind P w).is x e.2) es.toList with
  | some j =>
    obtain ⟨hj, pj, _⟩ := List.findIdx?_eq_some_iff_getElem.mp look
    have old : x ∈ L := T.pm.mem_iff.mp ((tx_mem (P := P) T.tx x).mpr ⟨_, List.getElem_mem hj, pj⟩)
    dsimp only
    refine wpAny_pure <| wpAny_pure <| fin _ s.heap (Heap.SameBut.refl a s.heap) ?_
    unfold addX
    rw [if_pos old]
    exact R0
  | none =>
    have new : x ∉ L := fun z => by
      obtain ⟨e, he, q⟩ := (tx_mem (P := P) T.tx x).mp (T.pm.mem_iff.mpr z)
      exact absurd q (by rw [List.findIdx?_eq_none_iff.mp look e he]; exact Bool.false_ne_true)
    have ea : addX L x = x :: L := if_neg new
    rw [ea] at fin
    dsimp only
    have q1 := layNew_perm t es (hashStr w x) (.str x tk)
    have q2 := layNew_fits t es (hashStr w x) (.str x tk)
    have q3 := layNew_ris t es (hashStr w x) (.str x tk) T.ris
    have q4 := layNew_led t es (hashStr w x) (.str x tk)
    revert q1 q2 q3 q4
    rcases layNew t es (hashStr w x) (.str x tk) with ⟨es1, t1, wd, gave⟩
    intro q1 q2 q3 q4
    have T1 : TabX w es1 t1 (x :: L) := T.more new room q1 q2 q3 q4
    have quiet : ∀ (b : Bool) (s1 : Shared) (Z : Unit → Shared → Prop), Z () s1 → wpAny (model P w) A (match b with | true => rule "set.scan.the-table-gave-way" | false => pure ()) Z E s1 := fun b s1 Z z => by
      cases b
      · exact wpAny_pure z
      · exact wpAny_rule z
    dsimp only
    refine wpAny_bind (quiet _ _ _ ?_)
    split
    · refine wpAny_bind ?_
      rw [hashByValue_scannable 8 scan]
      refine wpAny_pure ?_
      refine tx_stored (L' := x :: L) quiet at_ hex hd ?_ fun h' sb r => by dsimp only; exact wpAny_pure (fin _ h' sb r)
      refine ⟨T1.tx, T1.pm, T1.nd, T1.few, ?_, ?_, ?_⟩
      · split
        · exact T1.fit
        · exact SetTable.fits_plain_off T1.fit
      · split <;> exact T1.ris
      · split <;> exact T1.led
    · refine wpAny_bind (wpAny_pure ?_)
      simp only [↓reduceIte]
      exact tx_stored quiet at_ hex hd T1 fun h' sb r => by dsimp only; exact wpAny_pure (fin _ h' sb r)
/-- a.add(x) -/
theorem tx_add {x : Str} {tk : Tok} {Q : Value → Shared → Prop} (R : SetTx w s.heap a L) (room : L.length + 1 < scanBound) (fin : ∀ h', Heap.SameBut a s.heap h' → SetTx w h' a (addX L x) → Q .none { s with heap := h', toks := s.toks + 1 }) : wpAny (model P w) A (call (.builtin "set.add") [.ref a, .str x tk]) Q E s := by
  have R0 : s.heap.SetOf (strKind P w) a _ _ := R.of
  refine wpAny_call_entry F.slot_set_add R0.typeIs F.entry_set_add ?_ (F.args_set_add_2 _ _)
  unfold Builtin.«set.add» Builtin.Frozenset.oneOther
  simp only [List.isEmpty_nil, bind_assoc]
  unfold Builtin.Frozenset.addrOf setAdd
  refine wpAny_bind <| wpAny_pure ?_
  try dsimp only
  refine wpAny_bind <| wpAny_pure ?_
  try dsimp only
  refine wpAny_bind <| wpAny_holding <| wpAny_bind <| (strKind P w).pyHash (k := x) (beq_self_eq_true x) ?_
  refine tx_hashed (s := { s with toks := s.toks + 1 }) R room fun b h' sb r => ?_
  show wpAny _ _ (ret Value.none) _ _ _
  exact wpAny_pure ⟨_, rfl, fin h' sb r⟩
theorem tx_fresh {h : Heap} (w : World) : SetTx w (h.push { cls := .type "set", dict := none, data := .set #[] 0 (.fresh 0 0 (!w.params.followText "set-order")) }) h.objs.size [] := by
  refine ⟨_, #[], 0, _, Heap.get?_push_size _ rfl, ⟨rfl, rfl, rfl⟩, rfl, ⟨(fun e he => by simp at he), .refl _, .nil, by decide, rfl, .nil, ?_⟩⟩
  show _ ∨ (!w.params.followText "set-order") = true
  cases w.params.followText "set-order"
  · exact .inr rfl
  · exact .inl rfl
end
/-! ### as tracked things -/
def SetTO (w : World) (a : Addr) (L : List Str) : HO := .ext fun h => SetTx w h a L
theorem txo_new {w : World} {P : Program} {H : Hp} {h : Heap} {a : Addr} {L : List Str} (R : SetTx w h a L) : ObjOk P w H h a (SetTO w a L) := by
  have ⟨o, _, _, _, ho, _⟩ := R
  exact ⟨R, ⟨o, ho⟩, fun h1 h2 p k => SetTx.mv p k⟩
section
variable {X : Cx} {pins : List (Addr × Obj)} {σ : L2.St} {H : Hp} {s : Shared} {D : Addr} {L : List Str}
theorem txo_get (I : Inv X pins σ H s) (ha : H D = some (SetTO X.w D L)) : SetTx X.w s.heap D L := (I.hok D _ ha).1
theorem tx_add_ok {E : Value → Shared → Prop} {x : Str} {tk : Tok} {Q : Value → Shared → Prop} (I : Inv X pins σ H s) (hD : H D = some (SetTO X.w D L)) (room : L.length + 1 < scanBound) (h : ∀ s', Inv X pins σ (upd H D (SetTO X.w D (addX L x))) s' → Q .none s') :
    wpAny (model X.prog X.w) X.A (call (.builtin "set.add") [.ref D, .str x tk]) Q E s := by
  refine tx_add (txo_get I hD) room fun h' sb new => ?_
  have he : ∃ u, h'.get? D = some u := by
    have ⟨o, _, _, _, ho, _⟩ := new
    exact ⟨o, ho⟩
  exact h _ (I.write (e := D) (t' := s.toks + 1) (by rw [hD]; trivial) (.inl rfl) (fun b u hb hu => (sb.2 b hb).trans hu) he (txo_new new))
end
end OM

/-! comprehensions that make a set of texts, with one for or two -/
namespace OM
open PySem PySem.Spec PyProof.Rows L2
section
variable {prog : Program} {w : World} {A : Around} {R : Result → Shared → Prop} {s : Shared} {env : Env}
/-- the tests of a clause -/
def testsOf (ifs : List Expr) (env : Env) : Sem Bool := forIn ifs true fun c r => if r = true then do let ok ← isTrue c env (eval c env); pure (ForInStep.yield ok) else pure (ForInStep.yield r)
/-- a turn of any comprehension, by what its emission does -/
def turnOf (e : Expr) (d : Nat) (it acc : Value) (env : Env) (ip : Pos) (tgt : Expr) (ifs : List Expr) (emit : Sem Fin → Sem Fin) : Sem Fin := do
  standAt ip
  match ← pyNext it with
  | none => pure (.done .next)
  | some v =>
    letOwnedTupleGo tgt it v
    assign tgt env v
    let ok ← testsOf ifs env
    if ok then emit (again (.compLoop e d it acc env)) else again (.compLoop e d it acc env)
theorem loop_any {elt : Expr} {gens : List Comprehension} {scope : Scope} {pos : Pos} {d : Nat} {it acc : Value} {ip : Pos} {tgt : Expr} {ifs : List Expr} {emit : Sem Fin → Sem Fin} {em : (Shared → Prop) → Shared → Prop} (hem : ∀ (k : Sem Fin) (Z : Fin → Shared → Prop) (s : Shared) (Y : Shared → Prop), em Y s → (∀ s', Y s' → wpAny (model prog w) A k Z (notedBy (model prog w) A env fun e s' => R (.error e) s') s') → wpAny (model prog w) A (emit k) Z (notedBy (model prog w) A env fun e s' => R (.error e) s') s) (ht : compTurn (.SetComp elt gens scope pos) d it acc env = turnOf (.SetComp elt gens scope pos) d it acc env ip tgt ifs emit) (I : Nat → Shared → Prop)
    (turn : ∀ n s, I n s → wpAny (model prog w) A (pyNext it) (fun r s1 => match r with
      | none => R (.ok .next) s1
      | some v => wpAny (model prog w) A (letOwnedTupleGo tgt it v) (fun _ s2 => wpAny (model prog w) A (assign tgt env v) (fun _ s3 => wpAny (model prog w) A (testsOf ifs env) (fun ok s4 => if ok = true then em (fun s5 => ∃ m, m < n ∧ I m s5) s4 else ∃ m, m < n ∧ I m s4)
          (notedBy (model prog w) A env fun e s' => R (.error e) s') s3) (notedBy (model prog w) A env fun e s' => R (.error e) s') s2) (notedBy (model prog w) A env fun e s' => R (.error e) s') s1) (notedBy (model prog w) A env fun e s' => R (.error e) s') s)
    (n : Nat) (h : I n s) : codeAny (model prog w) A (.compLoop (.SetComp elt gens scope pos) d it acc env) R s := by
  have up : ∀ {x : Value} {s' : Shared}, notedBy (model prog w) A env (fun e s' => R (.error e) s') x s' → notedBy (model prog w) A env (fun e s' => R (.error e) s') x s' := id
  refine codeAny_loop rfl I (fun n s hI => ?_) n h
  show wpAny _ A ((compTurn (.SetComp elt gens scope pos) d it acc env).onRaise fun x => do noteFrame x env; theTreesLotGoes x) _ _ s
  refine wpAny_noted ?_
  rw [ht]
  refine wpAny_bind <| wpAny_standAt <| wpAny_bind <| wpAny_mono (turn n s hI) (fun r s1 h1 => ?_) fun _ _ => up
  cases r with
  | none => exact wpAny_pure h1
  | some v =>
    refine wpAny_bind <| wpAny_mono h1 (fun _ s2 h2 => ?_) fun _ _ => up
    refine wpAny_bind <| wpAny_mono h2 (fun _ s3 h3 => wpAny_bind <| wpAny_mono h3 (fun ok s4 h4 => ?_) fun _ _ => up) fun _ _ => up
    cases ok with
    | false => exact wpAny_pure ⟨rfl, h4⟩
    | true => exact hem _ _ _ _ h4 fun s5 h5 => wpAny_pure ⟨rfl, h5⟩
theorem start_any {elt : Expr} {gens : List Comprehension} {scope : Scope} {pos : Pos} {d : Nat} {it acc : Value} {g : Comprehension} (hg : gens[d]? = some g) (na : (g.is_async != 0) = false) (h0 : codeAny (model prog w) A (.compLoop (.SetComp elt gens scope pos) d it acc env) R s)
    (h : wpAny (model prog w) A (pyIter it) (fun it' s' => codeAny (model prog w) A (.compLoop (.SetComp elt gens scope pos) d it' acc env) R s') (notedBy (model prog w) A env fun x s' => R (.error x) s') s) : codeAny (model prog w) A (.compStart (.SetComp elt gens scope pos) d it acc env) R s := by
  refine codeAny_of_tree ?_
  show wpAny _ _ ((compStart (.SetComp elt gens scope pos) d it acc env).onRaise fun x => do noteFrame x env; standAt theWindowsPlace) _ _ s
  refine wpAny_notedAt ?_
  unfold compStart
  show wpAny _ _ (do if (gens[d]?).elim false (·.is_async != 0) then _ else _) _ _ s
  rw [hg]
  simp only [Option.elim, na, Bool.false_eq_true, if_false]
  refine wpAny_bind <| wpAny_askSetting <| ?_
  have hg' : (clausesOf (.SetComp elt gens scope pos))[d]? = some g := hg
  rw [hg']
  split
  · exact wpAny_pure ⟨rfl, h0⟩
  · refine wpAny_bind <| wpAny_rule ?_
    exact wpAny_bind <| wpAny_standAt <| wpAny_bind <| wpAny_mono h (fun it' s' h' => wpAny_pure ⟨rfl, h'⟩) fun _ _ z => z
end
end OM

namespace OM
open PySem PySem.Spec PyProof.Rows L2
section
variable {elt t0 i0 t1 i1 : Expr} {c0 c1 : List Expr} {scope : Scope} {pos : Pos}
def addS (elt : Expr) (acc : Value) (env : Env) (k : Sem Fin) : Sem Fin := do
  (do let v ← eval elt env; standAt elt.pos; let _ ← call (.builtin "set.add") [acc, v])
  k
def intoS (e : Expr) (i1 : Expr) (acc : Value) (env : Env) (k : Sem Fin) : Sem Fin := do
  let x ← eval i1 env
  standAt i1.pos
  let x ← foldedSetIterable i1 env x
  let _ ← runOwn (.compStart e 1 (← holding [x] (pyIter x)) acc env) env
  k
theorem turn_s1 (it acc : Value) (env : Env) : compTurn (.SetComp elt [⟨t0, i0, c0, 0⟩] scope pos) 0 it acc env = turnOf (.SetComp elt [⟨t0, i0, c0, 0⟩] scope pos) 0 it acc env i0.pos t0 c0 (addS elt acc env) := by rfl
theorem turn_s2 (it acc : Value) (env : Env) : compTurn (.SetComp elt [⟨t0, i0, c0, 0⟩, ⟨t1, i1, c1, 0⟩] scope pos) 0 it acc env = turnOf (.SetComp elt [⟨t0, i0, c0, 0⟩, ⟨t1, i1, c1, 0⟩] scope pos) 0 it acc env i0.pos t0 c0 (intoS (.SetComp elt [⟨t0, i0, c0, 0⟩, ⟨t1, i1, c1, 0⟩] scope pos) i1 acc env) := by rfl
theorem turn_s2in (it acc : Value) (env : Env) : compTurn (.SetComp elt [⟨t0, i0, c0, 0⟩, ⟨t1, i1, c1, 0⟩] scope pos) 1 it acc env = turnOf (.SetComp elt [⟨t0, i0, c0, 0⟩, ⟨t1, i1, c1, 0⟩] scope pos) 1 it acc env i1.pos t1 c1 (addS elt acc env) := by rfl
end
/-- what an emission asks -/
def emS (P : Program) (w : World) (A : Around) (E : Value → Shared → Prop) (elt : Expr) (acc : Value) (env : Env) (Y : Shared → Prop) (s : Shared) : Prop := wpAny (model P w) A (eval elt env) (fun x s1 => wpAny (model P w) A (call (.builtin "set.add") [acc, x]) (fun _ s2 => Y s2) E s1) E s
def emI (P : Program) (w : World) (A : Around) (E : Value → Shared → Prop) (e i1 : Expr) (acc : Value) (env : Env) (Y : Shared → Prop) (s : Shared) : Prop := wpAny (model P w) A (eval i1 env) (fun x s1 => wpAny (model P w) A (pyIter x) (fun it s2 => codeAny (model P w) A (.compStart e 1 it acc env) (fun r s3 => match r with
  | .ok _ => Y s3
  | .error _ => False) s2) E s1) E s
section
variable {prog : Program} {w : World} {A : Around} {env : Env} {E : Value → Shared → Prop}
theorem emS_ok {elt : Expr} {acc : Value} (k : Sem Fin) (Z : Fin → Shared → Prop) (s : Shared) (Y : Shared → Prop) (h : emS prog w A E elt acc env Y s) (hk : ∀ s', Y s' → wpAny (model prog w) A k Z E s') : wpAny (model prog w) A (addS elt acc env k) Z E s :=
  wpAny_bind <| wpAny_bind <| wpAny_mono h (fun x s1 h1 => wpAny_bind <| wpAny_standAt <| wpAny_bind <| wpAny_mono h1 (fun _ s2 h2 => wpAny_pure (hk s2 h2)) fun _ _ z => z) fun _ _ z => z
theorem emI_ok {e i1 : Expr} {acc : Value} (hs : ∀ x, foldedSetIterable i1 env x = pure x) (k : Sem Fin) (Z : Fin → Shared → Prop) (s : Shared) (Y : Shared → Prop) (h : emI prog w A E e i1 acc env Y s) (hk : ∀ s', Y s' → wpAny (model prog w) A k Z E s') : wpAny (model prog w) A (intoS e i1 acc env k) Z E s := by
  refine wpAny_bind <| wpAny_mono h (fun x s1 h1 => ?_) fun _ _ z => z
  refine wpAny_bind <| wpAny_standAt <| wpAny_bind <| wpAny_of_eq (hs x) <| wpAny_bind <| wpAny_holding <| wpAny_mono h1 (fun it s2 h2 => ?_) fun _ _ z => z
  refine wpAny_bind <| wpAny_runOwn ?_
  rw [Around.mark_none]
  refine codeAny_mono h2 fun r s3 hr => ?_
  cases r with
  | ok f => exact hk s3 hr
  | error x => exact hr.elim
end
section
variable {X : Cx}
/-- σ' knows what σ knows -/
def Knows (σ σ' : L2.St) : Prop := σ.length = σ'.length ∧ ∀ (j : Nat) v, σ[j]? = some (some v) → σ'[j]? = some (some v)
/-- a loop of a block over what T walks -/
theorem blk_loop {s3 : Shared} {H3 : Hp} {scope : Scope} {ce : Env} {fp0 : List Addr} {pins : List (Addr × Obj)} {σ0 : L2.St} {elt tgt : Expr} {gens : List Comprehension} {pos ip : Pos} {d : Nat} {ifs : List Expr} {it : Addr} {acc : Value} {emit : Sem Fin → Sem Fin} {em : (Shared → Prop) → Shared → Prop} {R : Result → Shared → Prop} {fp : List Addr} {tn : Nat → Heap → Prop} {J : It} {g : TG} {tt : TT} {emH : L2.St → Hp → (Hp → Prop) → Prop} {kn : L2.St → Prop} (hkn : ∀ σ2, kn σ2 → Knows σ0 σ2)
    (hc : X.calm = true) (T : Turn X.prog X.w X.K tgt J fp it tn) (stat : ∀ {H' : Hp}, (∀ b ∈ fp, H' b = none) → ∀ b ∈ fp, FpOk (X.blk s3 H3 scope ce fp0) pins H' b) (pg : PG (X.blk s3 H3 scope ce fp0) tgt g) (pt : PTs (X.blk s3 H3 scope ce fp0) ifs tt)
    (hem : ∀ (k : Sem Fin) (Z : Fin → Shared → Prop) (s : Shared) (Y : Shared → Prop), em Y s → (∀ s', Y s' → wpAny (model X.prog X.w) X.A k Z (notedBy (model X.prog X.w) X.A ce fun e s' => R (.error e) s') s') → wpAny (model X.prog X.w) X.A (emit k) Z (notedBy (model X.prog X.w) X.A ce fun e s' => R (.error e) s') s)
    (ht : compTurn (.SetComp elt gens scope pos) d (.ref it) acc ce = turnOf (.SetComp elt gens scope pos) d (.ref it) acc ce ip tgt ifs emit) {W : Nat → Nat → Hp → Prop} {Z : Hp → Prop}
    (turn : ∀ i m H, W i m H → (J.stop i H ∧ Z H) ∨ (J.go i H ∧ ∃ Nx : Hp → Prop, (∀ H', Nx H' → ∃ m', m' < m ∧ W (i + 1) m' H') ∧ ∀ x H', J.yld i H x H' → g x σ0 H' fun σ2 H2 => kn σ2 ∧ tt σ2 H2 fun b H4 => if b = true then emH σ2 H4 Nx else Nx H4))
    (emM : ∀ {Y Y' : Shared → Prop} {s : Shared}, em Y s → (∀ s', Y s' → Y' s') → em Y' s) (emR : ∀ (σ2 : L2.St) (H4 : Hp) (Nx : Hp → Prop) (s : Shared) (pl : List (Addr × Obj)), Inv (X.blk s3 H3 scope ce fp0) (pins ++ pl) σ2 H4 s → Knows σ0 σ2 → emH σ2 H4 Nx → em (fun s' => ∃ σ' H', Inv (X.blk s3 H3 scope ce fp0) (pins ++ pl) σ' H' s' ∧ Knows σ0 σ' ∧ Nx H') s)
    (fin : ∀ s' H', Inv (X.blk s3 H3 scope ce fp0) pins σ0 H' s' → Z H' → R (.ok .next) s') {m0 : Nat} {H0 : Hp} {s : Shared} (I0 : Inv (X.blk s3 H3 scope ce fp0) pins σ0 H0 s) (st0 : tn 0 s.heap) (n0 : ∀ b ∈ fp, H0 b = none) (w0 : W 0 m0 H0) :
    codeAny (model X.prog X.w) X.A (.compLoop (.SetComp elt gens scope pos) d (.ref it) acc ce) R s := by
  refine loop_any hem ht (fun m s' => ∃ i H', Inv (X.blk s3 H3 scope ce fp0) pins σ0 H' s' ∧ tn i s'.heap ∧ (∀ b ∈ fp, H' b = none) ∧ W i m H') ?_ m0 ⟨0, H0, I0, st0, n0, w0⟩
  rintro m s5 ⟨i, H5, I5, st5, n5, w5⟩
  rcases turn i m H5 w5 with ⟨stop, z⟩ | ⟨go, Nx, hNx, step⟩
  · refine thnF (T.done (X.blk s3 H3 scope ce fp0) rfl rfl rfl hc i pins s5 σ0 H5 (fun _ _ => False) I5 (stat n5) st5 stop) fun r s6 ⟨hr, I6⟩ => ?_
    subst hr
    exact fin s6 H5 I6 z
  · refine thnF (T.item (X.blk s3 H3 scope ce fp0) rfl rfl rfl hc i pins s5 σ0 H5 (fun _ _ => False) I5 (stat n5) st5 go) fun r s6 ⟨u, hr, h6⟩ => ?_
    subst hr
    refine thnF h6 fun _ s7 ⟨x, H7, I7, r7, y7, st7, n7⟩ => ?_
    refine thnF (pg.run _ s7 σ0 H7 x u _ (I7.pinned (stat n7) (T.obj _ _ st7)) r7 (step x H7 y7)) fun _ s8 ⟨σ8, H8, I8, kn8, q8⟩ => ?_
    have hk8 := hkn σ8 kn8
    refine thnF (pt.run _ s8 σ8 H8 _ I8 q8) fun b s9 ⟨H9, I9, q9⟩ => ?_
    have back : ∀ {s' : Shared} {σ' : L2.St} {H' : Hp}, Inv (X.blk s3 H3 scope ce fp0) (pins ++ pinsAt fp s7.heap) σ' H' s' → σ0.length = σ'.length → (∀ (j : Nat) v, σ0[j]? = some (some v) → σ'[j]? = some (some v)) → Nx H' → ∃ m', m' < m ∧ ∃ i H', Inv (X.blk s3 H3 scope ce fp0) pins σ0 H' s' ∧ tn i s'.heap ∧ (∀ b ∈ fp, H' b = none) ∧ W i m' H' := by
      intro s' σ' H' I' hl hk nx
      obtain ⟨m', hm, w'⟩ := hNx H' nx
      have held : ∀ b ∈ fp, ∀ o, s7.heap.get? b = some o → s'.heap.get? b = some o ∧ H' b = none := fun b hb o e =>
        have z := I'.pin (b, o) (List.mem_append_right _ (List.mem_append_right _ (mem_pinsAt hb e)))
        ⟨z.1, z.2.1⟩
      exact ⟨m', hm, i + 1, H', I'.unpinned.weak hl hk, T.keep _ _ _ st7 fun b hb o e => (held b hb o e).1, fun b hb => let ⟨o, e, _⟩ := T.obj _ _ st7 b hb; (held b hb o e).2, w'⟩
    cases b with
    | false => exact back I9 hk8.1 hk8.2 q9
    | true =>
      exact emM (emR σ8 H9 Nx s9 _ I9 hk8 q9) fun s' ⟨σ', H', I', hk, nx⟩ => back I' hk.1 hk.2 nx
end
end OM

namespace OM
open PySem PySem.Spec PyProof.Rows L2
def goes (J : It) (W : Nat → Nat → Hp → Prop) (Z : Hp → Prop) (step : V → Hp → (Hp → Prop) → Prop) : Prop := ∀ i m H, W i m H → (J.stop i H ∧ Z H) ∨ (J.go i H ∧ ∃ Nx : Hp → Prop, (∀ H', Nx H' → ∃ m', m' < m ∧ W (i + 1) m' H') ∧ ∀ x H', J.yld i H x H' → step x H' Nx)
/-- a text comes into the set at D -/
def tInto (w : World) (D : Addr) (Nx : Hp → Prop) : VK := fun y H => ∃ x L, y = .str x ∧ H D = some (SetTO w D L) ∧ L.length + 1 < scanBound ∧ Nx (upd H D (SetTO w D (addX L x)))
/-- {elt for tg in iter if ..}, texts -/
def tSx (w : World) (wi : TI) (g : TG) (tt : TT) (te : TE) (vs : List Nat) : TE := fun σ H Q => wi σ H fun J H1 => ∀ D, H1 D = none → ∃ W : Nat → Nat → Hp → Prop, (∃ m, W 0 m (upd H1 D (SetTO w D []))) ∧ goes J W (fun H => Q (.ref D) H) fun x H' Nx => g x (wipe σ vs) H' fun σ2 H2 => wipe σ2 vs = wipe σ vs ∧ tt σ2 H2 fun b H3 => if b = true then te σ2 H3 (tInto w D Nx) else Nx H3
/-- .. with a second for, its names vs1 -/
def tSx2 (w : World) (wi : TI) (g : TG) (tt : TT) (wi1 : TI) (g1 : TG) (tt1 : TT) (te : TE) (vs vs1 : List Nat) : TE := fun σ H Q => wi σ H fun J H1 => ∀ D, H1 D = none → ∃ W : Nat → Nat → Hp → Prop, (∃ m, W 0 m (upd H1 D (SetTO w D []))) ∧ goes J W (fun H => Q (.ref D) H) fun x H' Nx => g x (wipe σ vs) H' fun σ2 H2 => wipe σ2 vs = wipe σ vs ∧ tt σ2 H2 fun b H3 => if b = true then
  wi1 σ2 H3 (fun J1 H4 => ∃ W1 : Nat → Nat → Hp → Prop, (∃ m, W1 0 m H4) ∧ goes J1 W1 Nx fun x H' Nx1 => g1 x (wipe σ2 vs1) H' fun σ3 H5 => wipe σ3 vs1 = wipe σ2 vs1 ∧ tt1 σ3 H5 fun b H6 => if b = true then te σ3 H6 (tInto w D Nx1) else Nx1 H6) else Nx H3
theorem wiped {σ σ2 : L2.St} {vs : List Nat} (h : wipe σ2 vs = wipe σ vs) : Knows (wipe σ vs) σ2 := by
  rw [← h]
  exact ⟨wipe_length _ _, fun j v e => (wipe_some e).1⟩
theorem Knows.tr {a b c : L2.St} (h : Knows a b) (k : Knows b c) : Knows a c := ⟨h.1.trans k.1, fun j v e => k.2 j v (h.2 j v e)⟩
section
variable {X : Cx} {elt tg iter tg1 iter1 : Expr} {ifs ifs1 : List Expr} {scope : Scope} {own : List (Str × Nat)} {vs1 : List Nat} {pos : Pos} {wi wi1 : TI} {g g1 : TG} {tt tt1 : TT} {te : TE}
/-- the innermost emission, within a block -/
theorem into_ok {s3 : Shared} {H3 : Hp} {ce : Env} {fp0 : List Addr} {pins : List (Addr × Obj)} {σ2 σ0 : L2.St} {H4 : Hp} {Nx : Hp → Prop} {s : Shared} {D : Addr} {E : Value → Shared → Prop} (pe : PE (X.blk s3 H3 scope ce fp0) elt te) (I : Inv (X.blk s3 H3 scope ce fp0) pins σ2 H4 s) (hk : Knows σ0 σ2) (h : te σ2 H4 (tInto X.w D Nx)) :
    emS X.prog X.w X.A E elt (.ref D) ce (fun s' => ∃ σ' H', Inv (X.blk s3 H3 scope ce fp0) pins σ' H' s' ∧ Knows σ0 σ' ∧ Nx H') s := by
  refine thnF (pe.run _ s σ2 H4 _ I h) fun z s1 ⟨y, H5, I5, r5, x, L, ey, hD, room, nx⟩ => ?_
  subst ey
  obtain ⟨tk, rfl⟩ := r5
  exact tx_add_ok (X := X.blk s3 H3 scope ce fp0) I5 hD room fun s6 I6 => ⟨σ2, _, I6, hk, nx⟩
theorem sx2_core {pins : List (Addr × Obj)} {s : Shared} {σ : L2.St} {H : Hp} {Q : VK} {pos' : Pos} {use : Option (Value → Sem Unit)} {Qf : Value → Shared → Prop} (hc : X.calm = true) (hN : X.N.Nodup) (I : Inv X pins σ H s) (hi : PI X tg iter wi) (ok : BlkOk X.N X.env.scope scope own) (hv : ∀ i ∈ vs1, i ∈ own.map (·.2))
    (hg : ∀ (s : Shared) (H : Hp) (C : Addr) (cl : List (Str × Addr)) (fp : List Addr), PG (X.blk s H scope (compEnvC scope cl C X.env) fp) tg g) (ht : ∀ (s : Shared) (H : Hp) (C : Addr) (cl : List (Str × Addr)) (fp : List Addr), PTs (X.blk s H scope (compEnvC scope cl C X.env) fp) ifs tt)
    (hi1 : ∀ (s : Shared) (H : Hp) (C : Addr) (cl : List (Str × Addr)) (fp : List Addr), PI (X.blk s H scope (compEnvC scope cl C X.env) fp) tg1 iter1 wi1) (hg1 : ∀ (s : Shared) (H : Hp) (C : Addr) (cl : List (Str × Addr)) (fp : List Addr), PG (X.blk s H scope (compEnvC scope cl C X.env) fp) tg1 g1)
    (ht1 : ∀ (s : Shared) (H : Hp) (C : Addr) (cl : List (Str × Addr)) (fp : List Addr), PTs (X.blk s H scope (compEnvC scope cl C X.env) fp) ifs1 tt1) (he : ∀ (s : Shared) (H : Hp) (C : Addr) (cl : List (Str × Addr)) (fp : List Addr), PE (X.blk s H scope (compEnvC scope cl C X.env) fp) elt te)
    (hs : ∀ x, foldedSetIterable iter X.env x = pure x) (hs1 : ∀ env x, foldedSetIterable iter1 env x = pure x) (h : tSx2 X.w wi g tt wi1 g1 tt1 te (own.map (·.2)) vs1 σ H Q)
    (hRR : ∀ D C s' m H', Inv X pins σ H' s' → Q (.ref D) H' → s'.heap.Ns C m → FpOk X pins H' C → compPost (model X.prog X.w) X.A X.xe use Qf (.ref D) C (.ok .next) s') :
    wpAny (model X.prog X.w) X.A (comprehension (.SetComp elt [⟨tg, iter, ifs, 0⟩, ⟨tg1, iter1, ifs1, 0⟩] scope pos) scope X.env pos' (newSet (.type "set")) false (eval iter X.env) use) Qf X.xe s := by
  have cells : ∀ y ∈ scope.names, y.2 = .free → ∃ c, X.env.cells.lookup y.1 = some c := fun y hy e => (ok.free y hy e).elim (fun k => I.ok.has _ (.inl k)) fun k => I.ok.has _ (.inr k)
  refine wpAny_comprehension_free (use := use) rfl hs (closure_ok cells) ok.kind (fun y hy e => by rw [ok.uniq y hy, e]) (thn (hi.run pins s σ H _ I h) fun xv s1 hx => thn hx fun itv s2 h2 => ?_)
  obtain ⟨it, fp, tn, J, H2, rfl, I2, T, st2, f2, q⟩ := h2
  refine PpSet.newSet_ok (newEnv_comp ?_)
  obtain ⟨D, hD⟩ : ∃ D, s2.heap.objs.size = D := ⟨_, rfl⟩
  obtain ⟨W, ⟨m0, w0⟩, turn⟩ := q D (I2.hok.fresh (Nat.le_of_eq hD))
  have fresh := tx_fresh (h := s2.heap) X.w
  rw [hD] at fresh ⊢
  obtain ⟨s3, es3⟩ : ∃ s3 : Shared, s3 = { s2 with heap := s2.heap.push { cls := .type "set", dict := none, data := .set #[] 0 (.fresh 0 0 (!X.w.params.followText "set-order")) } } := ⟨_, rfl⟩
  have h3 : s3.heap = s2.heap.push { cls := .type "set", dict := none, data := .set #[] 0 (.fresh 0 0 (!X.w.params.followText "set-order")) } := by rw [es3]
  have I3 : Inv X pins σ (upd H2 D (SetTO X.w D [])) s3 := by
    rw [es3]
    exact I2.laid (t' := s2.toks) (fun b o e => Heap.get?_push_of_some _ e) (Nat.le_of_eq hD) (txo_new fresh)
  rw [← es3]
  have f3 : ∀ b ∈ fp, FpOk X pins (upd H2 D (SetTO X.w D [])) b ∧ b < s3.heap.objs.size := fun b hb => by
    obtain ⟨o, e, _⟩ := T.obj _ _ st2 b hb
    have lt := Heap.lt_size e
    exact ⟨⟨by rw [upd_ne (by rw [← hD]; exact Nat.ne_of_lt lt)]; exact (f2 b hb).1, (f2 b hb).2⟩, by rw [h3, Heap.size_push]; exact Nat.lt_succ_of_lt lt⟩
  have st3 : tn 0 s3.heap := T.keep _ _ _ st2 fun b _ o e => by rw [h3]; exact Heap.get?_push_of_some _ e
  have I4 := block_start I3 ok hN f3
  have pg := hg s3 (upd H2 D (SetTO X.w D [])) s3.heap.objs.size (cellsFrom (s3.heap.objs.size + 1) scope.names (cloFrom X.env.cells scope.names [])) fp
  have pt := ht s3 (upd H2 D (SetTO X.w D [])) s3.heap.objs.size (cellsFrom (s3.heap.objs.size + 1) scope.names (cloFrom X.env.cells scope.names [])) fp
  have pe := he s3 (upd H2 D (SetTO X.w D [])) s3.heap.objs.size (cellsFrom (s3.heap.objs.size + 1) scope.names (cloFrom X.env.cells scope.names [])) fp
  have pi1 := hi1 s3 (upd H2 D (SetTO X.w D [])) s3.heap.objs.size (cellsFrom (s3.heap.objs.size + 1) scope.names (cloFrom X.env.cells scope.names [])) fp
  have pg1 := hg1 s3 (upd H2 D (SetTO X.w D [])) s3.heap.objs.size (cellsFrom (s3.heap.objs.size + 1) scope.names (cloFrom X.env.cells scope.names [])) fp
  have pt1 := ht1 s3 (upd H2 D (SetTO X.w D [])) s3.heap.objs.size (cellsFrom (s3.heap.objs.size + 1) scope.names (cloFrom X.env.cells scope.names [])) fp
  show codeAny _ _ (.compStart (.SetComp elt [⟨tg, iter, ifs, 0⟩, ⟨tg1, iter1, ifs1, 0⟩] scope pos) 0 (.ref it) (.ref D) (compEnvC scope (cellsFrom (s3.heap.objs.size + 1) scope.names (cloFrom X.env.cells scope.names [])) s3.heap.objs.size X.env)) (compPost (model X.prog X.w) X.A X.xe use Qf (.ref D) s3.heap.objs.size) { s3 with heap := pushCells (s3.heap.push { cls := .type "dict", data := .dict #[] }) scope.names }
  obtain ⟨ce, ece⟩ : ∃ ce, ce = compEnvC scope (cellsFrom (s3.heap.objs.size + 1) scope.names (cloFrom X.env.cells scope.names [])) s3.heap.objs.size X.env := ⟨_, rfl⟩
  have cL : ce.locals = s3.heap.objs.size := by rw [ece]; rfl
  obtain ⟨s4, es4⟩ : ∃ s4 : Shared, s4 = { s3 with heap := pushCells (s3.heap.push { cls := .type "dict", data := .dict #[] }) scope.names } := ⟨_, rfl⟩
  rw [← ece] at I4 pg pt pe pi1 pg1 pt1 ⊢
  rw [← es4] at I4 ⊢
  have st4 : tn 0 s4.heap := T.keep _ _ _ st3 fun b _ o e => by rw [es4]; exact pushCells_keeps _ _ _ _ (Heap.get?_push_of_some _ e)
  generalize upd H2 D (SetTO X.w D []) = H3 at w0 I3 f3 I4 pg pt pe pi1 pg1 pt1
  have stat : ∀ {H' : Hp}, (∀ b ∈ fp, H' b = none) → ∀ b ∈ fp, FpOk (X.blk s3 H3 scope ce fp) [] H' b := fun {H'} hn b hb =>
    ⟨hn b hb, (I4.ok.exf b hb).1, I4.ok.exfs b hb, .inl hb, fun x c e => (I4.ok.exf b hb).2 x c e, fun p hp => absurd (show p ∈ ([] : List (Addr × Obj)) ++ [] from hp) (by simp)⟩
  have loop : codeAny (model X.prog X.w) X.A (.compLoop (.SetComp elt [⟨tg, iter, ifs, 0⟩, ⟨tg1, iter1, ifs1, 0⟩] scope pos) 0 (.ref it) (.ref D) ce) (compPost (model X.prog X.w) X.A X.xe use Qf (.ref D) s3.heap.objs.size) s4 := by
    refine blk_loop (kn := fun σ2 => wipe σ2 (own.map (·.2)) = wipe σ (own.map (·.2))) (W := W) (Z := fun H => Q (.ref D) H) (g := g) (tt := tt) (em := emI X.prog X.w X.A (notedBy (model X.prog X.w) X.A ce fun e s' => compPost (model X.prog X.w) X.A X.xe use Qf (.ref D) s3.heap.objs.size (.error e) s') (.SetComp elt [⟨tg, iter, ifs, 0⟩, ⟨tg1, iter1, ifs1, 0⟩] scope pos) iter1 (.ref D) ce)
      (emH := fun σ2 H3 Nx => wi1 σ2 H3 fun J1 H4 => ∃ W1 : Nat → Nat → Hp → Prop, (∃ m, W1 0 m H4) ∧ goes J1 W1 Nx fun x H' Nx1 => g1 x (wipe σ2 vs1) H' fun σ3 H5 => wipe σ3 vs1 = wipe σ2 vs1 ∧ tt1 σ3 H5 fun b H6 => if b = true then te σ3 H6 (tInto X.w D Nx1) else Nx1 H6)
      (fun _ z => wiped z) hc T stat pg pt (emI_ok (hs1 ce)) (turn_s2 _ _ _) ?_ ?_ ?_ ?_ I4 st4 (fun b hb => (f3 b hb).1.1) w0
    · exact turn
    · intro Y Y' s h k
      exact wpAny_mono h (fun x s1 h1 => wpAny_mono h1 (fun it s2 h2 => codeAny_mono h2 fun r s3 z => by cases r with | ok f => exact k _ z | error x => exact z) fun _ _ z => z) fun _ _ z => z
    · intro σ2 H4 Nx s pl I' hk q2
      refine thnF (pi1.run _ s σ2 H4 _ I' q2) fun xv s10 hx => thnF hx fun itv s11 h11 => ?_
      obtain ⟨it1, fp1, tn1, J1, H11, rfl, I11, T1, st11, f11, W1, ⟨m1, w1⟩, turn1⟩ := h11
      have kw : Knows (wipe σ (own.map (·.2))) (wipe σ2 vs1) := ⟨hk.1.trans (wipe_length σ2 vs1).symm, fun j v e => by
        rw [wipe_out fun z => (wipe_some e).2 (hv j z)]
        exact hk.2 j v e⟩
      have loop1 : codeAny (model X.prog X.w) X.A (.compLoop (.SetComp elt [⟨tg, iter, ifs, 0⟩, ⟨tg1, iter1, ifs1, 0⟩] scope pos) 1 (.ref it1) (.ref D) ce) (fun r s' => match r with
          | .ok _ => ∃ σ' H', Inv (X.blk s3 H3 scope ce fp) ([] ++ pl) σ' H' s' ∧ Knows (wipe σ (own.map (·.2))) σ' ∧ Nx H'
          | .error _ => False) s11 := by
        refine blk_loop (kn := fun σ3 => wipe σ3 vs1 = wipe σ2 vs1) (pins := [] ++ pl) (σ0 := wipe σ2 vs1) (W := W1) (Z := Nx) (g := g1) (tt := tt1) (em := emS X.prog X.w X.A (notedBy (model X.prog X.w) X.A ce fun e s' => False) elt (.ref D) ce) (emH := fun σ3 H6 Nx1 => te σ3 H6 (tInto X.w D Nx1))
          (fun _ z => wiped z) hc T1 (fun {H'} hn b hb => ⟨hn b hb, (f11 b hb).2⟩) pg1 pt1 emS_ok (turn_s2in _ _ _) ?_ ?_ ?_ ?_ (I11.weak (wipe_length _ _) fun j v e => (wipe_some e).1) st11 (fun b hb => (f11 b hb).1) w1
        · exact turn1
        · intro Y Y' s h k
          exact wpAny_mono h (fun x s1 h1 => wpAny_mono h1 (fun _ s2 h2 => k _ h2) fun _ _ z => z) fun _ _ z => z
        · intro σ3 H6 Nx1 s pl1 I6 hk6 q6
          exact into_ok pe I6 hk6 q6
        · exact fun s' H' I' z => ⟨_, H', I', kw, z⟩
      exact start_any rfl rfl loop1 (T1.self X.A 0 _ _ _ st11 loop1)
    · intro s6 H5 I6 qq
      have I7 : Inv X pins σ H5 s6 := I3.call' (ch := fp) I6.os I6.base I6.hok I6.bare fun b hb => ⟨(f3 b hb).1.2.2.2.1, (f3 b hb).1.2.1, (f3 b hb).1.2.2.2.2.1, (f3 b hb).1.2.2.2.2.2⟩
      have nC : H5 s3.heap.objs.size = none := by
        rw [← cL]
        exact I6.free
      obtain ⟨m, hn, _⟩ := I6.loc
      have hn : s6.heap.Ns ce.locals m := hn
      rw [cL] at hn
      exact hRR D s3.heap.objs.size s6 m H5 I7 qq hn (I3.fpOk (Nat.le_refl _) nC)
  exact start_any rfl rfl loop (T.self X.A 0 _ _ _ st4 loop)
theorem pe_sx2 (hc : X.calm = true) (hN : X.N.Nodup) (hi : PI X tg iter wi) (ok : BlkOk X.N X.env.scope scope own) (hv : ∀ i ∈ vs1, i ∈ own.map (·.2)) (hg : ∀ (s : Shared) (H : Hp) (C : Addr) (cl : List (Str × Addr)) (fp : List Addr), PG (X.blk s H scope (compEnvC scope cl C X.env) fp) tg g)
    (ht : ∀ (s : Shared) (H : Hp) (C : Addr) (cl : List (Str × Addr)) (fp : List Addr), PTs (X.blk s H scope (compEnvC scope cl C X.env) fp) ifs tt) (hi1 : ∀ (s : Shared) (H : Hp) (C : Addr) (cl : List (Str × Addr)) (fp : List Addr), PI (X.blk s H scope (compEnvC scope cl C X.env) fp) tg1 iter1 wi1)
    (hg1 : ∀ (s : Shared) (H : Hp) (C : Addr) (cl : List (Str × Addr)) (fp : List Addr), PG (X.blk s H scope (compEnvC scope cl C X.env) fp) tg1 g1) (ht1 : ∀ (s : Shared) (H : Hp) (C : Addr) (cl : List (Str × Addr)) (fp : List Addr), PTs (X.blk s H scope (compEnvC scope cl C X.env) fp) ifs1 tt1)
    (he : ∀ (s : Shared) (H : Hp) (C : Addr) (cl : List (Str × Addr)) (fp : List Addr), PE (X.blk s H scope (compEnvC scope cl C X.env) fp) elt te) (hs : ∀ x, foldedSetIterable iter X.env x = pure x := by intro _; rfl) (hs1 : ∀ env x, foldedSetIterable iter1 env x = pure x := by intro _ _; rfl) :
    PE X (.SetComp elt [⟨tg, iter, ifs, 0⟩, ⟨tg1, iter1, ifs1, 0⟩] scope pos) (tSx2 X.w wi g tt wi1 g1 tt1 te (own.map (·.2)) vs1) := by
  refine ⟨fun pins s σ H Q I h => ?_⟩
  rw [PpSet.eval_SetComp]
  refine sx2_core hc hN I hi ok hv hg ht hi1 hg1 ht1 he hs hs1 h fun D C s' m H' I' q hn ⟨f0, f1, f2, f3, f4, f5⟩ => ⟨m, hn, fun h'' sb => ?_⟩
  exact ⟨.ref D, H', I'.turned (t' := s'.toks) (fun b o hb e => (sb.2 b hb).trans e) f0 f1 f3 f4 f5, rfl, q⟩
end
end OM

namespace OM
open PySem PySem.Spec PyProof.Rows L2
/-- the text of a value -/
def txV : Value → Str
  | .str x _ => x
  | _ => ""
theorem strs_txV : ∀ (l : List Value), (∀ v ∈ l, ∃ x tk, v = Value.str x tk) → StrsAre l (l.map txV)
  | [], _ => .nil
  | v :: l, h => by
    obtain ⟨x, tk, rfl⟩ := h v List.mem_cons_self
    exact .cons x tk (strs_txV l fun u hu => h u (List.mem_cons_of_mem _ hu))
section
variable {P : Program} {w : World} {A : Around} {E : Value → Shared → Prop} {s : Shared} {a : Addr} {L : List Str}
theorem sorted_tx {Q : Value → Shared → Prop} (R : SetTx w s.heap a L) (hh : A.handled = none)
    (fin : ∀ s' p (out : Array Value) (c : Nat) (ys : List Str), (∀ b o, s.heap.get? b = some o → s'.heap.get? b = some o) → s'.gens = s.gens → s'.os = s.os → s.heap.objs.size ≤ p → s'.heap.get? p = some (seqObj "list" out c) → StrsAre out.toList ys → ys.Perm L → sortedS ys = true → Q (.ref p) s') :
    wpAny (model P w) A (call (.builtin "sorted") [.ref a]) Q E s := by
  obtain ⟨o, es, ep, t, at_, hex, hd, T⟩ := R
  refine Calls.call_function_entry kind_sorted plain_sorted entry_sorted (args_sorted1 _) ?_
  unfold Builtin.«sorted»
  refine wpAny_bind (m := checkCount "sorted" 1 1 _) (wpAny_pure ?_)
  refine wpAny_bind <| collect_set (A := A.in1) hh ⟨o, at_, hex.1, hd⟩ T.fit T.bound T.ris T.led fun s1 vs k1 hz g1 o1 pm => ?_
  have vl : vs.length = L.length := by rw [pm.length_eq, List.length_map, Array.length_toList, T.size]
  have S : StrsAre vs (vs.map txV) := strs_txV vs fun v hv => by
    obtain ⟨e, he, q⟩ := List.mem_map.mp (pm.mem_iff.mp hv)
    obtain ⟨x, tk, h1⟩ := T.tx e he
    exact ⟨x, tk, by rw [← q, h1]⟩
  have pk : (vs.map txV).Perm L := by
    have q := pm.map txV
    rw [List.map_map] at q
    refine q.trans ?_
    have e : es.toList.map (txV ∘ (·.2)) = es.toList.map keyT := List.map_congr_left fun e he => by
      obtain ⟨x, tk, rfl⟩ := T.tx e he
      rfl
    rw [e]
    exact T.pm
  have line : vs.length ≤ sizeLine := by
    rw [vl]
    exact fits_of_scanBound T.few
  refine wpAny_bind (wpAny_newList ?_ line)
  have new : (s1.heap.push (seqObj "list" vs.toArray 0)).get? s1.heap.objs.size = some (seqObj "list" vs.toArray 0) := Heap.get?_push_size _ rfl
  refine wpAny_bind <| wpAny_holding <| wpAny_call_entry slot_list_sort ⟨_, new, rfl⟩ entry_list_sort (list_sort_treeKAny strKind_oneLt new S.keysOf (fun v₁ v₂ rest e => keyKind_strs (by rw [← e]; exact S)) line fun st' hp hs => ⟨_, rfl, ?_⟩) (args_list_sort _)
  obtain ⟨ys, q1, q2, q3⟩ := sorted_out_str S hp hs
  obtain ⟨c, hc⟩ := sortedHeap_at (vs := vs) (out := (arrOf st').map (·.2)) new
  refine wpAny_pure ⟨_, rfl, fin _ s1.heap.objs.size _ c ys (fun b u e => ?_) g1 o1 hz hc q1 (q2.trans pk) q3⟩
  have z := k1 b u e
  have lt := Heap.lt_size z
  exact (sortedHeap_old (Nat.ne_of_lt lt) (by rw [size_push']; exact Nat.lt_succ_of_lt lt)).trans (Heap.get?_push_of_some _ z)
end
section
variable {X : Cx}
/-- sorted(a set of texts) -/
def rSortX (w : World) : List V → Hp → VK → Prop := fun vs H Q => ∃ (a : Addr) (L : List Str), vs = [V.ref a] ∧ H a = some (SetTO w a L) ∧ ∀ (ys : List Str) (p : Addr), ys.Perm L → sortedS ys = true → H p = none → Q (.ref p) (upd H p (.lst (ys.map V.str)))
theorem cr_sortX (hc : X.calm = true) : CallR X (.builtin "sorted") (rSortX X.w) := by
  intro pins s σ H vs us Q I r h
  obtain ⟨a, L, rfl, ha, q⟩ := h
  have R := txo_get I ha
  have few : L.length < scanBound := by
    obtain ⟨_, _, _, _, _, _, _, T⟩ := R
    exact T.few
  rw [Vals.ref1 r]
  refine sorted_tx R (I.ok.hd hc) fun s' p out c ys k g o hp hg hi pm so => ?_
  have len : (ys.map V.str).length ≤ sizeLine := by
    rw [List.length_map, pm.length_eq]
    exact fits_of_scanBound few
  have hn : H p = none := I.hok.fresh hp
  have J : Inv X pins σ (upd H p (.lst (ys.map V.str))) { s with heap := s'.heap, gens := s'.gens, drawn := s'.drawn, toks := s'.toks } := I.call (ch := []) (Un.laid k hp hn) (I.hok.laid k hp ⟨len, out.toList, c, vals_of_strs hi, hg⟩) (by rw [g]; exact I.bare) (fun _ z => nomatch z)
  have e : s' = { s with heap := s'.heap, gens := s'.gens, drawn := s'.drawn, toks := s'.toks } := by
    cases s'
    cases s
    cases o
    rfl
  rw [e]
  exact ⟨.ref p, _, J, rfl, q ys p pm so hn⟩
end
end OM

namespace OM
open PySem PySem.Spec PyProof.Rows L2
def firsts (L : List Str) (xs : List Str) : List Str := xs.foldl addX L
theorem mem_addX {L : List Str} {x y : Str} : y ∈ addX L x ↔ y ∈ L ∨ y = x := by
  unfold addX
  split
  · rename_i h
    exact ⟨.inl, fun z => z.elim id fun e => e ▸ h⟩
  · rw [List.mem_cons]
    exact Or.comm
theorem len_addX (L : List Str) (x : Str) : (addX L x).length ≤ L.length + 1 := by
  unfold addX
  split
  · exact Nat.le_succ _
  · exact Nat.le_refl _
theorem nodup_addX {L : List Str} (h : L.Nodup) (x : Str) : (addX L x).Nodup := by
  unfold addX
  split
  · exact h
  · exact List.nodup_cons.mpr ⟨by assumption, h⟩
theorem mem_firsts {y : Str} : ∀ {xs L : List Str}, y ∈ firsts L xs ↔ y ∈ L ∨ y ∈ xs
  | [], L => by simp [firsts]
  | x :: r, L => by
    show y ∈ firsts (addX L x) r ↔ _
    rw [mem_firsts, mem_addX, List.mem_cons, or_assoc]
theorem len_firsts : ∀ (xs L : List Str), (firsts L xs).length ≤ L.length + xs.length
  | [], L => Nat.le_refl _
  | x :: r, L => by
    have h1 := len_firsts r (addX L x)
    have h2 := len_addX L x
    show (firsts (addX L x) r).length ≤ L.length + (r.length + 1)
    omega
theorem nodup_firsts : ∀ (xs : List Str) {L : List Str}, L.Nodup → (firsts L xs).Nodup
  | [], _, h => h
  | x :: r, _, h => nodup_firsts r (nodup_addX h x)
section
variable {P : Program} {w : World} {A : Around} {I : Addr} {fp wr : List Addr} {G : Array GenState → Array GenState → Prop} {n : Nat} {Pv : Nat → Value → Prop} {St : Nat → Shared → Prop} {R : Result → Shared → Prop}
/-- the loop of set.update over texts -/
theorem update_tx (W : WalksS P w A.in1 I fp wr G n Pv St) (S : Addr) (apart : S ∉ fp) (xs : List Str) (hn : xs.length = n) (val : ∀ i v, Pv i v → ∃ t, v = .str (xs.getD i Str.empty) t) : ∀ (k i : Nat) (s : Shared) (L : List Str), n - i = k → i ≤ n → St i s → SetTx w s.heap S L → L.length + k < scanBound →
    (∀ s', Moved (S :: wr) G s s' → SetTx w s'.heap S (firsts L (xs.drop i)) → R (.ok (.ret .none)) s') → codeAny (model P w) A (.builtin "set.update.loop" ⟨[.ref S, .ref I], []⟩) R s := by
  have nw : S ∉ wr := fun h => apart (W.sub _ h)
  have wider : ∀ b ∈ wr, b ∈ S :: wr := fun b hb => List.mem_cons_of_mem _ hb
  intro k
  induction k with
  | zero =>
    intro i s L hk hi st hS room fin
    obtain rfl : i = n := by omega
    refine codeAny_builtin F.entry_set_update_loop ?_
    rw [Around.under_plainId F.plain_set_update_loop _]
    show wpAny _ A.in1 (pyNext (.ref I) >>= _) _ _ s
    refine wpAny_bind <| W.done s _ _ st fun s' hm => ?_
    show wpAny _ A.in1 (ret Value.none) _ _ s'
    refine wpAny_pure <| fin s' (hm.mono wider) ?_
    rw [← hn, List.drop_length]
    exact hS.mv fun o e => hm.heap S o nw e
  | succ k ih =>
    intro i s L hk hi st hS room fin
    have lt : i < n := by omega
    refine codeAny_builtin F.entry_set_update_loop ?_
    rw [Around.under_plainId F.plain_set_update_loop _]
    show wpAny _ A.in1 (pyNext (.ref I) >>= _) _ _ s
    refine wpAny_bind <| W.item i s _ _ lt st fun v s' hP st' hm => ?_
    obtain ⟨tk, rfl⟩ := val i v hP
    have hS' : SetTx w s'.heap S L := hS.mv fun o e => hm.heap S o nw e
    have hx : xs.drop i = xs.getD i Str.empty :: xs.drop (i + 1) := by
      have h1 : i < xs.length := by omega
      rw [List.getD_eq_getElem?_getD, List.getElem?_eq_getElem h1]
      exact List.drop_eq_getElem_cons h1
    rw [hx] at fin
    revert fin
    generalize xs.getD i Str.empty = x
    intro fin
    show wpAny _ A.in1 (holding [Value.str x tk] (setAdd S (.str x tk)) >>= _) _ _ s'
    refine wpAny_bind <| wpAny_holding ?_
    unfold setAdd
    refine wpAny_holding <| wpAny_bind <| (strKind P w).pyHash (k := x) (beq_self_eq_true x) ?_
    refine tx_hashed (s := { s' with toks := s'.toks + 1 }) hS' (by omega) fun b h' sb r => ?_
    have la := len_addX L x
    refine wpAny_pure ⟨plainId_quiet F.plain_set_update_loop _, ih (i + 1) _ (addX L x) (by omega) lt (W.frame _ s' _ _ st' (Nat.le_succ _) fun b hb o e => ?_) r (by omega) fun s'' hm'' r'' => fin s'' (Moved.trans W.gtrans ((hm.mono wider).then_heap (Nat.le_succ _) fun b o hb e => ?_) hm'') r''⟩
    · exact (sb.2 b fun z => apart (by rw [← z]; exact hb)).trans e
    · exact (sb.2 b fun z => hb (by rw [z]; exact List.mem_cons_self)).trans e
end
end OM

namespace OM
open PySem PySem.Spec PyProof.Rows L2
abbrev blankSet (w : World) : Obj := { cls := .type "set", dict := none, data := .set #[] 0 (.fresh 0 0 (!w.params.followText "set-order")) }
section
variable {P : Program} {w : World} {A : Around} {E : Value → Shared → Prop} {s : Shared}
/-- set(x), by what its __init__ makes of the blank set -/
theorem set_made {x : Value} {Q : Value → Shared → Prop} {Z : Shared → Prop}
    (hT : codeAny (model P w) A.in1 (.call (.builtin "set.__init__") ⟨[.ref s.heap.objs.size, x], []⟩) (wants (fun r s2 => r = .none ∧ Z s2) E) { s with heap := s.heap.push (blankSet w) })
    (fin : ∀ s2, Z s2 → Q (.ref s.heap.objs.size) s2) : wpAny (model P w) A (call (.type "set") [x]) Q E s := by
  obtain ⟨c, tl, hmro⟩ := F.called_set.mro
  have f1 := F.called_set.made
  have f2 := F.called_set.sub
  refine wpAny_call <| codeAny_of_tree ?_
  show wpAny _ _ (callAny (.type "set") _) _ _ _
  refine wpAny_pure ⟨Code.quiet_builtin _ (by decide +kernel), codeAny_builtin F.entry_type_call ?_⟩
  rw [Around.under_plain (weight_type_call_type "set" [x] []) rfl]
  have f3 := F.called_set.notType
  have f4 := F.called_set.canCreate
  have f5 := F.typeCall_set_1 x
  repeat (any_goals (first | assumption | wp_step))
  refine codeAny_mono (code_set_led1 x (E := E) (Q₁ := fun obj s1 => obj = .ref s.heap.objs.size ∧ s1 = { s with heap := s.heap.push (blankSet w) }) ⟨rfl, rfl⟩) fun r s1 hr => ?_
  cases r with
  | error e => exact hr
  | ok fl =>
    cases fl with
    | ret obj =>
      obtain ⟨rfl, rfl⟩ := hr
      have at_ : (s.heap.push (blankSet w)).get? s.heap.objs.size = some (blankSet w) := Heap.get?_push_size _ rfl
      have ty : Shared.TypeIs { s with heap := s.heap.push (blankSet w) } (.ref s.heap.objs.size) "set" := ⟨_, at_, rfl⟩
      have f6 := F.called_set.init.lookup
      have f7 := F.called_set.init.bind (.ref s.heap.objs.size)
      repeat (any_goals (first | assumption | wp_step))
      refine codeAny_mono hT fun r2 s2 hr2 => ?_
      cases r2 with
      | error e => exact hr2
      | ok fl2 =>
        cases fl2 with
        | ret r =>
          obtain ⟨rfl, z⟩ := hr2
          have q := fin s2 z
          repeat (any_goals (first | assumption | wp_step))
        | _ => exact hr2.elim
    | _ => exact hr.elim
/-- set(xs), xs a list or a tuple of texts -/
theorem set_list {l : Addr} {items : Array Value} {xs : List Str} {Q : Value → Shared → Prop} (hh : A.handled = none) (hl : s.heap.IsList l items) (hi : StrsAre items.toList xs) (few : xs.length < scanBound)
    (fin : ∀ (h' : Heap) (tk : Nat), SetTx w h' s.heap.objs.size (firsts [] xs) → (∀ b o, b < s.heap.objs.size → s.heap.get? b = some o → h'.get? b = some o) → Q (.ref s.heap.objs.size) { s with heap := h', toks := tk }) : wpAny (model P w) A (call (.type "set") [.ref l]) Q E s := by
  refine set_made (Z := fun s2 => ∃ h' tk, s2 = { s with heap := h', toks := tk } ∧ SetTx w h' s.heap.objs.size (firsts [] xs) ∧ ∀ b o, b < s.heap.objs.size → s.heap.get? b = some o → h'.get? b = some o) ?_ fun s2 ⟨h', tk, e, a, b⟩ => by rw [e]; exact fin h' tk a b
  have at_ : (s.heap.push (blankSet w)).get? s.heap.objs.size = some (blankSet w) := Heap.get?_push_size _ rfl
  have ty : Shared.TypeIs { s with heap := s.heap.push (blankSet w) } (.ref s.heap.objs.size) "set" := ⟨_, at_, rfl⟩
  have hl1 : (s.heap.push (blankSet w)).IsList l items := hl.push _
  have size : (s.heap.push (blankSet w)).objs.size = s.heap.objs.size + 1 := Heap.size_push ..
  obtain ⟨ol, hol, hcl, nl, hdl⟩ := hl
  have lt := Heap.lt_size hol
  obtain ⟨ocls, odict, odata, oslots⟩ := ol
  simp only at hcl hdl
  subst hcl
  subst hdl
  have hol' : (s.heap.push (blankSet w)).get? l = some { cls := .type "list", dict := odict, data := .seq items nl, slots := oslots } := Heap.get?_push_of_some _ hol
  have g1 := F.sub_list_set
  have g2 := F.sub_list_frozenset
  have g3 : (Value.type "list" == Value.type "dict") = false := by decide
  refine codeAny_call_builtin F.called_set.init.plain F.entry_set_init (check_set_init_1 ty ?_)
  unfold Builtin.«set.__init__» noKeywords Builtin.Frozenset.updateFrom
  generalize iter : pyIter = it0
  wp_walk
  subst iter
  refine wpAny_pyIter_list hl1 <| wpAny_bind <| wpAny_runValue ?_
  have n1 : l ≠ (s.heap.push (blankSet w)).objs.size := by
    rw [Heap.size_push]
    exact Nat.ne_of_lt (Nat.lt_succ_of_lt lt)
  have n2 : s.heap.objs.size ∉ [(s.heap.push (blankSet w)).objs.size, l] := by
    rw [Heap.size_push]
    simp only [List.mem_cons, List.not_mem_nil, or_false, not_or]
    exact ⟨Nat.ne_of_lt (Nat.lt_succ_self _), Nat.ne_of_gt lt⟩
  have sz : xs.length = items.size := by rw [← StrsAre.len_eq hi, Array.length_toList]
  refine update_tx ((Walks.list (by simp [hh]) _ l n1 items).toS) s.heap.objs.size n2 xs sz (fun i v hv => SS.strs_at hi i v (by rw [Array.getElem?_toList]; exact hv)) (items.size - 0) 0 _ [] (by omega) (Nat.zero_le _) ⟨⟨_, Heap.get?_push_size _ rfl, rfl, rfl⟩, hl1.push _⟩ ?_ (by rw [← sz]; simpa using few) fun s' hm r => ?_
  · exact (tx_fresh (h := s.heap) w).mv fun o e => Heap.get?_push_of_some _ e
  · obtain ⟨h', g', d', tk', os'⟩ := s'
    obtain rfl : g' = s.gens := hm.gens
    obtain rfl : d' = s.drawn := hm.drawn
    obtain rfl : os' = s.os := hm.os
    show wpAny _ _ _ _ _ _
    refine wpAny_pure ?_
    show wpAny _ _ (ret Value.none) _ _ _
    refine wpAny_pure ⟨rfl, h', tk', rfl, r, fun b o hb e => hm.heap b o ?_ (Heap.get?_push_of_some _ (Heap.get?_push_of_some _ e))⟩
    rw [Heap.size_push]
    simp only [List.mem_cons, List.not_mem_nil, or_false, not_or]
    exact ⟨Nat.ne_of_lt hb, Nat.ne_of_lt (Nat.lt_succ_of_lt hb)⟩
theorem set_tuple {l : Addr} {items : Array Value} {xs : List Str} {Q : Value → Shared → Prop} (hh : A.handled = none) (hl : s.heap.IsTuple l items) (hi : StrsAre items.toList xs) (few : xs.length < scanBound)
    (fin : ∀ (h' : Heap) (tk : Nat), SetTx w h' s.heap.objs.size (firsts [] xs) → (∀ b o, b < s.heap.objs.size → s.heap.get? b = some o → h'.get? b = some o) → Q (.ref s.heap.objs.size) { s with heap := h', toks := tk }) : wpAny (model P w) A (call (.type "set") [.ref l]) Q E s := by
  refine set_made (Z := fun s2 => ∃ h' tk, s2 = { s with heap := h', toks := tk } ∧ SetTx w h' s.heap.objs.size (firsts [] xs) ∧ ∀ b o, b < s.heap.objs.size → s.heap.get? b = some o → h'.get? b = some o) ?_ fun s2 ⟨h', tk, e, a, b⟩ => by rw [e]; exact fin h' tk a b
  have at_ : (s.heap.push (blankSet w)).get? s.heap.objs.size = some (blankSet w) := Heap.get?_push_size _ rfl
  have ty : Shared.TypeIs { s with heap := s.heap.push (blankSet w) } (.ref s.heap.objs.size) "set" := ⟨_, at_, rfl⟩
  have hl1 : (s.heap.push (blankSet w)).IsTuple l items := hl.push _
  have size : (s.heap.push (blankSet w)).objs.size = s.heap.objs.size + 1 := Heap.size_push ..
  obtain ⟨ol, hol, hcl, nl, hdl⟩ := hl
  have lt := Heap.lt_size hol
  obtain ⟨ocls, odict, odata, oslots⟩ := ol
  simp only at hcl hdl
  subst hcl
  subst hdl
  have hol' : (s.heap.push (blankSet w)).get? l = some { cls := .type "tuple", dict := odict, data := .seq items nl, slots := oslots } := Heap.get?_push_of_some _ hol
  have g1 := F.sub_tuple_set
  have g2 := F.sub_tuple_frozenset
  have g3 : (Value.type "tuple" == Value.type "dict") = false := by decide
  refine codeAny_call_builtin F.called_set.init.plain F.entry_set_init (check_set_init_1 ty ?_)
  unfold Builtin.«set.__init__» noKeywords Builtin.Frozenset.updateFrom
  generalize iter : pyIter = it0
  wp_walk
  subst iter
  refine wpAny_pyIter_tuple hl1 <| wpAny_bind <| wpAny_runValue ?_
  have n1 : l ≠ (s.heap.push (blankSet w)).objs.size := by
    rw [Heap.size_push]
    exact Nat.ne_of_lt (Nat.lt_succ_of_lt lt)
  have n2 : s.heap.objs.size ∉ [(s.heap.push (blankSet w)).objs.size, l] := by
    rw [Heap.size_push]
    simp only [List.mem_cons, List.not_mem_nil, or_false, not_or]
    exact ⟨Nat.ne_of_lt (Nat.lt_succ_self _), Nat.ne_of_gt lt⟩
  have sz : xs.length = items.size := by rw [← StrsAre.len_eq hi, Array.length_toList]
  refine update_tx ((Walks.tuple (by simp [hh]) _ l n1 items).toS) s.heap.objs.size n2 xs sz (fun i v hv => SS.strs_at hi i v (by rw [Array.getElem?_toList]; exact hv)) (items.size - 0) 0 _ [] (by omega) (Nat.zero_le _) ⟨⟨_, Heap.get?_push_size _ rfl, rfl, rfl⟩, hl1.push _⟩ ?_ (by rw [← sz]; simpa using few) fun s' hm r => ?_
  · exact (tx_fresh (h := s.heap) w).mv fun o e => Heap.get?_push_of_some _ e
  · obtain ⟨h', g', d', tk', os'⟩ := s'
    obtain rfl : g' = s.gens := hm.gens
    obtain rfl : d' = s.drawn := hm.drawn
    obtain rfl : os' = s.os := hm.os
    show wpAny _ _ _ _ _ _
    refine wpAny_pure ?_
    show wpAny _ _ (ret Value.none) _ _ _
    refine wpAny_pure ⟨rfl, h', tk', rfl, r, fun b o hb e => hm.heap b o ?_ (Heap.get?_push_of_some _ (Heap.get?_push_of_some _ e))⟩
    rw [Heap.size_push]
    simp only [List.mem_cons, List.not_mem_nil, or_false, not_or]
    exact ⟨Nat.ne_of_lt hb, Nat.ne_of_lt (Nat.lt_succ_of_lt hb)⟩
end
section
variable {X : Cx}
/-- set(xs), xs a list or a tuple of texts -/
def rSetX (K : PySem.W.Frag) (w : World) : List V → Hp → VK → Prop := fun vs H Q => ∃ (l : Addr) (xs : List Str), vs = [V.ref l] ∧ (SqL K H l (xs.map V.str) ∨ SqT K H l (xs.map V.str)) ∧ xs.length < scanBound ∧ ∀ p, H p = none → Q (.ref p) (upd H p (SetTO w p (firsts [] xs)))
theorem cr_setX (hc : X.calm = true) : CallR X (.type "set") (rSetX X.K X.w) := by
  intro pins s σ H vs us Q I r h
  obtain ⟨l, xs, rfl, hq, few, q⟩ := h
  rw [Vals.ref1 r]
  have hn : H s.heap.objs.size = none := I.hok.fresh (Nat.le_refl _)
  have fin : ∀ (h' : Heap) (tk : Nat), SetTx X.w h' s.heap.objs.size (firsts [] xs) → (∀ b o, b < s.heap.objs.size → s.heap.get? b = some o → h'.get? b = some o) → EP X pins σ Q (.ref s.heap.objs.size) { s with heap := h', toks := tk } := fun h' tk R k =>
    ⟨.ref s.heap.objs.size, upd H s.heap.objs.size (SetTO X.w s.heap.objs.size (firsts [] xs)), I.laid (t' := tk) (fun b o e => k b o (Heap.lt_size e) e) (Nat.le_refl _) (txo_new R), rfl, q _ hn⟩
  rcases hq with hq | hq
  · obtain ⟨its, rv, pl, hz⟩ := I.list hq
    exact set_list (I.ok.hd hc) pl.isList (by simpa using rv.strs) few fin
  · obtain ⟨its, rv, pl, hz⟩ := I.tuple hq
    exact set_tuple (I.ok.hd hc) pl (by simpa using rv.strs) few fin
/-- len of a set of texts -/
def rLenX (w : World) : List V → Hp → VK → Prop := fun vs H Q => ∃ (a : Addr) (L : List Str), vs = [V.ref a] ∧ H a = some (SetTO w a L) ∧ Q (.int L.length) H
theorem cr_lenX : CallR X (.builtin "len") (rLenX X.w) := by
  intro pins s σ H vs us Q I r h
  obtain ⟨a, L, rfl, ha, q⟩ := h
  rw [Vals.ref1 r]
  obtain ⟨o, es, ep, t, ho, hex, hd, T⟩ := txo_get I ha
  have hf : (es.size : Int) < 2 ^ 63 := by
    have h1 := T.bound
    have h2 : scanBound < 2 ^ 62 := by decide
    omega
  refine call_len_set ho hex hd T.fit hf ⟨.int L.length, H, I.tok _, ⟨_, by rw [T.size]⟩, q⟩
end
end OM

namespace OM
open PySem PySem.Spec PyProof.Rows L2
/-- found.extend(t), t a tuple -/
def rExtT (K : PySem.W.Frag) : V → List V → Hp → VK → Prop := fun x vs H Q => ∃ (l b : Addr) (xs zs : List V), x = .ref l ∧ vs = [.ref b] ∧ H l = some (.lst xs) ∧ SqT K H b zs ∧ xs.length + zs.length ≤ sizeLine ∧ Q .non (upd H l (.lst (xs ++ zs)))
theorem mt_extT {X : Cx} : MtM X "list.extend" (rExtT X.K) := by
  intro pins s σ H x vs v us Q I rx rv h
  obtain ⟨l, b, xs, zs, rfl, rfl, hH, hB, hz, q⟩ := h
  cases rx
  obtain ⟨u, rfl, ru⟩ := rv.one
  cases ru
  obtain ⟨z, its, n, r, hl, e⟩ := I.lstM hH
  obtain ⟨its2, r2, ⟨o, ho, hc, n2, hd⟩, z2⟩ := I.tuple hB
  have l1 := r.length
  have l2 := r2.length
  refine wpAny_call_entry F.slot_list_extend ⟨_, e, rfl⟩ F.entry_list_extend ?_ (F.args_list_extend_2 _ _)
  show wpAny _ _ (Builtin.List.listExtendWith (.ref l) (.ref b) .none) _ _ _
  unfold Builtin.List.listExtendWith
  refine wpAny_bind (wpAny_typeOf ⟨o, ho, hc⟩ ?_)
  have t1 : (Builtin.List.listSameRef (.ref l) (.ref b) || Value.type "tuple" == Value.type "list" || Value.type "tuple" == Value.type "tuple") = true := by simp
  simp only [t1, if_true]
  refine wpAny_bind ?_
  unfold Builtin.List.listItems
  refine wpAny_bind (wpAny_seqItems ho hd (wpAny_pure ?_))
  refine wpAny_bind ?_
  refine wpAny_bind (wpAny_seqItems e rfl (wpAny_pure ?_))
  have long : (!its.toArray.isEmpty && Builtin.List.listTooLong (its.toArray.size + its2.toArray.size)) = false := by
    rw [notLongL (by rw [List.size_toArray, List.size_toArray]; omega), Bool.and_false]
  simp only [long, Bool.false_eq_true, if_false]
  show wpAny _ _ (updateSeq l (· ++ its2.toArray) >>= fun _ => ret Value.none) _ _ _
  refine wpAny_bind (wpAny_updateSeq e rfl (wpAny_pure ⟨_, rfl, .non, _, I.lset (its' := its ++ its2) hH e (by simp) (r.append r2) ?_, rfl, q⟩))
  rw [List.length_append]
  omega
theorem maxOf_spec : ∀ (ys : List Int) (y : Int), PySem.W.maxOf y ys ∈ y :: ys ∧ ∀ z ∈ y :: ys, z ≤ PySem.W.maxOf y ys
  | [], y => ⟨List.mem_cons_self, fun z h => by
      rw [List.mem_singleton.mp h]
      exact Int.le_refl _⟩
  | a :: r, y => by
    obtain ⟨h1, h2⟩ := maxOf_spec r (if decide (y < a) = true then a else y)
    have e : PySem.W.maxOf y (a :: r) = PySem.W.maxOf (if decide (y < a) = true then a else y) r := rfl
    rw [e]
    have h3 := h2 _ List.mem_cons_self
    constructor
    · rcases List.mem_cons.mp h1 with z | z
      · rw [z]
        split
        · exact List.mem_cons_of_mem _ List.mem_cons_self
        · exact List.mem_cons_self
      · exact List.mem_cons_of_mem _ (List.mem_cons_of_mem _ z)
    · intro z hz
      have ya : y ≤ (if decide (y < a) = true then a else y) ∧ a ≤ (if decide (y < a) = true then a else y) := by
        split
        · rename_i h
          have := of_decide_eq_true h
          omega
        · rename_i h
          have : ¬ y < a := fun z => h (decide_eq_true z)
          omega
      rcases List.mem_cons.mp hz with q | q
      · rw [q]
        omega
      · rcases List.mem_cons.mp q with q | q
        · rw [q]
          omega
        · exact h2 z (List.mem_cons_of_mem _ q)
theorem hold_ints {h : Heap} : ∀ {vs : List Value} {ns : List Int}, IntsAre vs ns → PySem.W.HoldAll h vs ns
  | _, _, .nil => PySem.W.HoldAll.nil
  | _, _, .cons n t r => PySem.W.HoldAll.cons ⟨_, .int _ _⟩ (hold_ints r)
/-- max(xs, default=d), ints -/
def rMaxDef (K : PySem.W.Frag) : List V → List V → Hp → VK → Prop := fun vs zs H Q => ∃ (a : Addr) (ns : List Int) (d : Int), vs = [.ref a] ∧ zs = [.int d] ∧ SqL K H a (ns.map V.int) ∧ (ns = [] → Q (.int d) H) ∧ ∀ m, m ∈ ns → (∀ y ∈ ns, y ≤ m) → Q (.int m) H
theorem cr_maxDef {X : Cx} (hc : X.calm = true) (hu : X.A.units + 1 < cLine) : CallRK X (.builtin "max") ["default"] (rMaxDef X.K) := by
  intro pins s σ H xs zs us ws Q I rx rz h
  obtain ⟨a, ns, d, rfl, rfl, hs, q0, q1⟩ := h
  obtain ⟨u, rfl, ru⟩ := rz.one
  obtain ⟨tk, rfl⟩ := ru
  rw [Vals.ref1 rx]
  obtain ⟨its, r, pl, _⟩ := I.list hs
  have hi : IntsAre its ns := by simpa using r.ints
  refine PySem.W.max_list_datum_default (α := Int) (xs := ns) (I.ok.hd hc) pl.isList (by simpa using hold_ints hi) hu (fun e h' tk k => ⟨.int d, H, I.kept k, ⟨_, rfl⟩, q0 e⟩) fun y ys i v h' tk e hv hh k => ?_
  subst e
  obtain ⟨m1, m2⟩ := maxOf_spec ys y
  obtain ⟨as, hr⟩ := hh
  refine ⟨.int (PySem.W.maxOf y ys), H, I.kept k, ?_, q1 _ m1 m2⟩
  have hr : Reads h' v (.int (PySem.W.maxOf y ys)) as := hr
  cases hr
  exact ⟨_, rfl⟩
/-! ### statements, one behind the other -/
def inner2 : PyData → List (List PyData)
  | .tuple [.str w, _, _, .tuple ys, .tuple ns] => if w = "if" then [ys, ns] else []
  | _ => []
/-- a statement and those in it -/
def flatS : Nat → PyData → List PyData
  | 0, d => [d]
  | n + 1, d => d :: (inner2 d).flatMap fun c => c.flatMap (flatS n)
def flatN (n : Nat) (ds : List PyData) : List PyData := ds.flatMap (flatS n)
/-- what code at depth n holds of a row -/
theorem rowD_shape {cd : PyData → Bool} {d : PyData} (h : rowD cd d = true) : ∃ (w : Str) (rest : List PyData) (rs : List Str), d = .tuple (.str w :: rest) ∧ formOf w = some rs ∧ rest.length = rs.length ∧ (List.zipWith (fitD cd) rest rs).all id = true := by
  unfold rowD at h
  split at h
  · rename_i w rest
    split at h
    · rename_i rs e
      obtain ⟨h1, h2⟩ := Bool.and_eq_true_iff.mp h
      exact ⟨w, rest, rs, rfl, e, of_decide_eq_true h1, h2⟩
    · cases h
  · cases h
theorem code_tup {n : Nat} {d : PyData} (h : codeD n d = true) : ∃ ds, d = .tuple ds ∧ ds.all (rowD (cdOf n)) = true := by
  cases d with
  | tuple ds => exact ⟨ds, rfl, by rw [← codeD_tup]; exact h⟩
  | _ => cases n <;> cases h
theorem cdOf_tup {n : Nat} {d : PyData} (h : cdOf n d = true) : ∃ m ds, n = m + 1 ∧ d = .tuple ds ∧ ds.all (rowD (cdOf m)) = true := by
  cases n with
  | zero => cases h
  | succ m =>
    obtain ⟨ds, e, q⟩ := code_tup (n := m) h
    exact ⟨m, ds, rfl, e, q⟩
/-- an if: five parts, two of them code; else no inner code -/
theorem row_iff {n : Nat} {d : PyData} (h : rowD (cdOf n) d = true) : (∃ m p r ys ns, n = m + 1 ∧ d = .tuple [.str "if", p, r, .tuple ys, .tuple ns] ∧ ys.all (rowD (cdOf m)) = true ∧ ns.all (rowD (cdOf m)) = true ∧ isNameD p = true ∧ isNameD r = true) ∨ (∃ w rest, d = .tuple (.str w :: rest) ∧ w ≠ "if" ∧ inner2 d = []) := by
  obtain ⟨w, rest, rs, rfl, e, l, z⟩ := rowD_shape h
  by_cases hw : w = "if"
  · subst hw
    have e4 : formOf "if" = some (["test", "register", "code", "code"] : List Str) := by decide +kernel
    rw [e4] at e
    obtain rfl := (Option.some.inj e).symm
    match rest, l with
    | [p, r, y, x], _ =>
      rw [row_if] at h
      simp only [Bool.and_eq_true, and_true] at h
      obtain ⟨h1, h2, h3, h4⟩ := h
      obtain ⟨m, ys, e1, rfl, q1⟩ := cdOf_tup h3
      obtain ⟨m', ns, e2, rfl, q2⟩ := cdOf_tup h4
      obtain rfl : m = m' := by omega
      exact .inl ⟨m, p, r, ys, ns, e1, rfl, q1, q2, h1, h2⟩
  · refine .inr ⟨w, rest, rfl, hw, ?_⟩
    unfold inner2
    split
    · rename_i w' _ _ _ _ e'
      have : w = w' := by
        injection e' with e'
        injection e' with e' _
        injection e'
      subst this
      exact if_neg hw
    · rfl
end OM

namespace OM
open PySem PySem.Spec PyProof.Rows L2
abbrev sFlat : Stmt := top 36
abbrev sCin : Stmt := top 37
/-- a row as objects: its word first -/
theorem Dt.row {S : Addr → Prop} {H : Hp} {v : V} {w : Str} {rest : List PyData} (h : Dt S H v (.tuple (.str w :: rest))) : ∃ a xr, v = .ref a ∧ H a = some (.tup (.str w :: xr)) ∧ xr.length + 1 ≤ 1000 ∧ DtAll S H xr rest := by
  obtain ⟨a, xs, rfl, ea, hl, hx⟩ := h.tup_of
  cases hx with
  | @cons x0 _ xr _ h0 hr =>
    obtain rfl : x0 = .str w := by
      cases h0 with
      | «at» a => cases a <;> rfl
    exact ⟨a, xr, rfl, ea, hl, hr⟩
def spCin : Sp := fun vs H Q _ => ∃ (S : Addr → Prop) (v : V) (d : PyData) (n : Nat), vs = [v] ∧ Dt S H v d ∧ rowD (cdOf n) d = true ∧ ∀ H' p xs, Same H H' → H p = none → H' p = some (.tup xs) → DtAll S H' xs ((inner2 d).map PyData.tuple) → Q (.ref p) H'
def spFlatAt : Nat → Sp
  | 0 => fun _ _ _ _ => False
  | n + 1 => fun vs H Q _ => ∃ (S : Addr → Prop) (v : V) (ds : List PyData), vs = [v] ∧ Dt S H v (.tuple ds) ∧ ds.all (rowD (cdOf n)) = true ∧ (flatN n ds).length ≤ 500 ∧ ∀ H' p xs, Same H H' → H p = none → H' p = some (.lst xs) → DtAll S H' xs (flatN n ds) → Q (.ref p) H'
theorem cut53 {a b c d e : V} : cutV [a, b, c, d, e] (some 3) none = [d, e] := rfl
theorem DtAll.app {S : Addr → Prop} {H : Hp} : ∀ {xs ys : List V} {ds es : List PyData}, DtAll S H xs ds → DtAll S H ys es → DtAll S H (xs ++ ys) (ds ++ es)
  | _, _, _, _, .nil, k => k
  | _, _, _, _, .cons h r, k => .cons h (DtAll.app r k)
/-- objects of H stay, whatever comes beside them -/
theorem DtAll.base {S : Addr → Prop} {H H1 H2 : Hp} (live : ∀ a, S a → H a ≠ none) (s1 : Same H H1) (s2 : Same H H2) {xs : List V} {ds : List PyData} (h : DtAll S H1 xs ds) : DtAll S H2 xs ds := by
  refine h.mv (fun _ z => z) fun a o s e => ?_
  cases y : H a with
  | none => exact absurd y (live a s)
  | some u =>
    have := s1 a u y
    rw [e] at this
    obtain rfl := (Option.some.inj this).symm
    exact s2 a _ y
theorem Dt.base {S : Addr → Prop} {H H1 H2 : Hp} (live : ∀ a, S a → H a ≠ none) (s1 : Same H H1) (s2 : Same H H2) {x : V} {d : PyData} (h : Dt S H1 x d) : Dt S H2 x d := by
  cases DtAll.base live s1 s2 (.cons h .nil) with
  | cons h _ => exact h
theorem Dt.live {S : Addr → Prop} {H : Hp} {x : V} {d : PyData} (h : Dt S H x d) : Dt (fun a => S a ∧ H a ≠ none) H x d := h.strong fun a o s e => ⟨⟨s, by rw [e]; exact fun z => nomatch z⟩, e⟩
theorem flat_take {n i : Nat} {d : PyData} {ds : List PyData} (h : ds[i]? = some d) : flatN n (ds.take (i + 1)) = flatN n (ds.take i) ++ flatS n d := by
  unfold flatN
  rw [List.take_add_one, h, List.flatMap_append]
  simp
theorem flat_le {n i : Nat} {ds : List PyData} : (flatN n (ds.take i)).length ≤ (flatN n ds).length := by
  unfold flatN
  conv => rhs; rw [← List.take_append_drop i ds, List.flatMap_append, List.length_append]
  exact Nat.le_add_right _ _
theorem part_le {α β : Type} {f : α → List β} {l : List α} {x : α} (h : x ∈ l) : (f x).length ≤ (l.flatMap f).length := by
  obtain ⟨s, t, rfl⟩ := List.append_of_mem h
  rw [List.flatMap_append, List.flatMap_cons, List.length_append, List.length_append]
  omega
theorem row_in {n : Nat} {d : PyData} {cd : List PyData} (row : rowD (cdOf n) d = true) (h : cd ∈ inner2 d) : ∃ m, n = m + 1 ∧ cd.all (rowD (cdOf m)) = true ∧ flatS n d = d :: (inner2 d).flatMap (flatN m) := by
  rcases row_iff row with ⟨m, p, r, ys, ns, rfl, rfl, hy, hn, _, _⟩ | ⟨_, _, _, _, e⟩
  · refine ⟨m, rfl, ?_, rfl⟩
    have e : inner2 (.tuple [.str "if", p, r, .tuple ys, .tuple ns]) = [ys, ns] := rfl
    rw [e] at h
    rcases List.mem_cons.mp h with z | z
    · rw [z]; exact hy
    · rw [List.mem_singleton.mp z]; exact hn
  · rw [e] at h
    cases h
theorem flatS_row {n : Nat} {d : PyData} (row : rowD (cdOf n) d = true) : flatS n d = d :: (inner2 d).flatMap (flatN (n - 1)) := by
  cases n with
  | succ m => rfl
  | zero =>
    rcases row_iff row with ⟨m, _, _, _, _, e, _⟩ | ⟨_, _, _, _, e⟩
    · cases e
    · rw [e]
      rfl
section
variable {P : Program} {w : World} {K : PySem.W.Frag} {mg : Str → Option Value} {base : Heap} {f fC : Addr} {fd dC : FuncData}
theorem scCin : FnScope ["statement"] ["statement"] (defScope sCin) := ⟨rfl, rfl, rfl, by decide +kernel, rfl, by decide +kernel, by decide +kernel⟩
theorem ok_cin (F : Fun K "codes_in" "codes_in" sCin f fd) : FnOk P w K mg base CX0 1 f fd ["statement"] spCin := by
  refine F.ok scCin (fun vs H Q E h => ?_) (fun cdv A outer s H vs Q E hr h => ?_)
  · obtain ⟨S, v, d, n, rfl, _⟩ := h
    rfl
  · obtain ⟨S, v, d, n, rfl, hd, row, q⟩ := h
    refine ⟨_, pss_one (ps_ret (pe_ifExp (pt_cmpR op_eq (pe_ix ix_tup (pv 0) pe_int (fun _ _ => rfl)) pe_str (nomark _)) (pe_slice sl_tupA (pv 0) (po_some pe_int) po_none) (pe_tup pa_nil))), ?_⟩
    rcases row_iff row with ⟨m, p, r, ys, ns, _, rfl, hy, hn, _, _⟩ | ⟨wd, rest, rfl, ne, e0⟩
    · obtain ⟨a, xr, rfl, ea, hl, hx⟩ := hd.row
      refine ⟨_, rfl, a, _, 0, _, rfl, rfl, SqT.of ea, at0, rfl, _, rfl, iteT ?_⟩
      cases hx with
      | @cons x1 _ _ _ h1 hx =>
        cases hx with
        | @cons x2 _ _ _ h2 hx =>
          cases hx with
          | @cons x3 _ _ _ h3 hx =>
            cases hx with
            | @cons x4 _ _ _ h4 hx =>
              cases hx
              refine ⟨_, rfl, 3, rfl, a, _, rfl, SqT.of ea, fun hw => absurd hw.1 (by show ¬ (HT.sIx 5 0 (some 3) = 0); decide), fun _ pc hpc => ?_⟩
              rw [cut53]
              have s := same_upd (o := .tup [x3, x4]) hpc
              refine q _ pc _ s hpc upd_same ?_
              exact .cons (h3.mv (fun _ z => z) fun b o _ e => s b o e) (.cons (h4.mv (fun _ z => z) fun b o _ e => s b o e) .nil)
    · obtain ⟨a, xr, rfl, ea, hl, hx⟩ := hd.row
      refine ⟨_, rfl, a, _, 0, _, rfl, rfl, SqT.of ea, at0, rfl, _, rfl, ?_⟩
      have hne : decide (V.str wd = V.str "if") = false := decide_eq_false fun z => ne (V.str.inj z)
      rw [hne]
      refine iteF ⟨(by show 0 ≤ sizeLine; decide), fun p hp => q _ p [] (same_upd hp) hp upd_same ?_⟩
      rw [e0]
      exact .nil
theorem scFl : FnScope ["code", "found", "statement", "inner"] ["code"] (defScope sFlat) := ⟨rfl, rfl, rfl, by decide +kernel, rfl, by decide +kernel, by decide +kernel⟩
theorem flat_step {n : Nat} (F : Fun K "flattened" "flattened" sFlat f fd) (gF : mg "flattened" = some (.ref f)) (bF : Binds K fd ["code"] []) (G : FnOk P w K mg base CX0 (n + 1) f fd ["code"] (spFlatAt n))
    (FC : Fun K "codes_in" "codes_in" sCin fC dC) (gC : mg "codes_in" = some (.ref fC)) (bC : Binds K dC ["statement"] []) : FnOk P w K mg base CX0 (n + 2) f fd ["code"] (spFlatAt (n + 1)) := by
  have GC : FnOk P w K mg base CX0 1 fC dC ["statement"] spCin := ok_cin FC
  refine F.ok scFl (fun vs H Q E h => ?_) (fun cdv A outer s H vs Q E hr h => ?_)
  · obtain ⟨S, v, ds, rfl, _⟩ := h
    rfl
  · obtain ⟨S, v, ds, rfl, hd, rows, size, q⟩ := h
    refine ⟨_, pss_cons (ps_set (i := 1) scFl.nd rfl (Or.inl rfl) (pe_lst pa_nil))
      (pss_cons (ps_for PassesOwn.never rfl (pi_tup (pv 0)) (pg_name (i := 2) scFl.nd rfl (Or.inl rfl))
        (pss_cons (ps_expr (pe_bm PySem.F.plainAttrs_list PySem.F.slot_list_append PySem.F.type_list_append mt_append (pv 1) (pa_cons (pv 2) pa_nil)))
        (pss_one (ps_for PassesOwn.never rfl (pi_tup (pe_call GC (hr.mono (by omega)) (by rfl) gC FC.kp bC .nil pass0 (pa_cons (pv 2) pa_nil))) (pg_name (i := 3) scFl.nd rfl (Or.inl rfl))
          (pss_one (ps_expr (pe_bm PySem.F.plainAttrs_list PySem.F.slot_list_extend PySem.F.type_list_extend mt_extend (pv 1) (pa_cons (pe_call G hr (by rfl) gF F.kp bF .nil pass0 (pa_cons (pv 3) pa_nil)) pa_nil))))))))
      (pss_one (ps_ret (pv 1)))), ?_⟩
    obtain ⟨a, xs, rfl, ea, hl, hx⟩ := hd.live.tup_of
    refine ⟨(by show 0 ≤ sizeLine; decide), fun p hp => ?_⟩
    have s0 := same_upd (o := .lst []) hp
    have live : ∀ b, (S b ∧ H b ≠ none) → H b ≠ none := fun b z => z.2
    refine ⟨_, rfl, a, rfl, ⟨xs, SqT.of (s0 _ _ ea)⟩, for_tup (fun i σ H' => (∃ x2 x3, σ = [some (.ref a), some (.ref p), x2, x3]) ∧ Same H H' ∧ ∃ acc, H' p = some (.lst acc) ∧ DtAll (fun b => S b ∧ H b ≠ none) H' acc (flatN n (ds.take i)))
      ⟨⟨_, _, rfl⟩, s0, [], upd_same, .nil⟩ (fun i σ H' _ h => SqT.of (h.2.1 _ _ ea)) (fun i x σ H' hi h => ?_) (fun σ H' h => ?_)⟩
    · obtain ⟨⟨x2, x3, rfl⟩, s1, acc, ep, da⟩ := h
      obtain ⟨d, hdi, hdt⟩ := hx.get hi
      have row : rowD (cdOf n) d = true := List.all_eq_true.mp rows d (List.mem_of_getElem? hdi)
      have la := da.length
      have le1 : (flatN n (ds.take (i + 1))).length ≤ 500 := Nat.le_trans flat_le size
      rw [flat_take hdi, List.length_append] at le1
      have line : (1000 : Nat) < sizeLine := by decide
      refine ⟨_, rfl, .inl ⟨rfl, acc, SqL.of ep⟩, _, rfl, p, acc, x, rfl, rfl, ep, by omega, ?_⟩
      have s2 : Same H (upd H' p (.lst (acc ++ [x]))) := same_put hp s1
      refine ⟨_, rfl, _, x, d, n, rfl, hdt.base live (Same.refl H) s2, row, fun H3 pc cs s3 hpc epc dc => ⟨pc, rfl, ⟨cs, SqT.of epc⟩, ?_⟩⟩
      have s13 : Same H H3 := s2.trans s3
      have ep3 := s3 _ _ (upd_same (H := H') (a := p))
      rw [flatS_row row, List.length_cons] at le1
      refine for_tup (fun j σ' H4 => (∃ y3, σ' = [some (.ref a), some (.ref p), some x, y3]) ∧ Same H H4 ∧ H4 pc = some (.tup cs) ∧ ∃ acc, H4 p = some (.lst acc) ∧ DtAll (fun b => S b ∧ H b ≠ none) H4 acc (flatN n (ds.take i) ++ d :: ((inner2 d).take j).flatMap (flatN (n - 1))))
        ⟨⟨_, rfl⟩, s13, epc, _, ep3, ?_⟩ (fun j σ' H4 _ h => SqT.of h.2.2.1) (fun j c σ' H4 hj h => ?_) (fun σ' H4 h => ?_)
      · have e : flatN n (ds.take i) ++ d :: ((inner2 d).take 0).flatMap (flatN (n - 1)) = flatN n (ds.take i) ++ [d] := rfl
        rw [e]
        exact (da.base live s1 s13).snoc (hdt.base live (Same.refl H) s13)
      · obtain ⟨⟨y3, rfl⟩, s4, epc4, acc4, ep4, da4⟩ := h
        obtain ⟨cdt, hcd, hct⟩ := dc.get hj
        rw [List.getElem?_map] at hcd
        obtain ⟨cd, hc2, rfl⟩ := Option.map_eq_some_iff.mp hcd
        have hin := List.mem_of_getElem? hc2
        obtain ⟨m, rfl, rows', _⟩ := row_in row hin
        have le2 : (flatN m cd).length ≤ ((inner2 d).flatMap (flatN m)).length := part_le hin
        have le3 : ((inner2 d).take (j + 1)).flatMap (flatN m) = ((inner2 d).take j).flatMap (flatN m) ++ flatN m cd := by
          rw [List.take_add_one, hc2, List.flatMap_append]
          simp
        have le4 : (((inner2 d).take (j + 1)).flatMap (flatN m)).length ≤ ((inner2 d).flatMap (flatN m)).length := by
          conv => rhs; rw [← List.take_append_drop (j + 1) (inner2 d), List.flatMap_append, List.length_append]
          exact Nat.le_add_right _ _
        rw [le3, List.length_append] at le4
        have la4 := da4.length
        have m1 : m + 1 - 1 = m := rfl
        rw [m1] at la4 le1
        rw [List.length_append, List.length_cons] at la4
        refine ⟨_, rfl, .inl ⟨rfl, acc4, SqL.of ep4⟩, _, rfl, _, c, cd, rfl, hct.base live s13 s4, rows', by omega, fun H5 p5 xs5 s5 hp5 e5 d5 => ?_⟩
        have s15 := s4.trans s5
        have ep5 := s5 _ _ ep4
        have la5 := d5.length
        refine ⟨p, p5, acc4, xs5, rfl, rfl, ep5, e5, by omega, ⟨_, rfl⟩, same_put hp s15, ?_, acc4 ++ xs5, upd_same, ?_⟩
        · rw [upd_ne (fun z => by rw [z, ep4] at epc4; cases epc4)]
          exact s5 _ _ epc4
        · rw [m1, le3, ← List.cons_append, ← List.append_assoc]
          exact (da4.base live s4 (same_put hp s15)).app (d5.base live s15 (same_put hp s15))
      · obtain ⟨⟨y3, rfl⟩, s4, epc4, acc4, ep4, da4⟩ := h
        refine ⟨⟨_, _, rfl⟩, s4, acc4, ep4, ?_⟩
        have lc := dc.length
        rw [List.length_map] at lc
        rw [flat_take hdi, flatS_row row]
        rw [lc, List.take_length] at da4
        exact da4
    · obtain ⟨⟨x2, x3, rfl⟩, s1, acc, ep, da⟩ := h
      rw [hx.length, List.take_length] at da
      exact ⟨_, rfl, q _ p acc s1 hp ep (da.mv (fun _ z => z.1) fun _ _ _ z => z)⟩
end
end OM

namespace OM
open PySem PySem.Spec PyProof.Rows L2
abbrev sNamesIn : Stmt := top 38
abbrev sNamesOf : Stmt := top 39
def roles4 : List Str := ["cell", "register", "function", "test"]
def strD : PyData → Str
  | .str x => x
  | _ => ""
def strsD : PyData → List Str
  | .tuple ds => ds.map strD
  | _ => []
def nmD (role : Str) (part : PyData) (known : Str) : List Str := if known = role then [strD part] else if known = "registers" ∧ role = "register" then strsD part else []
/-- the names that a statement itself has in a role -/
def namesD (role : Str) : PyData → List Str
  | .tuple (.str w :: rest) => match formOf w with
    | some rs => (List.zipWith (nmD role) rest rs).flatten
    | none => []
  | _ => []
theorem dt_names {S : Addr → Prop} {H : Hp} : ∀ {xs : List V} {ds : List PyData}, DtAll S H xs ds → ds.all isNameD = true → xs = (ds.map strD).map V.str
  | _, _, .nil, _ => rfl
  | _, _, .cons h r, e => by
    rw [List.all_cons, Bool.and_eq_true] at e
    have q := dt_names r e.2
    cases h with
    | «at» a =>
      cases a with
      | str x =>
        rw [q]
        rfl
      | _ => cases e.1
    | _ => cases e.1
/-- for a, b in zip of two tuples -/
theorem for_zipT {K : PySem.W.Frag} {a b : Addr} {xs ys : List V} {g : TG} {tb : TS} {D : Ends} {σ : L2.St} {H : Hp} (hlen : xs.length = ys.length) (Pv : Nat → L2.St → Hp → Prop) (h0 : Pv 0 σ H) (hl : ∀ i σ H, Pv i σ H → SqT K H a xs ∧ SqT K H b ys)
    (hs : ∀ i x y T σ H, xs[i]? = some x → ys[i]? = some y → Pv i σ H → H T = none → g (.ref T) σ (upd H T (.tup [x, y])) fun σ2 H2 => tb { D with nx := Pv (i + 1), ct := Pv (i + 1), bk := D.nx } σ2 H2) (hd : ∀ σ H, Pv xs.length σ H → D.nx σ H) :
    ∃ W : Nat → Nat → L2.St → Hp → Prop, (∃ m, W 0 m σ H) ∧ ∀ i m σ H, W i m σ H → ((RZ.ItzT K a b).stop i H ∧ D.nx σ H) ∨ ((RZ.ItzT K a b).go i H ∧ ∃ N : L2.St → Hp → Prop, (∀ σ' H', N σ' H' → ∃ m', m' < m ∧ W (i + 1) m' σ' H') ∧ ∀ x H', (RZ.ItzT K a b).yld i H x H' → g x σ H' fun σ2 H2 => tb { D with nx := N, ct := N, bk := D.nx } σ2 H2) := by
  refine ⟨fun i m σ H => i ≤ xs.length ∧ m = xs.length - i ∧ Pv i σ H, ⟨_, Nat.zero_le _, rfl, h0⟩, ?_⟩
  rintro i m σ H ⟨hi, rfl, p⟩
  obtain ⟨qx, qy⟩ := hl i σ H p
  rcases Nat.lt_or_ge i xs.length with hlt | hge
  · have hx : xs[i]? = some xs[i] := List.getElem?_eq_getElem hlt
    have hy : ys[i]? = some (ys[i]'(by omega)) := List.getElem?_eq_getElem (by omega)
    refine .inr ⟨⟨xs, ys, _, _, qx, qy, hx, hy⟩, Pv (i + 1), fun σ' H' p' => ⟨xs.length - (i + 1), by omega, hlt, rfl, p'⟩, ?_⟩
    rintro v H' ⟨T, x', y', rfl, hT, rfl, f1, f2⟩
    exact hs i x' y' T σ H (f1 xs qx) (f2 ys qy) p hT
  · obtain rfl : i = xs.length := by omega
    exact .inl ⟨⟨xs, ys, qx, qy, .inl (Nat.le_refl _)⟩, hd σ H p⟩
def spNamesOf : Sp := fun vs H Q _ => ∃ (S : Addr → Prop) (v : V) (d : PyData) (n : Nat) (role : Str), vs = [v, .str role] ∧ role ∈ roles4 ∧ Dt S H v d ∧ rowD (cdOf n) d = true ∧ ∀ H' p, Same H H' → H p = none → H' p = some (.lst ((namesD role d).map V.str)) → (namesD role d).length ≤ 8 → Q (.ref p) H'
theorem role_part {n : Nat} {part : PyData} {known role : Str} (h : fitD (cdOf n) part known = true) (hr : role ∈ roles4) (e : known = role) : isNameD part = true := by
  subst e
  have n1 : known ≠ "code" := fun z => by rw [z] at hr; exact absurd hr (by decide +kernel)
  have n2 : known ≠ "registers" := fun z => by rw [z] at hr; exact absurd hr (by decide +kernel)
  unfold fitD at h
  rw [if_neg n1, if_neg n2] at h
  exact h
theorem role_args {n : Nat} {part : PyData} {known : Str} (h : fitD (cdOf n) part known = true) (e : known = "registers") : argsD part = true := by
  subst e
  unfold fitD at h
  rw [if_neg (by decide +kernel), if_pos rfl] at h
  exact h
theorem nm_few {n : Nat} {part : PyData} {known role : Str} (h : fitD (cdOf n) part known = true) : (nmD role part known).length ≤ 2 := by
  unfold nmD
  split
  · exact Nat.le_succ _
  · split
    · rename_i z
      have q := role_args h z.1
      cases part with
      | tuple ds =>
        have q : (decide (ds.length ≤ 2) && ds.all isNameD) = true := q
        have := of_decide_eq_true (Bool.and_eq_true_iff.mp q).1
        show (ds.map strD).length ≤ 2
        rw [List.length_map]
        exact this
      | _ => cases q
    · exact Nat.zero_le _
theorem flat_few {α : Type} : ∀ {l : List (List α)} {k : Nat}, (∀ x ∈ l, x.length ≤ k) → l.flatten.length ≤ k * l.length
  | [], _, _ => Nat.zero_le _
  | x :: r, k, h => by
    have h1 := h x List.mem_cons_self
    have h2 := flat_few (l := r) fun y hy => h y (List.mem_cons_of_mem _ hy)
    rw [List.flatten_cons, List.length_append, List.length_cons, Nat.mul_succ]
    omega
section
variable {P : Program} {w : World} {K : PySem.W.Frag} {mg : Str → Option Value} {base : Heap} {f fC : Addr} {fd dC : FuncData}
theorem scNO : FnScope ["statement", "role", "found", "part", "known"] ["statement", "role"] (defScope sNamesOf) := ⟨rfl, rfl, rfl, by decide +kernel, rfl, by decide +kernel, by decide +kernel⟩
theorem ok_namesof (F : Fun K "_names_of" "_names_of" sNamesOf f fd) (TF : TxtF K w mg) : FnOk P w K mg base CX0 1 f fd ["statement", "role"] spNamesOf := by
  refine F.ok scNO (fun vs H Q E h => ?_) (fun cdv A outer s H vs Q E hr h => ?_)
  · obtain ⟨S, v, d, n, role, rfl, _⟩ := h
    rfl
  · obtain ⟨S, v, d, n, role, rfl, hrole, hd, row, q⟩ := h
    obtain ⟨fa, es, nn, gM, KD, hno, hyes⟩ := TF.forms
    refine ⟨_, pss_cons (ps_set (i := 2) scNO.nd rfl (Or.inl rfl) (pe_lst pa_nil))
      (pss_cons (ps_for PassesOwn.never rfl (RZ.pi_zipA (by rfl) TF.zip (pa_cons (pe_slice sl_tupA (pv 0) (po_some pe_int) po_none) (pa_cons (pe_ix ix_kdict (pe_glob (v := .ref fa) (by rfl) gM rfl) (pe_ix ix_tup (pv 0) pe_int (fun _ _ => rfl)) (fun _ _ => rfl)) pa_nil)))
          (pg_tup rfl (pgs_cons (pg_name (i := 3) scNO.nd rfl (Or.inl rfl)) (pgs_cons (pg_name (i := 4) scNO.nd rfl (Or.inl rfl)) pgs_nil)))
        (pss_one (ps_if (pt_cmpR op_eq (pv 4) (pv 1) (nomark _)) (pss_one (ps_expr (pe_bm PySem.F.plainAttrs_list PySem.F.slot_list_append PySem.F.type_list_append mt_append (pv 2) (pa_cons (pv 3) pa_nil))))
          (pss_one (ps_if (PW.pt (pw_and (pt_cmpR op_eq (pv 4) pe_str (nomark _)) (pw_and1 (pt_cmpR op_eq (pv 1) pe_str (nomark _))))) (pss_one (ps_expr (pe_bm PySem.F.plainAttrs_list PySem.F.slot_list_extend PySem.F.type_list_extend mt_extT (pv 2) (pa_cons (pv 3) pa_nil)))) pss_nil)))))
      (pss_one (ps_ret (pv 2)))), ?_⟩
    obtain ⟨w0, rest, rs, rfl, hf, hlen, fits⟩ := rowD_shape row
    obtain ⟨a, xr, rfl, ea, hl, hx⟩ := hd.row
    obtain ⟨pf, hnf, hsf⟩ := hyes w0 rs hf
    have eL : namesD role (.tuple (.str w0 :: rest)) = (List.zipWith (nmD role) rest rs).flatten := by
      show (match formOf w0 with | some rs => (List.zipWith (nmD role) rest rs).flatten | none => []) = _
      rw [hf]
    rw [eL] at q
    have xl := hx.length
    have rl := form_len hf
    have each : ∀ {i : Nat} {part : PyData} {r0 : Str}, rest[i]? = some part → rs[i]? = some r0 → fitD (cdOf n) part r0 = true := fun {i part r0} h1 h2 => by
      have e : (List.zipWith (fitD (cdOf n)) rest rs)[i]? = some (fitD (cdOf n) part r0) := by rw [List.getElem?_zipWith, h1, h2]
      exact List.all_eq_true.mp fits _ (List.mem_of_getElem? e)
    have few : (List.zipWith (nmD role) rest rs).flatten.length ≤ 8 := by
      refine Nat.le_trans (flat_few (k := 2) fun x hx => ?_) ?_
      · obtain ⟨i, hi⟩ := List.getElem?_of_mem hx
        rw [List.getElem?_zipWith] at hi
        cases h1 : rest[i]? with
        | none => rw [h1] at hi; cases hi
        | some part =>
          cases h2 : rs[i]? with
          | none => rw [h1, h2] at hi; cases hi
          | some r0 =>
            rw [h1, h2] at hi
            rw [← Option.some.inj hi]
            exact nm_few (each h1 h2)
      · rw [List.length_zipWith]
        omega
    generalize eLL : List.zipWith (nmD role) rest rs = L at q few eL
    refine ⟨(by show 0 ≤ sizeLine; decide), fun p hp => ?_⟩
    have s0 := same_upd (o := .lst []) hp
    refine ⟨_, rfl, 1, rfl, a, _, rfl, SqT.of (s0 _ _ ea), fun hw => absurd hw cut_part, fun _ pc hpc => ?_⟩
    rw [cut_tail]
    have s1 := s0.trans (same_upd (o := .tup xr) hpc)
    have ppc : p ≠ pc := fun z => by
      rw [← z, upd_same] at hpc
      cases hpc
    refine ⟨_, rfl, a, _, 0, _, rfl, rfl, SqT.of (s1 _ _ ea), at0, fa, w0, .ref pf, rfl, rfl, ⟨es, nn, _, KD.at_, KD.lit, hnf, rfl⟩, ?_⟩
    refine ⟨pc, pf, xr, rs.map V.str, rfl, .inr ⟨SqT.of upd_same, hsf _, for_zipT (by rw [List.length_map]; omega) (fun i σ G => (∃ x3 x4, σ = [some (.ref a), some (.str role), some (.ref p), x3, x4]) ∧ Same H G ∧ G pc = some (.tup xr) ∧ G p = some (.lst ((L.take i).flatten.map V.str)))
      ⟨⟨_, _, rfl⟩, s1, upd_same, by rw [upd_ne ppc]; exact upd_same⟩ (fun i σ G h => ⟨SqT.of h.2.2.1, hsf _⟩) (fun i x y T σ G hxi hyi h hT => ?_) (fun σ G h => ?_)⟩⟩
    · obtain ⟨⟨x3, x4, rfl⟩, s2, epc, ep⟩ := h
      obtain ⟨part, hpi, hpt⟩ := hx.get hxi
      rw [List.getElem?_map] at hyi
      obtain ⟨r0, hr0, rfl⟩ := Option.map_eq_some_iff.mp hyi
      have fit := each hpi hr0
      have eLi : L[i]? = some (nmD role part r0) := by rw [← eLL, List.getElem?_zipWith, hpi, hr0]
      have take : (L.take (i + 1)).flatten = (L.take i).flatten ++ nmD role part r0 := by
        rw [List.take_add_one, eLi, List.flatten_append]
        simp
      have sT := same_upd (o := .tup [x, .str r0]) hT
      have s3 := s2.trans sT
      have ep3 := sT _ _ ep
      have epc3 := sT _ _ epc
      have le : (L.take (i + 1)).flatten.length ≤ 8 := by
        refine Nat.le_trans ?_ few
        conv => rhs; rw [← List.take_append_drop (i + 1) L, List.flatten_append, List.length_append]
        exact Nat.le_add_right _ _
      rw [take, List.length_append] at le
      have line : (1000 : Nat) < sizeLine := by decide
      have lm : ((L.take i).flatten.map V.str).length = (L.take i).flatten.length := List.length_map _
      refine ⟨T, _, rfl, SqT.of upd_same, rfl, _, _, rfl, _, _, rfl, rfl, ?_⟩
      refine ⟨_, rfl, _, rfl, rfl, _, rfl, ite2 (fun h1 => ?_) (fun h1 => ?_)⟩
      · have e1 : r0 = role := V.str.inj (of_decide_eq_true h1)
        have nm := role_part fit hrole e1
        cases part with
        | str z =>
          obtain rfl : x = .str z := by
            cases hpt with
            | «at» a => cases a <;> rfl
          refine ⟨_, rfl, .inl ⟨rfl, _, SqL.of ep3⟩, _, rfl, p, _, .str z, rfl, rfl, ep3, by omega, ⟨_, _, rfl⟩, same_put hp s3, by rw [upd_ne (Ne.symm ppc)]; exact epc3, ?_⟩
          rw [upd_same, take, List.map_append]
          have : nmD role (.str z) r0 = [z] := if_pos e1
          rw [this]
          rfl
        | _ => cases nm
      · have n1 : r0 ≠ role := fun z => h1 (decide_eq_true (by rw [z]))
        have stay : nmD role part r0 = [] → (∃ x3' x4', [some (V.ref a), some (.str role), some (.ref p), some x, some (.str r0)] = [some (V.ref a), some (.str role), some (.ref p), x3', x4']) ∧ Same H (upd G T (.tup [x, .str r0])) ∧ (upd G T (.tup [x, .str r0])) pc = some (.tup xr) ∧ (upd G T (.tup [x, .str r0])) p = some (.lst ((L.take (i + 1)).flatten.map V.str)) := fun e => by
          refine ⟨⟨_, _, rfl⟩, s3, epc3, ?_⟩
          rw [take, e, List.append_nil]
          exact ep3
        refine ⟨_, rfl, rfl, _, rfl, ite2 (fun h2 => ?_) (fun h2 => ?_)⟩
        · have e2 : r0 = "registers" := V.str.inj (of_decide_eq_true h2)
          refine ⟨_, rfl, rfl, _, rfl, ite2 (fun h3 => ?_) (fun h3 => ?_)⟩
          · have e3 : role = "register" := V.str.inj (of_decide_eq_true h3)
            have ar := role_args fit e2
            cases part with
            | tuple ds =>
              have ar : (decide (ds.length ≤ 2) && ds.all isNameD) = true := ar
              obtain ⟨b, zs, rfl, eb, bl, hz⟩ := hpt.tup_of
              have ez := dt_names hz (Bool.and_eq_true_iff.mp ar).2
              have em : nmD role (.tuple ds) r0 = ds.map strD := by
                unfold nmD
                rw [if_neg n1, if_pos ⟨e2, e3⟩]
                rfl
              rw [em, List.length_map] at le
              have lz : zs.length = ds.length := hz.length
              refine ⟨_, rfl, .inl ⟨rfl, _, SqL.of ep3⟩, _, rfl, p, b, _, zs, rfl, rfl, ep3, SqT.of (s3 _ _ eb), by omega, ⟨_, _, rfl⟩, same_put hp s3, by rw [upd_ne (Ne.symm ppc)]; exact epc3, ?_⟩
              rw [upd_same, take, List.map_append, em, ez]
            | _ => cases ar
          · exact stay (by
              unfold nmD
              rw [if_neg n1, if_neg fun z => h3 (decide_eq_true (by rw [z.2]))])
        · exact iteF (stay (by
            unfold nmD
            rw [if_neg n1, if_neg fun z => h2 (decide_eq_true (by rw [z.1]))]))
    · obtain ⟨⟨x3, x4, rfl⟩, s2, epc, ep⟩ := h
      have lL : L.length = xr.length := by
        rw [← eLL, List.length_zipWith]
        omega
      rw [← lL, List.take_length] at ep
      exact ⟨_, rfl, q _ p s2 hp ep few⟩
end
end OM

namespace OM
open PySem PySem.Spec PyProof.Rows L2
theorem goes_list {K : PySem.W.Frag} {a : Addr} {xs : List V} {H0 : Hp} {Z : Hp → Prop} {step : V → Hp → (Hp → Prop) → Prop} (Pv : Nat → Hp → Prop) (h0 : Pv 0 H0) (hl : ∀ i H, Pv i H → SqL K H a xs) (hs : ∀ i x H, xs[i]? = some x → Pv i H → step x H (Pv (i + 1))) (hd : ∀ H, Pv xs.length H → Z H) :
    ∃ W : Nat → Nat → Hp → Prop, (∃ m, W 0 m H0) ∧ goes (Itl K a) W Z step := by
  refine ⟨fun i m H => m = xs.length - i ∧ i ≤ xs.length ∧ Pv i H, ⟨_, rfl, Nat.zero_le _, h0⟩, ?_⟩
  rintro i m H ⟨rfl, hi, p⟩
  have q := hl i H p
  rcases Nat.lt_or_ge i xs.length with hlt | hge
  · refine .inr ⟨⟨xs, xs[i], q, by simp [hlt]⟩, Pv (i + 1), fun H' p' => ⟨xs.length - (i + 1), by omega, rfl, hlt, p'⟩, fun x H' y => ?_⟩
    obtain ⟨rfl, y⟩ := y
    exact hs i x _ (y xs q) p
  · obtain rfl : i = xs.length := by omega
    exact .inl ⟨⟨xs, q, Nat.le_refl _⟩, hd H p⟩
theorem pi_listK {X : Cx} {K : PySem.W.Frag} {tg l : Expr} {tl : TE} (hK : X.K = K) (hl : PE X l tl) : PI X tg l (iList K tl) := by
  subst hK
  exact pi_list hl
theorem firsts_snoc (l : List Str) (z : Str) : firsts [] (l ++ [z]) = addX (firsts [] l) z := by
  unfold firsts
  rw [List.foldl_append]
  rfl
theorem flatMap_few {α β : Type} {f : α → List β} {k : Nat} : ∀ {l : List α}, (∀ x ∈ l, (f x).length ≤ k) → (l.flatMap f).length ≤ k * l.length
  | [], _ => Nat.zero_le _
  | x :: r, h => by
    have h1 := h x List.mem_cons_self
    have h2 := flatMap_few (l := r) fun y hy => h y (List.mem_cons_of_mem _ hy)
    rw [List.flatMap_cons, List.length_append, List.length_cons, Nat.mul_succ]
    omega
theorem names_few {n : Nat} {d : PyData} {role : Str} (row : rowD (cdOf n) d = true) : (namesD role d).length ≤ 8 := by
  obtain ⟨w0, rest, rs, rfl, hf, hlen, fits⟩ := rowD_shape row
  have eL : namesD role (.tuple (.str w0 :: rest)) = (List.zipWith (nmD role) rest rs).flatten := by
    show (match formOf w0 with | some rs => (List.zipWith (nmD role) rest rs).flatten | none => []) = _
    rw [hf]
  have rl := form_len hf
  rw [eL]
  refine Nat.le_trans (flat_few (k := 2) fun x hx => ?_) ?_
  · obtain ⟨i, hi⟩ := List.getElem?_of_mem hx
    rw [List.getElem?_zipWith] at hi
    cases h1 : rest[i]? with
    | none => rw [h1] at hi; cases hi
    | some part =>
      cases h2 : rs[i]? with
      | none => rw [h1, h2] at hi; cases hi
      | some r0 =>
        rw [h1, h2] at hi
        rw [← Option.some.inj hi]
        have e : (List.zipWith (fitD (cdOf n)) rest rs)[i]? = some (fitD (cdOf n) part r0) := by rw [List.getElem?_zipWith, h1, h2]
        exact nm_few (n := n) (List.all_eq_true.mp fits _ (List.mem_of_getElem? e))
  · rw [List.length_zipWith]
    omega
structure TxtS (mg : Str → Option Value) : Prop where
  sorted : mg "sorted" = none
  tuple : mg "tuple" = none
  sum : mg "sum" = none
  max : mg "max" = none
  len : mg "len" = none
def spNamesIn : Sp := fun vs H Q _ => ∃ (S : Addr → Prop) (v : V) (ds : List PyData) (role : Str), vs = [v, .str role] ∧ role ∈ roles4 ∧ Dt S H v (.tuple ds) ∧ ds.all (rowD (cdOf 3)) = true ∧ (flatN 3 ds).length ≤ 400 ∧ ∀ H' p ys, Same H H' → H p = none → H' p = some (.tup (ys.map V.str)) → ys.Perm (firsts [] ((flatN 3 ds).flatMap (namesD role))) → sortedS ys = true → Q (.ref p) H'
theorem rows_flatS {n : Nat} : ∀ {d : PyData}, rowD (cdOf n) d = true → ∀ e ∈ flatS n d, ∃ m, rowD (cdOf m) e = true := by
  induction n with
  | zero =>
    intro d row e he
    rw [List.mem_singleton.mp he]
    exact ⟨0, row⟩
  | succ n ih =>
    intro d row e he
    rcases List.mem_cons.mp he with rfl | he
    · exact ⟨n + 1, row⟩
    · obtain ⟨c, hc, he⟩ := List.mem_flatMap.mp he
      obtain ⟨d', hd', he⟩ := List.mem_flatMap.mp he
      obtain ⟨m, em, rows, _⟩ := row_in row hc
      obtain rfl : n = m := by omega
      exact ih (List.all_eq_true.mp rows d' hd') e he
section
variable {P : Program} {w : World} {K : PySem.W.Frag} {mg : Str → Option Value} {base : Heap} {f fC fF fO : Addr} {fd dC dF dO : FuncData}
/-- flattened, codes_in, _names_of as they stand -/
structure FlatF (K : PySem.W.Frag) (mg : Str → Option Value) (fF fC fO : Addr) (dF dC dO : FuncData) : Prop where
  FF : Fun K "flattened" "flattened" sFlat fF dF
  FC : Fun K "codes_in" "codes_in" sCin fC dC
  FO : Fun K "_names_of" "_names_of" sNamesOf fO dO
  gF : mg "flattened" = some (.ref fF)
  gC : mg "codes_in" = some (.ref fC)
  gO : mg "_names_of" = some (.ref fO)
  bF : Binds K dF ["code"] []
  bC : Binds K dC ["statement"] []
  bO : Binds K dO ["statement", "role"] []
theorem ok_flat (C : FlatF K mg fF fC fO dF dC dO) : ∀ n, FnOk P w K mg base CX0 (n + 1) fF dF ["code"] (spFlatAt n)
  | 0 => ⟨fun _ _ _ _ h => h.elim, fun _ _ _ _ _ _ _ _ _ _ _ _ _ h => h.elim⟩
  | n + 1 => flat_step C.FF C.gF C.bF (ok_flat C n) C.FC C.gC C.bC
theorem scNI : FnScope ["code", "role", "name", "statement"] ["code", "role"] (defScope sNamesIn) := ⟨rfl, rfl, rfl, by decide +kernel, rfl, by decide +kernel, by decide +kernel⟩
theorem ok_namesin (F : Fun K "names_in" "names_in" sNamesIn f fd) (TF : TxtF K w mg) (TS : TxtS mg) (C : FlatF K mg fF fC fO dF dC dO) : FnOk P w K mg base CX0 6 f fd ["code", "role"] spNamesIn := by
  have GF : FnOk P w K mg base CX0 5 fF dF ["code"] (spFlatAt 4) := ok_flat C 4
  have GO : FnOk P w K mg base CX0 1 fO dO ["statement", "role"] spNamesOf := ok_namesof C.FO TF
  refine F.ok scNI (fun vs H Q E h => ?_) (fun cdv A outer s H vs Q E hr h => ?_)
  · obtain ⟨S, v, ds, role, rfl, _⟩ := h
    rfl
  · obtain ⟨S, v, ds, role, rfl, hrole, hd, rows, size, q⟩ := h
    refine ⟨_, pss_one (ps_ret (pe_callTy call_tuple_of (by rfl) TS.tuple (by decide +kernel) (pa_cons (pe_callB (cr_sortX rfl) (by rfl) TS.sorted (by decide +kernel) (pa_cons (pe_sx2 (own := [("name", 2), ("statement", 3)]) (vs1 := [2]) rfl scNI.nd
      (pi_list (pe_call GF hr (by rfl) C.gF C.FF.kp C.bF .nil pass0 (pa_cons (pv 0) pa_nil))) (blkOk_by (N := ["code", "role", "name", "statement"]) (sc := defScope sNamesIn) (by decide +kernel)) (by simp)
      (fun _ _ _ _ _ => pg_name (i := 3) scNI.nd rfl (Or.inl rfl)) (fun _ _ _ _ _ => pts_nil)
      (fun _ _ _ _ _ => pi_listK (K := K) rfl (pe_call GO (hr.mono (by decide)) (by rfl) C.gO C.FO.kp C.bO .nil pass0 (pa_cons (pv 3) (pa_cons (pv 1) pa_nil)))) (fun _ _ _ _ _ => pg_name (i := 2) scNI.nd rfl (Or.inl rfl)) (fun _ _ _ _ _ => pts_nil)
      (fun _ _ _ _ _ => pv 2)) pa_nil)) pa_nil))), ?_⟩
    have live : ∀ b, (S b ∧ H b ≠ none) → H b ≠ none := fun b z => z.2
    refine ⟨_, rfl, _, v, ds, rfl, hd.live, rows, Nat.le_trans size (by decide), fun H1 pl xs s1 hpl epl dl => ⟨pl, rfl, ⟨xs, SqL.of epl⟩, fun D hD => goes_list (xs := xs) (fun i H' => Same H1 H' ∧ H' D = some (SetTO w D (firsts [] (((flatN 3 ds).take i).flatMap (namesD role))))) ⟨same_upd hD, upd_same⟩ (fun i H' h => SqL.of (h.1 _ _ epl)) (fun i x H' hx h => ?_) (fun H' h => ?_)⟩⟩
    · obtain ⟨s2, eD⟩ := h
      obtain ⟨d, hdi, hdt⟩ := dl.get hx
      obtain ⟨d0, hd0, hmem⟩ := List.mem_flatMap.mp (List.mem_of_getElem? hdi)
      obtain ⟨m, row⟩ := rows_flatS (List.all_eq_true.mp rows d0 hd0) d hmem
      have take : ((flatN 3 ds).take (i + 1)).flatMap (namesD role) = ((flatN 3 ds).take i).flatMap (namesD role) ++ namesD role d := by
        rw [List.take_add_one, hdi, List.flatMap_append]
        simp
      refine ⟨rfl, _, rfl, _, rfl, _, x, d, m, role, rfl, hrole, hdt.base live s1 (s1.trans s2), row, fun H3 pn s3 hpn epn few => ⟨pn, rfl, ⟨_, SqL.of epn⟩, goes_list (xs := (namesD role d).map V.str) (fun j H4 => Same H1 H4 ∧ H4 pn = some (.lst ((namesD role d).map V.str)) ∧ H4 D = some (SetTO w D (firsts [] (((flatN 3 ds).take i).flatMap (namesD role) ++ (namesD role d).take j)))) ⟨s2.trans s3, epn, by rw [List.take_zero, List.append_nil]; exact s3 _ _ eD⟩ (fun j H4 h => SqL.of h.2.1) (fun j y H4 hy h => ?_) (fun H4 h => ?_)⟩⟩
      · obtain ⟨s4, en4, eD4⟩ := h
        rw [List.getElem?_map] at hy
        obtain ⟨z, hz, rfl⟩ := Option.map_eq_some_iff.mp hy
        refine ⟨rfl, _, rfl, z, _, rfl, eD4, ?_, same_put hD s4, ?_, ?_⟩
        · have l1 := len_firsts (((flatN 3 ds).take i).flatMap (namesD role) ++ (namesD role d).take j) []
          have l2 : (((flatN 3 ds).take i).flatMap (namesD role)).length ≤ 8 * ((flatN 3 ds).take i).length := flatMap_few fun e he => by
            obtain ⟨d1, hd1, hm1⟩ := List.mem_flatMap.mp (List.mem_of_mem_take he)
            obtain ⟨m1, row1⟩ := rows_flatS (List.all_eq_true.mp rows d1 hd1) e hm1
            exact names_few row1
          have l3 : ((flatN 3 ds).take i).length ≤ (flatN 3 ds).length := List.length_take_le' _ _
          have l4 : ((namesD role d).take j).length ≤ (namesD role d).length := List.length_take_le' _ _
          have l5 : scanBound = 4096 := rfl
          rw [List.length_append] at l1
          simp only [List.length_nil] at l1
          omega
        · rw [upd_ne (fun z => by rw [z, eD4] at en4; cases en4)]
          exact en4
        · rw [upd_same, List.take_add_one, hz, ← List.append_assoc]
          show _ = some (SetTO w D (firsts [] (_ ++ [z])))
          rw [firsts_snoc]
          rfl
      · obtain ⟨s4, en4, eD4⟩ := h
        refine ⟨s4, ?_⟩
        rw [List.length_map, List.take_length, ← take] at eD4
        exact eD4
    · obtain ⟨s2, eD⟩ := h
      rw [dl.length, List.take_length] at eD
      refine ⟨D, _, rfl, eD, fun ys p3 pm so hp3 => ⟨p3, _, rfl, .inl ⟨SqL.of upd_same, fun p4 hp4 => ?_⟩⟩⟩
      have s3 := (s1.trans s2).trans (same_upd (o := .lst (ys.map V.str)) hp3)
      exact q _ p4 ys (s3.trans (same_upd hp4)) (s3.free hp4) upd_same pm so
end
end OM

namespace OM
open PySem PySem.Spec PyProof.Rows L2
abbrev sMost : Stmt := top 40
abbrev sMostAt : Stmt := top 41
abbrev sKind : Stmt := top 42
/-- what a statement counts as on a path -/
def kindD : PyData → Str
  | .tuple (.str w :: rest) => if w = "get" ∨ w = "put" then "letter" else if w = "set" then (match rest with | [_, _, .tuple []] => "constant" | _ => "set") else w
  | _ => ""
def ownD (k : Str) (d : PyData) : Nat := if kindD d = k then 1 else 0
def maxL : List Nat → Nat
  | [] => 0
  | x :: r => max x (maxL r)
def mostS : Nat → Str → PyData → Nat
  | 0, k, d => ownD k d
  | n + 1, k, d => ownD k d + maxL ((inner2 d).map fun c => (c.map (mostS n k)).sum)
def mostN (n : Nat) (k : Str) (ds : List PyData) : Nat := (ds.map (mostS n k)).sum
theorem inV_two (x a b : Str) : inV (.str x) [.str a, .str b] = true ↔ x = a ∨ x = b := by
  have h : ∀ y : Str, (y == x) = decide (x = y) := fun y => by
    rw [Bool.eq_iff_iff, beq_iff_eq, decide_eq_true_iff, eq_comm]
  unfold inV
  simp only [List.any_cons, List.any_nil, eqV, h, Bool.or_false, Bool.or_eq_true, decide_eq_true_iff]
def spKind : Sp := fun vs H Q _ => ∃ (S : Addr → Prop) (v : V) (d : PyData) (n : Nat), vs = [v] ∧ Dt S H v d ∧ rowD (cdOf n) d = true ∧ ∀ H', Same H H' → Q (.str (kindD d)) H'
def spMostAt (n : Nat) : Sp := fun vs H Q _ => ∃ (S : Addr → Prop) (v : V) (d : PyData) (k : Str), vs = [v, .str k] ∧ Dt S H v d ∧ rowD (cdOf n) d = true ∧ ∀ H', Same H H' → Q (.int (mostS n k d)) H'
def spMost : Nat → Sp
  | 0 => fun _ _ _ _ => False
  | n + 1 => fun vs H Q _ => ∃ (S : Addr → Prop) (v : V) (ds : List PyData) (k : Str), vs = [v, .str k] ∧ Dt S H v (.tuple ds) ∧ ds.all (rowD (cdOf n)) = true ∧ ∀ H', Same H H' → Q (.int (mostN n k ds)) H'
section
variable {P : Program} {w : World} {K : PySem.W.Frag} {mg : Str → Option Value} {base : Heap} {f fC fK fA : Addr} {fd dC dK dA : FuncData}
theorem scKd : FnScope ["statement"] ["statement"] (defScope sKind) := ⟨rfl, rfl, rfl, by decide +kernel, rfl, by decide +kernel, by decide +kernel⟩
theorem ok_kind (F : Fun K "_path_kind" "_path_kind" sKind f fd) : FnOk P w K mg base CX0 1 f fd ["statement"] spKind := by
  refine F.ok scKd (fun vs H Q E h => ?_) (fun cdv A outer s H vs Q E hr h => ?_)
  · obtain ⟨S, v, d, n, rfl, _⟩ := h
    rfl
  · obtain ⟨S, v, d, n, rfl, hd, row, q⟩ := h
    refine ⟨_, pss_cons (ps_if (pt_cmpR op_in_seq (pe_ix ix_tup (pv 0) pe_int (fun _ _ => rfl)) (pe_tup (pa_cons pe_str (pa_cons pe_str pa_nil))) (by rfl)) (pss_one (ps_ret pe_str)) pss_nil)
      (pss_cons (ps_if (pt_cmpR op_eq (pe_ix ix_tup (pv 0) pe_int (fun _ _ => rfl)) pe_str (nomark _)) (pss_one (ps_ret (pe_ifExp (pt_truth (pe_ix ix_tup (pv 0) pe_int (fun _ _ => rfl)) (by intro _; rfl)) pe_str pe_str))) pss_nil)
      (pss_one (ps_ret (pe_ix ix_tup (pv 0) pe_int (fun _ _ => rfl))))), ?_⟩
    obtain ⟨w0, rest, rs, rfl, hf, hlen, fits⟩ := rowD_shape row
    obtain ⟨a, xr, rfl, ea, hl, hx⟩ := hd.row
    refine ⟨_, rfl, a, _, 0, _, rfl, rfl, SqT.of ea, at0, (by show 2 ≤ sizeLine; decide), fun pt hpt => ?_⟩
    have s1 := same_upd (o := .tup [.str "get", .str "put"]) hpt
    refine ⟨pt, _, rfl, .inr (SqT.of upd_same), rfl, by decide, _, rfl, ite2 (fun h1 => ?_) (fun h1 => ?_)⟩
    · have e : kindD (.tuple (.str w0 :: rest)) = "letter" := if_pos ((inV_two _ _ _).mp h1)
      have z := q _ s1
      rw [e] at z
      exact z
    · have n1 : ¬ (w0 = "get" ∨ w0 = "put") := fun z => h1 ((inV_two _ _ _).mpr z)
      refine ⟨_, rfl, a, _, 0, _, rfl, rfl, SqT.of (s1 _ _ ea), at0, rfl, _, rfl, ite2 (fun h2 => ?_) (fun h2 => ?_)⟩
      · obtain rfl : w0 = "set" := V.str.inj (of_decide_eq_true h2)
        have e4 : formOf "set" = some (["register", "function", "registers"] : List Str) := by decide +kernel
        rw [e4] at hf
        obtain rfl := (Option.some.inj hf).symm
        match rest, hlen with
        | [d1, d2, d3], _ =>
          rw [row_set] at row
          simp only [Bool.and_eq_true, and_true] at row
          obtain ⟨_, _, ar⟩ := row
          cases d3 with
          | tuple ds =>
            cases hx with
            | @cons x1 _ _ _ k1 hx =>
              cases hx with
              | @cons x2 _ _ _ k2 hx =>
                cases hx with
                | @cons x3 _ _ _ k3 hx =>
                  cases hx
                  obtain ⟨b, zs, rfl, eb, bl, hz⟩ := k3.tup_of
                  have lz := hz.length
                  refine ⟨_, rfl, a, _, 3, .ref b, rfl, rfl, SqT.of (s1 _ _ ea), rfl, !zs.isEmpty, .inr (.inl ⟨zs, SqT.of (s1 _ _ eb), rfl⟩), ?_⟩
                  cases hz with
                  | nil => exact iteF (q _ s1)
                  | cons _ _ => exact iteT (q _ s1)
          | _ => cases ar
      · have n2 : w0 ≠ "set" := fun z => h2 (decide_eq_true (by rw [z]))
        have e : kindD (.tuple (.str w0 :: rest)) = w0 := by
          show (if _ then _ else _) = _
          rw [if_neg n1, if_neg n2]
        have z := q _ s1
        rw [e] at z
        exact ⟨_, rfl, a, _, 0, _, rfl, rfl, SqT.of (s1 _ _ ea), at0, z⟩
theorem scMA : FnScope ["statement", "kind", "own", "inner"] ["statement", "kind"] (defScope sMostAt) := ⟨rfl, rfl, rfl, by decide +kernel, rfl, by decide +kernel, by decide +kernel⟩
theorem scMo : FnScope ["code", "kind", "statement"] ["code", "kind"] (defScope sMost) := ⟨rfl, rfl, rfl, by decide +kernel, rfl, by decide +kernel, by decide +kernel⟩
/-- a list of numbers that grows -/
def PvI (H : Hp) (D : Addr) (bs : List Nat) (i : Nat) (H' : Hp) : Prop := Same H H' ∧ H' D = some (.lst ((bs.take i).map fun n : Nat => V.int (n : Int)))
theorem PvI.step {H H3 H4 : Hp} {D : Addr} {bs : List Nat} {i b : Nat} (hD : H D = none) (hl : bs.length ≤ 1000) (hb : bs[i]? = some b) (p : PvI H D bs i H3) (s : Same H3 H4) : ∃ acc, H4 D = some (.lst acc) ∧ acc.length < sizeLine ∧ PvI H D bs (i + 1) (upd H4 D (.lst (acc ++ [V.int (b : Int)]))) := by
  refine ⟨_, s _ _ p.2, ?_, same_put hD (p.1.trans s), ?_⟩
  · rw [List.length_map, List.length_take]
    have : (1000 : Nat) < sizeLine := by decide
    omega
  · rw [upd_same, List.take_add_one, hb, List.map_append]
    rfl
theorem PvI.all {H H5 : Hp} {D : Addr} {bs : List Nat} {n : Nat} (p : PvI H D bs n H5) (hn : n = bs.length) : Same H H5 ∧ H5 D = some (.lst ((bs.map fun n : Nat => (n : Int)).map V.int)) := by
  have e := p.2
  rw [hn, List.take_length] at e
  rw [List.map_map]
  exact ⟨p.1, e⟩
theorem sum_nat (bs : List Nat) : (bs.map fun n : Nat => (n : Int)).sum = ((bs.sum : Nat) : Int) := by
  induction bs with
  | nil => rfl
  | cons b r ih =>
    rw [List.map_cons, List.sum_cons, List.sum_cons, ih]
    omega
theorem maxL_of (bs : List Nat) {m : Int} (h : m ∈ (bs.map fun n : Nat => (n : Int))) (hm : ∀ y ∈ (bs.map fun n : Nat => (n : Int)), y ≤ m) : m = ((maxL bs : Nat) : Int) := by
  have le : ∀ bs : List Nat, ∀ b ∈ bs, b ≤ maxL bs := fun bs => by
    induction bs with
    | nil => intro b h; cases h
    | cons x r ih =>
      intro b h
      show b ≤ max x (maxL r)
      rcases List.mem_cons.mp h with rfl | h
      · omega
      · have := ih b h
        omega
  have mem : ∀ bs : List Nat, bs ≠ [] → maxL bs ∈ bs := fun bs => by
    induction bs with
    | nil => intro h; exact absurd rfl h
    | cons x r ih =>
      intro _
      show max x (maxL r) ∈ x :: r
      cases r with
      | nil =>
        show max x 0 ∈ [x]
        rw [Nat.max_zero]
        exact List.mem_cons_self
      | cons y r =>
        have := ih (by simp)
        rcases Nat.le_total x (maxL (y :: r)) with h | h
        · rw [Nat.max_eq_right h]
          exact List.mem_cons_of_mem _ this
        · rw [Nat.max_eq_left h]
          exact List.mem_cons_self
  obtain ⟨b, hb, rfl⟩ := List.mem_map.mp h
  have h1 := le bs b hb
  have h2 := hm _ (List.mem_map.mpr ⟨maxL bs, mem bs (fun z => by rw [z] at hb; cases hb), rfl⟩)
  omega
theorem mostS_row {n : Nat} {k : Str} {d : PyData} (row : rowD (cdOf n) d = true) : mostS n k d = ownD k d + maxL ((inner2 d).map fun c => (c.map (mostS (n - 1) k)).sum) := by
  cases n with
  | succ m => rfl
  | zero =>
    rcases row_iff row with ⟨m, _, _, _, _, e, _⟩ | ⟨_, _, _, _, e⟩
    · cases e
    · rw [e]
      rfl
theorem most_step {n j : Nat} (F : Fun K "most_on_path" "most_on_path" sMost f fd) (TS : TxtS mg) (gA : mg "_most_at" = some (.ref fA)) (kA : PySem.W.keepIn K (.ref fA) = true) (bA : Binds K dA ["statement", "kind"] []) (GA : FnOk P w K mg base CX0 j fA dA ["statement", "kind"] (spMostAt n)) :
    FnOk P w K mg base CX0 (j + 1) f fd ["code", "kind"] (spMost (n + 1)) := by
  refine F.ok scMo (fun vs H Q E h => ?_) (fun cdv A outer s H vs Q E hr h => ?_)
  · obtain ⟨S, v, ds, k, rfl, _⟩ := h
    rfl
  · obtain ⟨S, v, ds, k, rfl, hd, rows, q⟩ := h
    refine ⟨_, pss_one (ps_ret (pe_callB (cr_sum rfl) (by rfl) TS.sum (by decide +kernel) (pa_cons (pe_lc (own := [("statement", 2)]) rfl scMo.nd (pi_tup (pv 0)) (blkOk_by (N := ["code", "kind", "statement"]) (sc := defScope sMost) (by decide +kernel))
      (fun _ _ _ _ _ => pg_name (i := 2) scMo.nd rfl (Or.inl rfl)) (fun _ _ _ _ _ => pts_nil) (fun _ _ _ _ _ => pe_call GA hr (by rfl) gA kA bA .nil pass0 (pa_cons (pv 2) (pa_cons (pv 1) pa_nil)))) pa_nil))), ?_⟩
    obtain ⟨a, xs, rfl, ea, hl, hx⟩ := hd.live.tup_of
    have live : ∀ b, (S b ∧ H b ≠ none) → H b ≠ none := fun b z => z.2
    refine ⟨_, rfl, a, rfl, ⟨xs, SqT.of ea⟩, fun Dl hD => lc_tup (PvI H Dl (ds.map (mostS n k))) ⟨same_upd hD, upd_same⟩ (fun i H' _ p => SqT.of (p.1 _ _ ea)) (fun i x H3 hi p => ?_) (fun H5 p => ?_)⟩
    · obtain ⟨d, hdi, hdt⟩ := hx.get hi
      have := hx.length
      refine ⟨rfl, _, rfl, _, rfl, _, x, d, k, rfl, hdt.base live (Same.refl H) p.1, List.all_eq_true.mp rows d (List.mem_of_getElem? hdi), fun H4 s4 => p.step hD (by rw [List.length_map]; omega) (by rw [List.getElem?_map, hdi]; rfl) s4⟩
    · obtain ⟨s5, e5⟩ := p.all (by rw [List.length_map]; exact hx.length)
      refine ⟨Dl, _, rfl, SqL.of e5, ?_⟩
      have z := q _ s5
      rw [sum_nat]
      exact z
theorem mostat_ok {n j : Nat} (F : Fun K "_most_at" "_most_at" sMostAt fA dA) (TS : TxtS mg) (gM : mg "most_on_path" = some (.ref f)) (kM : PySem.W.keepIn K (.ref f) = true) (bM : Binds K fd ["code", "kind"] []) (GM : FnOk P w K mg base CX0 (j + 1) f fd ["code", "kind"] (spMost n))
    (FC : Fun K "codes_in" "codes_in" sCin fC dC) (gC : mg "codes_in" = some (.ref fC)) (bC : Binds K dC ["statement"] []) (FK : Fun K "_path_kind" "_path_kind" sKind fK dK) (gK : mg "_path_kind" = some (.ref fK)) (bK : Binds K dK ["statement"] []) :
    FnOk P w K mg base CX0 (j + 2) fA dA ["statement", "kind"] (spMostAt n) := by
  have GC : FnOk P w K mg base CX0 1 fC dC ["statement"] spCin := ok_cin FC
  have GK : FnOk P w K mg base CX0 1 fK dK ["statement"] spKind := ok_kind FK
  refine F.ok scMA (fun vs H Q E h => ?_) (fun cdv A outer s H vs Q E hr h => ?_)
  · obtain ⟨S, v, d, k, rfl, _⟩ := h
    rfl
  · obtain ⟨S, v, d, k, rfl, hd, row, q⟩ := h
    have hu : (A.deeper (envOfC "_most_at" (defScope sMostAt) s.heap.objs.size fA cdv)).units + 1 < cLine := by
      have := hr.un
      omega
    refine ⟨_, pss_cons (ps_set (i := 2) scMA.nd rfl (Or.inl rfl) (pe_ifExp (pt_cmpR op_eq (pe_call GK (hr.mono (by omega)) (by rfl) gK FK.kp bK .nil pass0 (pa_cons (pv 0) pa_nil)) (pv 1) (nomark _)) pe_int pe_int))
      (pss_one (ps_ret (pe_op op_add (pv 2) (pe_callBK (cr_maxDef rfl hu) (by rfl) TS.max (by decide +kernel) (pa_cons (pe_lc (own := [("inner", 3)]) rfl scMA.nd (pi_tup (pe_call GC (hr.mono (by omega)) (by rfl) gC FC.kp bC .nil pass0 (pa_cons (pv 0) pa_nil))) (blkOk_by (N := ["statement", "kind", "own", "inner"]) (sc := defScope sMostAt) (by decide +kernel))
        (fun _ _ _ _ _ => pg_name (i := 3) scMA.nd rfl (Or.inl rfl)) (fun _ _ _ _ _ => pts_nil) (fun _ _ _ _ _ => pe_call GM hr (by rfl) gM kM bM .nil pass0 (pa_cons (pv 3) (pa_cons (pv 1) pa_nil)))) pa_nil) (pk_cons pe_int pk_nil))))), ?_⟩
    have live : ∀ b, (S b ∧ H b ≠ none) → H b ≠ none := fun b z => z.2
    refine ⟨_, rfl, S, v, d, n, rfl, hd, row, fun H1 s1 => ⟨_, rfl, rfl, _, rfl, ite2 (fun h1 => ?_) (fun h1 => ?_)⟩⟩
    all_goals
      refine ⟨_, rfl, _, rfl, _, v, d, n, rfl, hd.live.base live (Same.refl H) s1, row, fun H3 pc cs s3 hpc epc dc => ⟨pc, rfl, ⟨cs, SqT.of epc⟩, fun Dl hD => lc_tup (PvI H3 Dl ((inner2 d).map fun c => (c.map (mostS (n - 1) k)).sum)) ⟨same_upd hD, upd_same⟩ (fun i H' _ p => SqT.of (p.1 _ _ epc)) (fun i x H4 hi p => ?_) (fun H5 p => ?_)⟩⟩
      · obtain ⟨cdt, hcd, hct⟩ := dc.get hi
        rw [List.getElem?_map] at hcd
        obtain ⟨cd, hc2, rfl⟩ := Option.map_eq_some_iff.mp hcd
        obtain ⟨m, rfl, rows', _⟩ := row_in row (List.mem_of_getElem? hc2)
        have two : (inner2 d).length ≤ 2 := by
          rcases row_iff row with ⟨_, _, _, _, _, _, rfl, _⟩ | ⟨_, _, _, _, e⟩
          · exact Nat.le_refl 2
          · rw [e]
            exact Nat.zero_le _
        refine ⟨rfl, _, rfl, _, rfl, _, x, cd, k, rfl, hct.base live (s1.trans s3) ((s1.trans s3).trans p.1), rows', fun H6 s6 => p.step (b := mostN m k cd) hD (by rw [List.length_map]; omega) (by rw [List.getElem?_map, hc2]; rfl) s6⟩
      · obtain ⟨s5, e5⟩ := p.all (by rw [List.length_map, dc.length, List.length_map])
        have fin : ∀ M : Nat, M = maxL ((inner2 d).map fun c => (c.map (mostS (n - 1) k)).sum) → Q (.int (((ownD k d : Nat) : Int) + (M : Int))) H5 := fun M e => by
          have z := q _ ((s1.trans s3).trans s5)
          rw [mostS_row row, ← e, Int.natCast_add] at z
          exact z
        first
          | (have eo : ((ownD k d : Nat) : Int) = 1 := by
              unfold ownD
              rw [if_pos (V.str.inj (of_decide_eq_true h1))]
              rfl)
          | (have eo : ((ownD k d : Nat) : Int) = 0 := by
              unfold ownD
              rw [if_neg fun z => h1 (decide_eq_true (by rw [z]))]
              rfl)
        rw [eo] at fin
        refine ⟨Dl, _, 0, rfl, rfl, SqL.of e5, fun e => ⟨_, _, rfl, rfl, ?_⟩, fun M hM hle => ⟨_, _, rfl, rfl, ?_⟩⟩
        · have e0 : (inner2 d).map (fun c => (c.map (mostS (n - 1) k)).sum) = [] := List.map_eq_nil_iff.mp e
          exact fin 0 (by rw [e0]; rfl)
        · rw [maxL_of _ hM hle]
          exact fin _ rfl
end
end OM

namespace OM
open PySem PySem.Spec PyProof.Rows L2
abbrev sIsSet : Stmt := top 18
abbrev sKept : Stmt := top 55
abbrev sBounded : Stmt := top 54
def ltS (a b : Str) : Bool := decide (a.cps.toList < b.cps.toList)
/-- a set of names: ascending -/
def setD : PyData → Bool
  | .tuple ds => ds.all isNameD && (List.zipWith ltS (ds.map strD) (ds.map strD).tail).all id
  | _ => false
def keptD : PyData → Bool
  | .tuple ds => setD (.tuple ds) && decide (ds.length ≤ 4)
  | _ => false
def spSet : Sp := fun vs H Q _ => ∃ (S : Addr → Prop) (v : V) (d : PyData), vs = [v] ∧ Dt S H v d ∧ smlD d = true ∧ ∀ H', Same H H' → Q (.bl (setD d)) H'
def spKept : Sp := fun vs H Q _ => ∃ (S : Addr → Prop) (v : V) (d : PyData), vs = [v] ∧ Dt S H v d ∧ smlD d = true ∧ ∀ H', Same H H' → Q (.bl (keptD d)) H'
/-- over two tuples side by side, the second one shorter -/
theorem lc_zipS {K : PySem.W.Frag} {a b : Addr} {xs ys : List V} {g : TG} {tt : TT} {te : TE} {vs : List Nat} {σ : L2.St} {H1 : Hp} {D : Addr} {Qd : Hp → Prop} (hlen : ys.length ≤ xs.length) (Pv : Nat → Hp → Prop) (h0 : Pv 0 (upd H1 D (.lst []))) (hl : ∀ i H, Pv i H → SqT K H a xs ∧ SqT K H b ys)
    (hs : ∀ i x y T H, xs[i]? = some x → ys[i]? = some y → Pv i H → H T = none → g (.ref T) (wipe σ vs) (upd H T (.tup [x, y])) fun σ2 H2 => wipe σ2 vs = wipe σ vs ∧ tt σ2 H2 fun b H3 =>
      if b = true then te σ2 H3 fun y H4 => ∃ acc, H4 D = some (.lst acc) ∧ acc.length < sizeLine ∧ Pv (i + 1) (upd H4 D (.lst (acc ++ [y]))) else Pv (i + 1) H3) (hd : ∀ H, Pv ys.length H → Qd H) :
    ∃ W : Nat → Nat → Hp → Prop, (∃ m, W 0 m (upd H1 D (.lst []))) ∧ ∀ i m H, W i m H →
      ((RZ.ItzT K a b).stop i H ∧ Qd H) ∨ ((RZ.ItzT K a b).go i H ∧ ∃ Nx : Hp → Prop, (∀ H', Nx H' → ∃ m', m' < m ∧ W (i + 1) m' H') ∧ ∀ v H', (RZ.ItzT K a b).yld i H v H' → g v (wipe σ vs) H' fun σ2 H2 => wipe σ2 vs = wipe σ vs ∧ tt σ2 H2 fun b H3 =>
        if b = true then te σ2 H3 fun y H4 => ∃ acc, H4 D = some (.lst acc) ∧ acc.length < sizeLine ∧ Nx (upd H4 D (.lst (acc ++ [y]))) else Nx H3) := by
  refine ⟨fun i m H => i ≤ ys.length ∧ m = ys.length - i ∧ Pv i H, ⟨_, Nat.zero_le _, rfl, h0⟩, ?_⟩
  rintro i m H ⟨hi, rfl, p⟩
  obtain ⟨qx, qy⟩ := hl i H p
  rcases Nat.lt_or_ge i ys.length with hlt | hge
  · have hx : xs[i]? = some (xs[i]'(by omega)) := List.getElem?_eq_getElem (by omega)
    have hy : ys[i]? = some ys[i] := List.getElem?_eq_getElem hlt
    refine .inr ⟨⟨xs, ys, _, _, qx, qy, hx, hy⟩, Pv (i + 1), fun H' p' => ⟨ys.length - (i + 1), by omega, hlt, rfl, p'⟩, ?_⟩
    rintro v H' ⟨T, x', y', rfl, hT, rfl, f1, f2⟩
    exact hs i x' y' T H (f1 xs qx) (f2 ys qy) p hT
  · obtain rfl : i = ys.length := by omega
    exact .inl ⟨⟨xs, ys, qx, qy, .inr (Nat.le_refl _)⟩, hd H p⟩
theorem zipWith_idx {α β γ : Type} {f : α → β → γ} {l : List α} {r : List β} {i : Nat} {x : α} {y : β} (h1 : l[i]? = some x) (h2 : r[i]? = some y) : (List.zipWith f l r)[i]? = some (f x y) := by
  rw [List.getElem?_zipWith, h1, h2]
theorem tail_strs (ls : List Str) : (ls.map V.str).tail = ls.tail.map V.str := by cases ls <;> rfl
section
variable {P : Program} {w : World} {K : PySem.W.Frag} {mg : Str → Option Value} {base : Heap} {f fI fS : Addr} {fd dI dS : FuncData}
theorem scSet : FnScope ["value", "name", "after"] ["value"] (defScope sIsSet) := ⟨rfl, rfl, rfl, by decide +kernel, rfl, by decide +kernel, by decide +kernel⟩
theorem ok_isset (F : Fun K "is_set" "is_set" sIsSet f fd) (T : TxtN K mg) (TF : TxtF K w mg) (gI : mg "is_name" = some (.ref fI)) (FI : Fun K "is_name" "is_name" sIsName fI dI) (bI : Binds K dI ["value"] []) : FnOk P w K mg base CX0 2 f fd ["value"] spSet := by
  have GI : FnOk P w K mg base CX0 1 fI dI ["value"] spName := ok_isname FI T
  refine F.ok scSet (fun vs H Q E h => ?_) (fun cdv A outer s H vs Q E hr h => ?_)
  · obtain ⟨S, v, d, rfl, _⟩ := h
    rfl
  · obtain ⟨S, v, d, rfl, hd, sm, q⟩ := h
    refine ⟨_, pss_one (ps_ret (pe_and (pe_callB call_isi (by rfl) T.isi (by decide +kernel) (pa_cons (pv 0) (pa_cons (pe_bltn (v := .ty "tuple") (u := .type "tuple") (by rfl) TF.tup (by decide +kernel) rfl) pa_nil)))
      (pe_and (pe_callB (cr_all rfl) (by rfl) T.all (by decide +kernel) (pa_cons (pe_lc (own := [("name", 1)]) rfl scSet.nd (pi_tup (pv 0)) (blkOk_by (N := ["value", "name", "after"]) (sc := defScope sIsSet) (by decide +kernel))
            (fun _ _ _ _ _ => pg_name (i := 1) scSet.nd rfl (Or.inl rfl)) (fun _ _ _ _ _ => pts_nil) (fun _ _ _ _ _ => pe_call GI hr (by rfl) gI FI.kp bI .nil pass0 (pa_cons (pv 1) pa_nil))) pa_nil))
      (pe_one (pe_callB (cr_all rfl) (by rfl) T.all (by decide +kernel) (pa_cons (pe_lc (g := gTup K 2 (gCons (gName 1) (gCons (gName 2) gNil))) (own := [("name", 1), ("after", 2)]) rfl scSet.nd (RZ.pi_zipA (by rfl) TF.zip (pa_cons (pv 0) (pa_cons (pe_slice sl_tupA (pv 0) (po_some pe_int) po_none) pa_nil))) (blkOk_by (N := ["value", "name", "after"]) (sc := defScope sIsSet) (by decide +kernel))
            (fun _ _ _ _ _ => pg_tup rfl (pgs_cons (pg_name (i := 1) scSet.nd rfl (Or.inl rfl)) (pgs_cons (pg_name (i := 2) scSet.nd rfl (Or.inl rfl)) pgs_nil))) (fun _ _ _ _ _ => pts_nil) (fun _ _ _ _ _ => pe_cmpR op_lt_str (pv 1) (pv 2) (nomark _))) pa_nil)))))), ?_⟩
    cases ht : isTupD d with
    | false =>
      have e : setD d = false := by cases d <;> first | rfl | cases ht
      refine isi_te (x := v) rfl hd.tyx ((kit_tup d).trans (congrArg some ht)) ⟨_, rfl, iteF ?_⟩
      have z := q H (Same.refl _)
      rw [e] at z
      exact z
    | true =>
      cases d with
      | tuple ds =>
        obtain ⟨a, xs, rfl, ea, hl, hx⟩ := hd.tup_of
        have sa : smlAll ds = true := by
          unfold smlD at sm
          exact sm
        have xl := hx.length
        refine isi_te (x := .ref a) rfl (.base (.tup ea)) (kit_tup (.tuple ds)) ⟨_, rfl, iteT ?_⟩
        refine ⟨_, rfl, a, rfl, ⟨xs, SqT.of ea⟩, fun Dl hD => lc_tup (PvM H Dl (ds.map isNameD)) (PvM.zero hD) (fun i H' _ p => SqT.of (p.1 _ _ ea)) (fun i x H3 hi p => ?_) (fun H5 p => ?_)⟩
        · obtain ⟨e, he, hde⟩ := hx.get hi
          exact ⟨rfl, _, rfl, S, x, e, rfl, hde.mv (fun _ z => z) (fun b o _ eb => p.1 b o eb), sml_get sa he, fun H4 s4 => p.step hD (by rw [List.length_map]; omega) (by rw [List.getElem?_map, he]; rfl) s4⟩
        · obtain ⟨s5, e5⟩ := p.all (by rw [List.length_map]; exact xl)
          refine ⟨Dl, _, rfl, SqL.of e5, _, rfl, ite2 (fun h1 => ?_) (fun h1 => ?_)⟩
          · rw [all_map_id] at h1
            have exs := dt_names hx h1
            have ll : (ds.map strD).length = ds.length := List.length_map _
            have q' : ∀ H', Same H5 H' → Q (.bl ((List.zipWith ltS (ds.map strD) (ds.map strD).tail).all id)) H' := fun H' s' => by
              have z := q H' (s5.trans s')
              rw [show setD (.tuple ds) = (ds.all isNameD && (List.zipWith ltS (ds.map strD) (ds.map strD).tail).all id) from rfl, h1, Bool.true_and] at z
              exact z
            generalize ds.map strD = ls at exs ll q'
            have ea5 := s5 _ _ ea
            subst exs
            cases ls with
            | nil =>
              refine ⟨_, rfl, _, rfl, 1, rfl, a, _, rfl, SqT.of ea5, fun hw => ?_, fun hn => absurd (And.intro rfl rfl) hn⟩
              refine ⟨a, a, [], [], rfl, .inr ⟨SqT.of ea5, SqT.of ea5, fun D2 hD2 => lc_zipS (Nat.le_refl _) (PvM H5 D2 []) (PvM.zero hD2) (fun i H' p => ⟨SqT.of (p.1 _ _ ea5), SqT.of (p.1 _ _ ea5)⟩) (fun i x y T H3 hi _ _ _ => by simp at hi) (fun H6 p => ?_)⟩⟩
              exact ⟨D2, [], rfl, SqL.of p.2, q' _ p.1⟩
            | cons z0 r =>
              refine ⟨_, rfl, _, rfl, 1, rfl, a, _, rfl, SqT.of ea5, fun hw => absurd hw cut_part, fun _ pc hpc => ?_⟩
              rw [show cutV ((z0 :: r).map V.str) (some 1) none = r.map V.str from cut_tail]
              have sc := same_upd (o := .tup (r.map V.str)) hpc
              refine ⟨a, pc, (z0 :: r).map V.str, r.map V.str, rfl, .inr ⟨SqT.of (sc _ _ ea5), SqT.of upd_same, fun D2 hD2 => lc_zipS (by simp) (PvM _ D2 (List.zipWith ltS (z0 :: r) r)) (PvM.zero hD2) (fun i H' p => ⟨SqT.of (p.1 _ _ (sc _ _ ea5)), SqT.of (p.1 _ _ upd_same)⟩) (fun i x y T H3 hi hj p hT => ?_) (fun H6 p => ?_)⟩⟩
              · rw [List.getElem?_map] at hi hj
                obtain ⟨s1, g1, rfl⟩ := Option.map_eq_some_iff.mp hi
                obtain ⟨s2, g2, rfl⟩ := Option.map_eq_some_iff.mp hj
                refine ⟨T, _, rfl, SqT.of upd_same, rfl, _, _, rfl, _, _, rfl, rfl, rfl, _, rfl, _, rfl, s1, s2, rfl, rfl, ?_⟩
                refine p.step (b := ltS s1 s2) hD2 ?_ (zipWith_idx g1 g2) (same_upd hT)
                rw [List.length_zipWith]
                simp only [List.length_map, List.length_cons] at hl xl ⊢
                omega
              · obtain ⟨s7, e7⟩ := p.all (by rw [List.length_zipWith]; simp)
                exact ⟨D2, _, rfl, SqL.of e7, q' _ (sc.trans s7)⟩
          · have z := q _ s5
            rw [all_map_id] at h1
            have e0 : ds.all isNameD = false := by
              cases y : ds.all isNameD with
              | false => rfl
              | true => exact absurd y h1
            rw [show setD (.tuple ds) = (ds.all isNameD && (List.zipWith ltS (ds.map strD) (ds.map strD).tail).all id) from rfl, e0, Bool.false_and] at z
            exact z
      | _ => cases ht
theorem scKp : FnScope ["value"] ["value"] (defScope sKept) := ⟨rfl, rfl, rfl, by decide +kernel, rfl, by decide +kernel, by decide +kernel⟩
theorem ok_kept (F : Fun K "is_kept" "is_kept" sKept f fd) (T : TxtN K mg) (TF : TxtF K w mg) (gI : mg "is_name" = some (.ref fI)) (FI : Fun K "is_name" "is_name" sIsName fI dI) (bI : Binds K dI ["value"] []) (gS : mg "is_set" = some (.ref fS)) (FS : Fun K "is_set" "is_set" sIsSet fS dS) (bS : Binds K dS ["value"] []) (gM : ∃ t, mg "MAX_KEPT" = some (.int 4 t)) :
    FnOk P w K mg base CX0 3 f fd ["value"] spKept := by
  have GS : FnOk P w K mg base CX0 2 fS dS ["value"] spSet := ok_isset FS T TF gI FI bI
  obtain ⟨t, g4⟩ := gM
  refine F.ok scKp (fun vs H Q E h => ?_) (fun cdv A outer s H vs Q E hr h => ?_)
  · obtain ⟨S, v, d, rfl, _⟩ := h
    rfl
  · obtain ⟨S, v, d, rfl, hd, sm, q⟩ := h
    refine ⟨_, pss_one (ps_ret (pe_and (pe_call GS hr (by rfl) gS FS.kp bS .nil pass0 (pa_cons (pv 0) pa_nil)) (pe_one (pe_cmpR op_le (pe_callB call_len_seq (by rfl) T.len PySem.boot_len (pa_cons (pv 0) pa_nil)) (pe_glob (v := .int 4) (by rfl) g4 ⟨t, rfl⟩) (nomark _))))), ?_⟩
    refine ⟨_, rfl, S, v, d, rfl, hd, sm, fun H1 s1 => ⟨_, rfl, ?_⟩⟩
    cases hs : setD d with
    | false =>
      have e : keptD d = false := by
        cases d with
        | tuple ds =>
          show (setD (.tuple ds) && _) = false
          rw [hs, Bool.false_and]
        | _ => rfl
      have z := q _ s1
      rw [e] at z
      exact iteF z
    | true =>
      cases d with
      | tuple ds =>
        obtain ⟨a, xs, rfl, ea, hl, hx⟩ := hd.tup_of
        have e : keptD (.tuple ds) = decide ((xs.length : Int) ≤ 4) := by
          show (setD (.tuple ds) && decide (ds.length ≤ 4)) = _
          rw [hs, Bool.true_and, hx.length]
          exact decide_eq_decide.mpr (by omega)
        have z := q _ s1
        rw [e] at z
        exact iteT ⟨_, rfl, a, xs, rfl, .inr (SqT.of (s1 _ _ ea)), _, _, rfl, rfl, z⟩
      | _ => cases hs
end
end OM

namespace OM
open PySem PySem.Spec PyProof.Rows L2
/-- a statement within a class -/
abbrev inStK (i j : Nat) : Stmt := (match top i with
  | .ClassDef (body := b) .. => b
  | _ => []).getD j (.Pass ⟨0, 0, 0, 0⟩)
abbrev sMI : Stmt := inStK 2 0
abbrev sSI : Stmt := inStK 52 0
/-- an object that is being made: nothing stands in it yet -/
def Raw (K : PySem.W.Frag) (B : String) (fs : List Str) (a C : Addr) (H : Hp) : Prop := ∃ tail : List Value, OexB K C tail ∧ tail.contains (.type B) = true ∧ H a = some (exo a C none) ∧ ∀ f ∈ fs, PySem.W.findIn K (.ref C) f = some none
/-- __init__ of a class without fields -/
def spI0 (K : PySem.W.Frag) (B : String) : Sp := fun vs H Q _ => ∃ (a C : Addr) (x : V), vs = [.ref a, x] ∧ Raw K B [] a C H ∧ Q .non H
/-- a built-in class's name and its __init__ -/
structure BIn (K : PySem.W.Frag) (mg : Str → Option Value) (x : Str) (B initId : String) : Prop where
  mg : mg x = none
  v : PySem.W.findCls K (.type B) (.type "type") "__init__" = some (.val (.builtin initId))
/-- a class of the package, as it is made -/
structure KCls (K : PySem.W.Frag) (C fI : Addr) (B : String) (fs : List Str) : Prop where
  made : ∃ tail, MkB K C fI tail ∧ tail.contains (.type B) = true
  no : ∀ f ∈ fs, PySem.W.findIn K (.ref C) f = some none
theorem KCls.raw {K : PySem.W.Frag} {C fI a : Addr} {B : String} {fs : List Str} {H : Hp} (k : KCls K C fI B fs) (e : H a = some (exo a C none)) : Raw K B fs a C H := by
  obtain ⟨tail, M, hB⟩ := k.made
  exact ⟨tail, M.T, hB, e, k.no⟩
/-- what is let out -/
def OutN (E : XK) (C : Addr) (H : Hp) : Prop := ∀ H', Same H H' → E (.ref C) none H'
theorem same_del {H : Hp} {a : Addr} {o : HO} (h : H a = none) : Same H (del (upd H a o) a) := fun b u e => by
  have nb := ne_of_none e h
  rw [del_ne nb, upd_ne nb]
  exact e
theorem mk0 {K : PySem.W.Frag} {E : XK} {H : Hp} {C fI : Addr} {x : V} (k : KCls K C fI "ValueError" []) (q : OutN E C H) : [x].length ≤ 1000 ∧ ∀ a, H a = none → spI0 K "ValueError" (.ref a :: ([x] ++ [])) (upd H a (exo a C none)) (fun v H2 => v = .non ∧ MkR C H E a H2) E0 :=
  ⟨(by show 1 ≤ 1000; decide), fun a h => ⟨a, C, x, rfl, k.raw upd_same, rfl, .inl ⟨upd_same, q _ (same_del h)⟩⟩⟩
/-- the bounds of a stretch -/
def bndD (ds : List PyData) : Bool := decide ((flatN 3 ds).length ≤ 24) && (decide ((firsts [] ((flatN 3 ds).flatMap (namesD "cell"))).length ≤ 4) && (decide (mostN 3 "letter" ds ≤ 6) && (decide (mostN 3 "set" ds ≤ 6) && decide (mostN 3 "if" ds ≤ 3))))
def itemsD : PyData → List PyData
  | .tuple ds => ds
  | _ => []
/-- what Stretch takes -/
def okD (c k : PyData) : Bool := codeD 3 c && (bndD (itemsD c) && keptD k)
def spBnd : Sp := fun vs H Q _ => ∃ (S : Addr → Prop) (v : V) (ds : List PyData), vs = [v] ∧ Dt S H v (.tuple ds) ∧ ds.all (rowD (cdOf 3)) = true ∧ (flatN 3 ds).length ≤ 400 ∧ ∀ H', Same H H' → Q (.bl (bndD ds)) H'
section
variable {P : Program} {w : World} {K : PySem.W.Frag} {mg : Str → Option Value} {base : Heap} {f fF fC fO fM fA fK fN : Addr} {fd dF dC dO dM dA dK dN : FuncData}
theorem scMI : FnScope ["self", "why"] ["self", "why"] (defScope sMI) := ⟨rfl, rfl, rfl, by decide +kernel, rfl, by decide +kernel, by decide +kernel⟩
theorem ok_iM {dvs : List V} (F : FunD K "__init__" "MoveError.__init__" (defArgs sMI) (defBody sMI) (defScope sMI) dvs [] f fd) (b : BIn K mg "ValueError" "ValueError" "ValueError.__init__") : FnOk P w K mg base CX0 1 f fd ["self", "why"] (spI0 K "ValueError") := by
  refine F.ok scMI (fun vs H Q E h => ?_) (fun cdv A outer s H vs Q E hr h => ?_)
  · obtain ⟨a, C, x, rfl, _⟩ := h
    rfl
  · obtain ⟨a, C, x, rfl, ⟨tail, T, hB, ea, _⟩, q⟩ := h
    refine ⟨_, pss_one (ps_expr (pe_binit base_VE (by rfl) b.mg (by decide +kernel) b.v (by decide +kernel) (pa_cons (pv 0) (pa_cons (pv 1) pa_nil)))), ?_⟩
    exact ⟨_, rfl, _, rfl, a, C, tail, [x], rfl, (by show 1 ≤ 1000; decide), T, hB, ea, q⟩
/-- most_on_path and the two below it -/
structure MostF (K : PySem.W.Frag) (mg : Str → Option Value) (fM fA fK : Addr) (dM dA dK : FuncData) : Prop where
  FM : Fun K "most_on_path" "most_on_path" sMost fM dM
  FA : Fun K "_most_at" "_most_at" sMostAt fA dA
  FK : Fun K "_path_kind" "_path_kind" sKind fK dK
  gM : mg "most_on_path" = some (.ref fM)
  gA : mg "_most_at" = some (.ref fA)
  gK : mg "_path_kind" = some (.ref fK)
  bM : Binds K dM ["code", "kind"] []
  bA : Binds K dA ["statement", "kind"] []
  bK : Binds K dK ["statement"] []
theorem ok_most (M : MostF K mg fM fA fK dM dA dK) (C : FlatF K mg fF fC fO dF dC dO) (TS : TxtS mg) : ∀ n, FnOk P w K mg base CX0 (2 * n + 1) fM dM ["code", "kind"] (spMost n)
  | 0 => ⟨fun _ _ _ _ h => h.elim, fun _ _ _ _ _ _ _ _ _ _ _ _ _ h => h.elim⟩
  | n + 1 => most_step M.FM TS M.gA M.FA.kp M.bA (mostat_ok (j := 2 * n) M.FA TS M.gM M.FM.kp M.bM (ok_most M C TS n) C.FC C.gC C.bC M.FK M.gK M.bK)
/-- the bounds, as the module tells them -/
structure TxtB (mg : Str → Option Value) : Prop where
  st : ∃ t, mg "MAX_STATEMENTS" = some (.int 24 t)
  ce : ∃ t, mg "MAX_CELLS" = some (.int 4 t)
  le : ∃ t, mg "MAX_LETTERS_SENT" = some (.int 6 t)
  se : ∃ t, mg "MAX_SETS" = some (.int 6 t)
  te : ∃ t, mg "MAX_TESTS" = some (.int 3 t)
theorem scBd : FnScope ["code"] ["code"] (defScope sBounded) := ⟨rfl, rfl, rfl, by decide +kernel, rfl, by decide +kernel, by decide +kernel⟩
theorem dec_3 {a : Nat} : decide ((a : Int) ≤ 3) = decide (a ≤ 3) := decide_eq_decide.mpr (by omega)
theorem dec_4 {a : Nat} : decide ((a : Int) ≤ 4) = decide (a ≤ 4) := decide_eq_decide.mpr (by omega)
theorem dec_6 {a : Nat} : decide ((a : Int) ≤ 6) = decide (a ≤ 6) := decide_eq_decide.mpr (by omega)
theorem dec_24 {a : Nat} : decide ((a : Int) ≤ 24) = decide (a ≤ 24) := decide_eq_decide.mpr (by omega)
theorem ok_bounded (F : Fun K "is_bounded" "is_bounded" sBounded f fd) (TF : TxtF K w mg) (TS : TxtS mg) (TB : TxtB mg) (C : FlatF K mg fF fC fO dF dC dO) (M : MostF K mg fM fA fK dM dA dK) (gN : mg "names_in" = some (.ref fN)) (FN : Fun K "names_in" "names_in" sNamesIn fN dN) (bN : Binds K dN ["code", "role"] []) :
    FnOk P w K mg base CX0 10 f fd ["code"] spBnd := by
  have GF : FnOk P w K mg base CX0 5 fF dF ["code"] (spFlatAt 4) := ok_flat C 4
  have GN : FnOk P w K mg base CX0 6 fN dN ["code", "role"] spNamesIn := ok_namesin FN TF TS C
  have GM : FnOk P w K mg base CX0 9 fM dM ["code", "kind"] (spMost 4) := ok_most M C TS 4
  obtain ⟨t1, g1⟩ := TB.st
  obtain ⟨t2, g2⟩ := TB.ce
  obtain ⟨t3, g3⟩ := TB.le
  obtain ⟨t4, g4⟩ := TB.se
  obtain ⟨t5, g5⟩ := TB.te
  refine F.ok scBd (fun vs H Q E h => ?_) (fun cdv A outer s H vs Q E hr h => ?_)
  · obtain ⟨S, v, ds, rfl, _⟩ := h
    rfl
  · obtain ⟨S, v, ds, rfl, hd, rows, size, q⟩ := h
    refine ⟨_, pss_one (ps_ret (pe_and (pe_cmpR op_le (pe_callB call_len_seq (by rfl) TS.len PySem.boot_len (pa_cons (pe_call GF (hr.mono (by decide)) (by rfl) C.gF C.FF.kp C.bF .nil pass0 (pa_cons (pv 0) pa_nil)) pa_nil)) (pe_glob (v := .int 24) (by rfl) g1 ⟨t1, rfl⟩) (nomark _))
      (pe_and (pe_cmpR op_le (pe_callB call_len_seq (by rfl) TS.len PySem.boot_len (pa_cons (pe_call GN (hr.mono (by decide)) (by rfl) gN FN.kp bN .nil pass0 (pa_cons (pv 0) (pa_cons pe_str pa_nil))) pa_nil)) (pe_glob (v := .int 4) (by rfl) g2 ⟨t2, rfl⟩) (nomark _))
      (pe_and (pe_cmpR op_le (pe_call GM hr (by rfl) M.gM M.FM.kp M.bM .nil pass0 (pa_cons (pv 0) (pa_cons pe_str pa_nil))) (pe_glob (v := .int 6) (by rfl) g3 ⟨t3, rfl⟩) (nomark _))
      (pe_and (pe_cmpR op_le (pe_call GM hr (by rfl) M.gM M.FM.kp M.bM .nil pass0 (pa_cons (pv 0) (pa_cons pe_str pa_nil))) (pe_glob (v := .int 6) (by rfl) g4 ⟨t4, rfl⟩) (nomark _))
      (pe_one (pe_cmpR op_le (pe_call GM hr (by rfl) M.gM M.FM.kp M.bM .nil pass0 (pa_cons (pv 0) (pa_cons pe_str pa_nil))) (pe_glob (v := .int 3) (by rfl) g5 ⟨t5, rfl⟩) (nomark _)))))))), ?_⟩
    have live : ∀ b, (S b ∧ H b ≠ none) → H b ≠ none := fun b z => z.2
    have hd := hd.live
    unfold bndD at q
    refine ⟨_, rfl, _, v, ds, rfl, hd, rows, Nat.le_trans size (by decide), fun H1 p1 xs1 s1 hp1 e1 d1 => ⟨p1, _, rfl, .inl (SqL.of e1), _, _, rfl, rfl, _, rfl, ?_⟩⟩
    rw [d1.length, dec_24]
    refine ite2 (fun k1 => ?_) (fun k1 => ?_)
    · rw [k1, Bool.true_and] at q
      refine ⟨_, rfl, _, v, ds, "cell", rfl, by decide +kernel, hd.base live (Same.refl H) s1, rows, size, fun H2 p2 ys s2 hp2 e2 pm so => ⟨p2, _, rfl, .inr (SqT.of e2), _, _, rfl, rfl, _, rfl, ?_⟩⟩
      rw [List.length_map, pm.length_eq, dec_4]
      have s12 := s1.trans s2
      refine ite2 (fun k2 => ?_) (fun k2 => ?_)
      · rw [k2, Bool.true_and] at q
        refine ⟨_, rfl, _, v, ds, "letter", rfl, hd.base live (Same.refl H) s12, rows, fun H3 s3 => ⟨_, _, rfl, rfl, _, rfl, ?_⟩⟩
        rw [dec_6]
        have s13 := s12.trans s3
        refine ite2 (fun k3 => ?_) (fun k3 => ?_)
        · rw [k3, Bool.true_and] at q
          refine ⟨_, rfl, _, v, ds, "set", rfl, hd.base live (Same.refl H) s13, rows, fun H4 s4 => ⟨_, _, rfl, rfl, _, rfl, ?_⟩⟩
          rw [dec_6]
          have s14 := s13.trans s4
          refine ite2 (fun k4 => ?_) (fun k4 => ?_)
          · rw [k4, Bool.true_and] at q
            refine ⟨_, rfl, _, v, ds, "if", rfl, hd.base live (Same.refl H) s14, rows, fun H5 s5 => ⟨_, _, rfl, rfl, ?_⟩⟩
            show Q (.bl (decide (((mostN 3 "if" ds : Nat) : Int) ≤ 3))) H5
            rw [dec_3]
            exact q _ (s14.trans s5)
          · rw [Bool.eq_false_iff.mpr k4, Bool.false_and] at q
            exact q _ s14
        · rw [Bool.eq_false_iff.mpr k3, Bool.false_and] at q
          exact q _ s13
      · rw [Bool.eq_false_iff.mpr k2, Bool.false_and] at q
        exact q _ s12
    · rw [Bool.eq_false_iff.mpr k1, Bool.false_and] at q
      exact q _ s1
/-- the class Stretch, as it is made -/
structure StrT (K : PySem.W.Frag) (mg : Str → Option Value) (C : Addr) : Prop where
  cl : Cls K C
  nc : NoAttr K C "_code"
  nk : NoAttr K C "_keeps"
/-- Stretch(code, keeps): its fields, or InvalidStretch -/
def spSI (C cS : Addr) : Sp := fun vs H Q E => ∃ (S : Addr → Prop) (p dx : Addr) (c k : V) (dc dk : PyData), vs = [.ref p, c, k] ∧ H p = some (.ins C dx []) ∧ Dt S H c dc ∧ Dt S H k dk ∧ nsD dc = true ∧ smlD dc = true ∧ smlD dk = true ∧ (codeD 3 dc = true → (flatN 3 (itemsD dc)).length ≤ 400) ∧
  (okD dc dk = true → ∀ H', But p H H' → H' p = some (.ins C dx [("_code", c), ("_keeps", k)]) → Q .non H') ∧ (okD dc dk = false → OutN E cS H)
theorem scSI : FnScope ["self", "code", "keeps"] ["self", "code", "keeps"] (defScope sSI) := ⟨rfl, rfl, rfl, by decide +kernel, rfl, by decide +kernel, by decide +kernel⟩
theorem ok_sinit {dvs : List V} {C cS fI fIC fB fKp : Addr} {dI dIC dB dKp : FuncData} (F : FunD K "__init__" "Stretch.__init__" (defArgs sSI) (defBody sSI) (defScope sSI) dvs [] f fd) (T : StrT K mg C) (kS : KCls K cS fI "ValueError" []) (gcS : mg "InvalidStretch" = some (.ref cS))
    (GI : FnOk P w K mg base CX0 1 fI dI ["self", "why"] (spI0 K "ValueError")) (bI : Binds K dI ["self", "why"] []) (gIC : mg "is_code" = some (.ref fIC)) (kIC : PySem.W.keepIn K (.ref fIC) = true) (bIC : Binds K dIC ["value"] []) (GIC : FnOk P w K mg base CX0 14 fIC dIC ["value"] spIsCode)
    (gB : mg "is_bounded" = some (.ref fB)) (kB : PySem.W.keepIn K (.ref fB) = true) (bB : Binds K dB ["code"] []) (GB : FnOk P w K mg base CX0 10 fB dB ["code"] spBnd) (gKp : mg "is_kept" = some (.ref fKp)) (kKp : PySem.W.keepIn K (.ref fKp) = true) (bKp : Binds K dKp ["value"] []) (GKp : FnOk P w K mg base CX0 3 fKp dKp ["value"] spKept) :
    FnOk P w K mg base (L2.CX P w) 15 f fd ["self", "code", "keeps"] (spSI C cS) := by
  refine F.ok scSI (fun vs H Q E h => ?_) (fun cdv A outer s H vs Q E hr h => ?_)
  · obtain ⟨S, p, dx, c, k, dc, dk, rfl, _⟩ := h
    rfl
  · obtain ⟨S, p, dx, c, k, dc, dk, rfl, hp, hc, hk, ns, sc, sk, size, q, e⟩ := h
    refine ⟨_, pss_cons (ps_if (pt_not (pt_val (pe_call GIC hr (by rfl) gIC kIC bIC .nil pass0 (pa_cons (pv 1) pa_nil)))) (pss_one (ps_raise rfl (takes_of rfl rfl rfl rfl) (pmk_B (Classical.choose_spec kS.made).1 GI (hr.mono (by decide)) (by rfl) gcS bI .nil pass0 (pa_cons pe_str pa_nil)))) pss_nil)
      (pss_cons (ps_if (pt_not (pt_val (pe_call GB (hr.mono (by decide)) (by rfl) gB kB bB .nil pass0 (pa_cons (pv 1) pa_nil)))) (pss_one (ps_raise rfl (takes_of rfl rfl rfl rfl) (pmk_B (Classical.choose_spec kS.made).1 GI (hr.mono (by decide)) (by rfl) gcS bI .nil pass0 (pa_cons pe_str pa_nil)))) pss_nil)
      (pss_cons (ps_if (pt_not (pt_val (pe_call GKp (hr.mono (by decide)) (by rfl) gKp kKp bKp .nil pass0 (pa_cons (pv 2) pa_nil)))) (pss_one (ps_raise rfl (takes_of rfl rfl rfl rfl) (pmk_B (Classical.choose_spec kS.made).1 GI (hr.mono (by decide)) (by rfl) gcS bI .nil pass0 (pa_cons pe_str pa_nil)))) pss_nil)
      (pss_cons (ps_fld (pv 0) (pv 1) rfl) (pss_one (ps_fld (pv 0) (pv 2) rfl))))), ?_⟩
    have out : ∀ {H1 : Hp}, Same H H1 → okD dc dk = false → OutN E cS H1 := fun s1 z H' s' => e z H' (s1.trans s')
    refine ⟨_, rfl, S, c, dc, rfl, ns, hc, sc, fun H1 s1 => ⟨_, rfl, ?_⟩⟩
    cases h1 : codeD 3 dc with
    | false =>
      have z : okD dc dk = false := by
        unfold okD
        rw [h1, Bool.false_and]
      exact iteT (mk0 kS (out s1 z))
    | true =>
      refine iteF ?_
      obtain ⟨ds, rfl, rows⟩ := code_tup h1
      refine ⟨_, rfl, S, c, ds, rfl, hc.mv (fun _ z => z) (fun b o _ z => s1 b o z), rows, size h1, fun H2 s2 => ⟨_, rfl, ?_⟩⟩
      have s12 := s1.trans s2
      cases h2 : bndD ds with
      | false =>
        have z : okD (.tuple ds) dk = false := by
          unfold okD itemsD
          rw [h2, Bool.false_and, Bool.and_false]
        exact iteT (mk0 kS (out s12 z))
      | true =>
        refine iteF ⟨_, rfl, S, k, dk, rfl, hk.mv (fun _ z => z) (fun b o _ z => s12 b o z), sk, fun H3 s3 => ⟨_, rfl, ?_⟩⟩
        have s13 := s12.trans s3
        cases h3 : keptD dk with
        | false =>
          have z : okD (.tuple ds) dk = false := by
            unfold okD
            rw [h3, Bool.and_false, Bool.and_false]
          exact iteT (mk0 kS (out s13 z))
        | true =>
          have z : okD (.tuple ds) dk = true := by
            unfold okD itemsD
            rw [h1, h2, h3]
            rfl
          refine iteF ⟨_, rfl, _, rfl, p, C, dx, [], rfl, s13 _ _ hp, T.cl, T.nc, (by show 0 < 1000; decide), _, rfl, _, rfl, p, C, dx, _, rfl, upd_same, T.cl, T.nk, (by show 1 < 1000; decide), ?_⟩
          refine q z _ (fun b o hb eb => ?_) upd_same
          rw [upd_ne hb, upd_ne hb]
          exact s13 b o eb
end
end OM

namespace OM
open PySem PySem.Spec PyProof.Rows L2
/-! ### weights of tuples, taken over all of a datum -/
mutual
def tot (φ : List PyData → Nat) : PyData → Nat
  | .tuple ds => φ ds + totL φ ds
  | _ => 0
def totL (φ : List PyData → Nat) : List PyData → Nat
  | [] => 0
  | d :: r => tot φ d + totL φ r
end
theorem totL_app (φ : List PyData → Nat) : ∀ (a b : List PyData), totL φ (a ++ b) = totL φ a + totL φ b
  | [], b => by
    show totL φ b = totL φ [] + totL φ b
    unfold totL
    omega
  | d :: r, b => by
    show tot φ d + totL φ (r ++ b) = _
    rw [totL_app φ r b]
    show _ = tot φ d + totL φ r + totL φ b
    omega
theorem totL_cons (φ : List PyData → Nat) (d : PyData) (r : List PyData) : totL φ (d :: r) = tot φ d + totL φ r := rfl
theorem tot_tup (φ : List PyData → Nat) (ds : List PyData) : tot φ (.tuple ds) = φ ds + totL φ ds := by
  unfold tot
  rfl
def wsum (ψ : PyData → Nat) (l : List PyData) : Nat := (l.map ψ).sum
theorem wsum_app (ψ : PyData → Nat) (a b : List PyData) : wsum ψ (a ++ b) = wsum ψ a + wsum ψ b := by
  unfold wsum
  rw [List.map_append, List.sum_append]
theorem wsum_cons (ψ : PyData → Nat) (d : PyData) (b : List PyData) : wsum ψ (d :: b) = ψ d + wsum ψ b := rfl
/-- the statements of code lie apart in it -/
def tupW (φ : List PyData → Nat) : PyData → Nat
  | .tuple ds => φ ds
  | _ => 0
theorem flat_tot (φ : List PyData → Nat) : ∀ n : Nat, (∀ d, wsum (tupW φ) (flatS n d) ≤ tot φ d) ∧ ∀ ds, wsum (tupW φ) (flatN n ds) ≤ totL φ ds := by
  have lift : ∀ n, (∀ d, wsum (tupW φ) (flatS n d) ≤ tot φ d) → ∀ ds, wsum (tupW φ) (flatN n ds) ≤ totL φ ds := fun n h ds => by
    induction ds with
    | nil => exact Nat.zero_le _
    | cons d r ih =>
      have e : flatN n (d :: r) = flatS n d ++ flatN n r := List.flatMap_cons
      rw [e, wsum_app, totL_cons]
      have := h d
      omega
  have one : ∀ d, tupW φ d ≤ tot φ d := fun d => by
    cases d with
    | tuple ds =>
      rw [tot_tup]
      exact Nat.le_add_right _ _
    | _ => exact Nat.zero_le _
  intro n
  induction n with
  | zero =>
    have h : ∀ d, wsum (tupW φ) (flatS 0 d) ≤ tot φ d := fun d => one d
    exact ⟨h, lift 0 h⟩
  | succ n ih =>
    have h : ∀ d, wsum (tupW φ) (flatS (n + 1) d) ≤ tot φ d := fun d => by
      show wsum _ (d :: (inner2 d).flatMap (flatN n)) ≤ _
      rw [wsum_cons]
      unfold inner2
      split
      · rename_i w p r ys ns
        rw [tot_tup]
        by_cases hw : w = "if"
        · rw [if_pos hw, List.flatMap_cons, List.flatMap_cons, List.flatMap_nil, List.append_nil, wsum_app]
          have h1 := ih.2 ys
          have h2 := ih.2 ns
          rw [totL_cons, totL_cons, totL_cons, totL_cons, totL_cons, tot_tup, tot_tup]
          show φ [.str w, p, r, .tuple ys, .tuple ns] + _ ≤ _
          omega
        · rw [if_neg hw]
          exact Nat.le_add_right _ _
      · exact Nat.le_trans (Nat.le_of_eq (Nat.add_zero _)) (one d)
    exact ⟨h, lift (n + 1) h⟩
theorem most_sum (k : Str) : ∀ n : Nat, (∀ d, mostS n k d ≤ wsum (ownD k) (flatS n d)) ∧ ∀ ds, mostN n k ds ≤ wsum (ownD k) (flatN n ds) := by
  have lift : ∀ n, (∀ d, mostS n k d ≤ wsum (ownD k) (flatS n d)) → ∀ ds, mostN n k ds ≤ wsum (ownD k) (flatN n ds) := fun n h ds => by
    induction ds with
    | nil => exact Nat.zero_le _
    | cons d r ih =>
      have e : flatN n (d :: r) = flatS n d ++ flatN n r := List.flatMap_cons
      rw [e, wsum_app]
      have := h d
      show mostS n k d + mostN n k r ≤ _
      omega
  intro n
  induction n with
  | zero =>
    have h : ∀ d, mostS 0 k d ≤ wsum (ownD k) (flatS 0 d) := fun d => Nat.le_refl _
    exact ⟨h, lift 0 h⟩
  | succ n ih =>
    have mx : ∀ l : List (List PyData), maxL (l.map fun c => (c.map (mostS n k)).sum) ≤ wsum (ownD k) (l.flatMap (flatN n)) := fun l => by
      induction l with
      | nil => exact Nat.zero_le _
      | cons c r ihl =>
        rw [List.flatMap_cons, wsum_app]
        show max _ (maxL (r.map _)) ≤ _
        have h1 : (c.map (mostS n k)).sum ≤ wsum (ownD k) (flatN n c) := ih.2 c
        exact Nat.max_le.mpr ⟨Nat.le_trans h1 (Nat.le_add_right _ _), Nat.le_trans ihl (Nat.le_add_left _ _)⟩
    have h : ∀ d, mostS (n + 1) k d ≤ wsum (ownD k) (flatS (n + 1) d) := fun d => by
      show ownD k d + _ ≤ wsum _ (d :: (inner2 d).flatMap (flatN n))
      rw [wsum_cons]
      have := mx (inner2 d)
      omega
    exact ⟨h, lift (n + 1) h⟩
theorem wsum_le {ψ χ : PyData → Nat} {l : List PyData} (h : ∀ e ∈ l, ψ e ≤ χ e) : wsum ψ l ≤ wsum χ l := by
  induction l with
  | nil => exact Nat.le_refl _
  | cons d r ih =>
    rw [wsum_cons, wsum_cons]
    have h1 := h d List.mem_cons_self
    have h2 := ih fun e he => h e (List.mem_cons_of_mem _ he)
    omega
/-! ### spoils -/
def odds : List PyData := [.none, .int 0, .bool true, .str "", .str "A", .str "if", .str "get", .str "read", .str "show", .tuple [], .list [], .dict [], .tuple [.str "a"], .str "abcdefghi", .str "a", .tuple [.str "show", .str "a"]]
inductive SpR : PyData → PyData → Prop where
  | odd {d o : PyData} (h : o ∈ odds) : SpR d o
  | del {ds : List PyData} (i : Nat) : SpR (.tuple ds) (.tuple (ds.take i ++ ds.drop (i + 1)))
  | ins {ds : List PyData} {o : PyData} (i : Nat) (h : o ∈ odds) : SpR (.tuple ds) (.tuple (ds.take i ++ o :: ds.drop i))
  | lst {ds : List PyData} : SpR (.tuple ds) (.list ds)
  | sub {ds : List PyData} {d d' : PyData} (i : Nat) (hi : ds[i]? = some d) (h : SpR d d') : SpR (.tuple ds) (.tuple (ds.take i ++ d' :: ds.drop (i + 1)))
/-- a weight that one spoil moves by one at most -/
structure Lip (φ : List PyData → Nat) : Prop where
  nil : φ [] ≤ 1
  odd : ∀ o ∈ odds, tot φ o ≤ 1
  oddL : ∀ o ∈ odds, totL φ (itemsD o) ≤ 1
  del : ∀ (a b : List PyData) (d : PyData), φ (a ++ b) ≤ φ (a ++ d :: b) + 1
  ins : ∀ (a b : List PyData), ∀ o ∈ odds, φ (a ++ o :: b) + tot φ o ≤ φ (a ++ b) + 1
  tup : ∀ (a b : List PyData) (xs ys : List PyData), φ (a ++ .tuple ys :: b) ≤ φ (a ++ .tuple xs :: b)
  put : ∀ (a b : List PyData) (d : PyData), ∀ o ∈ odds, φ (a ++ o :: b) + tot φ o ≤ φ (a ++ d :: b) + 1
  lst : ∀ (a b : List PyData) (xs ys : List PyData), φ (a ++ .list ys :: b) ≤ φ (a ++ .tuple xs :: b) + 1
theorem cut_at {ds : List PyData} {i : Nat} {d : PyData} (h : ds[i]? = some d) : ds = ds.take i ++ d :: ds.drop (i + 1) := by
  obtain ⟨hl, e⟩ := List.getElem?_eq_some_iff.mp h
  rw [← e, ← List.drop_eq_getElem_cons hl, List.take_append_drop]
theorem drop_case (ds : List PyData) (i : Nat) : (∃ d, ds = ds.take i ++ d :: ds.drop (i + 1)) ∨ ds.take i ++ ds.drop (i + 1) = ds := by
  rcases Nat.lt_or_ge i ds.length with h | h
  · exact .inl ⟨ds[i], cut_at (List.getElem?_eq_getElem h)⟩
  · right
    rw [List.take_of_length_le h, List.drop_of_length_le (by omega), List.append_nil]
theorem SpR.tot {φ : List PyData → Nat} (L : Lip φ) : ∀ {d d' : PyData}, SpR d d' → OM.tot φ d' ≤ OM.tot φ d + 1 ∧ totL φ (itemsD d') ≤ totL φ (itemsD d) + 1
  | _, _, .odd h => ⟨Nat.le_trans (L.odd _ h) (Nat.le_add_left _ _), Nat.le_trans (L.oddL _ h) (Nat.le_add_left _ _)⟩
  | _, _, .del (ds := ds) i => by
    rcases drop_case ds i with ⟨d, e⟩ | e
    · have h1 := L.del (ds.take i) (ds.drop (i + 1)) d
      rw [← e] at h1
      have h2 : totL φ ds = totL φ (ds.take i) + (OM.tot φ d + totL φ (ds.drop (i + 1))) := by
        conv => lhs; rw [e, totL_app, totL_cons]
      rw [tot_tup, tot_tup]
      show _ ∧ totL φ (ds.take i ++ ds.drop (i + 1)) ≤ totL φ ds + 1
      rw [totL_app]
      omega
    · rw [e]
      exact ⟨Nat.le_succ _, Nat.le_succ _⟩
  | _, _, .ins (ds := ds) (o := o) i h => by
    have h1 := L.ins (ds.take i) (ds.drop i) o h
    have h3 := L.odd o h
    rw [List.take_append_drop] at h1
    have h2 : totL φ ds = totL φ (ds.take i) + totL φ (ds.drop i) := by
      conv => lhs; rw [← List.take_append_drop i ds, totL_app]
    rw [tot_tup, tot_tup]
    show _ ∧ totL φ (ds.take i ++ o :: ds.drop i) ≤ totL φ ds + 1
    rw [totL_app, totL_cons]
    omega
  | _, _, .lst => ⟨Nat.zero_le _, Nat.zero_le _⟩
  | _, _, .sub (ds := ds) (d := d) (d' := d') i hi h => by
    have e := cut_at hi
    have ih := SpR.tot L h
    have h2 : totL φ ds = totL φ (ds.take i) + (OM.tot φ d + totL φ (ds.drop (i + 1))) := by
      conv => lhs; rw [e, totL_app, totL_cons]
    have key : φ (ds.take i ++ d' :: ds.drop (i + 1)) + OM.tot φ d' ≤ φ ds + OM.tot φ d + 1 := by
      cases h with
      | odd ho =>
        have := L.put (ds.take i) (ds.drop (i + 1)) d d' ho
        rw [← e] at this
        omega
      | @del xs j =>
        have := L.tup (ds.take i) (ds.drop (i + 1)) xs (xs.take j ++ xs.drop (j + 1))
        rw [← e] at this
        have := ih.1
        omega
      | @ins xs o j ho =>
        have := L.tup (ds.take i) (ds.drop (i + 1)) xs (xs.take j ++ o :: xs.drop j)
        rw [← e] at this
        have := ih.1
        omega
      | @lst xs =>
        have := L.lst (ds.take i) (ds.drop (i + 1)) xs xs
        rw [← e] at this
        show _ + 0 ≤ _
        omega
      | @sub xs y y' j hj hy =>
        have := L.tup (ds.take i) (ds.drop (i + 1)) xs (xs.take j ++ y' :: xs.drop (j + 1))
        rw [← e] at this
        have := ih.1
        omega
    rw [tot_tup, tot_tup]
    show _ ∧ totL φ (ds.take i ++ d' :: ds.drop (i + 1)) ≤ totL φ ds + 1
    rw [totL_app, totL_cons]
    have := ih.1
    omega
/-! ### the four weights -/
def headW (P : Str → Bool) : List PyData → Nat
  | .str w :: _ => if P w = true then 1 else 0
  | _ => 0
theorem headW_le (P : Str → Bool) (ds : List PyData) : headW P ds ≤ 1 := by
  unfold headW
  split
  · split
    · exact Nat.le_refl _
    · exact Nat.zero_le _
  · exact Nat.zero_le _
theorem odds_all {p : PyData → Prop} (h0 : p .none) (h1 : p (.int 0)) (h2 : p (.bool true)) (hs : ∀ x, p (.str x)) (ht : p (.tuple [])) (hl : p (.list [])) (hd : p (.dict [])) (ha : p (.tuple [.str "a"])) (hw : p (.tuple [.str "show", .str "a"])) : ∀ o ∈ odds, p o := by
  intro o ho
  unfold odds at ho
  simp only [List.mem_cons, List.not_mem_nil, or_false] at ho
  rcases ho with rfl | rfl | rfl | rfl | rfl | rfl | rfl | rfl | rfl | rfl | rfl | rfl | rfl | rfl | rfl | rfl <;> first | assumption | exact hs _
theorem lip_head (P : Str → Bool) (ha : P "a" = false) (hs : P "show" = false) : Lip (headW P) := by
  have z : ∀ o ∈ odds, tot (headW P) o = 0 := odds_all rfl rfl rfl (fun _ => rfl) rfl rfl rfl (by
    rw [tot_tup]
    show (if P "a" = true then 1 else 0) + _ = 0
    rw [ha]
    rfl) (by
    rw [tot_tup]
    show (if P "show" = true then 1 else 0) + _ = 0
    rw [hs]
    rfl)
  have zl : ∀ o ∈ odds, totL (headW P) (itemsD o) = 0 := odds_all rfl rfl rfl (fun _ => rfl) rfl rfl rfl rfl rfl
  have le := headW_le P
  refine ⟨le _, fun o h => by rw [z o h]; exact Nat.zero_le _, fun o h => by rw [zl o h]; exact Nat.zero_le _, fun a b d => ?_, fun a b o h => ?_, fun a b xs ys => ?_, fun a b d o h => ?_, fun a b xs ys => ?_⟩
  · have := le (a ++ b)
    omega
  · have := le (a ++ o :: b)
    rw [z o h]
    omega
  · cases a with
    | nil => exact Nat.zero_le _
    | cons x r => cases x <;> exact Nat.le_refl _
  · have := le (a ++ o :: b)
    rw [z o h]
    omega
  · have := le (a ++ .list ys :: b)
    omega
theorem lip_one : Lip fun _ => 1 := by
  have z : ∀ o ∈ odds, tot (fun _ => 1) o ≤ 1 := odds_all (Nat.zero_le _) (Nat.zero_le _) (Nat.zero_le _) (fun _ => Nat.zero_le _) (Nat.le_refl _) (Nat.zero_le _) (Nat.zero_le _) (Nat.le_refl _) (Nat.le_refl _)
  have zl : ∀ o ∈ odds, totL (fun _ => 1) (itemsD o) = 0 := odds_all rfl rfl rfl (fun _ => rfl) rfl rfl rfl rfl rfl
  refine ⟨Nat.le_refl _, z, fun o h => by rw [zl o h]; exact Nat.zero_le _, fun a b d => (by omega), fun a b o h => ?_, fun a b xs ys => Nat.le_refl _, fun a b d o h => ?_, fun a b xs ys => (by omega)⟩
  · have := z o h
    omega
  · have := z o h
    omega
def isIfD : PyData → Bool
  | .str w => w == "if"
  | _ => false
/-- how near a tuple is to an if -/
def ifW (ds : List PyData) : Nat := min (min 2 (ds.countP isTupD) + min 1 (ds.countP isIfD) - 1) (min 2 (ds.length - 3))
theorem one_tup (d : PyData) : ((if isTupD d = true then 1 else 0) + (if isIfD d = true then 1 else 0) : Nat) ≤ 1 := by
  cases d with
  | str w =>
    show 0 + _ ≤ 1
    split <;> omega
  | tuple ds => exact Nat.le_refl 1
  | _ => exact Nat.zero_le _
theorem lip_if : Lip ifW := by
  have z : ∀ o ∈ odds, tot ifW o = 0 := odds_all rfl rfl rfl (fun _ => rfl) rfl rfl rfl rfl rfl
  have zl : ∀ o ∈ odds, totL ifW (itemsD o) = 0 := odds_all rfl rfl rfl (fun _ => rfl) rfl rfl rfl rfl rfl
  refine ⟨Nat.zero_le _, fun o h => by rw [z o h]; exact Nat.zero_le _, fun o h => by rw [zl o h]; exact Nat.zero_le _, fun a b d => ?_, fun a b o h => ?_, fun a b xs ys => ?_, fun a b d o h => ?_, fun a b xs ys => ?_⟩
  · unfold ifW
    rw [List.countP_append, List.countP_append, List.countP_append, List.countP_append, List.countP_cons, List.countP_cons, List.length_append, List.length_append, List.length_cons]
    have := one_tup d
    omega
  · rw [z o h]
    unfold ifW
    rw [List.countP_append, List.countP_append, List.countP_append, List.countP_append, List.countP_cons, List.countP_cons, List.length_append, List.length_append, List.length_cons]
    have := one_tup o
    omega
  · unfold ifW
    rw [List.countP_append, List.countP_append, List.countP_append, List.countP_append, List.countP_cons, List.countP_cons, List.countP_cons, List.countP_cons, List.length_append, List.length_append, List.length_cons, List.length_cons]
    exact Nat.le_refl _
  · rw [z o h]
    unfold ifW
    rw [List.countP_append, List.countP_append, List.countP_append, List.countP_append, List.countP_cons, List.countP_cons, List.countP_cons, List.countP_cons, List.length_append, List.length_append, List.length_cons, List.length_cons]
    have h1 := one_tup o
    have h2 := one_tup d
    omega
  · unfold ifW
    rw [List.countP_append, List.countP_append, List.countP_append, List.countP_append, List.countP_cons, List.countP_cons, List.countP_cons, List.countP_cons, List.length_append, List.length_append, List.length_cons, List.length_cons]
    show min (min 2 (_ + (_ + 0)) + min 1 (_ + (_ + 0)) - 1) _ ≤ min (min 2 (_ + (_ + 1)) + min 1 (_ + (_ + 0)) - 1) _ + 1
    omega
def isLet (w : Str) : Bool := decide (w = "get" ∨ w = "put")
def isSet (w : Str) : Bool := decide (w = "set")
end OM

namespace OM
open PySem PySem.Spec PyProof.Rows L2
theorem totL_strs (φ : List PyData → Nat) : ∀ l : List Str, totL φ (l.map PyData.str) = 0
  | [] => rfl
  | x :: r => by
    show 0 + totL φ (r.map PyData.str) = 0
    rw [totL_strs φ r]
theorem regs_plain : ∀ a ∈ regs4, isLet a = false ∧ isSet a = false ∧ (a == "if") = false := by decide +kernel
theorem cells_plain : ∀ a ∈ cells3, isLet a = false ∧ isSet a = false ∧ (a == "if") = false := by decide +kernel
theorem ifW_short {ds : List PyData} (h : ds.length ≤ 3) : ifW ds = 0 := by
  unfold ifW
  have : ds.length - 3 = 0 := by omega
  rw [this]
  simp
theorem head_regs {P : Str → Bool} {as : List Str} (h : ∀ a ∈ as, P a = false) : headW P (as.map PyData.str) = 0 := by
  cases as with
  | nil => rfl
  | cons a r =>
    show (if P a = true then 1 else 0) = 0
    rw [h a List.mem_cons_self]
    rfl
theorem head_no {P : Str → Bool} {w : Str} {r : List PyData} (h : P w = false) : headW P (.str w :: r) = 0 := by
  show (if P w = true then 1 else 0) = 0
  rw [h]
  rfl
theorem CoD.head {n : Nat} {ds : List PyData} {l s t z : Nat} (h : CoD n ds l s t z) (P : Str → Bool) : headW P ds = 0 := by
  cases h with
  | nil => rfl
  | cons h r => cases h <;> rfl
def Bd (d : PyData) (l s t z : Nat) : Prop := tot (headW isLet) d ≤ l ∧ tot (headW isSet) d ≤ s ∧ tot (fun _ => 1) d ≤ z + 2 * t + s ∧ tot ifW d ≤ 2 * t ∧ z ≤ 1 + 4 * t
def BdL (ds : List PyData) (l s t z : Nat) : Prop := totL (headW isLet) ds ≤ l ∧ totL (headW isSet) ds ≤ s ∧ totL (fun _ => 1) ds ≤ z + 2 * t + s ∧ totL ifW ds ≤ 2 * t ∧ z ≤ ds.length + 4 * t
mutual
theorem StD.w : ∀ {n : Nat} {d : PyData} {l s t z : Nat}, StD n d l s t z → Bd d l s t z
  | _, _, _, _, _, _, .read (r := r) (x := x) hr hx => by
    refine ⟨?_, ?_, ?_, ?_, by omega⟩ <;> rw [tot_tup]
    · rw [head_no (by decide +kernel)]
      exact Nat.le_refl 0
    · rw [head_no (by decide +kernel)]
      exact Nat.le_refl 0
    · exact Nat.le_refl 1
    · rw [ifW_short (by show 3 ≤ 3; decide)]
      exact Nat.le_refl 0
  | _, _, _, _, _, _, .write (r := r) (x := x) hx hr => by
    refine ⟨?_, ?_, ?_, ?_, by omega⟩ <;> rw [tot_tup]
    · rw [head_no (by decide +kernel)]
      exact Nat.le_refl 0
    · rw [head_no (by decide +kernel)]
      exact Nat.le_refl 0
    · exact Nat.le_refl 1
    · rw [ifW_short (by show 3 ≤ 3; decide)]
      exact Nat.le_refl 0
  | _, _, _, _, _, _, .copy (r := r) (a := a) hr ha => by
    refine ⟨?_, ?_, ?_, ?_, by omega⟩ <;> rw [tot_tup]
    · rw [head_no (by decide +kernel)]
      exact Nat.le_refl 0
    · rw [head_no (by decide +kernel)]
      exact Nat.le_refl 0
    · exact Nat.le_refl 1
    · rw [ifW_short (by show 3 ≤ 3; decide)]
      exact Nat.le_refl 0
  | _, _, _, _, _, _, .letter (w := w) (r := r) hw hr => by
    refine ⟨?_, ?_, ?_, ?_, by omega⟩ <;> rw [tot_tup]
    · have := headW_le isLet [.str w, .str r]
      show _ + 0 ≤ 1
      omega
    · rw [head_no (by rcases hw with rfl | rfl <;> decide +kernel)]
      exact Nat.le_refl 0
    · exact Nat.le_refl 1
    · rw [ifW_short (by show 2 ≤ 3; decide)]
      exact Nat.le_refl 0
  | _, _, _, _, _, _, .set (r := r) (f := f) (as := as) hr hf ha hl => by
    have e : ∀ φ : List PyData → Nat, tot φ (.tuple [.str "set", .str r, .str f, .tuple (as.map PyData.str)]) = φ [.str "set", .str r, .str f, .tuple (as.map PyData.str)] + φ (as.map PyData.str) := fun φ => by
      rw [tot_tup]
      show _ + (0 + (0 + (0 + (tot φ (.tuple (as.map PyData.str)) + 0)))) = _
      rw [tot_tup, totL_strs]
      omega
    refine ⟨?_, ?_, ?_, ?_, by omega⟩ <;> rw [e]
    · rw [head_no (by decide +kernel), head_regs fun a h => (regs_plain a (ha a h)).1]
      exact Nat.le_refl 0
    · have := headW_le isSet [.str "set", .str r, .str f, .tuple (as.map PyData.str)]
      rw [head_regs fun a h => (regs_plain a (ha a h)).2.1]
      exact this
    · exact Nat.le_refl 2
    · rw [ifW_short (ds := as.map PyData.str) (by rw [List.length_map]; omega)]
      have h1 := (regs_plain r hr).2.2
      have h2 : (f == "if") = false := by rcases hf with rfl | rfl <;> decide +kernel
      have h3 : ("set" == ("if" : Str)) = false := by decide +kernel
      have c1 : [PyData.str "set", .str r, .str f, .tuple (as.map PyData.str)].countP isIfD = 0 := by
        simp [List.countP_cons, isIfD, h1, h2, h3]
      have c2 : [PyData.str "set", .str r, .str f, .tuple (as.map PyData.str)].countP isTupD = 1 := by
        simp [List.countP_cons, isTupD]
      unfold ifW
      rw [c1, c2]
      exact Nat.le_of_eq (by simp)
  | _, _, _, _, _, _, .iff (p := p) (r := r) (ys := ys) (ns := ns) hp hr hy hyl hn hnl => by
    have e : ∀ φ : List PyData → Nat, tot φ (.tuple [.str "if", .str p, .str r, .tuple ys, .tuple ns]) = φ [.str "if", .str p, .str r, .tuple ys, .tuple ns] + ((φ ys + totL φ ys) + (φ ns + totL φ ns)) := fun φ => by
      rw [tot_tup]
      show _ + (0 + (0 + (0 + (tot φ (.tuple ys) + (tot φ (.tuple ns) + 0))))) = _
      rw [tot_tup, tot_tup]
      omega
    obtain ⟨a1, a2, a3, a4, a5⟩ := CoD.w hy
    obtain ⟨b1, b2, b3, b4, b5⟩ := CoD.w hn
    refine ⟨?_, ?_, ?_, ?_, by omega⟩
    · rw [e, head_no (by decide +kernel), hy.head, hn.head]
      omega
    · rw [e, head_no (by decide +kernel), hy.head, hn.head]
      omega
    · rw [e]
      show 1 + ((1 + totL (fun _ => 1) ys) + (1 + totL (fun _ => 1) ns)) ≤ _
      omega
    · rw [e, ifW_short (ds := ys) (by omega), ifW_short (ds := ns) (by omega)]
      have : ifW [.str "if", .str p, .str r, .tuple ys, .tuple ns] ≤ 2 := by
        unfold ifW
        exact Nat.le_trans (Nat.min_le_right _ _) (Nat.min_le_left _ _)
      omega
theorem CoD.w : ∀ {n : Nat} {ds : List PyData} {l s t z : Nat}, CoD n ds l s t z → BdL ds l s t z
  | _, _, _, _, _, _, .nil => ⟨Nat.le_refl 0, Nat.le_refl 0, Nat.le_refl 0, Nat.le_refl 0, Nat.le_refl 0⟩
  | _, _, _, _, _, _, .cons h r => by
    obtain ⟨a1, a2, a3, a4, a5⟩ := StD.w h
    obtain ⟨b1, b2, b3, b4, b5⟩ := CoD.w r
    refine ⟨?_, ?_, ?_, ?_, ?_⟩
    · rw [totL_cons]; omega
    · rw [totL_cons]; omega
    · rw [totL_cons]; omega
    · rw [totL_cons]; omega
    · rw [List.length_cons]; omega
end
/-- drawn code, and what comes of it by one spoil or two -/
inductive Rch (c : PyData) : PyData → Prop where
  | zero : Rch c c
  | one {d : PyData} (h : SpR c d) : Rch c d
  | two {m d : PyData} (h : SpR c m) (k : SpR m d) : Rch c d
theorem Rch.le {φ : List PyData → Nat} (L : Lip φ) {c d : PyData} (r : Rch c d) : totL φ (itemsD d) ≤ totL φ (itemsD c) + 2 := by
  cases r with
  | zero => omega
  | one h =>
    have := (h.tot L).2
    omega
  | two h k =>
    have h1 := (h.tot L).2
    have h2 := (k.tot L).2
    omega
def kindW (w : Str) (rest : List PyData) : Str := if w = "get" ∨ w = "put" then "letter" else if w = "set" then (match rest with | [_, _, .tuple []] => "constant" | _ => "set") else w
theorem row_own {n : Nat} {e : PyData} (row : rowD (cdOf n) e = true) : ownD "letter" e ≤ tupW (headW isLet) e ∧ ownD "set" e ≤ tupW (headW isSet) e ∧ 2 * ownD "if" e ≤ tupW ifW e ∧ 1 ≤ tupW (fun _ => 1) e := by
  obtain ⟨w, rest, rs, rfl, hf, hlen, fits⟩ := rowD_shape row
  have kd : kindD (.tuple (.str w :: rest)) = kindW w rest := rfl
  refine ⟨?_, ?_, ?_, Nat.le_refl 1⟩
  · unfold ownD
    split
    · rename_i h
      rw [kd] at h
      unfold kindW at h
      split at h
      · rename_i g
        show 1 ≤ (if isLet w = true then 1 else 0)
        rw [if_pos (show isLet w = true from decide_eq_true g)]
        exact Nat.le_refl 1
      · split at h
        · split at h <;> exact absurd h (by decide +kernel)
        · rw [h, show formOf "letter" = none by decide +kernel] at hf
          cases hf
    · exact Nat.zero_le _
  · unfold ownD
    split
    · rename_i h
      rw [kd] at h
      unfold kindW at h
      split at h
      · exact absurd h (by decide +kernel)
      · split at h
        · rename_i g
          show 1 ≤ (if isSet w = true then 1 else 0)
          rw [if_pos (show isSet w = true from decide_eq_true g)]
          exact Nat.le_refl 1
        · rename_i g
          exact absurd h g
    · exact Nat.zero_le _
  · unfold ownD
    split
    · rename_i h
      rw [kd] at h
      unfold kindW at h
      split at h
      · exact absurd h (by decide +kernel)
      · split at h
        · split at h <;> exact absurd h (by decide +kernel)
        · subst h
          rcases row_iff row with ⟨m, p, r, ys, ns, _, e, _⟩ | ⟨w', rest', e, ne, _⟩
          · rw [e]
            show 2 * 1 ≤ ifW [.str "if", p, r, .tuple ys, .tuple ns]
            unfold ifW
            have c1 : 1 ≤ [PyData.str "if", p, r, .tuple ys, .tuple ns].countP isIfD := by
              rw [List.countP_cons]
              have : isIfD (.str "if") = true := by decide +kernel
              rw [this]
              simp
            have c2 : 2 ≤ [PyData.str "if", p, r, .tuple ys, .tuple ns].countP isTupD := by
              rw [List.countP_cons, List.countP_cons, List.countP_cons, List.countP_cons, List.countP_cons]
              have : ∀ zs, isTupD (.tuple zs) = true := fun _ => rfl
              rw [this, this]
              simp
              omega
            show 2 ≤ min (_ - 1) (min 2 (5 - 3))
            omega
          · have : w' = "if" := by
              injection e with e
              injection e with e _
              injection e with e
              exact e.symm
            exact absurd this ne
    · exact Nat.zero_le _
theorem wsum_two (ψ : PyData → Nat) (l : List PyData) : wsum (fun e => 2 * ψ e) l = 2 * wsum ψ l := by
  induction l with
  | nil => rfl
  | cons d r ih =>
    rw [wsum_cons, wsum_cons, ih]
    omega
theorem wsum_len (l : List PyData) : wsum (fun _ => 1) l = l.length := by
  induction l with
  | nil => rfl
  | cons d r ih =>
    rw [wsum_cons, ih, List.length_cons]
    omega
/-- code that came of drawn code by two spoils keeps every bound but the cells' -/
theorem reach_ok {ds0 : List PyData} {l s t z : Nat} {d : PyData} (cd : CoD 2 ds0 l s t z) (hlen : ds0.length ≤ 6) (hl : l ≤ 4) (hs : s ≤ 3) (ht : t ≤ 2) (r : Rch (.tuple ds0) d) (h : codeD 3 d = true) :
    (flatN 3 (itemsD d)).length ≤ 24 ∧ mostN 3 "letter" (itemsD d) ≤ 6 ∧ mostN 3 "set" (itemsD d) ≤ 6 ∧ mostN 3 "if" (itemsD d) ≤ 3 := by
  obtain ⟨w1, w2, w3, w4, w5⟩ := cd.w
  have r1 := r.le (lip_head isLet (by decide +kernel) (by decide +kernel))
  have r2 := r.le (lip_head isSet (by decide +kernel) (by decide +kernel))
  have r3 := r.le lip_one
  have r4 := r.le lip_if
  obtain ⟨ds, rfl, rows⟩ := code_tup h
  have good : ∀ e ∈ flatN 3 ds, ∃ m, rowD (cdOf m) e = true := fun e he => by
    obtain ⟨d0, hd0, hm⟩ := List.mem_flatMap.mp he
    exact rows_flatS (List.all_eq_true.mp rows d0 hd0) e hm
  have f1 := (flat_tot (headW isLet) 3).2 ds
  have f2 := (flat_tot (headW isSet) 3).2 ds
  have f3 := (flat_tot (fun _ => 1) 3).2 ds
  have f4 := (flat_tot ifW 3).2 ds
  have m1 := (most_sum "letter" 3).2 ds
  have m2 := (most_sum "set" 3).2 ds
  have m4 := (most_sum "if" 3).2 ds
  have o1 : wsum (ownD "letter") (flatN 3 ds) ≤ wsum (tupW (headW isLet)) (flatN 3 ds) := wsum_le fun e he => by obtain ⟨m, row⟩ := good e he; exact (row_own row).1
  have o2 : wsum (ownD "set") (flatN 3 ds) ≤ wsum (tupW (headW isSet)) (flatN 3 ds) := wsum_le fun e he => by obtain ⟨m, row⟩ := good e he; exact (row_own row).2.1
  have o4 : wsum (fun e => 2 * ownD "if" e) (flatN 3 ds) ≤ wsum (tupW ifW) (flatN 3 ds) := wsum_le fun e he => by obtain ⟨m, row⟩ := good e he; exact (row_own row).2.2.1
  have o3 : wsum (fun _ => 1) (flatN 3 ds) ≤ wsum (tupW fun _ => 1) (flatN 3 ds) := wsum_le fun e he => by obtain ⟨m, row⟩ := good e he; exact (row_own row).2.2.2
  rw [wsum_two] at o4
  rw [wsum_len] at o3
  have i0 : itemsD (.tuple ds0) = ds0 := rfl
  have i1 : itemsD (.tuple ds) = ds := rfl
  rw [i0, i1] at r1 r2 r3 r4
  rw [i1]
  exact ⟨by omega, by omega, by omega, by omega⟩
end OM

namespace OM
open PySem PySem.Spec PyProof.Rows L2
/-! ### weights of code -/
def W (ψ : PyData → Nat) (n : Nat) (ds : List PyData) : Nat := wsum ψ (flatN n ds)
def one : PyData → Nat := fun _ => 1
theorem flatN_ap (n : Nat) (a b : List PyData) : flatN n (a ++ b) = flatN n a ++ flatN n b := by
  unfold flatN
  rw [List.flatMap_append]
theorem flatN_cons (n : Nat) (d : PyData) (r : List PyData) : flatN n (d :: r) = flatS n d ++ flatN n r := rfl
theorem W_ap (ψ : PyData → Nat) (n : Nat) (a b : List PyData) : W ψ n (a ++ b) = W ψ n a + W ψ n b := by
  unfold W
  rw [flatN_ap, wsum_app]
theorem W_cons (ψ : PyData → Nat) (n : Nat) (d : PyData) (r : List PyData) : W ψ n (d :: r) = wsum ψ (flatS n d) + W ψ n r := by
  unfold W
  rw [flatN_cons, wsum_app]
theorem W_one (n : Nat) (ds : List PyData) : W one n ds = (flatN n ds).length := wsum_len _
theorem leafS {n : Nat} {d : PyData} (row : rowD (cdOf n) d = true) (h : inner2 d = []) : flatS n d = [d] := by
  rw [flatS_row row, h]
  rfl
theorem ifS {m : Nat} {p r : PyData} {ys ns : List PyData} (row : rowD (cdOf (m + 1)) (.tuple [.str "if", p, r, .tuple ys, .tuple ns]) = true) : flatS (m + 1) (.tuple [.str "if", p, r, .tuple ys, .tuple ns]) = .tuple [.str "if", p, r, .tuple ys, .tuple ns] :: (flatN m ys ++ flatN m ns) := by
  rw [flatS_row row]
  show _ :: [ys, ns].flatMap (flatN m) = _
  rw [List.flatMap_cons, List.flatMap_cons, List.flatMap_nil, List.append_nil]
theorem W_if {ψ : PyData → Nat} {m : Nat} {p r : PyData} {ys ns : List PyData} (row : rowD (cdOf (m + 1)) (.tuple [.str "if", p, r, .tuple ys, .tuple ns]) = true) : wsum ψ (flatS (m + 1) (.tuple [.str "if", p, r, .tuple ys, .tuple ns])) = ψ (.tuple [.str "if", p, r, .tuple ys, .tuple ns]) + (W ψ m ys + W ψ m ns) := by
  rw [ifS row, wsum_cons, wsum_app]
  rfl
theorem if_row {m : Nat} {p r : PyData} {ys ns : List PyData} (hp : isNameD p = true) (hr : isNameD r = true) (hy : ys.all (rowD (cdOf m)) = true) (hn : ns.all (rowD (cdOf m)) = true) : rowD (cdOf (m + 1)) (.tuple [.str "if", p, r, .tuple ys, .tuple ns]) = true := by
  have cy : cdOf (m + 1) (.tuple ys) = true := (codeD_tup m ys).trans hy
  have cn : cdOf (m + 1) (.tuple ns) = true := (codeD_tup m ns).trans hn
  rw [row_if, hp, hr, cy, cn]
  rfl
theorem leaf_any {n m : Nat} {w : Str} {rest : List PyData} (h : rowD (cdOf n) (.tuple (.str w :: rest)) = true) (ni : w ≠ "if") : rowD (cdOf m) (.tuple (.str w :: rest)) = true := by
  by_cases hs : w = "set"
  · subst hs
    by_cases hl : rest.length = 3
    · match rest, hl with
      | [a, b, c], _ =>
        rw [row_set] at h ⊢
        exact h
    · rw [row_set_len hl] at h
      cases h
  · rw [row_plain ni hs] at h ⊢
    exact h
/-- code stays code at a greater depth, with the same statements -/
theorem row_up : ∀ (n : Nat) {d : PyData}, rowD (cdOf n) d = true → rowD (cdOf (n + 1)) d = true ∧ flatS (n + 1) d = flatS n d := by
  intro n
  induction n with
  | zero =>
    intro d h
    rcases row_iff h with ⟨m, p, r, ys, ns, e, _⟩ | ⟨w, rest, rfl, ni, i0⟩
    · cases e
    · have h1 := leaf_any (m := 1) h ni
      exact ⟨h1, by rw [leafS h i0, leafS h1 i0]⟩
  | succ n ih =>
    intro d h
    rcases row_iff h with ⟨m, p, r, ys, ns, e, rfl, hy, hn, hp, hr⟩ | ⟨w, rest, rfl, ni, i0⟩
    · obtain rfl : m = n := by omega
      have up : ∀ {l : List PyData}, l.all (rowD (cdOf m)) = true → l.all (rowD (cdOf (m + 1))) = true ∧ flatN (m + 1) l = flatN m l := by
        intro l
        induction l with
        | nil => exact fun _ => ⟨rfl, rfl⟩
        | cons x l il =>
          intro hl
          rw [List.all_cons, Bool.and_eq_true] at hl
          obtain ⟨a1, a2⟩ := ih hl.1
          obtain ⟨b1, b2⟩ := il hl.2
          rw [List.all_cons, a1, b1, flatN_cons, flatN_cons, a2, b2]
          exact ⟨rfl, rfl⟩
      have h2 := if_row hp hr (up hy).1 (up hn).1
      exact ⟨h2, by rw [ifS h, ifS h2, (up hy).2, (up hn).2]⟩
    · have h1 := leaf_any (m := n + 2) h ni
      exact ⟨h1, by rw [leafS h i0, leafS h1 i0]⟩
theorem rows_up {n : Nat} : ∀ {l : List PyData}, l.all (rowD (cdOf n)) = true → l.all (rowD (cdOf (n + 1))) = true ∧ flatN (n + 1) l = flatN n l
  | [], _ => ⟨rfl, rfl⟩
  | x :: l, hl => by
    rw [List.all_cons, Bool.and_eq_true] at hl
    obtain ⟨a1, a2⟩ := row_up n hl.1
    obtain ⟨b1, b2⟩ := rows_up hl.2
    rw [List.all_cons, a1, b1, flatN_cons, flatN_cons, a2, b2]
    exact ⟨rfl, rfl⟩
theorem W_up {ψ : PyData → Nat} {n : Nat} {l : List PyData} (h : l.all (rowD (cdOf n)) = true) : W ψ (n + 1) l = W ψ n l := by
  unfold W
  rw [(rows_up h).2]
theorem own_if {p r y x : PyData} : ownD "if" (.tuple [.str "if", p, r, y, x]) = 1 := by
  unfold ownD
  rw [if_pos (by
    unfold kindD
    dsimp only
    rw [if_neg (by decide +kernel), if_neg (by decide +kernel)])]
/-- few ifs: not deep -/
theorem row_down : ∀ (n k : Nat) {d : PyData}, rowD (cdOf n) d = true → wsum (ownD "if") (flatS n d) ≤ k → rowD (cdOf k) d = true ∧ flatS k d = flatS n d := by
  intro n
  induction n with
  | zero =>
    intro k d h _
    rcases row_iff h with ⟨m, p, r, ys, ns, e, _⟩ | ⟨w, rest, rfl, ni, i0⟩
    · cases e
    · have h1 := leaf_any (m := k) h ni
      exact ⟨h1, by rw [leafS h i0, leafS h1 i0]⟩
  | succ n ih =>
    intro k d h hk
    rcases row_iff h with ⟨m, p, r, ys, ns, e, rfl, hy, hn, hp, hr⟩ | ⟨w, rest, rfl, ni, i0⟩
    · obtain rfl : m = n := by omega
      rw [W_if h, own_if] at hk
      obtain ⟨j, rfl⟩ : ∃ j, k = j + 1 := ⟨k - 1, by omega⟩
      have dn : ∀ {l : List PyData}, l.all (rowD (cdOf m)) = true → W (ownD "if") m l ≤ j → l.all (rowD (cdOf j)) = true ∧ flatN j l = flatN m l := by
        intro l
        induction l with
        | nil => exact fun _ _ => ⟨rfl, rfl⟩
        | cons x l il =>
          intro hl hw
          rw [List.all_cons, Bool.and_eq_true] at hl
          rw [W_cons] at hw
          obtain ⟨a1, a2⟩ := ih j hl.1 (by omega)
          obtain ⟨b1, b2⟩ := il hl.2 (by omega)
          rw [List.all_cons, a1, b1, flatN_cons, flatN_cons, a2, b2]
          exact ⟨rfl, rfl⟩
      have h2 := if_row hp hr (dn hy (by omega)).1 (dn hn (by omega)).1
      exact ⟨h2, by rw [ifS h, ifS h2, (dn hy (by omega)).2, (dn hn (by omega)).2]⟩
    · have h1 := leaf_any (m := k) h ni
      exact ⟨h1, by rw [leafS h i0, leafS h1 i0]⟩
theorem rows_down {n k : Nat} : ∀ {l : List PyData}, l.all (rowD (cdOf n)) = true → W (ownD "if") n l ≤ k → l.all (rowD (cdOf k)) = true ∧ flatN k l = flatN n l
  | [], _, _ => ⟨rfl, rfl⟩
  | x :: l, hl, hw => by
    rw [List.all_cons, Bool.and_eq_true] at hl
    rw [W_cons] at hw
    obtain ⟨a1, a2⟩ := row_down n k hl.1 (by omega)
    obtain ⟨b1, b2⟩ := rows_down (k := k) hl.2 (by omega)
    rw [List.all_cons, a1, b1, flatN_cons, flatN_cons, a2, b2]
    exact ⟨rfl, rfl⟩
/-! ### what a change does -/
/-- no statement with `show` -/
def ShW : PyData → Prop
  | .tuple (.str w :: _) => w ≠ "show"
  | _ => True
def cellOk (x : PyData) : Prop := (∀ c ∈ namesD "cell" x, c ∈ cells3) ∧ ShW x
def cellsOk (n : Nat) (ds : List PyData) : Prop := ∀ x ∈ flatN n ds, cellOk x
structure Gain (n : Nat) (ds e : List PyData) : Prop where
  rows : e.all (rowD (cdOf n)) = true
  lt : W (ownD "letter") n e ≤ W (ownD "letter") n ds
  st : W (ownD "set") n e ≤ W (ownD "set") n ds
  cel : cellsOk n ds → cellsOk n e
  g : (W one n e ≤ W one n ds + 2 ∧ W (ownD "if") n ds + 1 ≤ W (ownD "if") n e) ∨ (W one n e ≤ W one n ds + 1 ∧ W (ownD "if") n ds ≤ W (ownD "if") n e) ∨ W one n e ≤ W one n ds
theorem cells_ap {n : Nat} {a b : List PyData} : cellsOk n (a ++ b) ↔ cellsOk n a ∧ cellsOk n b := by
  unfold cellsOk
  rw [flatN_ap]
  constructor
  · exact fun h => ⟨fun x hx => h x (List.mem_append_left _ hx), fun x hx => h x (List.mem_append_right _ hx)⟩
  · rintro ⟨h1, h2⟩ x hx
    rcases List.mem_append.mp hx with z | z
    · exact h1 x z
    · exact h2 x z
theorem all_ap {p : PyData → Bool} {a b : List PyData} : (a ++ b).all p = true ↔ a.all p = true ∧ b.all p = true := by
  rw [List.all_append, Bool.and_eq_true]
theorem Gain.ctx {n : Nat} {a b m m' : List PyData} (h : Gain n m m') (ha : a.all (rowD (cdOf n)) = true) (hb : b.all (rowD (cdOf n)) = true) : Gain n (a ++ m ++ b) (a ++ m' ++ b) := by
  obtain ⟨h1, h2, h3, h4, h5⟩ := h
  refine ⟨all_ap.mpr ⟨all_ap.mpr ⟨ha, h1⟩, hb⟩, ?_, ?_, ?_, ?_⟩
  · simp only [W_ap]
    omega
  · simp only [W_ap]
    omega
  · simp only [cells_ap]
    exact fun ⟨⟨x, y⟩, z⟩ => ⟨⟨x, h4 y⟩, z⟩
  · simp only [W_ap]
    omega
theorem Gain.inY {m : Nat} {p r : PyData} {ys ys' ns : List PyData} (h : Gain m ys ys') (hp : isNameD p = true) (hr : isNameD r = true) (hy : ys.all (rowD (cdOf m)) = true) (hn : ns.all (rowD (cdOf m)) = true) : Gain (m + 1) [.tuple [.str "if", p, r, .tuple ys, .tuple ns]] [.tuple [.str "if", p, r, .tuple ys', .tuple ns]] := by
  obtain ⟨h1, h2, h3, h4, h5⟩ := h
  have r1 := if_row hp hr hy hn
  have r2 := if_row hp hr h1 hn
  have k : ∀ (k : Str) (y x : PyData), ownD k (.tuple [.str "if", p, r, y, x]) = ownD k (.tuple [.str "if", .none, .none, .none, .none]) := fun k y x => by
    unfold ownD kindD
    rfl
  have w : ∀ ψ : PyData → Nat, W ψ (m + 1) [] = 0 := fun _ => rfl
  refine ⟨by rw [List.all_cons, r2]; rfl, ?_, ?_, ?_, ?_⟩
  · rw [W_cons, W_cons, W_if r1, W_if r2, k, k "letter" (.tuple ys), w]
    omega
  · rw [W_cons, W_cons, W_if r1, W_if r2, k, k "set" (.tuple ys), w]
    omega
  · unfold cellsOk at h4 ⊢
    rw [flatN_cons, flatN_cons, ifS r1, ifS r2]
    intro h x hx
    have hx' : x ∈ PyData.tuple [.str "if", p, r, .tuple ys', .tuple ns] :: (flatN m ys' ++ flatN m ns) := by simpa [flatN] using hx
    rcases List.mem_cons.mp hx' with rfl | hx'
    · have := h (.tuple [.str "if", p, r, .tuple ys, .tuple ns]) (by simp)
      exact ⟨fun c hc => this.1 c hc, by show ("if" : Str) ≠ "show"; decide +kernel⟩
    · rcases List.mem_append.mp hx' with z | z
      · exact h4 (fun y hy => h y (by simp [hy])) x z
      · exact h x (by simp [z])
  · rw [W_cons, W_cons, W_cons, W_cons, W_if r1, W_if r2, W_if r1, W_if r2, own_if, own_if, w, w]
    show (1 + _ + 0 ≤ 1 + _ + 0 + 2 ∧ _) ∨ (1 + _ + 0 ≤ 1 + _ + 0 + 1 ∧ _) ∨ 1 + _ + 0 ≤ 1 + _ + 0
    omega
end OM

namespace OM
open PySem PySem.Spec PyProof.Rows L2
theorem W_perm {ψ : PyData → Nat} {n : Nat} {a b : List PyData} (h : a.Perm b) : W ψ n a = W ψ n b := by
  induction h with
  | nil => rfl
  | cons x _ ih => rw [W_cons, W_cons, ih]
  | swap x y l =>
    rw [W_cons, W_cons, W_cons, W_cons]
    omega
  | trans _ _ h1 h2 => exact h1.trans h2
theorem Gain.perm {n : Nat} {ds e : List PyData} (h : ds.Perm e) (rows : ds.all (rowD (cdOf n)) = true) : Gain n ds e := by
  refine ⟨?_, Nat.le_of_eq (W_perm h).symm, Nat.le_of_eq (W_perm h).symm, fun c x hx => ?_, .inr (.inr (Nat.le_of_eq (W_perm h).symm))⟩
  · rw [List.all_eq_true] at rows ⊢
    exact fun x hx => rows x (h.mem_iff.mpr hx)
  · unfold flatN at hx
    obtain ⟨y, hy, hx⟩ := List.mem_flatMap.mp hx
    exact c x (List.mem_flatMap.mpr ⟨y, h.mem_iff.mpr hy, hx⟩)
theorem Gain.drop {n : Nat} {a b : List PyData} {r : PyData} (rows : (a ++ [r] ++ b).all (rowD (cdOf n)) = true) : Gain n (a ++ [r] ++ b) (a ++ b) := by
  obtain ⟨h1, h2⟩ := all_ap.mp rows
  obtain ⟨h3, h4⟩ := all_ap.mp h1
  refine ⟨all_ap.mpr ⟨h3, h2⟩, ?_, ?_, ?_, .inr (.inr ?_)⟩
  · simp only [W_ap]
    omega
  · simp only [W_ap]
    omega
  · simp only [cells_ap]
    exact fun ⟨⟨x, y⟩, z⟩ => ⟨x, z⟩
  · simp only [W_ap]
    omega
/-- a plain statement: no letter, no set, no if -/
structure Leaf (e : PyData) : Prop where
  row : ∀ n, rowD (cdOf n) e = true
  inn : inner2 e = []
  l0 : ownD "letter" e = 0
  s0 : ownD "set" e = 0
  i0 : ownD "if" e = 0
theorem Leaf.s {e : PyData} (h : Leaf e) (n : Nat) : flatS n e = [e] := leafS (h.row n) h.inn
theorem Leaf.w {e : PyData} (h : Leaf e) (n : Nat) (ψ : PyData → Nat) : W ψ n [e] = ψ e := by
  rw [W_cons, h.s n]
  show ψ e + 0 + 0 = _
  omega
theorem leaf_of {n : Nat} {w : Str} {rest : List PyData} (row : rowD (cdOf n) (.tuple (.str w :: rest)) = true) (h1 : w ≠ "if") (h2 : w ≠ "get") (h3 : w ≠ "put") (h4 : w ≠ "set") : Leaf (.tuple (.str w :: rest)) := by
  have k : kindD (.tuple (.str w :: rest)) = w := by
    unfold kindD
    dsimp only
    rw [if_neg (fun z => z.elim h2 h3), if_neg h4]
  have hw : formOf w ≠ none := by
    intro z
    rw [rowD_no z] at row
    cases row
  have wl : w ≠ "letter" := fun z => hw (by rw [z]; decide +kernel)
  refine ⟨fun m => leaf_any row h1, ?_, ?_, ?_, ?_⟩
  · rcases row_iff row with ⟨m, p, r, ys, ns, e, ed, _⟩ | ⟨w', rest', ed, ni, i0⟩
    · injection ed with ed
      injection ed with e1 _
      injection e1 with e1
      exact absurd e1 h1
    · exact i0
  · unfold ownD
    rw [k, if_neg wl]
  · unfold ownD
    rw [k, if_neg h4]
  · unfold ownD
    rw [k, if_neg h1]
theorem leaf_std {e : PyData} {l s t z : Nat} (h : StD 0 e l s t z) (hl : l ≤ 0) (hs : s ≤ 0) : Leaf e ∧ cellOk e := by
  have key : (∀ r ∈ regs4, ∀ x ∈ cells3, rowD (cdOf 0) (.tuple [.str "read", .str r, .str x]) = true ∧ rowD (cdOf 0) (.tuple [.str "write", .str x, .str r]) = true ∧ (∀ c ∈ namesD "cell" (.tuple [.str "read", .str r, .str x]), c ∈ cells3) ∧ (∀ c ∈ namesD "cell" (.tuple [.str "write", .str x, .str r]), c ∈ cells3)) := by decide +kernel
  have key2 : (∀ r ∈ regs4, ∀ x ∈ regs4, rowD (cdOf 0) (.tuple [.str "copy", .str r, .str x]) = true ∧ (∀ c ∈ namesD "cell" (.tuple [.str "copy", .str r, .str x]), c ∈ cells3)) := by decide +kernel
  cases h with
  | read hr hx => exact ⟨leaf_of (key _ hr _ hx).1 (by decide +kernel) (by decide +kernel) (by decide +kernel) (by decide +kernel), (key _ hr _ hx).2.2.1, by show ("read" : Str) ≠ "show"; decide +kernel⟩
  | write hx hr => exact ⟨leaf_of (key _ hr _ hx).2.1 (by decide +kernel) (by decide +kernel) (by decide +kernel) (by decide +kernel), (key _ hr _ hx).2.2.2, by show ("write" : Str) ≠ "show"; decide +kernel⟩
  | copy hr ha => exact ⟨leaf_of (key2 _ hr _ ha).1 (by decide +kernel) (by decide +kernel) (by decide +kernel) (by decide +kernel), (key2 _ hr _ ha).2, by show ("copy" : Str) ≠ "show"; decide +kernel⟩
  | letter hw hr => omega
  | set hr hf ha hl => omega
theorem Gain.add {n : Nat} {a b : List PyData} {e : PyData} (rows : (a ++ b).all (rowD (cdOf n)) = true) (L : Leaf e) (c : cellsOk n (a ++ b) → cellOk e) : Gain n (a ++ b) (a ++ [e] ++ b) := by
  obtain ⟨h1, h2⟩ := all_ap.mp rows
  refine ⟨all_ap.mpr ⟨all_ap.mpr ⟨h1, by rw [List.all_cons, L.row n]; rfl⟩, h2⟩, ?_, ?_, fun z => ?_, .inr (.inl ?_)⟩
  · simp only [W_ap, L.w, L.l0]
    omega
  · simp only [W_ap, L.w, L.s0]
    omega
  · have ce := c z
    simp only [cells_ap] at z ⊢
    refine ⟨⟨z.1, fun x hx => ?_⟩, z.2⟩
    rw [flatN_cons, L.s n] at hx
    have : x = e := by simpa [flatN] using hx
    rw [this]
    exact ce
  · simp only [W_ap, L.w, L.i0]
    show _ + 1 + _ ≤ _ ∧ _
    omega
theorem Gain.wrap {n : Nat} {a b : List PyData} {e p r : PyData} (rows : (a ++ [e] ++ b).all (rowD (cdOf (n + 1))) = true) (L : Leaf e) (hp : isNameD p = true) (hr : isNameD r = true) : Gain (n + 1) (a ++ [e] ++ b) (a ++ [.tuple [.str "if", p, r, .tuple [e], .tuple [e]]] ++ b) := by
  obtain ⟨h1, h2⟩ := all_ap.mp rows
  obtain ⟨h3, h4⟩ := all_ap.mp h1
  have re : [e].all (rowD (cdOf n)) = true := by
    rw [List.all_cons, L.row n]
    rfl
  have ri := if_row hp hr re re
  have k : ∀ k : Str, k ≠ "if" → ownD k (.tuple [.str "if", p, r, .tuple [e], .tuple [e]]) = 0 := fun k hk => by
    unfold ownD
    rw [if_neg (by
      unfold kindD
      dsimp only
      rw [if_neg (by decide +kernel), if_neg (by decide +kernel)]
      exact fun z => hk z.symm)]
  have w : ∀ ψ : PyData → Nat, W ψ (n + 1) [.tuple [.str "if", p, r, .tuple [e], .tuple [e]]] = ψ (.tuple [.str "if", p, r, .tuple [e], .tuple [e]]) + (ψ e + ψ e) := fun ψ => by
    rw [W_cons, W_if ri, L.w]
    rfl
  refine ⟨all_ap.mpr ⟨all_ap.mpr ⟨h3, by rw [List.all_cons, ri]; rfl⟩, h2⟩, ?_, ?_, fun z => ?_, .inl ?_⟩
  · simp only [W_ap, L.w, w, L.l0, k "letter" (by decide +kernel)]
    omega
  · simp only [W_ap, L.w, w, L.s0, k "set" (by decide +kernel)]
    omega
  · simp only [cells_ap] at z ⊢
    refine ⟨⟨z.1.1, fun x hx => ?_⟩, z.2⟩
    have ze : cellOk e := z.1.2 e (by rw [flatN_cons, L.s]; simp)
    rw [flatN_cons, ifS ri, flatN_cons, L.s] at hx
    have hx' : x = .tuple [.str "if", p, r, .tuple [e], .tuple [e]] ∨ x = e := by simpa [flatN] using hx
    rcases hx' with rfl | rfl
    · refine ⟨fun c hc => ?_, by show ("if" : Str) ≠ "show"; decide +kernel⟩
      have e4 : formOf "if" = some (["test", "register", "code", "code"] : List Str) := by decide +kernel
      have : namesD "cell" (.tuple [.str "if", p, r, .tuple [e], .tuple [e]]) = [] := by
        show (match formOf "if" with | some rs => (List.zipWith (nmD "cell") [p, r, .tuple [e], .tuple [e]] rs).flatten | none => []) = _
        rw [e4]
        show (nmD "cell" p "test" ++ (nmD "cell" r "register" ++ (nmD "cell" (.tuple [e]) "code" ++ (nmD "cell" (.tuple [e]) "code" ++ [])))) = []
        unfold nmD
        rw [if_neg (by decide +kernel), if_neg (by decide +kernel), if_neg (by decide +kernel), if_neg (by decide +kernel), if_neg (by decide +kernel), if_neg (by decide +kernel)]
        rfl
      rw [this] at hc
      cases hc
    · exact ze
  · simp only [W_ap, L.w, w, L.i0, own_if]
    show _ + (1 + (1 + 1)) + _ ≤ _ + 1 + _ + 2 ∧ _
    omega
theorem Gain.inN {m : Nat} {p r : PyData} {ys ns ns' : List PyData} (h : Gain m ns ns') (hp : isNameD p = true) (hr : isNameD r = true) (hy : ys.all (rowD (cdOf m)) = true) (hn : ns.all (rowD (cdOf m)) = true) : Gain (m + 1) [.tuple [.str "if", p, r, .tuple ys, .tuple ns]] [.tuple [.str "if", p, r, .tuple ys, .tuple ns']] := by
  obtain ⟨h1, h2, h3, h4, h5⟩ := h
  have r1 := if_row hp hr hy hn
  have r2 := if_row hp hr hy h1
  have k : ∀ (k : Str) (y x : PyData), ownD k (.tuple [.str "if", p, r, y, x]) = ownD k (.tuple [.str "if", .none, .none, .none, .none]) := fun k y x => by
    unfold ownD kindD
    rfl
  have w : ∀ ψ : PyData → Nat, W ψ (m + 1) [] = 0 := fun _ => rfl
  refine ⟨by rw [List.all_cons, r2]; rfl, ?_, ?_, ?_, ?_⟩
  · rw [W_cons, W_cons, W_if r1, W_if r2, k, k "letter" _ (.tuple ns), w]
    omega
  · rw [W_cons, W_cons, W_if r1, W_if r2, k, k "set" _ (.tuple ns), w]
    omega
  · unfold cellsOk at h4 ⊢
    rw [flatN_cons, flatN_cons, ifS r1, ifS r2]
    intro h x hx
    have hx' : x ∈ PyData.tuple [.str "if", p, r, .tuple ys, .tuple ns'] :: (flatN m ys ++ flatN m ns') := by simpa [flatN] using hx
    rcases List.mem_cons.mp hx' with rfl | hx'
    · have := h (.tuple [.str "if", p, r, .tuple ys, .tuple ns]) (by simp)
      exact ⟨fun c hc => this.1 c hc, by show ("if" : Str) ≠ "show"; decide +kernel⟩
    · rcases List.mem_append.mp hx' with z | z
      · exact h x (by simp [z])
      · exact h4 (fun y hy => h y (by simp [hy])) x z
  · rw [W_cons, W_cons, W_cons, W_cons, W_if r1, W_if r2, W_if r1, W_if r2, own_if, own_if, w, w]
    show (1 + _ + 0 ≤ 1 + _ + 0 + 2 ∧ _) ∨ (1 + _ + 0 ≤ 1 + _ + 0 + 1 ∧ _) ∨ 1 + _ + 0 ≤ 1 + _ + 0
    omega
theorem Gain.up {n : Nat} {ds e : List PyData} (h : Gain n ds e) (rows : ds.all (rowD (cdOf n)) = true) : Gain (n + 1) ds e := by
  obtain ⟨h1, h2, h3, h4, h5⟩ := h
  have u := rows_up rows
  have v := rows_up h1
  refine ⟨v.1, ?_, ?_, ?_, ?_⟩
  · rw [W_up rows, W_up h1]
    exact h2
  · rw [W_up rows, W_up h1]
    exact h3
  · unfold cellsOk at h4 ⊢
    rw [u.2, v.2]
    exact h4
  · rw [W_up rows, W_up h1, W_up rows, W_up h1]
    exact h5
end OM

namespace OM
open PySem PySem.Spec PyProof.Rows L2
/-- t[lo:hi], as one way -/
theorem sl_one {K : PySem.W.Frag} {a : Addr} {xs : List V} {lo hi : Option Int} {H : Hp} {Q : VK} (ea : H a = some (.tup xs)) (q : ∀ c H', Same H H' → (c = a ∨ H c = none) → H' c = some (.tup (cutV xs lo hi)) → Q (.ref c) H') : rSlA K (.ref a) lo hi H Q := by
  refine ⟨a, xs, rfl, SqT.of ea, fun hw => ?_, fun _ p hp => q p _ (same_upd hp) (.inr hp) upd_same⟩
  have e : cutV xs lo hi = xs := by
    unfold cutV
    rw [hw.1, hw.2, List.drop_zero, Nat.sub_zero, List.take_length]
  exact q a H (Same.refl H) (.inl rfl) (by rw [e]; exact ea)
/-- t + u, as one way -/
theorem cat_one {K : PySem.W.Frag} {a b : Addr} {xs ys : List V} {H : Hp} {Q : VK} (ea : H a = some (.tup xs)) (eb : H b = some (.tup ys)) (sz : xs.length + ys.length ≤ sizeLine) (q : ∀ c H', Same H H' → (c = a ∨ c = b ∨ H c = none) → H' c = some (.tup (xs ++ ys)) → Q (.ref c) H') : rCatA K (.ref a) (.ref b) H Q := by
  refine ⟨a, b, xs, ys, rfl, rfl, SqT.of ea, SqT.of eb, sz, fun e => q b H (Same.refl H) (.inr (.inl rfl)) (by rw [e]; exact eb), fun _ e => q a H (Same.refl H) (.inl rfl) (by rw [e, List.append_nil]; exact ea), fun _ _ p hp => q p _ (same_upd hp) (.inr (.inr hp)) upd_same⟩
theorem cut_take (xs : List V) {i : Nat} (h : i ≤ xs.length) : cutV xs none (some (i : Int)) = xs.take i := by
  unfold cutV
  rw [HT.sIx_nat, HT.sIx_none, List.drop_zero, Nat.sub_zero, Nat.min_eq_left h]
theorem cut_drop (xs : List V) {i : Nat} (h : i ≤ xs.length) : cutV xs (some (i : Int)) none = xs.drop i := by
  unfold cutV
  rw [HT.sIx_nat, HT.sIx_none, Nat.min_eq_left h, ← List.length_drop, List.take_length]
mutual
/-- the longest list or tuple in a datum -/
def widN : PyData → Nat
  | .list xs => max xs.length (widL xs)
  | .tuple xs => max xs.length (widL xs)
  | _ => 0
def widL : List PyData → Nat
  | [] => 0
  | x :: r => max (widN x) (widL r)
end
theorem depthAll_cons (x : PyData) (r : List PyData) : PyData.depthAll (x :: r) = max x.depth (PyData.depthAll r) := by rw [PyData.depthAll]
theorem smlAll_cons (x : PyData) (r : List PyData) : smlAll (x :: r) = (smlD x && smlAll r) := by rw [smlAll]
theorem widL_cons (x : PyData) (r : List PyData) : widL (x :: r) = max (widN x) (widL r) := by rw [widL]
theorem widL_app : ∀ (a b : List PyData), widL (a ++ b) = max (widL a) (widL b)
  | [], b => (Nat.zero_max _).symm
  | x :: r, b => by
    show max (widN x) (widL (r ++ b)) = max (max (widN x) (widL r)) (widL b)
    rw [widL_app r b, Nat.max_assoc]
theorem wid_tup (ds : List PyData) : widN (.tuple ds) = max ds.length (widL ds) := by unfold widN; rfl
theorem wid_lst (ds : List PyData) : widN (.list ds) = max ds.length (widL ds) := by unfold widN; rfl
theorem depthAll_app : ∀ (a b : List PyData), PyData.depthAll (a ++ b) = max (PyData.depthAll a) (PyData.depthAll b)
  | [], b => (Nat.zero_max _).symm
  | x :: r, b => by
    show PyData.depthAll (x :: (r ++ b)) = max (PyData.depthAll (x :: r)) (PyData.depthAll b)
    rw [depthAll_cons, depthAll_cons, depthAll_app r b, Nat.max_assoc]
theorem dep_tup (ds : List PyData) : PyData.depth (.tuple ds) = PyData.depthAll ds + 1 := by unfold PyData.depth; first | rfl | omega
theorem dep_lst (ds : List PyData) : PyData.depth (.list ds) = PyData.depthAll ds + 1 := by unfold PyData.depth; first | rfl | omega
theorem smlAll_app : ∀ (a b : List PyData), smlAll (a ++ b) = (smlAll a && smlAll b)
  | [], b => rfl
  | x :: r, b => by
    show smlAll (x :: (r ++ b)) = (smlAll (x :: r) && smlAll b)
    rw [smlAll_cons, smlAll_cons, smlAll_app r b, Bool.and_assoc]
theorem sml_tup (ds : List PyData) : smlD (.tuple ds) = smlAll ds := by unfold smlD; rfl
theorem sml_lst (ds : List PyData) : smlD (.list ds) = smlAll ds := by unfold smlD; rfl
theorem odds_small : ∀ o ∈ odds, widN o ≤ 2 ∧ o.depth ≤ 1 ∧ smlD o = true := by
  intro o ho
  unfold odds at ho
  simp only [List.mem_cons, List.not_mem_nil, or_false] at ho
  rcases ho with rfl | rfl | rfl | rfl | rfl | rfl | rfl | rfl | rfl | rfl | rfl | rfl | rfl | rfl | rfl | rfl <;> decide +kernel
/-- a spoil leaves things about as small -/
theorem SpR.small : ∀ {d d' : PyData}, SpR d d' → widN d' ≤ widN d + 2 ∧ d'.depth ≤ d.depth + 2 ∧ (smlD d = true → smlD d' = true)
  | _, _, .odd h => by
    obtain ⟨h1, h2, h3⟩ := odds_small _ h
    exact ⟨by omega, by omega, fun _ => h3⟩
  | _, _, .del (ds := ds) i => by
    rcases drop_case ds i with ⟨d, e⟩ | e
    · have w : widL ds = max (widL (ds.take i)) (max (widN d) (widL (ds.drop (i + 1)))) := by
        conv => lhs; rw [e, widL_app, widL_cons]
      have p : PyData.depthAll ds = max (PyData.depthAll (ds.take i)) (max d.depth (PyData.depthAll (ds.drop (i + 1)))) := by
        conv => lhs; rw [e, depthAll_app, depthAll_cons]
      have l : ds.length = (ds.take i).length + ((ds.drop (i + 1)).length + 1) := by
        conv => lhs; rw [e, List.length_append, List.length_cons]
      have m : smlAll ds = (smlAll (ds.take i) && (smlD d && smlAll (ds.drop (i + 1)))) := by
        conv => lhs; rw [e, smlAll_app, smlAll_cons]
      rw [wid_tup, wid_tup, dep_tup, dep_tup, sml_tup, sml_tup, widL_app, depthAll_app, smlAll_app, List.length_append, m]
      refine ⟨by omega, by omega, fun h => ?_⟩
      simp only [Bool.and_eq_true] at h ⊢
      exact ⟨h.1, h.2.2⟩
    · rw [e]
      exact ⟨by omega, by omega, id⟩
  | _, _, .ins (ds := ds) (o := o) i h => by
    obtain ⟨h1, h2, h3⟩ := odds_small _ h
    have w : widL ds = max (widL (ds.take i)) (widL (ds.drop i)) := by conv => lhs; rw [← List.take_append_drop i ds, widL_app]
    have p : PyData.depthAll ds = max (PyData.depthAll (ds.take i)) (PyData.depthAll (ds.drop i)) := by conv => lhs; rw [← List.take_append_drop i ds, depthAll_app]
    have l : ds.length = (ds.take i).length + (ds.drop i).length := by conv => lhs; rw [← List.take_append_drop i ds, List.length_append]
    have m : smlAll ds = (smlAll (ds.take i) && smlAll (ds.drop i)) := by conv => lhs; rw [← List.take_append_drop i ds, smlAll_app]
    rw [wid_tup, wid_tup, dep_tup, dep_tup, sml_tup, sml_tup, widL_app, depthAll_app, smlAll_app, widL_cons, depthAll_cons, smlAll_cons, List.length_append, List.length_cons, m, h3]
    refine ⟨by omega, by omega, fun h => ?_⟩
    simpa using h
  | _, _, .lst (ds := ds) => by
    rw [wid_tup, wid_lst, dep_tup, dep_lst, sml_tup, sml_lst]
    exact ⟨by omega, by omega, id⟩
  | _, _, .sub (ds := ds) (d := d) (d' := d') i hi h => by
    have e := cut_at hi
    obtain ⟨h1, h2, h3⟩ := SpR.small h
    have w : widL ds = max (widL (ds.take i)) (max (widN d) (widL (ds.drop (i + 1)))) := by
      conv => lhs; rw [e, widL_app, widL_cons]
    have p : PyData.depthAll ds = max (PyData.depthAll (ds.take i)) (max d.depth (PyData.depthAll (ds.drop (i + 1)))) := by
      conv => lhs; rw [e, depthAll_app, depthAll_cons]
    have l : ds.length = (ds.take i).length + ((ds.drop (i + 1)).length + 1) := by
      conv => lhs; rw [e, List.length_append, List.length_cons]
    have m : smlAll ds = (smlAll (ds.take i) && (smlD d && smlAll (ds.drop (i + 1)))) := by
      conv => lhs; rw [e, smlAll_app, smlAll_cons]
    rw [wid_tup, wid_tup, dep_tup, dep_tup, sml_tup, sml_tup, widL_app, depthAll_app, smlAll_app, widL_cons, depthAll_cons, smlAll_cons, List.length_append, List.length_cons, m]
    refine ⟨by omega, by omega, fun h => ?_⟩
    simp only [Bool.and_eq_true] at h ⊢
    exact ⟨h.1, h3 h.2.1, h.2.2⟩
def spSpoilt : Nat → Sp
  | 0 => fun _ _ _ _ => False
  | n + 1 => fun vs H Q _ => ∃ (S : Addr → Prop) (d : Addr) (v : V) (e : PyData), vs = [.ref d, v] ∧ Dice H d ∧ Dt S H v e ∧ (∀ b, S b → b ≠ d) ∧ e.depth ≤ n ∧ widN e ≤ 900 ∧ ∀ H' v' e', But d H H' → Dice H' d → SpR e e' → Dt (fun b => S b ∨ H b = none) H' v' e' → Q v' H'
end OM

namespace OM
open PySem PySem.Spec PyProof.Rows L2
theorem sl_two {K : PySem.W.Frag} {a : Addr} {xs : List V} {lo : Option Int} {H : Hp} {Q : VK} {σ : L2.St} (ea : H a = some (.tup xs)) (q : ∀ c H', Same H H' → (c = a ∨ H c = none) → H' c = some (.tup (cutV xs lo none)) → Q (.ref c) H') : tNoPart σ H fun u H3 => rSlA K (.ref a) lo u H3 Q := sl_one ea q
theorem Dice.mv {H H' : Hp} {d : Addr} (s : Same H H') (h : Dice H d) : Dice H' d := by
  obtain ⟨a1, a2, a3, e⟩ := h
  exact ⟨a1, a2, a3, s _ _ e⟩
theorem But.tr {d : Addr} {H H1 H2 : Hp} (x : But d H H1) (y : But d H1 H2) : But d H H2 := fun b o hb e => y b o hb (x b o hb e)
theorem s_bt {d : Addr} {H H1 : Hp} (x : Same H H1) : But d H H1 := fun b o _ e => x b o e
/-- what was free stays free behind -/
theorem But.free {d : Addr} {H H1 : Hp} (x : But d H H1) (dn : H1 d ≠ none) {b : Addr} (h : H1 b = none) : H b = none := by
  cases y : H b with
  | none => rfl
  | some o =>
    by_cases e : b = d
    · rw [e] at h
      exact absurd h dn
    · rw [x b o e y] at h
      cases h
theorem dta_take {S : Addr → Prop} {H : Hp} : ∀ {xs : List V} {ds : List PyData} (i : Nat), DtAll S H xs ds → DtAll S H (xs.take i) (ds.take i)
  | _, _, 0, _ => .nil
  | _, _, i + 1, .nil => .nil
  | _, _, i + 1, .cons h r => .cons h (dta_take i r)
theorem dta_drop {S : Addr → Prop} {H : Hp} : ∀ {xs : List V} {ds : List PyData} (i : Nat), DtAll S H xs ds → DtAll S H (xs.drop i) (ds.drop i)
  | _, _, 0, h => h
  | _, _, i + 1, .nil => .nil
  | _, _, i + 1, .cons h r => dta_drop i r
section
variable {P : Program} {w : World} {K : PySem.W.Frag} {mg : Str → Option Value} {base : Heap} {f fR fO : Addr} {fd fdR fdO : FuncData}
end
end OM

namespace OM
open PySem PySem.Spec PyProof.Rows L2
theorem key_reads {h : Heap} {k : Key} {u : Value} (e : keyIs k u = true) : Reads h u (kD k) [] := by
  rcases keyIs_shape e with ⟨i, t, rfl, rfl⟩ | ⟨x, t, rfl, rfl⟩
  · exact .int i t
  · exact .str x t
theorem At.reads {h : Heap} {v : V} {u : Value} {d : PyData} (a : At v d) (r : RelV v u) : Reads h u d [] := by
  cases a with
  | non =>
    obtain rfl : u = Value.none := r
    exact .none
  | bl b =>
    obtain rfl : u = Value.bool b := r
    exact .bool b
  | int i =>
    obtain ⟨t, rfl⟩ : ∃ t, u = Value.int i t := r
    exact .int i t
  | str x =>
    obtain ⟨t, rfl⟩ : ∃ t, u = Value.str x t := r
    exact .str x t
section
variable {P : Program} {w : World} {H : Hp} {h : Heap} {S : Addr → Prop}
mutual
theorem Dt.reads (hok : HOk P w H h) : ∀ {v : V} {d : PyData} {u : Value}, Dt S H v d → RelV v u → ∃ as, Reads h u d as ∧ ∀ b ∈ as, H b ≠ none
  | _, _, _, .at a, r => ⟨[], a.reads r, fun _ z => nomatch z⟩
  | _, _, u, @Dt.lst _ _ a xs ds s e hl hx, r => by
    obtain rfl : u = Value.ref a := r
    obtain ⟨_, its, n, rv, eo⟩ := (show ObjOk P w H h a (.lst xs) from hok a _ e)
    obtain ⟨as, ra, na⟩ := DtAll.reads hok hx rv
    refine ⟨a :: as, .list eo rfl rfl (by simpa using ra), fun b hb => ?_⟩
    rcases List.mem_cons.mp hb with rfl | hb
    · rw [e]
      exact fun z => nomatch z
    · exact na b hb
  | _, _, u, @Dt.tup _ _ a xs ds s e hl hx, r => by
    obtain rfl : u = Value.ref a := r
    obtain ⟨_, its, rv, o, eo, ec, n, ed⟩ := (show ObjOk P w H h a (.tup xs) from hok a _ e)
    obtain ⟨as, ra, na⟩ := DtAll.reads hok hx rv
    exact ⟨as, .tuple eo ec ed (by simpa using ra), na⟩
  | _, _, u, @Dt.dic0 _ _ a s e, r => by
    obtain rfl : u = Value.ref a := r
    obtain ⟨_, _, vs, kv, o, es, ep, eo, ex, ed, ks, ps, _⟩ := (show ObjOk P w H h a (.dK []) from hok a _ e)
    cases kv
    have hes : es.toList = [] := by
      have := ps.length
      simpa using this
    refine ⟨a :: [] ++ [], .dict (kvs := []) eo ex.1 ed (by rw [hes]; exact .nil) (by rw [hes]; exact .nil), fun b hb => ?_⟩
    obtain rfl : b = a := by simpa using hb
    rw [e]
    exact fun z => nomatch z
  | _, _, u, @Dt.dic1 _ _ a k v d s e hd, r => by
    obtain rfl : u = Value.ref a := r
    obtain ⟨_, _, vs, kv, o, es, ep, eo, ex, ed, ks, ps, _⟩ := (show ObjOk P w H h a (.dK [(k, v)]) from hok a _ e)
    cases kv with
    | @cons _ q _ _ hq tl =>
      cases tl
      obtain ⟨ek, rv⟩ := hq
      have key : ∀ l, Pairs (mixKind P w) l [q] → ∃ e1, l = [e1] ∧ (mixKind P w).is q.1 e1.key = true ∧ e1.val = q.2 := fun l p => by
        cases p with
        | cons a b c =>
          cases c
          exact ⟨_, rfl, a, b⟩
      obtain ⟨e1, hes, hk, hv⟩ := key _ ps
      have ek' : k = q.1 := ek
      have hk' : keyIs k e1.key = true := by rw [ek']; exact hk
      have rv' : RelV v e1.val := by rw [hv]; exact rv
      refine ⟨a :: ([] ++ []) ++ ([] ++ []), .dict (kvs := [(kD k, d)]) eo ex.1 ed (by rw [hes]; exact .cons (key_reads hk') .nil) (by rw [hes]; exact .cons (hd.reads rv') .nil), fun b hb => ?_⟩
      obtain rfl : b = a := by simpa using hb
      rw [e]
      exact fun z => nomatch z
theorem DtAll.reads (hok : HOk P w H h) : ∀ {vs : List V} {ds : List PyData} {us : List Value}, DtAll S H vs ds → Vals vs us → ∃ as, ReadsAll h us ds as ∧ ∀ b ∈ as, H b ≠ none
  | _, _, _, .nil, .nil => ⟨[], .nil, fun _ z => nomatch z⟩
  | _, _, _, .cons hd tl, .cons r rs => by
    obtain ⟨as, ra, na⟩ := Dt.reads hok hd r
    obtain ⟨bs, rb, nb⟩ := DtAll.reads hok tl rs
    refine ⟨as ++ bs, .cons ra rb, fun b hb => ?_⟩
    rcases List.mem_append.mp hb with hb | hb
    · exact na b hb
    · exact nb b hb
end
end
/-- repr(x) of a datum -/
def rRep : List V → Hp → VK → Prop := fun xs H Q => ∃ (x : V) (d : PyData) (S : Addr → Prop), xs = [x] ∧ Dt S H x d ∧ d.showable = true ∧ d.depth ≤ 20 ∧ d.shown.length ≤ sizeLine ∧ Q (.str d.shown) H
theorem call_rep {X : Cx} (hg : X.A.guards = some []) (hu : X.A.units + 25 < cLine) (hs : ∃ o, X.base.get? sysModules = some o) : CallR X (.builtin "repr") rRep := by
  intro pins s σ H xs us Q I r h
  obtain ⟨x, d, S, rfl, hd, sh, dep, hz, q⟩ := h
  obtain ⟨u, rfl, ru⟩ := vals1 r
  obtain ⟨hp, g, dr, tk, os⟩ := s
  obtain ⟨as, rd, na⟩ := hd.reads I.hok ru
  obtain ⟨om, hom⟩ := hs
  have hns : sysModules ∉ as := fun z => na _ z (I.bs _ _ hom).2
  have big : ∀ {a : Addr}, u = Value.ref a → wpAny (model X.prog X.w) X.A (call (.builtin "repr") [u]) (EP X pins σ Q) X.xe ⟨hp, g, dr, tk, os⟩ := fun {a} e => by
    subst e
    exact repr_of_reads' rd sh (fun _ => hns) hg (by omega) (fun _ _ z => z) (fun h' u tk2 hk => ⟨.str d.shown, H, I.kept (t' := tk2) hk, ⟨_, rfl⟩, q⟩) hz
  cases hd with
  | «at» h =>
    cases h with
    | non =>
      obtain rfl : u = Value.none := ru
      exact PySem.P.repr_of_none ⟨.str _, H, I.tok _, ⟨_, rfl⟩, q⟩
    | bl b =>
      obtain rfl : u = Value.bool b := ru
      cases b with
      | true => exact PySem.P.repr_of_bool ⟨.str _, H, I.tok _, ⟨_, rfl⟩, q⟩
      | false => exact PySem.P.repr_of_bool ⟨.str _, H, I.tok _, ⟨_, rfl⟩, q⟩
    | int i =>
      obtain ⟨t, rfl⟩ : ∃ t, u = Value.int i t := ru
      have sh' : i.natAbs.log2 < 1920 := by
        unfold PyData.showable at sh
        exact of_decide_eq_true sh
      exact PySem.P.repr_of_int sh' ⟨.str _, H, I.tok _, ⟨_, rfl⟩, q⟩
    | str y =>
      obtain ⟨t, rfl⟩ : ∃ t, u = Value.str y t := ru
      exact PySem.P.repr_of_str ⟨.str _, H, I.tok _, ⟨_, rfl⟩, q⟩ hz
  | lst s e hl h => exact big ru
  | tup s e hl h => exact big ru
  | dic0 s e => exact big ru
  | dic1 s e h => exact big ru
end OM

namespace OM
open PySem PySem.Spec PyProof.Rows L2
/-- a function's promise, wherever no text is being shown around it -/
structure GFn (P : Program) (w : World) (K : PySem.W.Frag) (mg : Str → Option Value) (base : Heap) (n : Nat) (g : Addr) (gd : FuncData) (names : List Str) (sp : Sp) : Prop where
  cnt : ∀ xs H Q E, sp xs H Q E → xs.length = names.length
  go : ∀ (B : Around) (out : List Env) (z : Shared) (H : Hp) (ar : Args) (ws : List Value) (xs : List V) (Q : VK) (E : XK), B.guards = some [] → Room n B → Env0 P w K mg base B out z H → BindsTo z gd ar (names.zip ws) → Vals xs ws → sp xs H Q E →
    codeAny (model P w) B (.call (.ref g) ar) (CR CX0 out P w H z Q E) z
section
variable {P : Program} {w : World} {K : PySem.W.Frag} {mg : Str → Option Value} {base : Heap}
theorem gfn_of {x qual : Str} {st : Stmt} {g : Addr} {gd : FuncData} {N names : List Str} {n : Nat} {sp : Sp} (F : Fun K x qual st g gd) (S : FnScope N names (defScope st)) (cnt : ∀ xs H Q E, sp xs H Q E → xs.length = names.length)
    (bd : ∀ (cv : Value) (B : Around) (out : List Env) (z : Shared) (H : Hp) (xs : List V) (Q : VK) (E : XK), B.guards = some [] → Room n (B.deeper (envOfC qual (defScope st) z.heap.objs.size g cv)) → sp xs H Q E →
      ∃ t, PSs (cxOf CX0 P w K mg base N qual (defScope st) g cv B out z H E).nox (defBody st) t ∧ t { nx := fun _ H' => Q .non H', rt := Q } (start N xs) H) : GFn P w K mg base (n + 1) g gd names sp := by
  obtain ⟨oc, od, kV, doc, pm, an, cv, ct, osl, rfl, lk, hcd⟩ := F.ex
  refine ⟨cnt, fun B out z H ar ws xs Q E hg hr e0 hb rv hs => ?_⟩
  have kz : ∀ b o, base.get? b = some o → z.heap.get? b = some o := fun b o e => (e0.bs b o e).1
  have Kz : K.In z.heap := e0.mod.kin.keeps kz
  have hkinds : ∀ y ∈ names.zip ws, (defScope st).names.lookup y.1 = some .local ∨ ((defScope st).names.lookup y.1 = some .cell ∧ ((cellsFrom (z.heap.objs.size + 1) (defScope st).names []).lookup y.1).isSome = true) := by
    rintro ⟨m, v⟩ hy
    refine (S.par m (List.of_mem_zip hy).1).imp id fun c => ⟨c, PySem.W.cellsFrom_some _ _ _ (.inl c)⟩
  refine codeAny_call_function hr.depth (Kz _ _ lk) rfl S.co S.gen rfl (PySem.W.codeRec_of Kz hcd) (hb _ _ _ _ ?_)
  refine wpAny_newFunctionEnv_cells S.kind hkinds fun ev hev z1 ic => ?_
  subst hev
  refine ⟨(e0.mod.nolimit.keeps kz).keeps ic.toInCall.keep, codeAny_func ?_⟩
  obtain ⟨t, ht, hq⟩ := bd cv B out z H xs Q E hg (hr.deeper _) hs
  refine wpAny_mono (ht.nox.run [] z1 (start N xs) H _ (inv_start (CX := CX0) (E := E) S hr.hd e0 (cnt _ _ _ _ hs) rv ic) hq) (fun fl z2 h2 => ?_) fun _ _ h2 => h2
  cases fl with
  | ret u =>
    obtain ⟨v, σ2, H2, J, r2, q2⟩ := h2
    exact ⟨v, H2, J.os, J.bare, J.base, J.hok, r2, q2⟩
  | next =>
    obtain ⟨σ2, H2, J, q2⟩ := h2
    exact ⟨V.non, H2, J.os, J.bare, J.base, J.hok, (show RelV V.non Value.none from rfl), q2⟩
  | brk =>
    obtain ⟨_, _, _, q2⟩ := h2
    cases q2
  | cont =>
    obtain ⟨_, _, _, q2⟩ := h2
    cases q2
end
section
variable {X : Cx} {n : Nat} {g : Addr} {gd : FuncData} {names : List Str} {sp : Sp} {x : Str} {p pos : Pos} {e : Expr} {es : List Expr} {t : TA}
theorem pe_callG (G : GFn X.prog X.w X.K X.mg X.base n g gd names sp) (hgd : X.A.guards = some []) (hr : Room n X.A) (hg : Gl X x) (hm : X.mg x = some (.ref g)) (hk : PySem.W.keepIn X.K (.ref g) = true) (hb : Binds X.K gd names [])
    (ha : PA X (e :: es) t) (hdb : (x == ("__debug__" : Str)) = false := by decide) (h1 : starEach (e :: es) X.env = (false, eval e X.env) :: starEach es X.env := by rfl) (h2 : (backTo pos (starEach es X.env)).any (·.1) = false := by rfl) :
    PE X (.Call (.Name x p) (e :: es) [] pos) (tCall sp [] E0 t) := by
  refine ⟨fun pins s σ H Q I h => ?_⟩
  refine wpAny_Call_Name_kw (ld_glob I hg hm ?_ hdb)
  refine PySem.W.callWith_K (h₀ := X.base) I.ok.mod.kin hk (thn (ha.run pos pins s σ H _ I h) fun us z ⟨vs, H1, I1, r, q⟩ => ⟨I1.kIn, ?_⟩) h1 h2
  have q0 : sp (vs ++ []) H1 Q E0 := q
  rw [List.append_nil] at q0
  have hl : (us ++ []).length = names.length := by
    rw [List.append_nil, ← r.length]
    exact G.cnt _ _ _ _ q0
  have hbt := hb z us I1.kIn hl
  rw [List.append_nil] at hbt
  show wpAny (model X.prog X.w) X.A (call (.ref g) us) _ _ _
  refine wpAny_call (codeAny_mono (G.go X.A X.stack z H1 ⟨us, []⟩ us vs Q E0 hgd hr I1.env0 hbt r q0) fun res z' hq => ?_)
  match res, hq with
  | .ok (.ret u), hq => exact I1.after hq
  | .error er, hq => exact hq.elim
end
/-- the script is known, or held as it is; nothing else is -/
def Scr (K : PySem.W.Frag) (a : Addr) (H : Hp) : Prop := ∀ b u, H b = some u → b = a ∧ K.lookup a = none ∧ ∃ ob xs, u = HO.frz ob (.lst xs)
theorem run_law {P : Program} {w : World} {K : PySem.W.Frag} {mg mb : Str → Option Value} {n : Nat} {fa a : Addr} {gd : FuncData} {x : Str} {sp : Sp} {z : Shared} {vs : List Value} {H : Hp} (Kz : K.In z.heap) (ng : z.heap.Ns mainGlobals mg) (nb : z.heap.Ns builtinsNs mb)
    (bb : ∀ y : Str, y ≠ "__name__" → mb y = bootBuiltins y) (lim : z.heap.NoLimit) (sm : ∃ mm, z.heap.Ns sysModules mm) (hg : z.gens = #[]) (ha : z.heap.get? a = some { cls := .type "list", data := .seq vs.toArray }) (hr : Room n callerA)
    (F : ∀ base : Heap, K.In base → base.Ns mainGlobals mg → (∃ o, base.get? sysModules = some o) → GFn P w K mg base n fa gd [x] sp) (hbind : ∀ (s : Shared) (u : Value), BindsTo s gd ⟨[u], []⟩ [(x, u)])
    (hS : Scr K a H) (hok : HOk P w H z.heap) (hsp : sp [.ref a] H (fun v _ => v = .bl true) E0) :
    codeAny (model P w) callerA (.call (.ref fa) ⟨[.ref a], []⟩) (fun r z' => r = .ok (.ret (.bool true)) ∧ OldK z.heap z'.heap ∧ z'.os = z.os ∧ AllBare z'.gens) z := by
  have toB : ∀ {b : Addr} {m : Str → Option Value}, z.heap.Ns b m → (hidT z.heap H).Ns b m := by
    rintro b m ⟨o, es, ep, e, d, r⟩
    refine ⟨o, es, ep, hidT_get e ?_, d, r⟩
    cases q : H b with
    | none => rfl
    | some u =>
      obtain ⟨rfl, _⟩ := hS _ _ q
      rw [ha] at e
      cases e
      cases (show Data.seq vs.toArray _ = Data.dict es ep from d)
  have Kb : K.In (hidT z.heap H) := fun b o e => hidT_get (Kz b o e) (by
    cases q : H b with
    | none => rfl
    | some u =>
      obtain ⟨rfl, z0, _⟩ := hS _ _ q
      rw [z0] at e
      cases e)
  have M : Mod K mg (hidT z.heap H) := ⟨Kb, toB ng, ⟨mb, toB nb, bb⟩, by
    obtain ⟨mc, h1, h2⟩ := lim
    exact ⟨mc, toB h1, h2⟩⟩
  have hs : ∃ o, (hidT z.heap H).get? sysModules = some o := by
    obtain ⟨mm, q⟩ := sm
    obtain ⟨o, _, _, e, _⟩ := toB q
    exact ⟨o, e⟩
  have e0 : Env0 P w K mg (hidT z.heap H) callerA [] z H := ⟨rfl, M, fun b o e => of_hidT e, Nat.le_of_eq (hidT_size _ _), trivial, (fun b hb => by cases (show b ∈ ([] : List Addr) from hb)), hok, .of_eq hg⟩
  refine codeAny_mono ((F _ Kb (toB ng) hs).go callerA [] z H ⟨[.ref a], []⟩ [.ref a] [.ref a] _ _ rfl hr e0 (hbind z (.ref a)) (.cons rfl .nil) hsp) fun res z' q => ?_
  match res, q with
  | .error e, q => exact q.elim
  | .ok (.ret u), q =>
    obtain ⟨v, H', os, bare, un, hok', r', q'⟩ := q
    subst q'
    obtain rfl : u = Value.bool true := r'
    refine ⟨rfl, OldK.of_keep fun b o e => ?_, os, bare⟩
    cases y : H b with
    | none => exact un.keep b o e y (fun k => by cases (show b ∈ ([] : List Addr) from k)) (fun k => by cases (show b ∈ ([] : List Addr) from k))
    | some u =>
      obtain ⟨rfl, _, ob, xs, rfl⟩ := hS _ _ y
      have h1 := (hok b _ y).1
      have h2 := (hok' b _ (un.frzs b ob _ y)).1
      rw [e] at h1
      cases h1
      exact h2
theorem walkG {l : PySem.W.OpenLaw} {n k : Nat} {q : Program} {loose : List Str} {XP : (Str → Option Value) → Heap → Prop} {YP : World → Heap → Prop} {d : DefRec} {K : Params → PySem.W.Frag} {sp : PySem.W.Frag → Sp} {x : Str} (hn : l.most = some n) (hn2 : n ≤ sizeLine)
    (hdf : d.params.defaults = []) (hi : importsNone q = true) (hr : Room k callerA) (hY : ∀ (w : World) (h : Heap), YP w h → (K w.params).In h)
    (F : ∀ (w : World) (mg : Str → Option Value) (fa : Addr) (h : Heap), (K w.params).In h → h.Ns mainGlobals mg → mg d.name = some (.ref fa) → ∃ gd : FuncData, (∀ (s : Shared) (u : Value), BindsTo s gd ⟨[u], []⟩ [(x, u)]) ∧
      ∀ base : Heap, (K w.params).In base → base.Ns mainGlobals mg → (∃ o, base.get? sysModules = some o) → GFn l.prog w (K w.params) mg base k fa gd [x] (sp (K w.params)))
    (hsp : ∀ (K : PySem.W.Frag) (H : Hp) (a : Addr) (ns : List Int), ns.length ≤ n → SqL K H a (ns.map V.int) → sp K [.ref a] H (fun v _ => v = .bl true) E0) : PySem.W.WalkO q loose XP YP l.row.toRowW d [] (fun f vs => PySem.call f vs) := by
  refine Att.attach_call hn hdf fun w s₀ z mg mb fa o pm cd doc a vs ns G Y ho hd hcd hmg hobj hints hlen hg => ?_
  have Kz := hY w _ Y
  obtain ⟨gd, hb, hF⟩ := F w mg fa _ Kz G.T.g hmg
  have sm : ∃ mm, z.heap.Ns sysModules mm := by
    obtain ⟨mm, h1, _⟩ := (G.T.seer hi).mods
    exact ⟨mm, h1⟩
  have rv := vals_ints hints
  have hl : (ns.map V.int).length ≤ sizeLine := by
    rw [List.length_map]
    omega
  cases hk : (K w.params).lookup a with
  | some o1 =>
    have e := Kz a o1 hk
    rw [hobj] at e
    cases e
    exact run_law (H := fun _ => none) Kz G.T.g G.T.b G.T.builtins G.T.nolimit sm hg hobj hr hF hb (fun b u y => by cases y) (fun b u y => by cases y)
      (hsp _ _ a ns hlen (.inr ⟨_, vs.toArray, _, hk, rfl, rfl, rfl, by rw [List.size_toArray, ← rv.length]; exact hl, by simpa using rv⟩))
  | none =>
    refine run_law (H := fun b => if b = a then some (.frz { cls := .type "list", data := .seq vs.toArray } (.lst (ns.map V.int))) else none) Kz G.T.g G.T.b G.T.builtins G.T.nolimit sm hg hobj hr hF hb (fun b u y => ?_) (fun b u y => ?_)
      (hsp _ _ a ns hlen (.inl (.inr ⟨{ cls := .type "list", data := .seq vs.toArray }, if_pos rfl⟩)))
    · have y1 : (if b = a then some (HO.frz { cls := .type "list", data := .seq vs.toArray } (.lst (ns.map V.int))) else none) = some u := y
      by_cases hb : b = a
      · rw [if_pos hb] at y1
        cases y1
        subst hb
        exact ⟨rfl, hk, _, _, rfl⟩
      · rw [if_neg hb] at y1
        cases y1
    · have y1 : (if b = a then some (HO.frz { cls := .type "list", data := .seq vs.toArray } (.lst (ns.map V.int))) else none) = some u := y
      by_cases hb : b = a
      · rw [if_pos hb] at y1
        cases y1
        subst hb
        exact ⟨hobj, hl, vs, _, rv, hobj⟩
      · rw [if_neg hb] at y1
        cases y1
end OM

namespace OM
open PySem PySem.Spec PyProof.Rows L2 LamX
/-- what stays as objects are laid -/
structure Stays (R : L2.St → Hp → Prop) : Prop where
  st : ∀ σ H H', Same H H' → R σ H → R σ H'
/-- an expression that stands for the datum d, built anew -/
def tLit (R : L2.St → Hp → Prop) (d : PyData) : TE := fun σ H Q => R σ H ∧ ∀ v H', Same H H' → Dt (fun _ => True) H' v d → Q v H'
def tLits (R : L2.St → Hp → Prop) (ds : List PyData) : TA := fun σ H Q => R σ H ∧ ∀ vs H', Same H H' → DtAll (fun _ => True) H' vs ds → Q vs H'
def tYes (R : L2.St → Hp → Prop) (b : Bool) : TE := fun σ H Q => R σ H ∧ ∀ H', Same H H' → Q (.bl b) H'
def tYess (R : L2.St → Hp → Prop) (bs : List Bool) : TA := fun σ H Q => R σ H ∧ ∀ H', Same H H' → Q (bs.map V.bl) H'
def tBls (R : L2.St → Hp → Prop) (bs : List Bool) : TE := fun σ H Q => R σ H ∧ ∀ p H', Same H H' → H' p = some (.lst (bs.map V.bl)) → Q (.ref p) H'
section
variable {X : Cx} {R : L2.St → Hp → Prop} {e : Expr} {es : List Expr} {j k : Nat} {pos p : Pos} {x : Str}
theorem PE.imp {t t' : TE} (h : PE X e t) (f : ∀ σ H Q, t' σ H Q → t σ H Q) : PE X e t' := ⟨fun pins s σ H Q I q => h.run pins s σ H Q I (f σ H Q q)⟩
theorem PA.imp {t t' : TA} (h : PA X es t) (f : ∀ σ H Q, t' σ H Q → t σ H Q) : PA X es t' := ⟨fun pos pins s σ H Q I q => h.run pos pins s σ H Q I (f σ H Q q)⟩
theorem pe_ls : PE X (.Constant (.str x) j pos) (tLit R (.str x)) := PE.imp pe_str fun σ H Q q => q.2 _ H (Same.refl H) (.at (.str x))
theorem pa_ln : PA X [] (tLits R []) := PA.imp pa_nil fun σ H Q q => q.2 _ H (Same.refl H) .nil
theorem pa_lc (S : Stays R) {d : PyData} {ds : List PyData} (h : PE X e (tLit R d)) (r : PA X es (tLits R ds)) (he : starEach (e :: es) X.env = (false, eval e X.env) :: starEach es X.env := by rfl) : PA X (e :: es) (tLits R (d :: ds)) :=
  PA.imp (pa_cons h r he) fun σ H Q q => ⟨q.1, fun v H1 s1 d1 => ⟨S.st _ _ _ s1 q.1, fun vs H2 s2 d2 => q.2 _ H2 (s1.trans s2) (.cons (d1.mv (fun _ z => z) fun b o _ z => s2 b o z) d2)⟩⟩
theorem pe_lt {ds : List PyData} (h : PA X es (tLits R ds)) (hl : ds.length ≤ 1000 := by decide) : PE X (.Tuple es k pos) (tLit R (.tuple ds)) :=
  PE.imp (pe_tup h) fun σ H Q q => ⟨q.1, fun vs H1 s1 d1 => by
    have l := d1.length
    have : (1000 : Nat) < sizeLine := by decide
    refine ⟨by omega, fun p hp => q.2 _ _ (s1.trans (same_upd hp)) (.tup trivial upd_same (by omega) (d1.mv (fun _ z => z) fun b o _ z => same_upd hp b o z))⟩⟩
theorem pa_yn : PA X [] (tYess R []) := PA.imp pa_nil fun σ H Q q => q.2 H (Same.refl H)
theorem pa_yc (S : Stays R) {b : Bool} {bs : List Bool} (h : PE X e (tYes R b)) (r : PA X es (tYess R bs)) (he : starEach (e :: es) X.env = (false, eval e X.env) :: starEach es X.env := by rfl) : PA X (e :: es) (tYess R (b :: bs)) :=
  PA.imp (pa_cons h r he) fun σ H Q q => ⟨q.1, fun H1 s1 => ⟨S.st _ _ _ s1 q.1, fun H2 s2 => q.2 H2 (s1.trans s2)⟩⟩
theorem pe_bs {bs : List Bool} (h : PA X es (tYess R bs)) (hl : bs.length ≤ 1000 := by decide) : PE X (.List es pos) (tBls R bs) :=
  PE.imp (pe_lst h) fun σ H Q q => ⟨q.1, fun H1 s1 => by
    have : (1000 : Nat) < sizeLine := by decide
    refine ⟨by rw [List.length_map]; omega, fun p hp => q.2 p _ (s1.trans (same_upd hp)) upd_same⟩⟩
theorem pe_yb {b : Bool} : PE X (.Constant (.bool b) j pos) (tYes R b) := PE.imp pe_bl fun σ H Q q => q.2 H (Same.refl H)
/-- a variable that holds the datum d -/
def RV (i : Nat) (d : PyData) : L2.St → Hp → Prop := fun σ H => ∃ v, σ[i]? = some (some v) ∧ Dt (fun _ => True) H v d
theorem rv_st {i : Nat} {d : PyData} : Stays (RV i d) := ⟨fun σ H H' s ⟨v, e, h⟩ => ⟨v, e, h.mv (fun _ z => z) fun b o _ z => s b o z⟩⟩
theorem true_st : Stays (fun _ _ => True) := ⟨fun _ _ _ _ _ => trivial⟩
theorem pe_lv (i : Nat) {d : PyData} (hN : X.N[i]? = some x := by rfl) (hv : Vis X.env.scope x := by first | exact Or.inl rfl | exact Or.inr (Or.inl rfl) | exact Or.inr (Or.inr rfl)) (hd : (x == ("__debug__" : Str)) = false := by decide)
    (hcd : (x == ("__classdict__" : Str)) = false := by decide) : PE X (.Name x pos) (tLit (RV i d) d) := PE.imp (pv i hN hv hd hcd) fun σ H Q q => by
  obtain ⟨⟨v, e, h⟩, q⟩ := q
  exact ⟨v, e, q v H (Same.refl H) h⟩
end
/-- three ifs, one in another -/
def threeD : PyData := .tuple [.tuple [.str "if", .str "p", .str "a", .tuple [.tuple [.str "if", .str "p", .str "a", .tuple [], .tuple [.tuple [.str "if", .str "q", .str "b", .tuple [.tuple [.str "put", .str "a"]], .tuple []]]]], .tuple []]]
end OM

namespace OM
open PySem PySem.Spec PyProof.Rows L2
theorem DtAll.get' {S : Addr → Prop} {H : Hp} : ∀ {vs : List V} {ds : List PyData} {i : Nat} {d : PyData}, DtAll S H vs ds → ds[i]? = some d → ∃ v, vs[i]? = some v ∧ Dt S H v d
  | _, _, _, _, .nil, e => by simp at e
  | _, _, 0, _, .cons h _, e => by
    simp at e
    subst e
    exact ⟨_, rfl, h⟩
  | _, _, i + 1, _, .cons _ r, e => DtAll.get' (i := i) r (by simpa using e)
/-! ### expressions that stand for data, by what the variables hold -/
theorem pe_ex2 {X : Cx} {e : Expr} {α : Type} {t : α → TE} (h : ∀ c, PE X e (t c)) : PE X e (fun σ H Q => ∃ c, t c σ H Q) := ⟨fun pins s σ H Q I ⟨c, q⟩ => (h c).run pins s σ H Q I q⟩
/-- a number, from the variables -/
def tIn (R : L2.St → Hp → Prop) (k : Nat) : TE := fun σ H Q => R σ H ∧ Q (.int (k : Int)) H
section
variable {X : Cx} {R : L2.St → Hp → Prop} {a b c e : Expr} {pos p p2 : Pos} {x : Str}
theorem pe_ii (i : Nat) {k : Nat} (hR : ∀ σ H, R σ H → σ[i]? = some (some (.int (k : Int)))) (hN : X.N[i]? = some x := by rfl) (hv : Vis X.env.scope x := by first | exact Or.inl rfl | exact Or.inr (Or.inl rfl) | exact Or.inr (Or.inr rfl)) (hd : (x == ("__debug__" : Str)) = false := by decide)
    (hcd : (x == ("__classdict__" : Str)) = false := by decide) : PE X (.Name x pos) (tIn R k) := PE.imp (pv i hN hv hd hcd) fun σ H Q q => ⟨_, hR _ _ q.1, q.2⟩
theorem pe_ip {k m : Nat} {j : Nat} {p3 : Pos} (h : PE X a (tIn R k)) : PE X (.BinOp a .Add (.Constant (.int (m : Int)) j p3) pos) (tIn R (k + m)) := PE.imp (pe_op op_add h pe_int) fun σ H Q q => ⟨q.1, _, _, rfl, rfl, q.2⟩
theorem pe_ct (S : Stays R) {xs ys : List PyData} (ha : PE X a (tLit R (.tuple xs))) (hb : PE X b (tLit R (.tuple ys))) (hl : ∀ σ H, R σ H → xs.length + ys.length ≤ 1000) : PE X (.BinOp a .Add b pos) (tLit R (.tuple (xs ++ ys))) :=
  PE.imp (pe_op op_catA ha hb) fun σ H Q q => ⟨q.1, fun v H1 s1 d1 => ⟨S.st _ _ _ s1 q.1, fun u H2 s2 d2 => by
    obtain ⟨l, ls, rfl, el, lx, dx⟩ := d1.tup_of
    obtain ⟨m, ms, rfl, em, ly, dy⟩ := d2.tup_of
    have := hl _ _ q.1
    have l1 := dx.length
    have l2 := dy.length
    have line : (8200000 : Nat) < sizeLine := by decide
    refine cat_one (K := X.K) (s2 _ _ el) em (by omega) fun c H3 s3 _ ec => q.2 _ _ ((s1.trans s2).trans s3) (.tup trivial ec (by rw [List.length_append]; omega) (((dx.mv (fun _ z => z) fun b o _ z => s2 b o z).app dy).mv (fun _ z => z) fun b o _ z => s3 b o z))⟩⟩
theorem pe_slT {ds : List PyData} {k : Nat} (h : PE X a (tLit R (.tuple ds))) (S : Stays R) (hb : PE X b (tIn R k)) (h0 : ∀ σ H, R σ H → k ≤ ds.length) : PE X (.Subscript a (.Slice none (some b) none p2) pos) (tLit R (.tuple (ds.take k))) :=
  PE.imp (pe_slice sl_tupA h po_none (po_some hb)) fun σ H Q q => ⟨q.1, fun v H1 s1 d1 => ⟨S.st _ _ _ s1 q.1, k, rfl, by
    obtain ⟨l, ls, rfl, el, lx, dx⟩ := d1.tup_of
    have := h0 _ _ q.1
    have l1 := dx.length
    refine sl_one (K := X.K) el fun c H3 s3 _ ec => q.2 _ _ (s1.trans s3) ?_
    rw [cut_take ls (by omega)] at ec
    exact .tup trivial ec (by rw [List.length_take]; omega) ((dta_take k dx).mv (fun _ z => z) fun b o _ z => s3 b o z)⟩⟩
theorem cut_dropG (xs : List V) (i : Nat) : cutV xs (some (i : Int)) none = xs.drop i := by
  rcases Nat.le_total i xs.length with z | z
  · exact cut_drop xs z
  · unfold cutV
    rw [HT.sIx_nat, HT.sIx_none, show min i xs.length = xs.length by omega, List.drop_of_length_le z, List.drop_of_length_le (Nat.le_refl _), List.take_nil]
theorem pe_slDG {ds : List PyData} {k : Nat} (h : PE X a (tLit R (.tuple ds))) (S : Stays R) (hb : PE X b (tIn R k)) : PE X (.Subscript a (.Slice (some b) none none p2) pos) (tLit R (.tuple (ds.drop k))) :=
  PE.imp (pe_slice sl_tupA h (po_some hb) po_none) fun σ H Q q => ⟨q.1, fun v H1 s1 d1 => ⟨S.st _ _ _ s1 q.1, k, rfl, by
    obtain ⟨l, ls, rfl, el, lx, dx⟩ := d1.tup_of
    have l1 := dx.length
    refine sl_two (K := X.K) el fun c H3 s3 _ ec => q.2 _ _ (s1.trans s3) ?_
    rw [cut_dropG] at ec
    exact .tup trivial ec (by rw [List.length_drop]; omega) ((dta_drop k dx).mv (fun _ z => z) fun b o _ z => s3 b o z)⟩⟩
theorem pe_slD {ds : List PyData} {k : Nat} (h : PE X a (tLit R (.tuple ds))) (S : Stays R) (hb : PE X b (tIn R k)) (h0 : ∀ σ H, R σ H → k ≤ ds.length) : PE X (.Subscript a (.Slice (some b) none none p2) pos) (tLit R (.tuple (ds.drop k))) :=
  PE.imp (pe_slice sl_tupA h (po_some hb) po_none) fun σ H Q q => ⟨q.1, fun v H1 s1 d1 => ⟨S.st _ _ _ s1 q.1, k, rfl, by
    obtain ⟨l, ls, rfl, el, lx, dx⟩ := d1.tup_of
    have := h0 _ _ q.1
    have l1 := dx.length
    refine sl_two (K := X.K) el fun c H3 s3 _ ec => q.2 _ _ (s1.trans s3) ?_
    rw [cut_drop ls (by omega)] at ec
    exact .tup trivial ec (by rw [List.length_drop]; omega) ((dta_drop k dx).mv (fun _ z => z) fun b o _ z => s3 b o z)⟩⟩
theorem cut_mid (xs : List V) {i j : Nat} (h : i ≤ xs.length) (hj : i ≤ j) : cutV xs (some (i : Int)) (some (j : Int)) = (xs.drop i).take (j - i) := by
  unfold cutV
  rw [HT.sIx_nat, HT.sIx_nat]
  have e1 : min i xs.length = i := by omega
  rw [e1]
  rcases Nat.le_total j xs.length with z | z
  · rw [show min j xs.length = j by omega]
  · rw [show min j xs.length = xs.length by omega, List.take_of_length_le (by rw [List.length_drop]; omega), List.take_of_length_le (by rw [List.length_drop]; omega)]
theorem pe_slM {ds : List PyData} {k m : Nat} (h : PE X a (tLit R (.tuple ds))) (S : Stays R) (hb : PE X b (tIn R k)) (hc : PE X c (tIn R m)) (h0 : ∀ σ H, R σ H → k ≤ ds.length ∧ k ≤ m) : PE X (.Subscript a (.Slice (some b) (some c) none p2) pos) (tLit R (.tuple ((ds.drop k).take (m - k)))) :=
  PE.imp (pe_slice sl_tupA h (po_some hb) (po_some hc)) fun σ H Q q => ⟨q.1, fun v H1 s1 d1 => ⟨S.st _ _ _ s1 q.1, k, rfl, S.st _ _ _ s1 q.1, m, rfl, by
    obtain ⟨l, ls, rfl, el, lx, dx⟩ := d1.tup_of
    have := h0 _ _ q.1
    have l1 := dx.length
    refine sl_one (K := X.K) el fun c H3 s3 _ ec => q.2 _ _ (s1.trans s3) ?_
    rw [cut_mid ls (by omega) this.2] at ec
    exact .tup trivial ec (by rw [List.length_take, List.length_drop]; omega) ((dta_take _ (dta_drop k dx)).mv (fun _ z => z) fun b o _ z => s3 b o z)⟩⟩
theorem pe_lp (i : Nat) {d : PyData} (hR : ∀ σ H, R σ H → RV i d σ H) (hN : X.N[i]? = some x := by rfl) (hv : Vis X.env.scope x := by first | exact Or.inl rfl | exact Or.inr (Or.inl rfl) | exact Or.inr (Or.inr rfl)) (hd : (x == ("__debug__" : Str)) = false := by decide)
    (hcd : (x == ("__classdict__" : Str)) = false := by decide) : PE X (.Name x pos) (tLit R d) := PE.imp (pv i hN hv hd hcd) fun σ H Q q => by
  obtain ⟨v, e, h⟩ := hR _ _ q.1
  exact ⟨v, e, q.2 v H (Same.refl H) h⟩
/-- t[k], a literal place -/
theorem pe_it {ds : List PyData} {d : PyData} {k : Nat} {j : Nat} {p3 : Pos} (h : PE X a (tLit R (.tuple ds))) (hk : ds[k]? = some d) : PE X (.Subscript a (.Constant (.int (k : Int)) j p3) pos) (tLit R d) :=
  PE.imp (pe_ix ix_tup h pe_int (fun _ _ => rfl)) fun σ H Q q => ⟨q.1, fun v H1 s1 d1 => by
    obtain ⟨l, ls, rfl, el, lx, dx⟩ := d1.tup_of
    obtain ⟨x, hx, hd⟩ := dx.get' hk
    exact ⟨l, ls, (k : Int), x, rfl, rfl, SqT.of el, atI_nat hx, q.2 _ _ s1 hd⟩⟩
end
end OM

namespace OM
open PySem PySem.Spec PyProof.Rows L2
mutual
/-- texts and tuples alone -/
def pureD : PyData → Bool
  | .str _ => true
  | .tuple xs => pureAll xs
  | _ => false
def pureAll : List PyData → Bool
  | [] => true
  | x :: r => pureD x && pureAll r
end
mutual
theorem lay_pure : ∀ d : PyData, pureD d = true → smlD d = true → PyData.canLay0 d = true
  | .str x, _, h => by
    unfold smlD at h
    rw [Bool.and_eq_true] at h
    unfold PyData.canLay0
    exact h.2
  | .tuple xs, h1, h2 => by
    unfold pureD at h1
    rw [sml_tup] at h2
    unfold PyData.canLay0
    exact lay_pureAll xs h1 h2
  | .none, h, _ => by unfold pureD at h; cases h
  | .bool _, h, _ => by unfold pureD at h; cases h
  | .int _, h, _ => by unfold pureD at h; cases h
  | .list _, h, _ => by unfold pureD at h; cases h
  | .dict _, h, _ => by unfold pureD at h; cases h
theorem lay_pureAll : ∀ xs : List PyData, pureAll xs = true → smlAll xs = true → PyData.canLayAll0 xs = true
  | [], _, _ => rfl
  | x :: r, h1, h2 => by
    unfold pureAll at h1
    rw [Bool.and_eq_true] at h1
    rw [smlAll_cons, Bool.and_eq_true] at h2
    show (PyData.canLay0 x && PyData.canLayAll0 r) = true
    rw [lay_pure x h1.1 h2.1, lay_pureAll r h1.2 h2.2]
    rfl
end
section
variable {S : Addr → Prop} {H : Hp} {K : PySem.W.Frag}
mutual
theorem Dt.dp : ∀ {v : V} {d : PyData}, pureD d = true → Dt S H v d → Dp K H v d
  | _, _, p, .at h => by
    cases h with
    | str x => exact .str x
    | _ => unfold pureD at p; cases p
  | _, _, p, .tup s e hl h => .tup (SqT.of e) (DtAll.dp (by unfold pureD at p; exact p) h)
  | _, _, p, .lst s e hl h => by unfold pureD at p; cases p
  | _, _, p, .dic0 s e => by unfold pureD at p; cases p
  | _, _, p, .dic1 s e h => by unfold pureD at p; cases p
theorem DtAll.dp : ∀ {vs : List V} {ds : List PyData}, pureAll ds = true → DtAll S H vs ds → DpAll K H vs ds
  | _, _, _, .nil => .nil
  | _, _, p, .cons h r => by
    unfold pureAll at p
    rw [Bool.and_eq_true] at p
    exact .cons (Dt.dp p.1 h) (DtAll.dp p.2 r)
end
end
theorem name_pure {d : PyData} (h : isNameD d = true) : pureD d = true ∧ d.depth = 0 := by
  cases d with
  | str x => exact ⟨by unfold pureD; rfl, rfl⟩
  | _ => cases h
theorem names_pure : ∀ {ds : List PyData}, ds.all isNameD = true → pureAll ds = true ∧ PyData.depthAll ds = 0
  | [], _ => ⟨rfl, rfl⟩
  | d :: r, h => by
    rw [List.all_cons, Bool.and_eq_true] at h
    obtain ⟨a, b⟩ := name_pure h.1
    obtain ⟨c, e⟩ := names_pure h.2
    unfold pureAll
    rw [depthAll_cons, a, b, c, e]
    exact ⟨rfl, rfl⟩
theorem pure_tup {ds : List PyData} (h : pureAll ds = true) : pureD (.tuple ds) = true := by
  unfold pureD
  exact h
theorem zip_all {p : PyData → Prop} {g : PyData → Str → Bool} (hg : ∀ d r, g d r = true → p d) : ∀ {ds : List PyData} {rs : List Str}, ds.length = rs.length → (List.zipWith g ds rs).all id = true → ∀ d ∈ ds, p d
  | [], _, _, _ => fun d h => by cases h
  | _ :: _, [], h, _ => by cases h
  | d :: ds, r :: rs, h, z => by
    rw [List.zipWith_cons_cons, List.all_cons, Bool.and_eq_true] at z
    intro e he
    rcases List.mem_cons.mp he with rfl | he
    · exact hg _ _ z.1
    · exact zip_all hg (by simpa using h) z.2 e he
theorem all_pure {m : Nat} : ∀ {ds : List PyData}, (∀ d ∈ ds, pureD d = true ∧ d.depth ≤ m) → pureAll ds = true ∧ PyData.depthAll ds ≤ m
  | [], _ => ⟨rfl, Nat.zero_le _⟩
  | d :: r, h => by
    obtain ⟨a, b⟩ := h d (by simp)
    obtain ⟨c, e⟩ := all_pure (ds := r) fun x hx => h x (List.mem_cons_of_mem _ hx)
    unfold pureAll
    rw [depthAll_cons, a, c]
    exact ⟨rfl, by omega⟩
/-- code is made of texts and tuples, not deep -/
theorem row_pure : ∀ (n : Nat) (d : PyData), rowD (cdOf n) d = true → pureD d = true ∧ d.depth ≤ 2 * n + 2 := by
  intro n
  induction n with
  | zero =>
    intro d h
    obtain ⟨w, rest, rs, rfl, hf, hlen, fits⟩ := rowD_shape h
    have hp : ∀ x ∈ rest, pureD x = true ∧ x.depth ≤ 1 := zip_all (fun x r hx => by
      unfold fitD at hx
      split at hx
      · cases hx
      · split at hx
        · unfold argsD at hx
          split at hx
          · rw [Bool.and_eq_true] at hx
            obtain ⟨a, b⟩ := names_pure hx.2
            exact ⟨pure_tup a, by rw [dep_tup, b]; exact Nat.le_refl _⟩
          · cases hx
        · obtain ⟨a, b⟩ := name_pure hx
          exact ⟨a, by omega⟩) hlen fits
    obtain ⟨a, b⟩ := all_pure hp
    refine ⟨pure_tup (by unfold pureAll; rw [a]; unfold pureD; rfl), ?_⟩
    rw [dep_tup, depthAll_cons]
    have : (PyData.str w).depth = 0 := rfl
    omega
  | succ m ih =>
    intro d h
    obtain ⟨w, rest, rs, rfl, hf, hlen, fits⟩ := rowD_shape h
    have hp : ∀ x ∈ rest, pureD x = true ∧ x.depth ≤ 2 * m + 3 := zip_all (fun x r hx => by
      unfold fitD at hx
      split at hx
      · obtain ⟨ys, rfl, rows⟩ := code_tup (n := m) (show codeD m x = true from hx)
        obtain ⟨a, b⟩ := all_pure (ds := ys) fun y hy => ih y (List.all_eq_true.mp rows y hy)
        exact ⟨pure_tup a, by rw [dep_tup]; omega⟩
      · split at hx
        · unfold argsD at hx
          split at hx
          · rw [Bool.and_eq_true] at hx
            obtain ⟨a, b⟩ := names_pure hx.2
            exact ⟨pure_tup a, by rw [dep_tup, b]; omega⟩
          · cases hx
        · obtain ⟨a, b⟩ := name_pure hx
          exact ⟨a, by omega⟩) hlen fits
    obtain ⟨a, b⟩ := all_pure hp
    refine ⟨pure_tup (by unfold pureAll; rw [a]; unfold pureD; rfl), ?_⟩
    rw [dep_tup, depthAll_cons]
    have : (PyData.str w).depth = 0 := rfl
    omega
theorem code_pure {ds : List PyData} (h : ds.all (rowD (cdOf 3)) = true) : pureAll ds = true ∧ PyData.depthAll ds ≤ 8 := all_pure fun d hd => row_pure 3 d (List.all_eq_true.mp h d hd)
theorem code_shaped {ds : List PyData} (h : ds.all (rowD (cdOf 3)) = true) (s : smlAll ds = true) : SeqAt.shaped (.tuple ds) = true := by
  obtain ⟨a, b⟩ := code_pure h
  have c := lay_pure (.tuple ds) (pure_tup a) (by rw [sml_tup]; exact s)
  show (PyData.canLay0 (.tuple ds) && decide ((PyData.tuple ds).depth ≤ 64)) = true
  rw [c, decide_eq_true (show (PyData.tuple ds).depth ≤ 64 by rw [dep_tup]; omega)]
  rfl
mutual
theorem eqv_pure : ∀ d : PyData, pureD d = true → PyData.eqv d d = true
  | .str x, _ => by unfold PyData.eqv; simp
  | .tuple xs, h => by
    unfold pureD at h
    unfold PyData.eqv
    exact eqv_pureAll xs h
  | .none, h => by unfold pureD at h; cases h
  | .bool _, h => by unfold pureD at h; cases h
  | .int _, h => by unfold pureD at h; cases h
  | .list _, h => by unfold pureD at h; cases h
  | .dict _, h => by unfold pureD at h; cases h
theorem eqv_pureAll : ∀ xs : List PyData, pureAll xs = true → PyData.eqvAll xs xs = true
  | [], _ => by unfold PyData.eqvAll; rfl
  | x :: r, h => by
    unfold pureAll at h
    rw [Bool.and_eq_true] at h
    unfold PyData.eqvAll
    rw [eqv_pure x h.1, eqv_pureAll r h.2]
    rfl
end
section
variable {S : Addr → Prop} {H H' : Hp} {d : Addr} {acc : List V}
mutual
/-- data of texts and tuples outlive what happens to a list -/
theorem Dt.butL (e : H d = some (.lst acc)) (b : But d H H') : ∀ {v : V} {x : PyData}, pureD x = true → Dt S H v x → Dt S H' v x
  | _, _, _, .at h => .at h
  | _, _, p, .tup (a := a) s y hl h => .tup s (b _ _ (fun z => by
      rw [z, e] at y
      cases y) y) hl (DtAll.butL e b (by unfold pureD at p; exact p) h)
  | _, _, p, .lst s y hl h => by unfold pureD at p; cases p
  | _, _, p, .dic0 s y => by unfold pureD at p; cases p
  | _, _, p, .dic1 s y h => by unfold pureD at p; cases p
theorem DtAll.butL (e : H d = some (.lst acc)) (b : But d H H') : ∀ {vs : List V} {xs : List PyData}, pureAll xs = true → DtAll S H vs xs → DtAll S H' vs xs
  | _, _, _, .nil => .nil
  | _, _, p, .cons h r => by
    unfold pureAll at p
    rw [Bool.and_eq_true] at p
    exact .cons (Dt.butL e b p.1 h) (DtAll.butL e b p.2 r)
end
theorem Dt.butD (e : Dice H d) (b : But d H H') {v : V} {x : PyData} (p : pureD x = true) (h : Dt S H v x) : Dt S H' v x := by
  obtain ⟨_, _, _, e⟩ := e
  exact h.butL e b p
end
theorem rows_pure {n : Nat} {ds : List PyData} (h : ds.all (rowD (cdOf n)) = true) : pureD (.tuple ds) = true := pure_tup (all_pure (m := 2 * n + 2) fun d hd => row_pure n d (List.all_eq_true.mp h d hd)).1
end OM

namespace OM
open PySem PySem.Spec PyProof.Rows L2
theorem len_W {n : Nat} : ∀ {ds : List PyData}, ds.all (rowD (cdOf n)) = true → ds.length ≤ W one n ds
  | [], _ => Nat.zero_le _
  | d :: r, h => by
    rw [List.all_cons, Bool.and_eq_true] at h
    have := len_W h.2
    have e : 1 ≤ wsum one (flatS n d) := by
      rw [flatS_row h.1, wsum_cons]
      show 1 ≤ 1 + _
      omega
    rw [W_cons, List.length_cons]
    omega
theorem cutA3 {ds : List PyData} {i : Nat} {x : PyData} (h : ds[i]? = some x) : ds = ds.take i ++ [x] ++ ds.drop (i + 1) := by
  obtain ⟨hi, e⟩ := List.getElem?_eq_some_iff.mp h
  conv => lhs; rw [← List.take_append_drop i ds, List.drop_eq_getElem_cons hi, e]
  simp
theorem cutH {A : Prop} {P R : Hp → Prop} (f : (∀ G, P G → R G) → A) (b : ∀ G, P G → R G) : A := f b
/-! what the variables hold, for each expression -/
def R2 (p : List PyData × Nat) : L2.St → Hp → Prop := fun σ H => RV 1 (.tuple p.1) σ H ∧ σ[2]? = some (some (.int (p.2 : Int))) ∧ p.2 < p.1.length ∧ p.1.length ≤ 300
theorem r2_st (p : List PyData × Nat) : Stays (R2 p) := ⟨fun σ H H' s h => ⟨rv_st.st _ _ _ s h.1, h.2⟩⟩
def R4 (p : List PyData × Nat × PyData) : L2.St → Hp → Prop := fun σ H => RV 1 (.tuple p.1) σ H ∧ σ[2]? = some (some (.int (p.2.1 : Int))) ∧ RV 6 p.2.2 σ H ∧ p.2.1 < p.1.length ∧ p.1.length ≤ 300
theorem r4_st (p : List PyData × Nat × PyData) : Stays (R4 p) := ⟨fun σ H H' s h => ⟨rv_st.st _ _ _ s h.1, h.2.1, rv_st.st _ _ _ s h.2.2.1, h.2.2.2⟩⟩
def R5 (p : List PyData × Nat × PyData) : L2.St → Hp → Prop := fun σ H => RV 5 (.tuple p.1) σ H ∧ σ[7]? = some (some (.int (p.2.1 : Int))) ∧ RV 4 p.2.2 σ H ∧ p.2.1 ≤ p.1.length ∧ p.1.length ≤ 300
theorem r5_st (p : List PyData × Nat × PyData) : Stays (R5 p) := ⟨fun σ H H' s h => ⟨rv_st.st _ _ _ s h.1, h.2.1, rv_st.st _ _ _ s h.2.2.1, h.2.2.2⟩⟩
def R7 (p : List PyData × Nat × PyData) : L2.St → Hp → Prop := fun σ H => RV 1 (.tuple p.1) σ H ∧ σ[2]? = some (some (.int (p.2.1 : Int))) ∧ RV 4 p.2.2 σ H ∧ p.2.1 < p.1.length ∧ p.1.length ≤ 300
theorem r7_st (p : List PyData × Nat × PyData) : Stays (R7 p) := ⟨fun σ H H' s h => ⟨rv_st.st _ _ _ s h.1, h.2.1, rv_st.st _ _ _ s h.2.2.1, h.2.2.2⟩⟩
section
variable {P : Program} {w : World} {K : PySem.W.Frag} {mg : Str → Option Value} {base : Heap} {f fR fO fS : Addr} {fd fdR fdO dS : FuncData}
end
end OM

namespace OM
open PySem PySem.Spec PyProof.Rows L2
/-! ### drawn code, by its weights -/
theorem own_leaf {w : Str} {rest : List PyData} {k : Str} (h1 : w ≠ "get") (h2 : w ≠ "put") (h3 : w ≠ "set") (h4 : w ≠ k) : ownD k (.tuple (.str w :: rest)) = 0 := by
  unfold ownD
  rw [if_neg]
  unfold kindD
  dsimp only
  rw [if_neg (fun z => z.elim h1 h2), if_neg h3]
  exact h4
structure DrS (n : Nat) (d : PyData) (l s t : Nat) : Prop where
  row : rowD (cdOf n) d = true
  sz : wsum one (flatS n d) ≤ 1 + 4 * wsum (ownD "if") (flatS n d)
  lt : wsum (ownD "letter") (flatS n d) ≤ l
  st : wsum (ownD "set") (flatS n d) ≤ s
  iff : wsum (ownD "if") (flatS n d) ≤ t
  cel : ∀ x ∈ flatS n d, cellOk x
structure DrC (n : Nat) (ds : List PyData) (l s t : Nat) : Prop where
  rows : ds.all (rowD (cdOf n)) = true
  sz : W one n ds ≤ ds.length + 4 * W (ownD "if") n ds
  lt : W (ownD "letter") n ds ≤ l
  st : W (ownD "set") n ds ≤ s
  iff : W (ownD "if") n ds ≤ t
  cel : cellsOk n ds
theorem DrS.leaf {n : Nat} {w : Str} {rest : List PyData} {l s : Nat} (row : rowD (cdOf 0) (.tuple (.str w :: rest)) = true) (ni : w ≠ "if") (hl : ownD "letter" (.tuple (.str w :: rest)) ≤ l) (hs : ownD "set" (.tuple (.str w :: rest)) ≤ s) (hi : ownD "if" (.tuple (.str w :: rest)) = 0)
    (hc : ∀ c ∈ namesD "cell" (.tuple (.str w :: rest)), c ∈ cells3) (sh : w ≠ "show" := by decide +kernel) : DrS n (.tuple (.str w :: rest)) l s 0 := by
  have row' := leaf_any (m := n) row ni
  have inn : inner2 (.tuple (.str w :: rest)) = [] := by
    rcases row_iff row with ⟨m, p, r, ys, ns, e, _⟩ | ⟨w', rest', ed, _, i0⟩
    · cases e
    · exact i0
  have e := leafS row' inn
  refine ⟨row', ?_, ?_, ?_, ?_, ?_⟩
  · rw [e]
    show 1 + 0 ≤ 1 + _
    omega
  · rw [e]
    show _ + 0 ≤ _
    omega
  · rw [e]
    show _ + 0 ≤ _
    omega
  · rw [e]
    show _ + 0 ≤ _
    omega
  · rw [e]
    intro x hx
    rw [List.mem_singleton.mp hx]
    exact ⟨hc, sh⟩
mutual
theorem StD.dr : ∀ {n : Nat} {d : PyData} {l s t z : Nat}, StD n d l s t z → DrS n d l s t
  | n, _, _, _, _, _, .read (r := r) (x := x) hr hx => by
    have h := (by decide +kernel : ∀ r ∈ regs4, ∀ x ∈ cells3, rowD (cdOf 0) (.tuple [.str "read", .str r, .str x]) = true ∧ ∀ c ∈ namesD "cell" (.tuple [.str "read", .str r, .str x]), c ∈ cells3) r hr x hx
    exact .leaf h.1 (by decide +kernel) (Nat.le_of_eq (own_leaf (by decide +kernel) (by decide +kernel) (by decide +kernel) (by decide +kernel))) (Nat.le_of_eq (own_leaf (by decide +kernel) (by decide +kernel) (by decide +kernel) (by decide +kernel))) (own_leaf (by decide +kernel) (by decide +kernel) (by decide +kernel) (by decide +kernel)) h.2
  | n, _, _, _, _, _, .write (r := r) (x := x) hx hr => by
    have h := (by decide +kernel : ∀ r ∈ regs4, ∀ x ∈ cells3, rowD (cdOf 0) (.tuple [.str "write", .str x, .str r]) = true ∧ ∀ c ∈ namesD "cell" (.tuple [.str "write", .str x, .str r]), c ∈ cells3) r hr x hx
    exact .leaf h.1 (by decide +kernel) (Nat.le_of_eq (own_leaf (by decide +kernel) (by decide +kernel) (by decide +kernel) (by decide +kernel))) (Nat.le_of_eq (own_leaf (by decide +kernel) (by decide +kernel) (by decide +kernel) (by decide +kernel))) (own_leaf (by decide +kernel) (by decide +kernel) (by decide +kernel) (by decide +kernel)) h.2
  | n, _, _, _, _, _, .copy (r := r) (a := a) hr ha => by
    have h := (by decide +kernel : ∀ r ∈ regs4, ∀ x ∈ regs4, rowD (cdOf 0) (.tuple [.str "copy", .str r, .str x]) = true ∧ ∀ c ∈ namesD "cell" (.tuple [.str "copy", .str r, .str x]), c ∈ cells3) r hr a ha
    exact .leaf h.1 (by decide +kernel) (Nat.le_of_eq (own_leaf (by decide +kernel) (by decide +kernel) (by decide +kernel) (by decide +kernel))) (Nat.le_of_eq (own_leaf (by decide +kernel) (by decide +kernel) (by decide +kernel) (by decide +kernel))) (own_leaf (by decide +kernel) (by decide +kernel) (by decide +kernel) (by decide +kernel)) h.2
  | n, _, _, _, _, _, .letter (w := w) (r := r) hw hr => by
    have h := (by decide +kernel : ∀ w ∈ (["get", "put"] : List Str), ∀ r ∈ regs4, rowD (cdOf 0) (.tuple [.str w, .str r]) = true ∧ w ≠ "if" ∧ ownD "letter" (.tuple [.str w, .str r]) ≤ 1 ∧ ownD "set" (.tuple [.str w, .str r]) ≤ 0 ∧ ownD "if" (.tuple [.str w, .str r]) = 0 ∧ w ≠ "show" ∧ ∀ c ∈ namesD "cell" (.tuple [.str w, .str r]), c ∈ cells3) w (by simpa using hw) r hr
    exact .leaf h.1 h.2.1 h.2.2.1 h.2.2.2.1 h.2.2.2.2.1 h.2.2.2.2.2.2 h.2.2.2.2.2.1
  | n, _, _, _, _, _, .set (r := r) (f := f) (as := as) hr hf ha hl => by
    have h1 := (by decide +kernel : ∀ r ∈ regs4, isNameD (.str r) = true) r hr
    have h2 := (by decide +kernel : ∀ f ∈ (["f", "g"] : List Str), isNameD (.str f) = true) f (by simpa using hf)
    have h3 : argsD (.tuple (as.map PyData.str)) = true := by
      show (decide ((as.map PyData.str).length ≤ 2) && (as.map PyData.str).all isNameD) = true
      rw [List.length_map, decide_eq_true hl, Bool.true_and, List.all_map]
      exact List.all_eq_true.mpr fun k hk => (by decide +kernel : ∀ k ∈ regs4, isNameD (.str k) = true) k (ha k hk)
    have row : rowD (cdOf 0) (.tuple [.str "set", .str r, .str f, .tuple (as.map PyData.str)]) = true := by
      rw [row_set, h1, h2, h3]
      rfl
    have kd : ∀ k : Str, k ≠ "set" → k ≠ "constant" → ownD k (.tuple [.str "set", .str r, .str f, .tuple (as.map PyData.str)]) = 0 := fun k n1 n2 => by
      unfold ownD
      rw [if_neg]
      unfold kindD
      dsimp only
      rw [if_neg (by decide +kernel), if_pos rfl]
      split
      · exact fun z => n2 z.symm
      · exact fun z => n1 z.symm
    refine .leaf row (by decide +kernel) (Nat.le_of_eq (kd _ (by decide +kernel) (by decide +kernel))) ?_ (kd _ (by decide +kernel) (by decide +kernel)) ?_
    · unfold ownD
      split <;> omega
    · intro c hc
      have e4 : formOf "set" = some (["register", "function", "registers"] : List Str) := by decide +kernel
      have : namesD "cell" (.tuple [.str "set", .str r, .str f, .tuple (as.map PyData.str)]) = [] := by
        show (match formOf "set" with | some rs => (List.zipWith (nmD "cell") [.str r, .str f, .tuple (as.map PyData.str)] rs).flatten | none => []) = _
        rw [e4]
        show (nmD "cell" (.str r) "register" ++ (nmD "cell" (.str f) "function" ++ (nmD "cell" (.tuple (as.map PyData.str)) "registers" ++ []))) = []
        unfold nmD
        rw [if_neg (by decide +kernel), if_neg (by decide +kernel), if_neg (by decide +kernel), if_neg (by decide +kernel), if_neg (by decide +kernel), if_neg (by decide +kernel)]
        rfl
      rw [this] at hc
      cases hc
  | _, _, _, _, _, _, .iff (n := n) (p := p) (r := r) (ys := ys) (ns := ns) hp hr hy hyl hn hnl => by
    have a := CoD.dr hy
    have b := CoD.dr hn
    have h1 := (by decide +kernel : ∀ r ∈ regs4, isNameD (.str r) = true) r hr
    have h2 := (by decide +kernel : ∀ f ∈ (["p", "q"] : List Str), isNameD (.str f) = true) p (by simpa using hp)
    have row := if_row h2 h1 a.rows b.rows
    have k : ∀ k : Str, k ≠ "if" → ownD k (.tuple [.str "if", .str p, .str r, .tuple ys, .tuple ns]) = 0 := fun k hk => by
      unfold ownD
      rw [if_neg (by
        unfold kindD
        dsimp only
        rw [if_neg (by decide +kernel), if_neg (by decide +kernel)]
        exact fun z => hk z.symm)]
    obtain ⟨_, a1, a2, a3, a4, a5⟩ := a
    obtain ⟨_, b1, b2, b3, b4, b5⟩ := b
    refine ⟨row, ?_, ?_, ?_, ?_, ?_⟩
    · rw [W_if row, W_if row, own_if]
      show 1 + _ ≤ _
      omega
    · rw [W_if row, k _ (by decide +kernel)]
      omega
    · rw [W_if row, k _ (by decide +kernel)]
      omega
    · rw [W_if row, own_if]
      omega
    · rw [ifS row]
      intro x hx
      rcases List.mem_cons.mp hx with rfl | hx
      · refine ⟨fun c hc => ?_, by show ("if" : Str) ≠ "show"; decide +kernel⟩
        have e4 : formOf "if" = some (["test", "register", "code", "code"] : List Str) := by decide +kernel
        have : namesD "cell" (.tuple [.str "if", .str p, .str r, .tuple ys, .tuple ns]) = [] := by
          show (match formOf "if" with | some rs => (List.zipWith (nmD "cell") [.str p, .str r, .tuple ys, .tuple ns] rs).flatten | none => []) = _
          rw [e4]
          show (nmD "cell" (.str p) "test" ++ (nmD "cell" (.str r) "register" ++ (nmD "cell" (.tuple ys) "code" ++ (nmD "cell" (.tuple ns) "code" ++ [])))) = []
          unfold nmD
          rw [if_neg (by decide +kernel), if_neg (by decide +kernel), if_neg (by decide +kernel), if_neg (by decide +kernel), if_neg (by decide +kernel), if_neg (by decide +kernel)]
          rfl
        rw [this] at hc
        cases hc
      · rcases List.mem_append.mp hx with z | z
        · exact a5 x z
        · exact b5 x z
theorem CoD.dr : ∀ {n : Nat} {ds : List PyData} {l s t z : Nat}, CoD n ds l s t z → DrC n ds l s t
  | _, _, _, _, _, _, .nil => ⟨rfl, Nat.zero_le _, Nat.zero_le _, Nat.zero_le _, Nat.zero_le _, fun x hx => by cases hx⟩
  | _, _, _, _, _, _, .cons h r => by
    obtain ⟨a0, a1, a2, a3, a4, a5⟩ := StD.dr h
    obtain ⟨b0, b1, b2, b3, b4, b5⟩ := CoD.dr r
    refine ⟨by rw [List.all_cons, a0, b0]; rfl, ?_, ?_, ?_, ?_, ?_⟩
    · rw [W_cons, W_cons, List.length_cons]
      omega
    · rw [W_cons]
      omega
    · rw [W_cons]
      omega
    · rw [W_cons]
      omega
    · intro x hx
      rw [flatN_cons] at hx
      rcases List.mem_append.mp hx with z | z
      · exact a5 x z
      · exact b5 x z
end
/-- no `show` among the words -/
theorem names_ns : ∀ {ds : List PyData}, ds.all isNameD = true → nsAll ds = true
  | [], _ => by
    unfold nsAll
    rfl
  | d :: r, h => by
    rw [List.all_cons, Bool.and_eq_true] at h
    unfold nsAll
    rw [name_ns h.1, names_ns h.2]
    rfl
where
  name_ns {d : PyData} (h : isNameD d = true) : nsD d = true := by
    cases d with
    | str x =>
      unfold nsD
      refine decide_eq_true fun z => ?_
      rw [z] at h
      exact absurd h (by decide +kernel)
    | _ => cases h
theorem fits_ns {cd : PyData → Bool} (hc : ∀ d, cd d = true → nsD d = true) : ∀ {rest : List PyData} {rs : List Str}, rest.length = rs.length → (List.zipWith (fitD cd) rest rs).all id = true → nsAll rest = true
  | [], _, _, _ => by
    unfold nsAll
    rfl
  | d :: r, [], h, _ => by cases h
  | d :: r, k :: ks, h, z => by
    rw [List.zipWith_cons_cons, List.all_cons, Bool.and_eq_true] at z
    unfold nsAll
    rw [fits_ns hc (by simpa using h) z.2, Bool.and_true]
    have z1 : fitD cd d k = true := z.1
    unfold fitD at z1
    split at z1
    · exact hc d z1
    · split at z1
      · unfold argsD at z1
        cases d with
        | tuple ds =>
          rw [Bool.and_eq_true] at z1
          rw [nsD_tup]
          exact names_ns z1.2
        | _ => cases z1
      · exact names_ns.name_ns z1
theorem row_ns {cd : PyData → Bool} (hc : ∀ d, cd d = true → nsD d = true) {d : PyData} (h : rowD cd d = true) (sh : ShW d) : nsD d = true := by
  obtain ⟨w, rest, rs, rfl, hf, hl, hz⟩ := rowD_shape h
  rw [nsD_tup]
  unfold nsAll nsD
  rw [decide_eq_true (show w ≠ "show" from sh), fits_ns hc hl hz]
  rfl
theorem code_ns : ∀ {n : Nat} {ds : List PyData}, ds.all (rowD (cdOf n)) = true → (∀ x ∈ flatN n ds, ShW x) → nsAll ds = true
  | _, [], _, _ => by
    unfold nsAll
    rfl
  | n, d :: r, h, sh => by
    rw [List.all_cons, Bool.and_eq_true] at h
    rw [flatN_cons] at sh
    have hr := code_ns (n := n) (ds := r) h.2 fun x hx => sh x (List.mem_append_right _ hx)
    have hd : nsD d = true := by
      rcases row_iff h.1 with ⟨m, p, q, ys, ns, rfl, rfl, hy, hn, hp, hq⟩ | ⟨w, rest, rfl, ni, i0⟩
      · rw [ifS h.1] at sh
        have a := code_ns (n := m) (ds := ys) hy fun x hx => sh x (List.mem_append_left _ (List.mem_cons_of_mem _ (List.mem_append_left _ hx)))
        have b := code_ns (n := m) (ds := ns) hn fun x hx => sh x (List.mem_append_left _ (List.mem_cons_of_mem _ (List.mem_append_right _ hx)))
        have c := names_ns.name_ns hp
        have e := names_ns.name_ns hq
        simp only [nsD_tup, nsAll, a, b, c, e]
        decide +kernel
      · refine row_ns (cd := cdOf 0) (fun _ z => by cases z) (leaf_any (m := 0) h.1 ni) (sh _ (List.mem_append_left _ ?_))
        rw [leafS h.1 i0]
        exact List.mem_cons_self ..
    unfold nsAll
    rw [hd, hr]
    rfl
termination_by n ds => (n, ds.length)
/-- drawn code, what is asked of its cells apart -/
structure DrT (n : Nat) (ds : List PyData) (l s t : Nat) : Prop where
  rows : ds.all (rowD (cdOf n)) = true
  sz : W one n ds ≤ ds.length + 4 * W (ownD "if") n ds
  lt : W (ownD "letter") n ds ≤ l
  st : W (ownD "set") n ds ≤ s
  iff : W (ownD "if") n ds ≤ t
theorem DrC.tr {n : Nat} {ds : List PyData} {l s t : Nat} (h : DrC n ds l s t) : DrT n ds l s t := ⟨h.rows, h.sz, h.lt, h.st, h.iff⟩
/-- what Stretch takes (C), and the code of a thread -/
structure NearOk (C : Prop) (e : List PyData) : Prop where
  rows : e.all (rowD (cdOf 3)) = true
  few : (flatN 3 e).length ≤ 24
  iff : W (ownD "if") 3 e ≤ 3
  st : W (ownD "set") 3 e ≤ 3
  bnd : C → bndD e = true
  ns : C → nsAll e = true
theorem near_bnd {C : Prop} {e : List PyData} (rows : e.all (rowD (cdOf 3)) = true) (h1 : W one 3 e ≤ 24) (h2 : W (ownD "letter") 3 e ≤ 6) (h3 : W (ownD "set") 3 e ≤ 3) (h4 : W (ownD "if") 3 e ≤ 3) (c : C → cellsOk 3 e) : NearOk C e := by
  rw [W_one] at h1
  have m : ∀ k, mostN 3 k e ≤ W (ownD k) 3 e := fun k => (most_sum k 3).2 e
  refine ⟨rows, h1, h4, h3, fun hC => ?_, fun hC => code_ns rows fun x hx => (c hC x hx).2⟩
  have hc : (firsts [] ((flatN 3 e).flatMap (namesD "cell"))).length ≤ 4 := by
    have n := nodup_firsts ((flatN 3 e).flatMap (namesD "cell")) (L := []) List.nodup_nil
    have s : firsts [] ((flatN 3 e).flatMap (namesD "cell")) ⊆ cells3 := fun x hx => by
      rcases mem_firsts.mp hx with z | z
      · cases z
      · obtain ⟨y, hy, hx⟩ := List.mem_flatMap.mp z
        exact (c hC y hy).1 x hx
    exact Nat.le_trans (List.Nodup.length_le_of_subset n s) (by decide)
  unfold bndD
  rw [decide_eq_true h1, decide_eq_true hc, decide_eq_true (Nat.le_trans (m _) h2), decide_eq_true (Nat.le_trans (m _) (Nat.le_trans h3 (by decide))), decide_eq_true (Nat.le_trans (m _) h4)]
  rfl
end OM

namespace OM
open PySem PySem.Spec PyProof.Rows L2
def leS (a b : Str) : Prop := ltCps b.cps.toList a.cps.toList = false
theorem leS_iff {a b : Str} : leS a b ↔ a.cps.toList ≤ b.cps.toList := by
  unfold leS
  rw [ltCps_eq, decide_eq_false_iff_not, List.not_lt]
theorem leS_trans {a b c : Str} (h : leS a b) (k : leS b c) : leS a c := leS_iff.mpr (List.le_trans (leS_iff.mp h) (leS_iff.mp k))
theorem leS_anti {a b : Str} (h : leS a b) (k : leS b a) : a = b := by
  have e := List.le_antisymm (leS_iff.mp h) (leS_iff.mp k)
  cases a with
  | mk x =>
    cases b with
    | mk y =>
      have : x = y := Array.ext' e
      rw [this]
theorem pair_of_rising : ∀ {p : Str} {l : List Str}, risingS p l = true → (p :: l).Pairwise leS
  | p, [], _ => List.pairwise_singleton _ _
  | p, x :: r, h => by
    have h : (!ltCps x.cps.toList p.cps.toList && risingS x r) = true := h
    obtain ⟨h1, h2⟩ := Bool.and_eq_true_iff.mp h
    have ih := pair_of_rising h2
    have hp : leS p x := by
      unfold leS
      simpa using h1
    refine List.pairwise_cons.mpr ⟨fun y hy => ?_, ih⟩
    rcases List.mem_cons.mp hy with rfl | hy
    · exact hp
    · exact leS_trans hp ((List.pairwise_cons.mp ih).1 y hy)
theorem pair_of_sorted {l : List Str} (h : sortedS l = true) : l.Pairwise leS := by
  cases l with
  | nil => exact List.Pairwise.nil
  | cons x r => exact pair_of_rising h
theorem sorted_uniq {xs ys : List Str} (h : sortedS xs = true) (k : sortedS ys = true) (p : xs.Perm ys) : xs = ys :=
  p.eq_of_pairwise (fun _ _ _ _ => leS_anti) (pair_of_sorted h) (pair_of_sorted k)
/-- the names of l, each once, ascending -/
def IsSet (ys l : List Str) : Prop := sortedS ys = true ∧ ys.Perm (firsts [] l)
theorem firsts_perm {l k : List Str} (h : ∀ x, x ∈ l ↔ x ∈ k) : (firsts [] l).Perm (firsts [] k) :=
  (List.perm_ext_iff_of_nodup (nodup_firsts _ List.nodup_nil) (nodup_firsts _ List.nodup_nil)).mpr fun x => by
    rw [mem_firsts, mem_firsts, h x]
theorem IsSet.uniq {xs ys l k : List Str} (h : IsSet xs l) (h2 : IsSet ys k) (e : ∀ x, x ∈ l ↔ x ∈ k) : xs = ys := sorted_uniq h.1 h2.1 ((h.2.trans (firsts_perm e)).trans h2.2.symm)
theorem IsSet.mem {ys l : List Str} (h : IsSet ys l) {x : Str} : x ∈ ys ↔ x ∈ l := by
  rw [h.2.mem_iff, mem_firsts]
  simp
noncomputable def theOne (p : List Str → Prop) : List Str := open Classical in if h : ∃ ys, p ys then Classical.choose h else []
/-- the set of names of l, written down -/
noncomputable def canon (l : List Str) : List Str := theOne fun ys => IsSet ys l
theorem IsSet.canon {ys l : List Str} (h : IsSet ys l) : ys = canon l := by
  unfold OM.canon theOne
  rw [dif_pos ⟨ys, h⟩]
  exact h.uniq (Classical.choose_spec (⟨ys, h⟩ : ∃ ys, IsSet ys l)) fun _ => Iff.rfl
theorem canon_congr {l k : List Str} (h : ∀ x, x ∈ l ↔ x ∈ k) : canon l = canon k :=
  congrArg theOne (funext fun ys => propext ⟨fun z => ⟨z.1, z.2.trans (firsts_perm h)⟩, fun z => ⟨z.1, z.2.trans (firsts_perm h).symm⟩⟩)
end OM

namespace OM
open PySem PySem.Spec PyProof.Rows L2
def rTupO (K : PySem.W.Frag) : List V → Hp → VK → Prop := fun xs H Q => ∃ p ys, xs = [.ref p] ∧ ((SqL K H p ys ∧ ∀ l, H l = none → Q (.ref l) (upd H l (.tup ys))) ∨ (SqT K H p ys ∧ Q (.ref p) H))
def strT (l : List Str) : PyData := .tuple (l.map PyData.str)
theorem dt_strL {S : Addr → Prop} {H : Hp} : ∀ {xs : List V} {l : List Str}, DtAll S H xs (l.map PyData.str) → xs = l.map V.str
  | [], [], _ => rfl
  | x :: xs, a :: l, h => by
    cases h with
    | cons h r =>
      rw [dt_strL r]
      cases h with
      | «at» a => cases a <;> rfl
theorem dt_str1 {S : Addr → Prop} {H : Hp} {v : V} {x : Str} (h : Dt S H v (.str x)) : v = .str x := by
  cases h with
  | «at» a => cases a <;> rfl
theorem dt_ofStrs {S : Addr → Prop} {H : Hp} : ∀ l : List Str, DtAll S H (l.map V.str) (l.map PyData.str)
  | [] => .nil
  | x :: l => .cons (.at (.str x)) (dt_ofStrs l)
theorem isS {d : PyData} (h : isNameD d = true) : ∃ x, d = .str x := by
  cases d with
  | str x => exact ⟨x, rfl⟩
  | _ => cases h
end OM

namespace OM
open PySem PySem.Spec PyProof.Rows L2
theorem zip_all2 {p : PyData → Prop} {g : PyData → Str → Bool} : ∀ {ds : List PyData} {rs : List Str}, (∀ d r, r ∈ rs → g d r = true → p d) → ds.length = rs.length → (List.zipWith g ds rs).all id = true → ∀ d ∈ ds, p d
  | [], _, _, _, _ => fun d h => by cases h
  | _ :: _, [], _, h, _ => by cases h
  | d :: ds, r :: rs, hg, h, z => by
    rw [List.zipWith_cons_cons, List.all_cons, Bool.and_eq_true] at z
    intro e he
    rcases List.mem_cons.mp he with rfl | he
    · exact hg _ _ (List.mem_cons_self ..) z.1
    · exact zip_all2 (fun d r hr => hg d r (List.mem_cons_of_mem _ hr)) (by simpa using h) z.2 e he
theorem leaf_roles {w : Str} {rs : List Str} (hf : formOf w = some rs) (ni : w ≠ "if") : ∀ r ∈ rs, r ≠ "code" := by
  unfold formOf at hf
  rw [if_neg ni] at hf
  intro k hk z
  subst z
  repeat (first | (split at hf) | (cases hf; exact absurd hk (by decide +kernel)) | cases hf)
theorem form_word {w : Str} {rs : List Str} (hf : formOf w = some rs) : w.length ≤ 5 ∧ smlD (.str w) = true ∧ rs.length ≤ 4 := by
  have key : ∀ v ∈ (["read", "write", "set", "copy", "get", "put", "if", "show"] : List Str), v.length ≤ 5 ∧ smlD (.str v) = true := by decide +kernel
  have hw : w ∈ (["read", "write", "set", "copy", "get", "put", "if", "show"] : List Str) := by
    unfold formOf at hf
    by_cases h1 : w = "read"
    · rw [h1]; decide +kernel
    by_cases h2 : w = "write"
    · rw [h2]; decide +kernel
    by_cases h3 : w = "set"
    · rw [h3]; decide +kernel
    by_cases h4 : w = "copy"
    · rw [h4]; decide +kernel
    by_cases h5 : w = "get"
    · rw [h5]; decide +kernel
    by_cases h6 : w = "put"
    · rw [h6]; decide +kernel
    by_cases h7 : w = "if"
    · rw [h7]; decide +kernel
    by_cases h8 : w = "show"
    · rw [h8]; decide +kernel
    rw [if_neg h1, if_neg h2, if_neg h3, if_neg h4, if_neg h5, if_neg h6, if_neg h7, if_neg h8] at hf
    cases hf
  exact ⟨(key w hw).1, (key w hw).2, form_len hf⟩
theorem name_small {d : PyData} (h : isNameD d = true) : smlD d = true ∧ d.weight ≤ 8 := by
  obtain ⟨x, rfl⟩ := isS h
  have h : nameS x = true := h
  unfold nameS at h
  simp only [Bool.and_eq_true, decide_eq_true_eq] at h
  obtain ⟨_, h2, h3, _⟩ := h
  refine ⟨?_, h2⟩
  unfold smlD
  rw [Bool.and_eq_true]
  refine ⟨decide_eq_true (by omega), ?_⟩
  unfold PyData.strOk
  rw [Array.all_eq_true']
  intro c hc
  have := List.all_eq_true.mp h3 c (by simpa using hc)
  simp only [Bool.and_eq_true, decide_eq_true_eq] at this
  exact decide_eq_true (by omega)
theorem weightAll_cons (x : PyData) (r : List PyData) : PyData.weightAll (x :: r) = x.weight + 1 + PyData.weightAll r := by rw [PyData.weightAll]
theorem weight_tup (ds : List PyData) : (PyData.tuple ds).weight = PyData.weightAll ds := by unfold PyData.weight; rfl
theorem all_small {m : Nat} : ∀ {ds : List PyData}, (∀ d ∈ ds, smlD d = true ∧ d.weight ≤ m) → smlAll ds = true ∧ PyData.weightAll ds ≤ (m + 1) * ds.length
  | [], _ => ⟨by unfold smlAll; rfl, Nat.zero_le _⟩
  | d :: r, h => by
    obtain ⟨a, b⟩ := h d (by simp)
    obtain ⟨c, e⟩ := all_small (ds := r) fun x hx => h x (List.mem_cons_of_mem _ hx)
    rw [smlAll_cons, weightAll_cons, a, c, List.length_cons, Nat.mul_succ]
    exact ⟨rfl, by omega⟩
theorem args_small {d : PyData} (h : argsD d = true) : smlD d = true ∧ d.weight ≤ 18 := by
  unfold argsD at h
  split at h
  · rename_i ds
    rw [Bool.and_eq_true, decide_eq_true_eq] at h
    obtain ⟨a, b⟩ := all_small (m := 8) (ds := ds) fun x hx => name_small (List.all_eq_true.mp h.2 x hx)
    rw [sml_tup, weight_tup]
    exact ⟨a, by omega⟩
  · cases h
theorem row_small : ∀ (n : Nat) (d : PyData), rowD (cdOf n) d = true → smlD d = true ∧ d.weight + 1 ≤ 100 * (flatS n d).length := by
  have leaf : ∀ (n : Nat) (w : Str) (rest : List PyData), rowD (cdOf n) (.tuple (.str w :: rest)) = true → w ≠ "if" → smlD (.tuple (.str w :: rest)) = true ∧ (PyData.tuple (.str w :: rest)).weight + 1 ≤ 100 := fun n w rest row ni => by
    obtain ⟨w', rest', rs, e, hf, hlen, fits⟩ := rowD_shape row
    obtain ⟨rfl, rfl⟩ : w = w' ∧ rest = rest' := by
      injection e with e
      injection e with e1 e2
      injection e1 with e1
      exact ⟨e1, e2⟩
    have nc := leaf_roles hf ni
    obtain ⟨w5, ws, r4⟩ := form_word hf
    have hp : ∀ x ∈ rest, smlD x = true ∧ x.weight ≤ 18 := zip_all2 (fun x r hr hx => by
      unfold fitD at hx
      rw [if_neg (nc r hr)] at hx
      split at hx
      · exact args_small hx
      · obtain ⟨a, b⟩ := name_small hx
        exact ⟨a, by omega⟩) hlen fits
    obtain ⟨a, b⟩ := all_small hp
    rw [sml_tup, smlAll_cons, ws, a, weight_tup, weightAll_cons]
    refine ⟨rfl, ?_⟩
    have e1 : (PyData.str w).weight = w.length := rfl
    omega
  intro n
  induction n with
  | zero =>
    intro d h
    rcases row_iff h with ⟨m, _, _, _, _, e, _⟩ | ⟨w, rest, rfl, ni, e0⟩
    · cases e
    · exact leaf 0 w rest h ni
  | succ m ih =>
    intro d h
    rcases row_iff h with ⟨m', p, r, ys, ns, em, rfl, hy, hn, np, nr⟩ | ⟨w, rest, rfl, ni, e0⟩
    · obtain rfl : m = m' := by omega
      have code : ∀ {l : List PyData}, l.all (rowD (cdOf m)) = true → smlAll l = true ∧ PyData.weightAll l ≤ 100 * (flatN m l).length := fun {l} hl => by
        induction l with
        | nil => exact ⟨by unfold smlAll; rfl, Nat.zero_le _⟩
        | cons x t iht =>
          rw [List.all_cons, Bool.and_eq_true] at hl
          obtain ⟨a, b⟩ := ih x hl.1
          obtain ⟨c, e⟩ := iht hl.2
          rw [smlAll_cons, weightAll_cons, a, c]
          refine ⟨rfl, ?_⟩
          have : (flatN m (x :: t)).length = (flatS m x).length + (flatN m t).length := by
            unfold flatN
            rw [List.flatMap_cons, List.length_append]
          omega
      obtain ⟨a1, b1⟩ := code hy
      obtain ⟨a2, b2⟩ := code hn
      obtain ⟨a3, b3⟩ := name_small np
      obtain ⟨a4, b4⟩ := name_small nr
      have e : (flatS (m + 1) (.tuple [.str "if", p, r, .tuple ys, .tuple ns])).length = 1 + ((flatN m ys).length + (flatN m ns).length) := by
        rw [flatS_row h]
        show (_ :: [ys, ns].flatMap (flatN m)).length = _
        rw [List.flatMap_cons, List.flatMap_cons, List.flatMap_nil, List.append_nil, List.length_cons, List.length_append]
        omega
      rw [e, sml_tup, weight_tup]
      simp only [smlAll_cons, weightAll_cons, weight_tup, sml_tup, a1, a2, a3, a4]
      refine ⟨by unfold smlAll; decide +kernel, ?_⟩
      have e1 : (PyData.str "if").weight = 2 := by decide +kernel
      have e2 : PyData.weightAll [] = 0 := by unfold PyData.weightAll; rfl
      omega
    · obtain ⟨a, b⟩ := leaf (m + 1) w rest h ni
      refine ⟨a, ?_⟩
      have e : (flatS (m + 1) (.tuple (.str w :: rest))).length = 1 := by
        rw [flatS_row h, e0]
        rfl
      omega
theorem code_small {n : Nat} {l : List PyData} (hl : l.all (rowD (cdOf n)) = true) : smlAll l = true ∧ PyData.weightAll l ≤ 100 * (flatN n l).length := by
  induction l with
  | nil => exact ⟨by unfold smlAll; rfl, Nat.zero_le _⟩
  | cons x t iht =>
    rw [List.all_cons, Bool.and_eq_true] at hl
    obtain ⟨a, b⟩ := row_small n x hl.1
    obtain ⟨c, e⟩ := iht hl.2
    rw [smlAll_cons, weightAll_cons, a, c]
    refine ⟨rfl, ?_⟩
    have : (flatN n (x :: t)).length = (flatS n x).length + (flatN n t).length := by
      unfold flatN
      rw [List.flatMap_cons, List.length_append]
    omega
mutual
theorem eqv_eq : ∀ d e : PyData, pureD d = true → pureD e = true → PyData.eqv d e = true → d = e
  | .str x, e, _, he, h => by
    cases e with
    | str y =>
      unfold PyData.eqv at h
      rw [beq_iff_eq.mp h]
    | tuple ys => unfold PyData.eqv at h; cases h
    | _ => unfold pureD at he; cases he
  | .tuple xs, e, hd, he, h => by
    cases e with
    | tuple ys =>
      unfold PyData.eqv at h
      unfold pureD at hd he
      rw [eqvAll_eq xs ys hd he h]
    | str y => unfold PyData.eqv at h; cases h
    | _ => unfold pureD at he; cases he
  | .none, _, h, _, _ => by unfold pureD at h; cases h
  | .bool _, _, h, _, _ => by unfold pureD at h; cases h
  | .int _, _, h, _, _ => by unfold pureD at h; cases h
  | .list _, _, h, _, _ => by unfold pureD at h; cases h
  | .dict _, _, h, _, _ => by unfold pureD at h; cases h
theorem eqvAll_eq : ∀ xs ys : List PyData, pureAll xs = true → pureAll ys = true → PyData.eqvAll xs ys = true → xs = ys
  | [], [], _, _, _ => rfl
  | x :: xs, y :: ys, hx, hy, h => by
    unfold pureAll at hx hy
    unfold PyData.eqvAll at h
    rw [Bool.and_eq_true] at hx hy h
    rw [eqv_eq x y hx.1 hy.1 h.1, eqvAll_eq xs ys hx.2 hy.2 h.2]
  | [], _ :: _, _, _, h => by unfold PyData.eqvAll at h; cases h
  | _ :: _, [], _, _, h => by unfold PyData.eqvAll at h; cases h
end
open Classical in
theorem eqv_dec {d e : PyData} (hd : pureD d = true) (he : pureD e = true) : PyData.eqv d e = decide (d = e) := by
  by_cases h : d = e
  · subst h
    rw [eqv_pure d hd, decide_eq_true rfl]
  · rw [decide_eq_false h]
    exact Bool.eq_false_iff.mpr fun z => h (eqv_eq d e hd he z)
end OM

namespace OM
open PySem PySem.Spec PyProof.Rows L2
/-- the written empty tuple: a default -/
def Emp (K : PySem.W.Frag) (a : Addr) : Prop := ∃ (o : Obj) (n : Nat), K.lookup a = some o ∧ o.cls = .type "tuple" ∧ o.data = .seq #[] n
theorem Emp.seq {K : PySem.W.Frag} {a : Addr} {H : Hp} (h : Emp K a) : SqT K H a [] := by
  obtain ⟨o, n, h1, h2, h3⟩ := h
  exact .inr ⟨o, #[], n, h1, h2, h3, by decide, .nil⟩
theorem Emp.ty {K : PySem.W.Frag} {a : Addr} {H : Hp} (h : Emp K a) : TyX K H (.ref a) (.type "tuple") := by
  obtain ⟨o, n, h1, h2, h3⟩ := h
  exact .kTuple h1 h2
def spSet0 (K : PySem.W.Frag) : Sp := fun vs H Q _ => ∃ a : Addr, vs = [.ref a] ∧ Emp K a ∧ ∀ H', Same H H' → Q (.bl true) H'
def spKept0 (K : PySem.W.Frag) : Sp := fun vs H Q _ => ∃ a : Addr, vs = [.ref a] ∧ Emp K a ∧ ∀ H', Same H H' → Q (.bl true) H'
def spSI0 (K : PySem.W.Frag) (C cS : Addr) : Sp := fun vs H Q E => ∃ (S : Addr → Prop) (p dx k0 : Addr) (c : V) (dc : PyData), vs = [.ref p, c, .ref k0] ∧ H p = some (.ins C dx []) ∧ Dt S H c dc ∧ Emp K k0 ∧ nsD dc = true ∧ smlD dc = true ∧ (codeD 3 dc = true → (flatN 3 (itemsD dc)).length ≤ 400) ∧
  (okD dc (.tuple []) = true → ∀ H', But p H H' → H' p = some (.ins C dx [("_code", c), ("_keeps", .ref k0)]) → Q .non H') ∧ (okD dc (.tuple []) = false → OutN E cS H)
section
variable {P : Program} {w : World} {K : PySem.W.Frag} {mg : Str → Option Value} {base : Heap} {f fI fS : Addr} {fd dI dS : FuncData}
theorem ok_isset0 (F : Fun K "is_set" "is_set" sIsSet f fd) (T : TxtN K mg) (TF : TxtF K w mg) (gI : mg "is_name" = some (.ref fI)) (FI : Fun K "is_name" "is_name" sIsName fI dI) (bI : Binds K dI ["value"] []) : FnOk P w K mg base CX0 2 f fd ["value"] (spSet0 K) := by
  have GI : FnOk P w K mg base CX0 1 fI dI ["value"] spName := ok_isname FI T
  refine F.ok scSet (fun vs H Q E h => ?_) (fun cdv A outer s H vs Q E hr h => ?_)
  · obtain ⟨a, rfl, _⟩ := h
    rfl
  · obtain ⟨a, rfl, ea, q⟩ := h
    refine ⟨_, pss_one (ps_ret (pe_and (pe_callB call_isi (by rfl) T.isi (by decide +kernel) (pa_cons (pv 0) (pa_cons (pe_bltn (v := .ty "tuple") (u := .type "tuple") (by rfl) TF.tup (by decide +kernel) rfl) pa_nil)))
      (pe_and (pe_callB (cr_all rfl) (by rfl) T.all (by decide +kernel) (pa_cons (pe_lc (own := [("name", 1)]) rfl scSet.nd (pi_tup (pv 0)) (blkOk_by (N := ["value", "name", "after"]) (sc := defScope sIsSet) (by decide +kernel))
            (fun _ _ _ _ _ => pg_name (i := 1) scSet.nd rfl (Or.inl rfl)) (fun _ _ _ _ _ => pts_nil) (fun _ _ _ _ _ => pe_call GI hr (by rfl) gI FI.kp bI .nil pass0 (pa_cons (pv 1) pa_nil))) pa_nil))
      (pe_one (pe_callB (cr_all rfl) (by rfl) T.all (by decide +kernel) (pa_cons (pe_lc (g := gTup K 2 (gCons (gName 1) (gCons (gName 2) gNil))) (own := [("name", 1), ("after", 2)]) rfl scSet.nd (RZ.pi_zipA (by rfl) TF.zip (pa_cons (pv 0) (pa_cons (pe_slice sl_tupA (pv 0) (po_some pe_int) po_none) pa_nil))) (blkOk_by (N := ["value", "name", "after"]) (sc := defScope sIsSet) (by decide +kernel))
            (fun _ _ _ _ _ => pg_tup rfl (pgs_cons (pg_name (i := 1) scSet.nd rfl (Or.inl rfl)) (pgs_cons (pg_name (i := 2) scSet.nd rfl (Or.inl rfl)) pgs_nil))) (fun _ _ _ _ _ => pts_nil) (fun _ _ _ _ _ => pe_cmpR op_lt_str (pv 1) (pv 2) (nomark _))) pa_nil)))))), ?_⟩
    refine isi_te (x := .ref a) rfl ea.ty (kit_tup (.tuple [])) ⟨_, rfl, iteT ?_⟩
    refine ⟨_, rfl, a, rfl, ⟨[], ea.seq⟩, fun Dl hD => lc_tup (PvM H Dl []) (PvM.zero hD) (fun i H' _ p => ea.seq) (fun i x H3 hi p => by simp at hi) (fun H5 p => ?_)⟩
    refine ⟨Dl, [], rfl, SqL.of p.2, _, rfl, iteT ?_⟩
    refine ⟨_, rfl, _, rfl, 1, rfl, a, [], rfl, ea.seq, fun hw => ?_, fun hn => absurd (And.intro rfl rfl) hn⟩
    refine ⟨a, a, [], [], rfl, .inr ⟨ea.seq, ea.seq, fun D2 hD2 => lc_zipS (Nat.le_refl _) (PvM H5 D2 []) (PvM.zero hD2) (fun i H' p => ⟨ea.seq, ea.seq⟩) (fun i x y T H3 hi _ _ _ => by simp at hi) (fun H6 p6 => ?_)⟩⟩
    exact ⟨D2, [], rfl, SqL.of p6.2, q _ (p.1.trans p6.1)⟩
theorem ok_kept0 (F : Fun K "is_kept" "is_kept" sKept f fd) (T : TxtN K mg) (TF : TxtF K w mg) (gI : mg "is_name" = some (.ref fI)) (FI : Fun K "is_name" "is_name" sIsName fI dI) (bI : Binds K dI ["value"] []) (gS : mg "is_set" = some (.ref fS)) (FS : Fun K "is_set" "is_set" sIsSet fS dS) (bS : Binds K dS ["value"] []) (gM : ∃ t, mg "MAX_KEPT" = some (.int 4 t)) :
    FnOk P w K mg base CX0 3 f fd ["value"] (spKept0 K) := by
  have GS : FnOk P w K mg base CX0 2 fS dS ["value"] (spSet0 K) := ok_isset0 FS T TF gI FI bI
  obtain ⟨t, g4⟩ := gM
  refine F.ok scKp (fun vs H Q E h => ?_) (fun cdv A outer s H vs Q E hr h => ?_)
  · obtain ⟨a, rfl, _⟩ := h
    rfl
  · obtain ⟨a, rfl, ea, q⟩ := h
    refine ⟨_, pss_one (ps_ret (pe_and (pe_call GS hr (by rfl) gS FS.kp bS .nil pass0 (pa_cons (pv 0) pa_nil)) (pe_one (pe_cmpR op_le (pe_callB call_len_seq (by rfl) T.len PySem.boot_len (pa_cons (pv 0) pa_nil)) (pe_glob (v := .int 4) (by rfl) g4 ⟨t, rfl⟩) (nomark _))))), ?_⟩
    exact ⟨_, rfl, a, rfl, ea, fun H1 s1 => ⟨_, rfl, iteT ⟨_, rfl, a, [], rfl, .inr ea.seq, _, _, rfl, rfl, q _ s1⟩⟩⟩
end
section
variable {P : Program} {w : World} {K : PySem.W.Frag} {mg : Str → Option Value} {base : Heap} {f : Addr} {fd : FuncData}
theorem ok_sinit0 {dvs : List V} {C cS fI fIC fB fKp : Addr} {dI dIC dB dKp : FuncData} (F : FunD K "__init__" "Stretch.__init__" (defArgs sSI) (defBody sSI) (defScope sSI) dvs [] f fd) (T : StrT K mg C) (kS : KCls K cS fI "ValueError" []) (gcS : mg "InvalidStretch" = some (.ref cS))
    (GI : FnOk P w K mg base CX0 1 fI dI ["self", "why"] (spI0 K "ValueError")) (bI : Binds K dI ["self", "why"] []) (gIC : mg "is_code" = some (.ref fIC)) (kIC : PySem.W.keepIn K (.ref fIC) = true) (bIC : Binds K dIC ["value"] []) (GIC : FnOk P w K mg base CX0 14 fIC dIC ["value"] spIsCode)
    (gB : mg "is_bounded" = some (.ref fB)) (kB : PySem.W.keepIn K (.ref fB) = true) (bB : Binds K dB ["code"] []) (GB : FnOk P w K mg base CX0 10 fB dB ["code"] spBnd) (gKp : mg "is_kept" = some (.ref fKp)) (kKp : PySem.W.keepIn K (.ref fKp) = true) (bKp : Binds K dKp ["value"] []) (GKp : FnOk P w K mg base CX0 3 fKp dKp ["value"] (spKept0 K)) :
    FnOk P w K mg base (L2.CX P w) 15 f fd ["self", "code", "keeps"] (spSI0 K C cS) := by
  refine F.ok scSI (fun vs H Q E h => ?_) (fun cdv A outer s H vs Q E hr h => ?_)
  · obtain ⟨S, p, dx, k0, c, dc, rfl, _⟩ := h
    rfl
  · obtain ⟨S, p, dx, k0, c, dc, rfl, hp, hc, hk, ns, sc, size, q, e⟩ := h
    refine ⟨_, pss_cons (ps_if (pt_not (pt_val (pe_call GIC hr (by rfl) gIC kIC bIC .nil pass0 (pa_cons (pv 1) pa_nil)))) (pss_one (ps_raise rfl (takes_of rfl rfl rfl rfl) (pmk_B (Classical.choose_spec kS.made).1 GI (hr.mono (by decide)) (by rfl) gcS bI .nil pass0 (pa_cons pe_str pa_nil)))) pss_nil)
      (pss_cons (ps_if (pt_not (pt_val (pe_call GB (hr.mono (by decide)) (by rfl) gB kB bB .nil pass0 (pa_cons (pv 1) pa_nil)))) (pss_one (ps_raise rfl (takes_of rfl rfl rfl rfl) (pmk_B (Classical.choose_spec kS.made).1 GI (hr.mono (by decide)) (by rfl) gcS bI .nil pass0 (pa_cons pe_str pa_nil)))) pss_nil)
      (pss_cons (ps_if (pt_not (pt_val (pe_call GKp (hr.mono (by decide)) (by rfl) gKp kKp bKp .nil pass0 (pa_cons (pv 2) pa_nil)))) (pss_one (ps_raise rfl (takes_of rfl rfl rfl rfl) (pmk_B (Classical.choose_spec kS.made).1 GI (hr.mono (by decide)) (by rfl) gcS bI .nil pass0 (pa_cons pe_str pa_nil)))) pss_nil)
      (pss_cons (ps_fld (pv 0) (pv 1) rfl) (pss_one (ps_fld (pv 0) (pv 2) rfl))))), ?_⟩
    have out : ∀ {H1 : Hp}, Same H H1 → okD dc (.tuple []) = false → OutN E cS H1 := fun s1 z H' s' => e z H' (s1.trans s')
    refine ⟨_, rfl, S, c, dc, rfl, ns, hc, sc, fun H1 s1 => ⟨_, rfl, ?_⟩⟩
    cases h1 : codeD 3 dc with
    | false =>
      have z : okD dc (.tuple []) = false := by
        unfold okD
        rw [h1, Bool.false_and]
      exact iteT (mk0 kS (out s1 z))
    | true =>
      refine iteF ?_
      obtain ⟨ds, rfl, rows⟩ := code_tup h1
      refine ⟨_, rfl, S, c, ds, rfl, hc.mv (fun _ z => z) (fun b o _ z => s1 b o z), rows, size h1, fun H2 s2 => ⟨_, rfl, ?_⟩⟩
      have s12 := s1.trans s2
      cases h2 : bndD ds with
      | false =>
        have z : okD (.tuple ds) (.tuple []) = false := by
          unfold okD itemsD
          rw [h2, Bool.false_and, Bool.and_false]
        exact iteT (mk0 kS (out s12 z))
      | true =>
        refine iteF ⟨_, rfl, k0, rfl, hk, fun H3 s3 => ⟨_, rfl, ?_⟩⟩
        have s13 := s12.trans s3
        have h3 : keptD (.tuple []) = true := by decide +kernel
        have z : okD (.tuple ds) (.tuple []) = true := by
          unfold okD itemsD
          rw [h1, h2, h3]
          rfl
        refine iteF ⟨_, rfl, _, rfl, p, C, dx, [], rfl, s13 _ _ hp, T.cl, T.nc, (by show 0 < 1000; decide), _, rfl, _, rfl, p, C, dx, _, rfl, upd_same, T.cl, T.nk, (by show 1 < 1000; decide), ?_⟩
        refine q z _ (fun b o hb eb => ?_) upd_same
        rw [upd_ne hb, upd_ne hb]
        exact s13 b o eb
end
end OM

namespace OM
open PySem PySem.Spec PyProof.Rows L2
abbrev sStretchOf : Stmt := top 53
abbrev sCodeP : Stmt := inStK 52 1
abbrev sAddM : Stmt := inStK 52 11
/-- what the class Stretch must have -/
structure StrC (K : PySem.W.Frag) (mg : Str → Option Value) (C fS aS : Addr) (dS : FuncData) : Prop where
  T : StrT K mg C
  MS : Mk K C fS
  gSt : mg "Stretch" = some (.ref C)
  bS1 : ∃ ds, Vals [V.ref aS] ds ∧ Binds K dS ["self", "code", "keeps"] ds
  emp : Emp K aS
  ha : PySem.W.findIn K (.ref C) "__class__" = some (some (.builtin "object.__class__"))
  hn : PySem.W.specialIn K (.builtin "object.__class__") "__get__" = some (some (.builtin "getset_descriptor.__get__"))
  htk : PySem.W.takesIn K (.builtin "object.__class__") = some true
  hm : PySem.W.mroIn K C (.type "object") = some true
  kit : PySem.W.kitOne K (.ref C) (.ref C) = some true
def insS (C dx : Addr) (c k : V) : HO := .ins C dx [("_code", c), ("_keeps", k)]
def spOf (C : Addr) : Sp := fun vs H Q _ => ∃ c k : V, vs = [c, k] ∧ ∀ H' x dx, Same H H' → H x = none → H' x = some (insS C dx c k) → Q (.ref x) H'
def spAdd (K : PySem.W.Frag) (C : Addr) : Sp := fun vs H Q _ => ∃ (a b dx dy ca cb : Addr) (ka kb : V) (xs ys : List V), vs = [.ref a, .ref b] ∧ H a = some (insS C dx (.ref ca) ka) ∧ H b = some (insS C dy (.ref cb) kb) ∧ H ca = some (.tup xs) ∧ H cb = some (.tup ys) ∧ xs ≠ [] ∧ ys ≠ [] ∧ xs.length + ys.length ≤ sizeLine ∧
  ∀ H' x dz cz, Same H H' → H x = none → H cz = none → H' x = some (insS C dz (.ref cz) kb) → H' cz = some (.tup (xs ++ ys)) → Q (.ref x) H'
section
variable {P : Program} {w : World} {K : PySem.W.Frag} {mg : Str → Option Value} {base : Heap} {f fS fO C cS aS : Addr} {fd dS dO : FuncData}
theorem scOf : FnScope ["code", "keeps", "made"] ["code", "keeps"] (defScope sStretchOf) := ⟨rfl, rfl, rfl, by decide +kernel, rfl, by decide +kernel, by decide +kernel⟩
theorem ok_of (F : Fun K "stretch_of" "stretch_of" sStretchOf f fd) (R : StrC K mg C fS aS dS) (GS : FnOk P w K mg base (L2.CX P w) 15 fS dS ["self", "code", "keeps"] (spSI0 K C cS)) : FnOk P w K mg base CX0 17 f fd ["code", "keeps"] (spOf C) := by
  obtain ⟨dsv, hv, bS⟩ := R.bS1
  refine F.ok scOf (fun vs H Q E h => ?_) (fun cdv A outer s H vs Q E hr h => ?_)
  · obtain ⟨c, k, rfl, _⟩ := h
    rfl
  · obtain ⟨c, k, rfl, q⟩ := h
    refine ⟨_, pss_cons (ps_set (i := 2) scOf.nd rfl (Or.inl rfl) (pe_make R.MS GS hr (by rfl) R.gSt bS hv (passes_call L2.takes0 (fun _ _ _ _ h => h)) (pa_cons (pe_tup pa_nil) pa_nil)))
      (pss_cons (ps_fld (pv 2) (pv 0) rfl) (pss_cons (ps_fld (pv 2) (pv 1) rfl) (pss_one (ps_ret (pv 2))))), ?_⟩
    refine ⟨(by show 0 ≤ sizeLine; decide), fun pt hpt x dx hx hdx ne => ?_⟩
    have s1 := same_upd (o := .tup []) hpt
    have ndx : upd (upd H pt (.tup [])) dx (.own x) x = none := by
      rw [upd_ne (fun z => ne z.symm)]
      exact hx
    have s2 := (same_upd (o := .own x) hdx).trans (same_upd (o := .ins C dx []) ndx)
    refine ⟨fun _ => True, x, dx, aS, .ref pt, .tuple [], rfl, upd_same, .tup trivial (s2 _ _ upd_same) (by decide) .nil, R.emp, by decide +kernel, by decide +kernel, fun _ => by decide +kernel, fun _ H2 b2 e2 => ⟨rfl, ?_⟩, fun z => absurd z (by decide +kernel)⟩
    refine ⟨_, rfl, _, rfl, x, C, dx, _, rfl, e2, R.T.cl, R.T.nc, (by show 2 < 1000; decide), _, rfl, _, rfl, x, C, dx, _, rfl, upd_same, R.T.cl, R.T.nk, (by show 2 < 1000; decide), _, rfl, ?_⟩
    refine q _ x dx (fun b o eo => ?_) (s1.free hx) upd_same
    have nb : b ≠ x := ne_of_none eo (s1.free hx)
    rw [upd_ne nb, upd_ne nb]
    exact b2 b o nb (s2 _ _ (s1 _ _ eo))
theorem scAd : FnScope ["self", "other"] ["self", "other"] (defScope sAddM) := ⟨rfl, rfl, rfl, by decide +kernel, rfl, by decide +kernel, by decide +kernel⟩
theorem ok_add (F : Fun K "__add__" "Stretch.__add__" sAddM f fd) (R : StrC K mg C fS aS dS) (isi : mg "isinstance" = none) (gO : mg "stretch_of" = some (.ref fO)) (kO : PySem.W.keepIn K (.ref fO) = true) (bO : Binds K dO ["code", "keeps"] []) (GO : FnOk P w K mg base CX0 17 fO dO ["code", "keeps"] (spOf C)) :
    FnOk P w K mg base CX0 18 f fd ["self", "other"] (spAdd K C) := by
  refine F.ok scAd (fun vs H Q E h => ?_) (fun cdv A outer s H vs Q E hr h => ?_)
  · obtain ⟨a, b, dx, dy, ca, cb, ka, kb, xs, ys, rfl, _⟩ := h
    rfl
  · obtain ⟨a, b, dx, dy, ca, cb, ka, kb, xs, ys, rfl, ea, eb, eca, ecb, nx, ny, sz, q⟩ := h
    refine ⟨_, pss_cons (ps_if (pt_not (pt_val (pe_callB call_isi (by rfl) isi (by decide +kernel) (pa_cons (pv 1) (pa_cons (pe_glob (v := .ref C) (by rfl) R.gSt rfl) pa_nil))))) pss_never pss_nil)
      (pss_one (ps_ret (pe_call GO hr (by rfl) gO kO bO .nil pass0 (pa_cons (pe_op op_catA (pe_fld (pv 0) rfl) (pe_fld (pv 1) rfl)) (pa_cons (pe_fld (pv 1) rfl) pa_nil))))), ?_⟩
    refine ⟨_, rfl, .ref b, .ref C, .ref C, .ref C, true, rfl, .own C, .base (.ins eb R.T.cl R.ha R.hn R.htk R.hm), R.kit, _, rfl, iteF ?_⟩
    refine ⟨_, rfl, a, C, dx, _, _, rfl, ea, R.T.cl, R.T.nc, rfl, _, rfl, b, C, dy, _, _, rfl, eb, R.T.cl, R.T.nc, rfl, ca, cb, xs, ys, rfl, rfl, SqT.of eca, SqT.of ecb, sz, fun e => absurd e nx, fun _ e => absurd e ny, fun _ _ p hp => ?_⟩
    have sp := same_upd (o := .tup (xs ++ ys)) hp
    refine ⟨_, rfl, b, C, dy, _, _, rfl, sp _ _ eb, R.T.cl, R.T.nk, rfl, .ref p, kb, rfl, fun H' x dz s' nx' e' => ?_⟩
    exact q H' x dz p (sp.trans s') (sp.free nx') hp e' (s' _ _ upd_same)
end
end OM

namespace OM
open PySem PySem.Spec PyProof.Rows L2
section
variable {X : Cx} {k : Nat} {C f : Addr} {fd : FuncData} {sp : Sp}
/-- an own method of a class, as the rules ask for it -/
structure Own (X : Cx) (C f : Addr) (fd : FuncData) (name : Str) (k : Nat) (ps : List Str) (sp : Sp) : Prop where
  hs : PySem.W.findIn X.K (.ref C) name = some (some (.ref f))
  hf : PySem.W.isFn X.K (.ref f) = true
  F : FnOk X.prog X.w X.K X.mg X.base CX0 k f fd ps sp
  hb : Binds X.K fd ps []
theorem bind_at {X : Cx} {fd : FuncData} {ps : List Str} (hb : Binds X.K fd ps []) {pins : List (Addr × Obj)} {σ : L2.St} {H : Hp} {s : Shared} (I : Inv X pins σ H s) (us : List Value) (hl : us.length = ps.length) : BindsTo s fd ⟨us, []⟩ (ps.zip us) := by
  have q := hb s us I.kIn (by rw [List.append_nil]; exact hl)
  rw [List.append_nil] at q
  exact q
/-- len(x), by an own __len__ -/
theorem len_own {p : Str} (O : Own X C f fd "__len__" k [p] sp) (hr : Room (k + 1) X.A) :
    CallR X (.builtin "len") (fun xs H Q => ∃ (a dx : Addr) (fs : List (Str × V)), xs = [.ref a] ∧ H a = some (.ins C dx fs) ∧ sp [.ref a] H (fun v H' => ∃ n : Nat, v = .int n ∧ n < 1000 ∧ Q v H') E0) := by
  intro pins s σ H xs us Q I r h
  obtain ⟨a, dx, fs, rfl, ea, q⟩ := h
  obtain ⟨u, rfl, ru⟩ := vals1 r
  obtain rfl : u = Value.ref a := ru
  obtain ⟨_, Ob, _⟩ := ins_get I.hok ea
  obtain ⟨od, J, _⟩ := Ob.look
  obtain ⟨m, fr⟩ := I.fr
  refine PySem.W.len_K fr I.ok.mod.kin J O.hs O.hf ?_
  refine wpAny_call (codeAny_mono (O.F.run X.A.in1 X.stack s H ⟨[.ref a], []⟩ [.ref a] [.ref a] _ E0 hr.in1 I.env0.in1 (bind_at O.hb I _ rfl) (.cons rfl .nil) q) fun res z' hq => ?_)
  match res, hq with
  | .ok (.ret w), hq =>
    obtain ⟨v, H', I3, rv, ⟨n, er, hn, q3⟩⟩ := I.after hq
    subst er
    obtain ⟨t, rfl⟩ : ∃ t, w = Value.int (n : Int) t := rv
    have h2 : ((1000 : Nat) : Int) < 2 ^ 63 := by decide
    exact ⟨⟨by omega, by omega⟩, .int n, H', I3.tok _, ⟨_, rfl⟩, q3⟩
  | .error er, hq => exact hq.elim
/-- str(x), by an own __str__ -/
theorem str_own {p : Str} (O : Own X C f fd "__str__" k [p] sp) (hr : Room (k + 2) X.A) :
    CallR X (.type "str") (fun xs H Q => ∃ (a dx : Addr) (fs : List (Str × V)), xs = [.ref a] ∧ H a = some (.ins C dx fs) ∧ sp [.ref a] H (fun v H' => ∃ z : Str, v = .str z ∧ Q v H') E0) := by
  intro pins s σ H xs us Q I r h
  obtain ⟨a, dx, fs, rfl, ea, q⟩ := h
  obtain ⟨u, rfl, ru⟩ := vals1 r
  obtain rfl : u = Value.ref a := ru
  obtain ⟨_, Ob, _⟩ := ins_get I.hok ea
  obtain ⟨od, J, _⟩ := Ob.look
  have hu : X.A.in1.in1.units < cLine := by
    have := hr.un
    show X.A.units + 1 + 1 < _
    omega
  refine PySem.W.kso_call hu I.kIn J O.hs O.hf ?_
  refine wpAny_call (codeAny_mono (O.F.run X.A.in1.in1 X.stack s H ⟨[.ref a], []⟩ [.ref a] [.ref a] _ E0 hr.in1.in1 I.env0.in1.in1 (bind_at O.hb I _ rfl) (.cons rfl .nil) q) fun res z' hq => ?_)
  match res, hq with
  | .ok (.ret w), hq =>
    obtain ⟨v, H', I3, rv, ⟨z, er, q3⟩⟩ := I.after hq
    subst er
    obtain ⟨t, rfl⟩ : ∃ t, w = Value.str z t := rv
    exact ⟨.str z, H', I3, ⟨_, rfl⟩, q3⟩
  | .error er, hq => exact hq.elim
/-- x[i], by an own __getitem__ -/
theorem pe_ixOwn {e i : Expr} {pos : Pos} {te ti : TE} (O : Own X C f fd "__getitem__" k ["self", "at"] sp) (hfn : PySem.W.fnIn X.K f = true) (hr : Room (k + 1) X.A) (he : PE X e te) (hi : PE X i ti)
    (hsl : ∀ (a : Addr) (u : Value), subscripted i true (.ref a) u = runValue (.builtin "lifetime.subscript" ⟨[.ref a, u], []⟩) := by intro _ _; with_unfolding_all rfl) :
    PE X (.Subscript e i pos) (tOp (fun x y H Q => ∃ (a dx : Addr) (fs : List (Str × V)), x = .ref a ∧ H a = some (.ins C dx fs) ∧ sp [.ref a, y] H Q E0) te ti) := by
  refine ⟨fun pins s σ H Q I h => ?_⟩
  refine Subscript_ (binT he hi I h fun v u s2 x y H2 I2 rx ry q => ?_)
  obtain ⟨a, dx, fs, rfl, ea, q⟩ := q
  obtain rfl : v = Value.ref a := rx
  obtain ⟨_, Ob, _⟩ := ins_get I2.hok ea
  obtain ⟨od, J, _⟩ := Ob.look
  obtain ⟨m, fr⟩ := I2.fr
  refine PySem.W.sub_K fr I2.ok.mod.kin J O.hs hfn O.hf ?_ (hsl _ _)
  refine wpAny_call (codeAny_mono (O.F.run X.A.in1 X.stack s2 H2 ⟨[.ref a, u], []⟩ [.ref a, u] [.ref a, y] _ E0 hr.in1 I2.env0.in1 (bind_at O.hb I2 _ rfl) (.cons rfl (.cons ry .nil)) q) fun res z' hq => ?_)
  match res, hq with
  | .ok (.ret w), hq => exact I2.after hq
  | .error er, hq => exact hq.elim
/-- y in x, by an own __contains__ that answers a truth -/
theorem in_own {p : Str} (O : Own X C f fd "__contains__" k ["self", p] sp) (hr : Room k X.A) :
    OpR X (compareOp .In) (fun y x H Q => ∃ (a dx : Addr) (fs : List (Str × V)), x = .ref a ∧ H a = some (.ins C dx fs) ∧ sp [.ref a, y] H (fun v H' => ∃ b, v = .bl b ∧ Q v H') E0) := by
  intro pins s σ H y x u v Q I ry rx h
  obtain ⟨a, dx, fs, rfl, ea, q⟩ := h
  obtain rfl : v = Value.ref a := rx
  obtain ⟨_, Ob, _⟩ := ins_get I.hok ea
  obtain ⟨od, J, _⟩ := Ob.look
  obtain ⟨m, fr⟩ := I.fr
  refine PySem.W.in_K fr I.ok.mod.kin J O.hs O.hf ?_
  refine wpAny_call (codeAny_mono (O.F.run X.A X.stack s H ⟨[.ref a, u], []⟩ [.ref a, u] [.ref a, y] _ E0 hr I.env0 (bind_at O.hb I _ rfl) (.cons rfl (.cons ry .nil)) q) fun res z' hq => ?_)
  match res, hq with
  | .ok (.ret w), hq =>
    obtain ⟨r, H', I3, rv, ⟨b, er, q3⟩⟩ := I.after hq
    subst er
    obtain rfl : w = Value.bool b := rv
    exact wpAny_truthy_bool ⟨.bl b, H', I3, rfl, q3⟩
  | .error er, hq => exact hq.elim
/-- what an own == asks: the left one an instance, the right one anything that comes later -/
def rEqOwn (K : PySem.W.Frag) (C : Addr) (sp : Sp) (g : Bool → Bool) : V → V → Hp → VK → Prop := fun x y H Q => ∃ (a dx : Addr) (fs : List (Str × V)) (t : Value), x = .ref a ∧ H a = some (.ins C dx fs) ∧ TyX K H y t ∧ PySem.W.notFirst K C t = true ∧
  sp [.ref a, y] H (fun v H' => ∃ b, v = .bl b ∧ Q (.bl (g b)) H') E0
theorem eq_own (O : Own X C f fd "__eq__" k ["self", "other"] sp) (hr : Room k X.A) : OpR X (compareOp .Eq) (rEqOwn X.K C sp id) := by
  intro pins s σ H x y v u Q I rx ry h
  obtain ⟨a, dx, fs, t, rfl, ea, ty, nf, q⟩ := h
  obtain rfl : v = Value.ref a := rx
  obtain ⟨_, Ob, _⟩ := ins_get I.hok ea
  obtain ⟨od, J, _⟩ := Ob.look
  obtain ⟨m, fr⟩ := I.fr
  obtain ⟨P, Z, p, hx⟩ := kit_of I ry ty
  have hu : X.A.units < cLine := by
    have := hr.un
    omega
  unfold compareOp
  refine PySem.W.cmp_K (op := .Eq) hu fr I.ok.mod.kin J (Z.ty _ _ I.kIn p) nf O.hs O.hf ?_
  refine wpAny_call (codeAny_mono (O.F.run X.A X.stack s H ⟨[.ref a, u], []⟩ [.ref a, u] [.ref a, y] _ E0 hr I.env0 (bind_at O.hb I _ rfl) (.cons rfl (.cons ry .nil)) q) fun res z' hq => ?_)
  match res, hq with
  | .ok (.ret w), hq =>
    obtain ⟨r, H', I3, rv, ⟨b, er, q3⟩⟩ := I.after hq
    subst er
    obtain rfl : w = Value.bool b := rv
    exact ⟨.bl b, H', I3, rfl, q3⟩
  | .error er, hq => exact hq.elim
end
end OM

namespace OM
open PySem PySem.Spec PyProof.Rows L2
section
variable {prog : Program} {w : World} {A : Around} {E : Value → Shared → Prop} {s : Shared} {K : PySem.W.Frag} {x C f : Addr} {ox : Obj} {od : Option Obj} {b tb : Value}
open PySem.W in
/-- object.__ne__ by an own __eq__ -/
theorem objNe_K {Q : Fin → Shared → Prop} (hu : A.units < cLine) (X : K.In s.heap) (I : InstAt s.heap x ox C od) (hs : findIn K (.ref C) "__eq__" = some (some (.ref f))) (hf : isFn K (.ref f) = true)
    (h : wpAny (model prog w) A (call (.ref f) [.ref x, b]) (fun v s' => ∃ r, v = .bool r ∧ Q (.done (.ret (.bool (!r)))) s') E s) : wpAny (model prog w) A (Builtin.«object.__ne__» ⟨[.ref x, b], []⟩) Q E s := by
  unfold Builtin.«object.__ne__»
  repeat (first
    | with_reducible refine wpAny_cRoomFor hu ?_
    | (refine wpAny_bind (m := callSpecialIfBound? (.ref x) (Str.ofString "__eq__") [b])
        (ifBound_K X I hs hf (wpAny_mono h (fun r s' hr => by
          obtain ⟨b, rfl, hq⟩ := hr
          repeat (first | exact hq | exact wpAny_pure hq | exact wpAny_truthy_bool hq | (refine wpAny_bind (m := truthy (.bool _)) (wpAny_truthy_bool ?_)) | wp_step)) fun _ _ e => e)))
    | wp_step)
open PySem.W in
theorem boundNe_K {Q : Option Value → Shared → Prop} (hu : A.units + 1 < cLine) (X : K.In s.heap) (I : InstAt s.heap x ox C od) (hne : findIn K (.ref C) "__ne__" = some (some (.builtin "object.__ne__"))) (hin : mroIn K C (.type "object") = some true)
    (hs : findIn K (.ref C) "__eq__" = some (some (.ref f))) (hf : isFn K (.ref f) = true)
    (h : wpAny (model prog w) A.in1 (call (.ref f) [.ref x, b]) (fun v s' => ∃ r, v = .bool r ∧ Q (some (.bool (!r))) s') E s) : wpAny (model prog w) A (callSpecialIfBound? (.ref x) "__ne__" [b]) Q E s := by
  have hcall : wpAny (model prog w) A (call (.builtin "object.__ne__") (.ref x :: [b])) (fun v => Q (some v)) E s := by
    refine wpAny_call (codeAny_call_builtin F.cmp_object.ne.plain F.cmpEntry_ne (check_slot F.cmpKind_ne F.cmpSplit_ne ?_ (F.cmpArgs_ne _ _) (objNe_K (A := A.in1) hu X I hs hf (wpAny_mono h (fun v s' hv => ?_) fun _ _ e => e))))
    · exact I.type.andThen (looks_mroIn X hin)
    · obtain ⟨r, rfl, hq⟩ := hv
      exact ⟨r, rfl, hq⟩
  simp only [callSpecialIfBound?, bindSpecialIfBound?]
  refine wpAny_holding (wpAny_bind (wpAny_bind (wpAny_bind (I.type.here ((looks_findIn X hne).here ?_)))))
  simp only [F.cmp_object.ne.bind]
  refine wpAny_bind (wpAny_askSetting (wpAny_ite ?_))
  have fin : wpAny (model prog w) A (call (.builtin "object.__ne__") ([.ref x] ++ [b]) >>= fun v => pure (some v)) Q E s := wpAny_bind (wpAny_mono hcall (fun v s' h' => wpAny_pure h') fun _ _ h' => h')
  split
  · exact wpAny_bind (wpAny_pure (wpAny_pure fin))
  · exact wpAny_tryCatch (wpAny_bind (wpAny_pure (wpAny_pure fin)))
open PySem.W in
theorem ne_K {Q : Value → Shared → Prop} (hu : A.units + 1 < cLine) (X : K.In s.heap) (I : InstAt s.heap x ox C od) (hb : Looks (model prog w) s.heap (typeOf b) tb) (hn : notFirst K C tb = true) (hne : findIn K (.ref C) "__ne__" = some (some (.builtin "object.__ne__"))) (hin : mroIn K C (.type "object") = some true)
    (hs : findIn K (.ref C) "__eq__" = some (some (.ref f))) (hf : isFn K (.ref f) = true)
    (h : wpAny (model prog w) A.in1 (call (.ref f) [.ref x, b]) (fun v s' => ∃ r, v = .bool r ∧ Q (.bool (!r)) s') E s) : wpAny (model prog w) A (richCompare .NotEq (.ref x) b) Q E s := by
  have one : wpAny (model prog w) A (tryCompare (.ref x) "__ne__" b) (fun r s' => ∃ v, r = some v ∧ Q v s') E s := by
    unfold tryCompare
    refine wpAny_bind (boundNe_K hu X I hne hin hs hf (wpAny_mono h (fun v s' hv => ?_) fun _ _ e => e))
    obtain ⟨r, rfl, hq⟩ := hv
    exact ⟨r, rfl, wpAny_pure ⟨_, rfl, hq⟩⟩
  unfold richCompare
  simp only [oneThing_ref]
  refine wpAny_holding (wpAny_bind (wpAny_cRoomFor (Nat.lt_of_succ_lt hu) ?_))
  rw [cmpInfo_NotEq]
  dsimp only
  refine wpAny_bind (I.type.here (wpAny_bind (hb.here ?_)))
  split
  · rename_i q
    have e : subIn K tb (.ref C) = some false := by
      rcases Bool.or_eq_true_iff.mp hn with e | e
      · rw [beq_iff_eq.mp e] at q; simp at q
      · exact beq_iff_eq.mp e
    refine wpAny_bind ((looks_subIn X e).here ?_)
    simp only [Bool.false_eq_true, if_false]
    refine wpAny_bind (wpAny_mono one (fun r s' z => ?_) fun _ _ e => e)
    obtain ⟨v, rfl, hq⟩ := z
    exact wpAny_pure hq
  · refine wpAny_bind (wpAny_pure ?_)
    simp only [Bool.false_eq_true, if_false]
    refine wpAny_bind (wpAny_mono one (fun r s' z => ?_) fun _ _ e => e)
    obtain ⟨v, rfl, hq⟩ := z
    exact wpAny_pure hq
end
section
variable {X : Cx} {k : Nat} {C f : Addr} {fd : FuncData} {sp : Sp}
theorem ne_own (O : Own X C f fd "__eq__" k ["self", "other"] sp) (hne : PySem.W.findIn X.K (.ref C) "__ne__" = some (some (.builtin "object.__ne__"))) (hin : PySem.W.mroIn X.K C (.type "object") = some true) (hr : Room (k + 1) X.A) : OpR X (compareOp .NotEq) (rEqOwn X.K C sp not) := by
  intro pins s σ H x y v u Q I rx ry h
  obtain ⟨a, dx, fs, t, rfl, ea, ty, nf, q⟩ := h
  obtain rfl : v = Value.ref a := rx
  obtain ⟨_, Ob, _⟩ := ins_get I.hok ea
  obtain ⟨od, J, _⟩ := Ob.look
  obtain ⟨P, Z, p, hx⟩ := kit_of I ry ty
  have hu : X.A.units + 1 < cLine := by
    have := hr.un
    omega
  unfold compareOp
  refine ne_K hu I.kIn J (Z.ty _ _ I.kIn p) nf hne hin O.hs O.hf ?_
  refine wpAny_call (codeAny_mono (O.F.run X.A.in1 X.stack s H ⟨[.ref a, u], []⟩ [.ref a, u] [.ref a, y] _ E0 hr.in1 I.env0.in1 (bind_at O.hb I _ rfl) (.cons rfl (.cons ry .nil)) q) fun res z' hq => ?_)
  match res, hq with
  | .ok (.ret w), hq =>
    obtain ⟨r, H', I3, rv, ⟨b, er, q3⟩⟩ := I.after hq
    subst er
    obtain rfl : w = Value.bool b := rv
    exact ⟨b, rfl, .bl (!b), H', I3, rfl, q3⟩
  | .error er, hq => exact hq.elim
end
end OM

namespace OM
open PySem PySem.Spec PyProof.Rows L2
abbrev sCellsP : Stmt := inStK 52 3
abbrev sRegsP : Stmt := inStK 52 4
abbrev sFunsP : Stmt := inStK 52 5
abbrev sTestsP : Stmt := inStK 52 6
abbrev sStraightP : Stmt := inStK 52 7
abbrev sSizeP : Stmt := inStK 52 8
abbrev sKeeping : Stmt := inStK 52 10
abbrev sLenM : Stmt := inStK 52 14
/-- a stretch as it stands -/
def StI (K : PySem.W.Frag) (C : Addr) (H : Hp) (a : Addr) (ds : List PyData) (ks : List Str) : Prop :=
  ∃ (dx kb : Addr) (c : V), H a = some (insS C dx c (.ref kb)) ∧ Dt (fun _ => True) H c (.tuple ds) ∧ SqT K H kb (ks.map V.str) ∧ ds.all (rowD (cdOf 3)) = true ∧ (flatN 3 ds).length ≤ 100 ∧ keptD (strT ks) = true
theorem kept_len {ks : List Str} (h : keptD (strT ks) = true) : ks.length ≤ 4 := by
  have h : (setD (strT ks) && decide ((ks.map PyData.str).length ≤ 4)) = true := h
  rw [Bool.and_eq_true, decide_eq_true_eq, List.length_map] at h
  exact h.2
theorem StI.mv {K : PySem.W.Frag} {C : Addr} {H H' : Hp} {a : Addr} {ds : List PyData} {ks : List Str} (h : StI K C H a ds ks) (s : Same H H') : StI K C H' a ds ks := by
  obtain ⟨dx, kb, c, e, d, k, r, z, l⟩ := h
  exact ⟨dx, kb, c, s _ _ e, d.mv (fun _ z => z) fun b o _ z => s b o z, L2.SqT.ext k s, r, z, l⟩
def rolesS (role : Str) (ds : List PyData) : List Str := (flatN 3 ds).flatMap (namesD role)
def spRole (K : PySem.W.Frag) (C : Addr) (g : List PyData → List Str → List Str) : Sp := fun vs H Q _ => ∃ (a : Addr) (ds : List PyData) (ks : List Str), vs = [.ref a] ∧ StI K C H a ds ks ∧
  ∀ H' v, Same H H' → Dt (fun _ => True) H' v (strT (canon (g ds ks))) → Q v H'
def isIf : PyData → Bool
  | .tuple (.str w :: _) => decide (w = "if")
  | _ => false
def straightD (ds : List PyData) : Bool := ds.all fun d => !isIf d
def spTell (K : PySem.W.Frag) (C : Addr) (g : List PyData → V) : Sp := fun vs H Q _ => ∃ (a : Addr) (ds : List PyData) (ks : List Str), vs = [.ref a] ∧ StI K C H a ds ks ∧ ∀ H', Same H H' → Q (g ds) H'
theorem dt_strT {H : Hp} {p : Addr} {ys : List Str} (e : H p = some (.tup (ys.map V.str))) (hl : ys.length ≤ 1000) : Dt (fun _ => True) H (.ref p) (strT ys) := .tup trivial e (by rw [List.length_map]; exact hl) (dt_ofStrs ys)
theorem roles_few {role : Str} {ds : List PyData} (rows : ds.all (rowD (cdOf 3)) = true) (size : (flatN 3 ds).length ≤ 100) : (rolesS role ds).length ≤ 800 := by
  have l2 : (rolesS role ds).length ≤ 8 * (flatN 3 ds).length := flatMap_few fun e he => by
    obtain ⟨d1, hd1, hm1⟩ := List.mem_flatMap.mp he
    obtain ⟨m1, row1⟩ := rows_flatS (List.all_eq_true.mp rows d1 hd1) e hm1
    exact names_few row1
  omega
section
variable {P : Program} {w : World} {K : PySem.W.Frag} {mg : Str → Option Value} {base : Heap} {f fN C : Addr} {fd dN : FuncData}
theorem scRole {st : Stmt} (h : st = sCellsP ∨ st = sFunsP ∨ st = sTestsP) : FnScope ["self"] ["self"] (defScope st) := by
  rcases h with rfl | rfl | rfl <;> exact ⟨rfl, rfl, rfl, by decide +kernel, rfl, by decide +kernel, by decide +kernel⟩
theorem scRegs : FnScope ["self"] ["self"] (defScope sRegsP) := ⟨rfl, rfl, rfl, by decide +kernel, rfl, by decide +kernel, by decide +kernel⟩
section
variable (T : StrT K mg C) (gN : mg "names_in" = some (.ref fN)) (kN : PySem.W.keepIn K (.ref fN) = true) (bN : Binds K dN ["code", "role"] []) (GN : FnOk P w K mg base CX0 6 fN dN ["code", "role"] spNamesIn)
include T gN kN bN GN
theorem ok_cellsP (F : Fun K "cells" "Stretch.cells" sCellsP f fd) : FnOk P w K mg base CX0 7 f fd ["self"] (spRole K C fun ds _ => rolesS "cell" ds) := by
  refine F.ok (scRole (.inl rfl)) (fun vs H Q E h => ?_) (fun cdv A outer s H vs Q E hr h => ?_)
  · obtain ⟨a, ds, ks, rfl, _⟩ := h
    rfl
  · obtain ⟨a, ds, ks, rfl, ⟨dx, kb, c, ea, hd, hk, rows, size, lk⟩, q⟩ := h
    refine ⟨_, pss_one (ps_ret (pe_call GN hr (by rfl) gN kN bN .nil pass0 (pa_cons (pe_fld (pv 0) rfl) (pa_cons pe_str pa_nil)))), ?_⟩
    refine ⟨_, rfl, a, C, dx, _, c, rfl, ea, T.cl, T.nc, rfl, _, c, ds, "cell", rfl, by decide +kernel, hd, rows, Nat.le_trans size (by decide), fun H1 p ys s1 hp e1 pm so => ?_⟩
    have hy : ys = canon (rolesS "cell" ds) := IsSet.canon ⟨so, pm⟩
    have few := roles_few (role := "cell") rows size
    have l1 := pm.length_eq
    have l2 := len_firsts (rolesS "cell" ds) []
    refine q H1 _ s1 ?_
    rw [← hy]
    refine dt_strT e1 ?_
    have l3 : ys.length = (firsts [] (rolesS "cell" ds)).length := l1
    simp only [List.length_nil] at l2
    omega
theorem ok_funsP (F : Fun K "functions" "Stretch.functions" sFunsP f fd) : FnOk P w K mg base CX0 7 f fd ["self"] (spRole K C fun ds _ => rolesS "function" ds) := by
  refine F.ok (scRole (.inr (.inl rfl))) (fun vs H Q E h => ?_) (fun cdv A outer s H vs Q E hr h => ?_)
  · obtain ⟨a, ds, ks, rfl, _⟩ := h
    rfl
  · obtain ⟨a, ds, ks, rfl, ⟨dx, kb, c, ea, hd, hk, rows, size, lk⟩, q⟩ := h
    refine ⟨_, pss_one (ps_ret (pe_call GN hr (by rfl) gN kN bN .nil pass0 (pa_cons (pe_fld (pv 0) rfl) (pa_cons pe_str pa_nil)))), ?_⟩
    refine ⟨_, rfl, a, C, dx, _, c, rfl, ea, T.cl, T.nc, rfl, _, c, ds, "function", rfl, by decide +kernel, hd, rows, Nat.le_trans size (by decide), fun H1 p ys s1 hp e1 pm so => ?_⟩
    have hy : ys = canon (rolesS "function" ds) := IsSet.canon ⟨so, pm⟩
    have few := roles_few (role := "function") rows size
    have l1 := pm.length_eq
    have l2 := len_firsts (rolesS "function" ds) []
    refine q H1 _ s1 ?_
    rw [← hy]
    refine dt_strT e1 ?_
    have l3 : ys.length = (firsts [] (rolesS "function" ds)).length := l1
    simp only [List.length_nil] at l2
    omega
theorem ok_regsP (TS : TxtS mg) (hs : mg "set" = none) (F : Fun K "registers" "Stretch.registers" sRegsP f fd) : FnOk P w K mg base CX0 7 f fd ["self"] (spRole K C fun ds ks => ks ++ rolesS "register" ds) := by
  refine F.ok scRegs (fun vs H Q E h => ?_) (fun cdv A outer s H vs Q E hr h => ?_)
  · obtain ⟨a, ds, ks, rfl, _⟩ := h
    rfl
  · obtain ⟨a, ds, ks, rfl, ⟨dx, kb, c, ea, hd, hk, rows, size, lk⟩, q⟩ := h
    refine ⟨_, pss_one (ps_ret (pe_callTy call_tuple_of (by rfl) TS.tuple (by decide +kernel) (pa_cons (pe_callB (cr_sortX rfl) (by rfl) TS.sorted (by decide +kernel) (pa_cons (pe_callTy (cr_setX rfl) (by rfl) hs (by decide +kernel)
      (pa_cons (pe_op op_catA (pe_call GN hr (by rfl) gN kN bN .nil pass0 (pa_cons (pe_fld (pv 0) rfl) (pa_cons pe_str pa_nil))) (pe_fld (pv 0) rfl)) pa_nil)) pa_nil)) pa_nil))), ?_⟩
    refine ⟨_, rfl, a, C, dx, _, c, rfl, ea, T.cl, T.nc, rfl, _, c, ds, "register", rfl, by decide +kernel, hd, rows, Nat.le_trans size (by decide), fun H1 p ys s1 hp e1 pm so => ?_⟩
    have few := roles_few (role := "register") rows size
    have lk := kept_len lk
    have l1 : ys.length = (firsts [] (rolesS "register" ds)).length := pm.length_eq
    have l2 := len_firsts (rolesS "register" ds) []
    simp only [List.length_nil] at l2
    have line : (100000 : Nat) < sizeLine := by decide
    have fin : ∀ (p2 : Addr) (H2 : Hp), Same H H2 → SqT K H2 p2 ((ys ++ ks).map V.str) → rSetX K w [.ref p2] H2 (fun x H3 => rSortX w [x] H3 fun y H4 => rTupO K [y] H4 Q) := fun p2 H2 s2 e2 => by
      refine ⟨p2, ys ++ ks, rfl, .inr e2, ?_, fun p3 hp3 => ⟨p3, _, rfl, upd_same, fun zs p4 pm2 so2 hp4 => ⟨p4, _, rfl, .inl ⟨SqL.of upd_same, fun p5 hp5 => ?_⟩⟩⟩⟩
      · show (ys ++ ks).length < 4096
        rw [List.length_append]
        omega
      · have t3 := same_upd (o := SetTO w p3 (firsts [] (ys ++ ks))) hp3
        have t4 := same_upd (o := .lst (zs.map V.str)) hp4
        have t5 := same_upd (o := .tup (zs.map V.str)) hp5
        have hz : zs = canon (ys ++ ks) := IsSet.canon ⟨so2, pm2⟩
        have hc : canon (ys ++ ks) = canon (ks ++ rolesS "register" ds) := canon_congr fun x => by
          rw [List.mem_append, List.mem_append, pm.mem_iff, mem_firsts]
          show (x ∈ [] ∨ x ∈ rolesS "register" ds) ∨ x ∈ ks ↔ _
          simp [or_comm]
        refine q _ _ (((s2.trans t3).trans t4).trans t5) ?_
        show Dt _ _ _ (strT (canon (ks ++ rolesS "register" ds)))
        rw [← hc, ← hz]
        refine dt_strT upd_same ?_
        have l5 := pm2.length_eq
        have l6 := len_firsts (ys ++ ks) []
        rw [List.length_append] at l6
        simp only [List.length_nil] at l6
        omega
    refine ⟨_, rfl, a, C, dx, _, _, rfl, s1 _ _ ea, T.cl, T.nk, rfl, p, kb, _, _, rfl, rfl, SqT.of e1, L2.SqT.ext hk s1, by rw [List.length_map, List.length_map]; omega, fun z1 => ?_, fun z1 z2 => ?_, fun z1 z2 pc hpc => ?_⟩
    · rw [List.map_eq_nil_iff.mp z1] at fin
      exact fin kb H1 s1 (by simpa using L2.SqT.ext hk s1)
    · have z2 := List.map_eq_nil_iff.mp z2
      refine fin p H1 s1 ?_
      rw [z2, List.append_nil]
      exact SqT.of e1
    · have tc := same_upd (o := .tup (ys.map V.str ++ ks.map V.str)) hpc
      refine fin pc _ (s1.trans tc) (SqT.of ?_)
      rw [upd_same, List.map_append]
end
end
end OM

namespace OM
open PySem PySem.Spec PyProof.Rows L2
abbrev sNumber : Stmt := top 15
abbrev sWhole : Stmt := top 16
abbrev sGetItem : Stmt := inStK 52 12
abbrev sContains : Stmt := inStK 52 15
abbrev sEqM : Stmt := inStK 52 16
abbrev sStrM : Stmt := inStK 52 17
theorem code_dp {K : PySem.W.Frag} {S : Addr → Prop} {H : Hp} {v : V} {ds : List PyData} (rows : ds.all (rowD (cdOf 3)) = true) (h : Dt S H v (.tuple ds)) : Dp K H v (.tuple ds) ∧ SeqAt.shaped (.tuple ds) = true :=
  ⟨h.dp (rows_pure rows), code_shaped rows (code_small rows).1⟩
def spWhole : Sp := fun vs H Q _ => ∃ i : Int, vs = [.int i] ∧ ∀ H', Same H H' → Q (.bl true) H'
def spNumber : Sp := fun vs H Q _ => ∃ i lo hi : Int, vs = [.int i, .int lo, .int hi] ∧ lo ≤ i ∧ i ≤ hi ∧ ∀ H', Same H H' → Q (.bl true) H'
def spGetItem (K : PySem.W.Frag) (C : Addr) : Sp := fun vs H Q _ => ∃ (a : Addr) (ds : List PyData) (ks : List Str) (i : Nat) (d : PyData), vs = [.ref a, .int (i : Int)] ∧ StI K C H a ds ks ∧ ds[i]? = some d ∧ ∀ H' v, Same H H' → Dt (fun _ => True) H' v d → Q v H'
section
variable {P : Program} {w : World} {K : PySem.W.Frag} {mg : Str → Option Value} {base : Heap} {f fF fW fN fO fK C : Addr} {fd dF dW dN dO dK : FuncData}
theorem scSelf {st : Stmt} (h : st = sSizeP ∨ st = sLenM ∨ st = sStrM) : FnScope ["self"] ["self"] (defScope st) := by
  rcases h with rfl | rfl | rfl <;> exact ⟨rfl, rfl, rfl, by decide +kernel, rfl, by decide +kernel, by decide +kernel⟩
theorem ok_sizeP (F : Fun K "size" "Stretch.size" sSizeP f fd) (T : StrT K mg C) (ln : mg "len" = none) (gF : mg "flattened" = some (.ref fF)) (kF : PySem.W.keepIn K (.ref fF) = true) (bF : Binds K dF ["code"] []) (GF : FnOk P w K mg base CX0 5 fF dF ["code"] (spFlatAt 4)) :
    FnOk P w K mg base CX0 6 f fd ["self"] (spTell K C fun ds => .int ((flatN 3 ds).length : Nat)) := by
  refine F.ok (scSelf (.inl rfl)) (fun vs H Q E h => ?_) (fun cdv A outer s H vs Q E hr h => ?_)
  · obtain ⟨a, ds, ks, rfl, _⟩ := h
    rfl
  · obtain ⟨a, ds, ks, rfl, ⟨dx, kb, c, ea, hd, hk, rows, size, lk⟩, q⟩ := h
    refine ⟨_, pss_one (ps_ret (pe_callB call_len_seq (by rfl) ln PySem.boot_len (pa_cons (pe_call GF hr (by rfl) gF kF bF .nil pass0 (pa_cons (pe_fld (pv 0) rfl) pa_nil)) pa_nil))), ?_⟩
    refine ⟨_, rfl, a, C, dx, _, c, rfl, ea, T.cl, T.nc, rfl, _, c, ds, rfl, hd, rows, Nat.le_trans size (by decide), fun H1 p xs s1 hp e1 d1 => ⟨p, xs, rfl, .inl (SqL.of e1), ?_⟩⟩
    rw [d1.length]
    exact q H1 s1
theorem ok_lenM (F : Fun K "__len__" "Stretch.__len__" sLenM f fd) (T : StrT K mg C) (ln : mg "len" = none) : FnOk P w K mg base CX0 1 f fd ["self"] (spTell K C fun ds => .int (ds.length : Nat)) := by
  refine F.ok (scSelf (.inr (.inl rfl))) (fun vs H Q E h => ?_) (fun cdv A outer s H vs Q E hr h => ?_)
  · obtain ⟨a, ds, ks, rfl, _⟩ := h
    rfl
  · obtain ⟨a, ds, ks, rfl, ⟨dx, kb, c, ea, hd, hk, rows, size, lk⟩, q⟩ := h
    refine ⟨_, pss_one (ps_ret (pe_callB call_len_seq (by rfl) ln PySem.boot_len (pa_cons (pe_fld (pv 0) rfl) pa_nil))), ?_⟩
    obtain ⟨b, xs, rfl, eb, hl, hx⟩ := hd.tup_of
    refine ⟨_, rfl, a, C, dx, _, _, rfl, ea, T.cl, T.nc, rfl, b, xs, rfl, .inr (SqT.of eb), ?_⟩
    rw [hx.length]
    exact q H (Same.refl H)
theorem scWh : FnScope ["value"] ["value"] (defScope sWhole) := ⟨rfl, rfl, rfl, by decide +kernel, rfl, by decide +kernel, by decide +kernel⟩
theorem ok_whole (F : Fun K "is_whole" "is_whole" sWhole f fd) (isi : mg "isinstance" = none) (it : mg "int" = none) (bo : mg "bool" = none) : FnOk P w K mg base CX0 1 f fd ["value"] spWhole := by
  refine F.ok scWh (fun vs H Q E h => ?_) (fun cdv A outer s H vs Q E hr h => ?_)
  · obtain ⟨i, rfl, _⟩ := h
    rfl
  · obtain ⟨i, rfl, q⟩ := h
    refine ⟨_, pss_one (ps_ret (pe_and (pe_callB call_isi (by rfl) isi (by decide +kernel) (pa_cons (pv 0) (pa_cons (pe_bltn (v := .ty "int") (u := .type "int") (by rfl) it (by decide +kernel) rfl) pa_nil)))
      (pe_one (pe_not (pe_callB call_isi (by rfl) isi (by decide +kernel) (pa_cons (pv 0) (pa_cons (pe_bltn (v := .ty "bool") (u := .type "bool") (by rfl) bo (by decide +kernel) rfl) pa_nil))))))), ?_⟩
    refine isi_te (x := .int i) rfl (Dt.tyx (S := fun _ => True) (.at (.int i))) (r := true) (show kitB "int" "int" = some true by decide +kernel) ⟨_, rfl, iteT ?_⟩
    refine isi_te (x := .int i) rfl (Dt.tyx (S := fun _ => True) (.at (.int i))) (r := false) (show kitB "int" "bool" = some false by decide +kernel) ⟨_, rfl, q H (Same.refl H)⟩
theorem scNu : FnScope ["value", "low", "high"] ["value", "low", "high"] (defScope sNumber) := ⟨rfl, rfl, rfl, by decide +kernel, rfl, by decide +kernel, by decide +kernel⟩
theorem ok_number (F : Fun K "is_number" "is_number" sNumber f fd) (gW : mg "is_whole" = some (.ref fW)) (kW : PySem.W.keepIn K (.ref fW) = true) (bW : Binds K dW ["value"] []) (GW : FnOk P w K mg base CX0 1 fW dW ["value"] spWhole) : FnOk P w K mg base CX0 2 f fd ["value", "low", "high"] spNumber := by
  refine F.ok scNu (fun vs H Q E h => ?_) (fun cdv A outer s H vs Q E hr h => ?_)
  · obtain ⟨i, lo, hi, rfl, _⟩ := h
    rfl
  · obtain ⟨i, lo, hi, rfl, h1, h2, q⟩ := h
    refine ⟨_, pss_one (ps_ret (pe_and (pe_call GW hr (by rfl) gW kW bW .nil pass0 (pa_cons (pv 0) pa_nil)) (pe_one (pe_chain op_le op_le (pv 1) (pv 0) (pv 2))))), ?_⟩
    refine ⟨_, rfl, i, rfl, fun H1 s1 => ⟨_, rfl, iteT ?_⟩⟩
    refine ⟨_, rfl, _, rfl, lo, i, rfl, rfl, _, rfl, ?_⟩
    rw [decide_eq_true h1]
    refine iteT ⟨_, rfl, i, hi, rfl, rfl, ?_⟩
    show Q (.bl (decide (i ≤ hi))) H1
    rw [decide_eq_true h2]
    exact q _ s1
theorem scGI : FnScope ["self", "at"] ["self", "at"] (defScope sGetItem) := ⟨rfl, rfl, rfl, by decide +kernel, rfl, by decide +kernel, by decide +kernel⟩
theorem ok_getitem (F : Fun K "__getitem__" "Stretch.__getitem__" sGetItem f fd) (T : StrT K mg C) (ln : mg "len" = none) (gN : mg "is_number" = some (.ref fN)) (kN : PySem.W.keepIn K (.ref fN) = true) (bN : Binds K dN ["value", "low", "high"] []) (GN : FnOk P w K mg base CX0 2 fN dN ["value", "low", "high"] spNumber) :
    FnOk P w K mg base CX0 3 f fd ["self", "at"] (spGetItem K C) := by
  refine F.ok scGI (fun vs H Q E h => ?_) (fun cdv A outer s H vs Q E hr h => ?_)
  · obtain ⟨a, ds, ks, i, d, rfl, _⟩ := h
    rfl
  · obtain ⟨a, ds, ks, i, d, rfl, ⟨dx, kb, c, ea, hd, hk, rows, size, lk⟩, hi, q⟩ := h
    refine ⟨_, pss_cons (ps_if (pt_not (pt_val (pe_call GN hr (by rfl) gN kN bN .nil pass0 (pa_cons (pv 1) (pa_cons pe_int (pa_cons (pe_op op_sub (pe_callB call_len_seq (by rfl) ln PySem.boot_len (pa_cons (pe_fld (pv 0) rfl) pa_nil)) pe_int) pa_nil)))))) pss_never pss_nil)
      (pss_one (ps_ret (pe_ix ix_tup (pe_fld (pv 0) rfl) (pv 1) (fun _ _ => rfl)))), ?_⟩
    obtain ⟨b, xs, rfl, eb, hl, hx⟩ := hd.tup_of
    have lx := hx.length
    have li : i < ds.length := (List.getElem?_eq_some_iff.mp hi).1
    obtain ⟨x, hxi, hdx⟩ := hx.get' hi
    refine ⟨_, rfl, _, rfl, a, C, dx, _, _, rfl, ea, T.cl, T.nc, rfl, b, xs, rfl, .inr (SqT.of eb), _, _, rfl, rfl, (i : Int), 0, (xs.length : Int) - 1, rfl, by omega, by omega, fun H1 s1 => ⟨_, rfl, iteF ?_⟩⟩
    refine ⟨_, rfl, a, C, dx, _, _, rfl, s1 _ _ ea, T.cl, T.nc, rfl, _, rfl, b, xs, (i : Int), x, rfl, rfl, SqT.of (s1 _ _ eb), atI_nat hxi, q H1 x s1 (hdx.mv (fun _ z => z) fun b o _ z => s1 b o z)⟩
end
/-- own == : code and kept registers -/
def spEqM (K : PySem.W.Frag) (C : Addr) : Sp := fun vs H Q _ => ∃ (a : Addr) (ds : List PyData) (ks : List Str) (y : V), vs = [.ref a, y] ∧ StI K C H a ds ks ∧
  ((∃ (b : Addr) (es : List PyData) (ls : List Str), y = .ref b ∧ StI K C H b es ls ∧ ∀ H', Same H H' → Q (.bl (PyData.eqv (.tuple ds) (.tuple es) && PyData.eqv (strT ks) (strT ls))) H') ∨
    (∃ t : Value, TyX K H y t ∧ PySem.W.kitOne K t (.ref C) = some false ∧ ∀ H', Same H H' → Q (.bl false) H'))
theorem keeps_sh {ks : List Str} (h : keptD (strT ks) = true) : pureD (strT ks) = true ∧ smlD (strT ks) = true ∧ (strT ks).weight ≤ 36 ∧ SeqAt.shaped (strT ks) = true := by
  have h0 := kept_len h
  have h : (setD (strT ks) && decide ((ks.map PyData.str).length ≤ 4)) = true := h
  have h1 : setD (strT ks) = true := (Bool.and_eq_true_iff.mp h).1
  have h2 : (ks.map PyData.str).all isNameD = true := (Bool.and_eq_true_iff.mp h1).1
  obtain ⟨a, b⟩ := names_pure h2
  obtain ⟨c, e⟩ := all_small (m := 8) fun x hx => name_small (List.all_eq_true.mp h2 x hx)
  rw [List.length_map] at e
  have p : pureD (strT ks) = true := pure_tup a
  have sm : smlD (strT ks) = true := (sml_tup _).trans c
  refine ⟨p, sm, ?_, ?_⟩
  · show (PyData.tuple (ks.map PyData.str)).weight ≤ 36
    rw [weight_tup]
    omega
  · have q := lay_pure (strT ks) p sm
    show (PyData.canLay0 (strT ks) && decide ((strT ks).depth ≤ 64)) = true
    rw [q, decide_eq_true (show (strT ks).depth ≤ 64 by unfold strT; rw [dep_tup, b]; decide)]
    rfl
theorem dp_strs {K : PySem.W.Frag} {H : Hp} : ∀ l : List Str, DpAll K H (l.map V.str) (l.map PyData.str)
  | [] => .nil
  | x :: l => .cons (.str x) (dp_strs l)
section
variable {P : Program} {w : World} {K : PySem.W.Frag} {mg : Str → Option Value} {base : Heap} {f fE fC fO fK C : Addr} {fd dE dC dO dK : FuncData}
theorem scEqM : FnScope ["self", "other"] ["self", "other"] (defScope sEqM) := ⟨rfl, rfl, rfl, by decide +kernel, rfl, by decide +kernel, by decide +kernel⟩
theorem ok_eqM {fS aS : Addr} {dS : FuncData} (F : Fun K "__eq__" "Stretch.__eq__" sEqM f fd) (R : StrC K mg C fS aS dS) (isi : mg "isinstance" = none) : FnOk P w K mg base CX0 1 f fd ["self", "other"] (spEqM K C) := by
  refine F.ok scEqM (fun vs H Q E h => ?_) (fun cdv A outer s H vs Q E hr h => ?_)
  · obtain ⟨a, ds, ks, y, rfl, _⟩ := h
    rfl
  · obtain ⟨a, ds, ks, y, rfl, ⟨dx, kb, c, ea, hd, hk, rows, size, lk⟩, q⟩ := h
    have un := hr.un
    have hu : (A.deeper (envOfC "Stretch.__eq__" (defScope sEqM) s.heap.objs.size f cdv)).units + 64 < cLine := by omega
    refine ⟨_, pss_one (ps_ret (pe_and (pe_callB call_isi (by rfl) isi (by decide +kernel) (pa_cons (pv 1) (pa_cons (pe_glob (v := .ref C) (by rfl) R.gSt rfl) pa_nil)))
      (pe_and (pe_cmpR (op_eqD hu) (pe_fld (pv 0) rfl) (pe_fld (pv 1) rfl) (nomark _)) (pe_one (pe_cmpR (op_eqD hu) (pe_fld (pv 0) rfl) (pe_fld (pv 1) rfl) (nomark _)))))), ?_⟩
    obtain ⟨dp1, sh1⟩ := code_dp (K := K) rows hd
    rcases q with ⟨b, es, ls, rfl, ⟨dy, lb, c2, eb, hd2, hk2, rows2, size2, lk2⟩, q⟩ | ⟨t, ty, no, q⟩
    · obtain ⟨dp2, sh2⟩ := code_dp (K := K) rows2 hd2
      refine ⟨_, rfl, .ref b, .ref C, .ref C, .ref C, true, rfl, .own C, .base (.ins eb R.T.cl R.ha R.hn R.htk R.hm), R.kit, _, rfl, iteT ?_⟩
      refine ⟨_, rfl, a, C, dx, _, c, rfl, ea, R.T.cl, R.T.nc, rfl, _, rfl, b, C, dy, _, c2, rfl, eb, R.T.cl, R.T.nc, rfl, .tuple ds, .tuple es, dp1, dp2, sh1, sh2, _, rfl, ?_⟩
      have q := q H (Same.refl H)
      refine ite2 (fun k1 => ?_) (fun k1 => ?_)
      · rw [k1, Bool.true_and] at q
        exact ⟨_, rfl, a, C, dx, _, .ref kb, rfl, ea, R.T.cl, R.T.nk, rfl, _, rfl, b, C, dy, _, .ref lb, rfl, eb, R.T.cl, R.T.nk, rfl, strT ks, strT ls, .tup hk (dp_strs ks), .tup hk2 (dp_strs ls), (keeps_sh lk).2.2.2, (keeps_sh lk2).2.2.2, q⟩
      · rw [Bool.eq_false_iff.mpr k1, Bool.false_and] at q
        exact q
    · refine ⟨_, rfl, y, .ref C, t, .ref C, false, rfl, .own C, ty, no, _, rfl, iteF ?_⟩
      exact q H (Same.refl H)
def spContains (K : PySem.W.Frag) (C : Addr) : Sp := fun vs H Q _ => ∃ (a : Addr) (ds : List PyData) (ks : List Str) (y : V), vs = [.ref a, y] ∧ StI K C H a ds ks ∧
  ((∃ x : Str, y = .str x ∧ ∀ H', Same H H' → Q (.bl ((canon (rolesS "cell" ds)).contains x)) H') ∨ (∃ d : PyData, Dt (fun _ => True) H y d ∧ (∀ z, d ≠ .str z) ∧ ∀ H', Same H H' → Q (.bl false) H') ∨
    (∃ (b : Addr) (es : List PyData) (ls : List Str), y = .ref b ∧ StI K C H b es ls ∧ ∀ H', Same H H' → Q (.bl false) H'))
theorem inV_strs (x : Str) : ∀ l : List Str, inV (.str x) (l.map V.str) = l.contains x
  | [] => rfl
  | y :: l => by
    have h := inV_strs x l
    unfold inV at h ⊢
    rw [List.map_cons, List.any_cons, h, List.contains_cons]
    congr 1
    show (y == x) = (x == y)
    rw [Bool.eq_iff_iff, beq_iff_eq, beq_iff_eq, eq_comm]
theorem scCn : FnScope ["self", "x"] ["self", "x"] (defScope sContains) := ⟨rfl, rfl, rfl, by decide +kernel, rfl, by decide +kernel, by decide +kernel⟩
end
end OM

namespace OM
open PySem PySem.Spec PyProof.Rows L2
/-! ### statements that are no ifs -/
inductive Stm where
  | read (r c : Str)
  | write (c r : Str)
  | set (r f : Str) (as : List Str)
  | copy (r q : Str)
  | get (r : Str)
  | put (r : Str)
  | shw (r : Str)
def Stm.d : Stm → PyData
  | .read r c => .tuple [.str "read", .str r, .str c]
  | .write c r => .tuple [.str "write", .str c, .str r]
  | .set r f as => .tuple [.str "set", .str r, .str f, .tuple (as.map PyData.str)]
  | .copy r q => .tuple [.str "copy", .str r, .str q]
  | .get r => .tuple [.str "get", .str r]
  | .put r => .tuple [.str "put", .str r]
  | .shw r => .tuple [.str "show", .str r]
abbrev Nm (x : Str) : Prop := isNameD (.str x) = true
def Stm.ok : Stm → Prop
  | .read r c => Nm r ∧ Nm c
  | .write c r => Nm c ∧ Nm r
  | .set r f as => Nm r ∧ Nm f ∧ as.length ≤ 2 ∧ ∀ a ∈ as, Nm a
  | .copy r q => Nm r ∧ Nm q
  | .get r => Nm r
  | .put r => Nm r
  | .shw r => Nm r
theorem nm_len {x : Str} (h : Nm x) : x.length ≤ 8 := by
  have := (name_small h).2
  have e : (PyData.str x).weight = x.length := by unfold PyData.weight; rfl
  omega
theorem names_of : ∀ {ds : List PyData}, ds.all isNameD = true → ∃ as : List Str, ds = as.map PyData.str ∧ ∀ a ∈ as, Nm a
  | [], _ => ⟨[], rfl, fun _ h => by cases h⟩
  | d :: r, h => by
    rw [List.all_cons, Bool.and_eq_true] at h
    obtain ⟨as, rfl, ha⟩ := names_of h.2
    obtain ⟨x, rfl⟩ := isS h.1
    exact ⟨x :: as, rfl, fun a m => (List.mem_cons.mp m).elim (fun z => by rw [z]; exact h.1) (ha a)⟩
theorem fit_name {cd : PyData → Bool} {d : PyData} {r : Str} (h1 : r ≠ "code") (h2 : r ≠ "registers") : fitD cd d r = isNameD d := by
  unfold fitD
  rw [if_neg h1, if_neg h2]
theorem fit_regs {cd : PyData → Bool} {d : PyData} : fitD cd d "registers" = argsD d := by
  unfold fitD
  rw [if_neg (by decide +kernel), if_pos rfl]
theorem row1 {cd : PyData → Bool} {rest : List PyData} {r1 : Str} (n1 : r1 ≠ "code" ∧ r1 ≠ "registers") (l : rest.length = ([r1] : List Str).length) (z : (List.zipWith (fitD cd) rest [r1]).all id = true) : ∃ a, rest = [.str a] ∧ Nm a := by
  match rest, l with
  | [x], _ =>
    have z : (fitD cd x r1 && true) = true := z
    rw [fit_name n1.1 n1.2, Bool.and_true] at z
    obtain ⟨a, rfl⟩ := isS z
    exact ⟨a, rfl, z⟩
theorem row2 {cd : PyData → Bool} {rest : List PyData} {r1 r2 : Str} (n1 : r1 ≠ "code" ∧ r1 ≠ "registers") (n2 : r2 ≠ "code" ∧ r2 ≠ "registers") (l : rest.length = ([r1, r2] : List Str).length) (z : (List.zipWith (fitD cd) rest [r1, r2]).all id = true) : ∃ a b, rest = [.str a, .str b] ∧ Nm a ∧ Nm b := by
  match rest, l with
  | [x, y], _ =>
    have z : (fitD cd x r1 && (fitD cd y r2 && true)) = true := z
    rw [fit_name n1.1 n1.2, fit_name n2.1 n2.2, Bool.and_true, Bool.and_eq_true] at z
    obtain ⟨a, rfl⟩ := isS z.1
    obtain ⟨b, rfl⟩ := isS z.2
    exact ⟨a, b, rfl, z.1, z.2⟩
theorem row3 {cd : PyData → Bool} {rest : List PyData} (l : rest.length = (["register", "function", "registers"] : List Str).length) (z : (List.zipWith (fitD cd) rest ["register", "function", "registers"]).all id = true) : ∃ (a b : Str) (as : List Str), rest = [.str a, .str b, .tuple (as.map PyData.str)] ∧ Nm a ∧ Nm b ∧ as.length ≤ 2 ∧ ∀ x ∈ as, Nm x := by
  match rest, l with
  | [x, y, w], _ =>
    have z : (fitD cd x "register" && (fitD cd y "function" && (fitD cd w "registers" && true))) = true := z
    rw [fit_name (by decide +kernel) (by decide +kernel), fit_name (by decide +kernel) (by decide +kernel), fit_regs, Bool.and_true, Bool.and_eq_true, Bool.and_eq_true] at z
    obtain ⟨a, rfl⟩ := isS z.1
    obtain ⟨b, rfl⟩ := isS z.2.1
    have z3 := z.2.2
    unfold argsD at z3
    split at z3
    · rename_i ds
      rw [Bool.and_eq_true, decide_eq_true_eq] at z3
      obtain ⟨as, rfl, ha⟩ := names_of z3.2
      exact ⟨a, b, as, rfl, z.1, z.2.1, by rw [List.length_map] at z3; exact z3.1, ha⟩
    · cases z3
/-- a plain statement of code -/
theorem stm_of {cd : PyData → Bool} {d : PyData} (h : rowD cd d = true) (ni : ∀ rest, d ≠ .tuple (.str "if" :: rest)) : ∃ s : Stm, d = s.d ∧ s.ok := by
  obtain ⟨w, rest, rs, rfl, e, l, z⟩ := rowD_shape h
  unfold formOf at e
  split at e
  · rename_i hw
    subst hw
    cases e
    obtain ⟨a, b, rfl, ha, hb⟩ := row2 (by decide +kernel) (by decide +kernel) l z
    exact ⟨.read a b, rfl, ha, hb⟩
  split at e
  · rename_i hw
    subst hw
    cases e
    obtain ⟨a, b, rfl, ha, hb⟩ := row2 (by decide +kernel) (by decide +kernel) l z
    exact ⟨.write a b, rfl, ha, hb⟩
  split at e
  · rename_i hw
    subst hw
    cases e
    obtain ⟨a, b, as, rfl, ha, hb, hl, hs⟩ := row3 l z
    exact ⟨.set a b as, rfl, ha, hb, hl, hs⟩
  split at e
  · rename_i hw
    subst hw
    cases e
    obtain ⟨a, b, rfl, ha, hb⟩ := row2 (by decide +kernel) (by decide +kernel) l z
    exact ⟨.copy a b, rfl, ha, hb⟩
  split at e
  · rename_i hw
    subst hw
    cases e
    obtain ⟨a, rfl, ha⟩ := row1 (by decide +kernel) l z
    exact ⟨.get a, rfl, ha⟩
  split at e
  · rename_i hw
    subst hw
    cases e
    obtain ⟨a, rfl, ha⟩ := row1 (by decide +kernel) l z
    exact ⟨.put a, rfl, ha⟩
  split at e
  · rename_i hw
    subst hw
    exact absurd rfl (ni rest)
  split at e
  · rename_i hw
    subst hw
    cases e
    obtain ⟨a, rfl, ha⟩ := row1 (by decide +kernel) l z
    exact ⟨.shw a, rfl, ha⟩
  · cases e
/-! ### a walk, apart from the model -/
def numS (n : Nat) : Str := (toString (n : Int) : String)
theorem num_small : ∀ n : Nat, n < 1000 → (numS n).length ≤ 3 := by decide +kernel
theorem log_small {n : Nat} (h : n < 1000) : ((n : Int)).natAbs.log2 < 1920 := by
  have h1 : ((n : Int)).natAbs = n := rfl
  rw [h1]
  have h2 : n.log2 ≤ 10 := by
    rcases Nat.eq_zero_or_pos n with z | z
    · rw [z]; decide
    · have := (Nat.log2_lt (by omega : n ≠ 0) (k := 10)).mpr (by omega)
      omega
  omega
/-- what a walk holds; its dicts as functions -/
structure Wk where
  hid : List Str
  worths : Str → Option Str
  conts : Str → Nat → Option Str
  latest : Str → Option (Nat × Nat)
  sent : List (Str × Str)
  taken : Nat
  done : List (Str × Str × Nat × Str)
def Wk.new (hid : List Str) : Wk := ⟨hid, fun _ => none, fun _ _ => none, fun _ => none, [], 0, []⟩
/-- whether a put stands there, and behind it a get -/
def btw (ks : List Str) : Bool := (ks.dropWhile fun x : Str => decide (x ≠ ("put" : Str))).contains ("get" : Str)
def kindsP (ls : List (Str × Str)) (a b : Nat) : List Str := ((ls.drop a).take (b - a)).map (·.1)
def Wk.worth (k : Wk) (n : Str) : Str := (k.worths n).getD n
def unk (c : Str) (ch : Nat) : Str := (c ++ ("." : Str)) ++ numS ch
def Wk.content (k : Wk) (c : Str) (ch : Nat) : Str := (k.conts c ch).getD (unk c ch)
def Wk.chain (k : Wk) (c : Str) : Nat := match k.latest c with
  | none => 1
  | some (ch, pl) => if !k.hid.contains c && btw (kindsP k.sent pl k.sent.length) then ch + 1 else ch
def Wk.mark (k : Wk) (c : Str) : Wk := { k with latest := fun x => if x = c then some (k.chain c, k.sent.length) else k.latest x }
def Wk.let (k : Wk) (n v : Str) : Wk := { k with worths := fun x => if x = n then some v else k.worths x }
def Wk.fill (k : Wk) (c : Str) (ch : Nat) (v : Str) : Wk := { k with conts := fun x n => if x = c ∧ n = ch then some v else k.conts x n }
def Wk.send (k : Wk) (w v : Str) : Wk := { k with sent := k.sent ++ [(w, v)] }
def Wk.note (k : Wk) (w c v : Str) : Wk := { k with done := k.done ++ [(w, c, k.sent.length, v)] }
def Wk.read (k : Wk) (n c : Str) : Wk := (((k.mark c).let n (k.content c (k.chain c))).note "read" c (k.content c (k.chain c)))
def Wk.write (k : Wk) (c n : Str) : Wk := (((k.mark c).fill c (k.chain c) (k.worth n)).note "write" c (k.worth n))
def getT (n : Nat) : Str := ("get." : Str) ++ numS n
def Wk.get (k : Wk) (n : Str) : Wk := (({ k with taken := k.taken + 1 }.let n (getT (k.taken + 1))).send "get" (getT (k.taken + 1)))
/-- f(a, b) -/
def wrT (f : Str) (as : List Str) : Str := ((f ++ ("(" : Str)) ++ Txt.join (", " : Str) as) ++ (")" : Str)
def Wk.stm (k : Wk) : Stm → Wk
  | .read r c => k.read r c
  | .write c r => k.write c r
  | .set r f as => k.let r (wrT f (as.map k.worth))
  | .copy r q => k.let r (k.worth q)
  | .get r => k.get r
  | .put r => k.send "put" (k.worth r)
  | .shw _ => k
def Wk.go (k : Wk) (ss : List Stm) : Wk := ss.foldl Wk.stm k
/-! ### a walk as it stands -/
def LetR (H : Hp) (v : V) (p : Str × Str) : Prop := ∃ a, v = .ref a ∧ H a = some (.tup [.str p.1, .str p.2])
def AccR (H : Hp) (v : V) (p : Str × Str × Nat × Str) : Prop := ∃ a, v = .ref a ∧ H a = some (.tup [.str p.1, .str p.2.1, .int (p.2.2.1 : Nat), .str p.2.2.2])
def TupS (H H' : Hp) : Prop := ∀ b xs, H b = some (.tup xs) → H' b = some (.tup xs)
theorem TupS.trans {H H1 H2 : Hp} (a : TupS H H1) (b : TupS H1 H2) : TupS H H2 := fun c xs e => b c xs (a c xs e)
theorem TupS.same {H H' : Hp} (s : Same H H') : TupS H H' := fun b xs e => s b _ e
theorem TupS.put {H : Hp} {a : Addr} {u o : HO} (h : H a = some u) (n : ∀ xs, u ≠ .tup xs) : TupS H (upd H a o) := fun b ys e => by
  rw [upd_ne (fun z => by rw [z, h] at e; exact n ys (Option.some.inj e))]
  exact e
theorem LetR.mv {H H' : Hp} {v : V} {p : Str × Str} (t : TupS H H') (h : LetR H v p) : LetR H' v p := by
  obtain ⟨a, e, h⟩ := h
  exact ⟨a, e, t _ _ h⟩
theorem AccR.mv {H H' : Hp} {v : V} {p : Str × Str × Nat × Str} (t : TupS H H') (h : AccR H v p) : AccR H' v p := by
  obtain ⟨a, e, h⟩ := h
  exact ⟨a, e, t _ _ h⟩
theorem Paired.at {α β : Type} {F : α → β → Prop} : ∀ {xs : List α} {ys : List β}, Paired F xs ys → ∀ {i : Nat} {x : α}, xs[i]? = some x → ∃ y, ys[i]? = some y ∧ F x y
  | _, _, .nil, i, x, e => by simp at e
  | _, _, .cons h r, 0, x, e => by
    simp at e
    subst e
    exact ⟨_, rfl, h⟩
  | _, _, .cons h r, i + 1, x, e => by
    obtain ⟨y, e2, q⟩ := Paired.at r (i := i) (x := x) (by simpa using e)
    exact ⟨y, by simpa using e2, q⟩
theorem Paired.of {α β : Type} {F : α → β → Prop} : ∀ {xs : List α} {ys : List β}, Paired F xs ys → ∀ {i : Nat} {y : β}, ys[i]? = some y → ∃ x, xs[i]? = some x ∧ F x y
  | _, _, .nil, i, x, e => by simp at e
  | _, _, .cons h r, 0, x, e => by
    simp at e
    subst e
    exact ⟨_, rfl, h⟩
  | _, _, .cons h r, i + 1, x, e => by
    obtain ⟨y, e2, q⟩ := Paired.of r (i := i) (y := x) (by simpa using e)
    exact ⟨y, by simpa using e2, q⟩
theorem Paired.app {α β : Type} {F : α → β → Prop} : ∀ {a b : List α} {x y : List β}, Paired F a x → Paired F b y → Paired F (a ++ b) (x ++ y)
  | _, _, _, _, .nil, h => h
  | _, _, _, _, .cons h r, k => .cons h (Paired.app r k)
theorem Paired.take {α β : Type} {F : α → β → Prop} : ∀ (n : Nat) {a : List α} {x : List β}, Paired F a x → Paired F (a.take n) (x.take n)
  | 0, _, _, _ => .nil
  | n + 1, _, _, .nil => .nil
  | n + 1, _, _, .cons h r => .cons h (Paired.take n r)
theorem Paired.drop {α β : Type} {F : α → β → Prop} : ∀ (n : Nat) {a : List α} {x : List β}, Paired F a x → Paired F (a.drop n) (x.drop n)
  | 0, _, _, h => h
  | n + 1, _, _, .nil => .nil
  | n + 1, _, _, .cons h r => Paired.drop n r
structure Own0 (H0 H : Hp) (F : List Addr) : Prop where
  same : Same H0 H
  own : ∀ b ∈ F, H0 b = none
theorem Own0.put {H0 H : Hp} {F : List Addr} {b : Addr} {o : HO} (h : Own0 H0 H F) (hb : b ∈ F) : Own0 H0 (upd H b o) F := ⟨same_put (h.own b hb) h.same, h.own⟩
theorem Own0.to {H0 H H' : Hp} {F : List Addr} (h : Own0 H0 H F) (s : Same H H') : Own0 H0 H' F := ⟨h.same.trans s, h.own⟩
end OM

namespace OM
open PySem PySem.Spec PyProof.Rows L2
/-- where the parts of a walk stand; xs: what a class over it has beside -/
structure Ad where
  me : Addr
  dx : Addr
  told : Addr
  hid : Addr
  a : Addr
  w : Addr
  c : Addr
  l : Addr
  s : Addr
  d : Addr
  xs : List (Str × V)
def Ad.fs (A : Ad) (n : Nat) : List (Str × V) := ("told", .ref A.told) :: ("hidden", .ref A.hid) :: ("asked", .ref A.a) :: ("lacking", .non) :: ("is_over", .bl false) :: ("worths", .ref A.w) :: ("contents", .ref A.c) :: ("latest", .ref A.l) :: ("sent", .ref A.s) :: ("taken", .int (n : Nat)) :: ("done", .ref A.d) :: A.xs
def Ad.own (A : Ad) : List Addr := [A.me, A.w, A.c, A.l, A.s, A.d]
def HidR (K : PySem.W.Frag) (H : Hp) (p : Addr) (xs : List Str) : Prop := H p = some (.tup (xs.map V.str)) ∨ (Emp K p ∧ xs = [])
theorem HidR.seq {K : PySem.W.Frag} {H : Hp} {p : Addr} {xs : List Str} (h : HidR K H p xs) : SqT K H p (xs.map V.str) := by
  rcases h with h | ⟨h, rfl⟩
  · exact .of h
  · exact h.seq
theorem HidR.mv {K : PySem.W.Frag} {H H' : Hp} {p : Addr} {xs : List Str} (t : TupS H H') (h : HidR K H p xs) : HidR K H' p xs := h.imp (t _ _) id
def WorR (H : Hp) (p : Addr) (f : Str → Option Str) (t b : Nat) : Prop := ∃ kw : List (Key × V), H p = some (.dK kw) ∧ kw.length ≤ t ∧ (∀ n, valV kw (Sum.inr n) = (f n).map V.str) ∧ ∀ n v, f n = some v → v.length ≤ b
def ConR (H : Hp) (p : Addr) (f : Str → Nat → Option Str) (t b : Nat) : Prop := ∃ kc : List (List Key × V), H p = some (.dT kc) ∧ kc.length ≤ t ∧ (∀ c ch, valV kc [Sum.inr c, Sum.inl ((ch : Nat) : Int)] = (f c ch).map V.str) ∧ ∀ c ch v, f c ch = some v → v.length ≤ b
def LatR (H : Hp) (p : Addr) (f : Str → Option (Nat × Nat)) (t n : Nat) : Prop := ∃ kl : List (Key × V), H p = some (.dK kl) ∧ kl.length ≤ t ∧ (∀ c, f c = none → valV kl (Sum.inr c) = none) ∧ ∀ c ch pl, f c = some (ch, pl) → (∃ q, valV kl (Sum.inr c) = some (.ref q) ∧ H q = some (.tup [.int (ch : Nat), .int (pl : Nat)])) ∧ ch ≤ t + 1 ∧ pl ≤ n
def SenR (H : Hp) (p : Addr) (ls : List (Str × Str)) : Prop := ∃ vs, H p = some (.lst vs) ∧ Paired (LetR H) vs ls
def DonR (H : Hp) (p : Addr) (ls : List (Str × Str × Nat × Str)) : Prop := ∃ vs, H p = some (.lst vs) ∧ Paired (AccR H) vs ls
/-- the names of its methods -/
def mthW : List Str := ["again", "further_told", "go", "chosen", "do", "do_read", "do_write", "do_get", "add_letter", "next_chain", "worth", "content"]
/-- a walk: where (A), what it holds (k), how many stores (t), how long its values are (b) -/
structure WkM (K : PySem.W.Frag) (C : Addr) (H : Hp) (A : Ad) (k : Wk) (t b : Nat) : Prop where
  ins : H A.me = some (.ins C A.dx (A.fs k.taken))
  hid : HidR K H A.hid k.hid
  ask : H A.a = some (.dK [])
  wor : WorR H A.w k.worths t b
  con : ConR H A.c k.conts t b
  lat : LatR H A.l k.latest t k.sent.length
  sen : SenR H A.s k.sent
  don : DonR H A.d k.done
  ne : A.w ≠ A.l ∧ A.s ≠ A.d ∧ A.a ≠ A.w ∧ A.a ≠ A.l
  num : k.sent.length ≤ t ∧ k.done.length ≤ t ∧ k.taken ≤ t ∧ t ≤ 900 ∧ A.xs.length ≤ 10
  big : 40 ≤ b ∧ b ≤ 4000000
  ml : ∀ m ∈ mthW, A.xs.lookup m = none
theorem WorR.mv {H H' : Hp} {p : Addr} {f : Str → Option Str} {t b : Nat} (h : WorR H p f t b) (e : H' p = H p) {t' b' : Nat} (ht : t ≤ t') (hb : b ≤ b') : WorR H' p f t' b' := by
  obtain ⟨kw, a1, a2, a3, a4⟩ := h
  exact ⟨kw, by rw [e]; exact a1, Nat.le_trans a2 ht, a3, fun n v z => Nat.le_trans (a4 n v z) hb⟩
theorem ConR.mv {H H' : Hp} {p : Addr} {f : Str → Nat → Option Str} {t b : Nat} (h : ConR H p f t b) (e : H' p = H p) {t' b' : Nat} (ht : t ≤ t') (hb : b ≤ b') : ConR H' p f t' b' := by
  obtain ⟨kw, a1, a2, a3, a4⟩ := h
  exact ⟨kw, by rw [e]; exact a1, Nat.le_trans a2 ht, a3, fun n c v z => Nat.le_trans (a4 n c v z) hb⟩
theorem LatR.mv {H H' : Hp} {p : Addr} {f : Str → Option (Nat × Nat)} {t n : Nat} (h : LatR H p f t n) (e : H' p = H p) (s : TupS H H') {t' n' : Nat} (ht : t ≤ t') (hn : n ≤ n') : LatR H' p f t' n' := by
  obtain ⟨kw, a1, a2, a3, a4⟩ := h
  refine ⟨kw, by rw [e]; exact a1, Nat.le_trans a2 ht, a3, fun c ch pl z => ?_⟩
  obtain ⟨⟨q, q1, q2⟩, q3, q4⟩ := a4 c ch pl z
  exact ⟨⟨q, q1, s _ _ q2⟩, by omega, by omega⟩
theorem SenR.mv {H H' : Hp} {p : Addr} {ls : List (Str × Str)} (h : SenR H p ls) (e : H' p = H p) (s : TupS H H') : SenR H' p ls := by
  obtain ⟨vs, a1, a2⟩ := h
  exact ⟨vs, by rw [e]; exact a1, L2.Paired.mapP a2 fun _ _ z => z.mv s⟩
theorem DonR.mv {H H' : Hp} {p : Addr} {ls : List (Str × Str × Nat × Str)} (h : DonR H p ls) (e : H' p = H p) (s : TupS H H') : DonR H' p ls := by
  obtain ⟨vs, a1, a2⟩ := h
  exact ⟨vs, by rw [e]; exact a1, L2.Paired.mapP a2 fun _ _ z => z.mv s⟩
section
variable {K : PySem.W.Frag} {C : Addr} {H H' : Hp} {A : Ad} {k : Wk} {t b : Nat}
theorem WkM.there (h : WkM K C H A k t b) : ∀ x ∈ A.own, ∃ o, H x = some o := by
  intro x hx
  obtain ⟨_, e2, _⟩ := h.wor
  obtain ⟨_, e3, _⟩ := h.con
  obtain ⟨_, e4, _⟩ := h.lat
  obtain ⟨_, e5, _⟩ := h.sen
  obtain ⟨_, e6, _⟩ := h.don
  unfold Ad.own at hx
  simp only [List.mem_cons, List.not_mem_nil, or_false] at hx
  rcases hx with rfl | rfl | rfl | rfl | rfl | rfl
  · exact ⟨_, h.ins⟩
  · exact ⟨_, e2⟩
  · exact ⟨_, e3⟩
  · exact ⟨_, e4⟩
  · exact ⟨_, e5⟩
  · exact ⟨_, e6⟩
/-- all but its parts may change -/
theorem WkM.mv (h : WkM K C H A k t b) (s : Same H H') : WkM K C H' A k t b := by
  have ts := TupS.same s
  have eq : ∀ {x o}, H x = some o → H' x = H x := fun e => by rw [e]; exact s _ _ e
  obtain ⟨_, e2, _⟩ := h.wor
  obtain ⟨_, e3, _⟩ := h.con
  obtain ⟨_, e4, _⟩ := h.lat
  obtain ⟨_, e5, _⟩ := h.sen
  obtain ⟨_, e6, _⟩ := h.don
  exact ⟨s _ _ h.ins, h.hid.mv ts, s _ _ h.ask, h.wor.mv (eq e2) (Nat.le_refl _) (Nat.le_refl _), h.con.mv (eq e3) (Nat.le_refl _) (Nat.le_refl _), h.lat.mv (eq e4) ts (Nat.le_refl _) (Nat.le_refl _), h.sen.mv (eq e5) ts, h.don.mv (eq e6) ts, h.ne, h.num, h.big, h.ml⟩
theorem WkM.more (h : WkM K C H A k t b) {t' b' : Nat} (ht : t ≤ t') (hb : b ≤ b') (h9 : t' ≤ 900) (h4 : b' ≤ 4000000) : WkM K C H A k t' b' := by
  have n := h.num
  have g := h.big
  exact ⟨h.ins, h.hid, h.ask, h.wor.mv rfl ht hb, h.con.mv rfl ht hb, h.lat.mv rfl (TupS.same (Same.refl H)) ht (Nat.le_refl _), h.sen, h.don, h.ne, by omega, by omega, h.ml⟩
theorem WkM.apart (h : WkM K C H A k t b) : (A.me ≠ A.a ∧ A.me ≠ A.w ∧ A.me ≠ A.c ∧ A.me ≠ A.l ∧ A.me ≠ A.s ∧ A.me ≠ A.d) ∧ (A.w ≠ A.c ∧ A.w ≠ A.s ∧ A.w ≠ A.d) ∧ (A.c ≠ A.l ∧ A.c ≠ A.s ∧ A.c ≠ A.d ∧ A.c ≠ A.a) ∧ (A.l ≠ A.s ∧ A.l ≠ A.d) ∧ (A.s ≠ A.a ∧ A.d ≠ A.a) := by
  obtain ⟨_, e2, _⟩ := h.wor
  obtain ⟨_, e3, _⟩ := h.con
  obtain ⟨_, e4, _⟩ := h.lat
  obtain ⟨_, e5, _⟩ := h.sen
  obtain ⟨_, e6, _⟩ := h.don
  have e1 := h.ins
  have e0 := h.ask
  refine ⟨⟨ne_of e1 e0 ?_, ne_of e1 e2 ?_, ne_of e1 e3 ?_, ne_of e1 e4 ?_, ne_of e1 e5 ?_, ne_of e1 e6 ?_⟩, ⟨ne_of e2 e3 ?_, ne_of e2 e5 ?_, ne_of e2 e6 ?_⟩, ⟨ne_of e3 e4 ?_, ne_of e3 e5 ?_, ne_of e3 e6 ?_, ne_of e3 e0 ?_⟩, ⟨ne_of e4 e5 ?_, ne_of e4 e6 ?_⟩, ne_of e5 e0 ?_, ne_of e6 e0 ?_⟩ <;> exact fun z => nomatch z
/-- a register gets a value -/
theorem WkM.let (h : WkM K C H A k t b) (ht : t < 900) : ∃ kw : List (Key × V), H A.w = some (.dK kw) ∧ kw.length < sizeLine ∧ ∀ n v, v.length ≤ b → WkM K C (upd H A.w (.dK (putK kw (Sum.inr n) (.str v)))) A (k.let n v) (t + 1) b := by
  obtain ⟨⟨a1, a2, a3, a4, a5, a6⟩, ⟨b1, b2, b3⟩, ⟨c1, c2, c3, c4⟩, ⟨d1, d2⟩, f1, f2⟩ := h.apart
  obtain ⟨n1, n2, n3, n4⟩ := h.ne
  obtain ⟨m1, m2, m3, m4, m5⟩ := h.num
  obtain ⟨kw, e1, e2, e3, e4⟩ := h.wor
  have line : (1000 : Nat) < sizeLine := by decide
  refine ⟨kw, e1, by omega, fun n v hv => ?_⟩
  have ts : TupS H (upd H A.w (.dK (putK kw (Sum.inr n) (.str v)))) := TupS.put e1 fun _ z => nomatch z
  refine ⟨by rw [upd_ne a2]; exact h.ins, h.hid.mv ts, by rw [upd_ne n3]; exact h.ask, ⟨_, upd_same, ?_, fun j => ?_, fun j u => ?_⟩, h.con.mv (upd_ne b1.symm) (by omega) (Nat.le_refl _), h.lat.mv (upd_ne n1.symm) ts (by omega) (Nat.le_refl _), h.sen.mv (upd_ne b2.symm) ts, h.don.mv (upd_ne b3.symm) ts, h.ne, ?_, h.big, h.ml⟩
  · have := length_putK kw (Sum.inr n) (.str v)
    omega
  · rw [valV_put]
    show (if (Sum.inr j : Key) = Sum.inr n then some (V.str v) else _) = (if j = n then some v else k.worths j).map V.str
    by_cases hj : j = n
    · subst hj
      rw [if_pos rfl, if_pos rfl]
      rfl
    · rw [if_neg (fun z => hj (Sum.inr.inj z)), if_neg hj]
      exact e3 j
  · show (if j = n then some v else k.worths j) = some u → _
    by_cases hj : j = n
    · rw [if_pos hj]
      intro z
      rw [← Option.some.inj z]
      exact hv
    · rw [if_neg hj]
      exact e4 j u
  · exact ⟨by show k.sent.length ≤ _; omega, by show k.done.length ≤ _; omega, by show k.taken ≤ _; omega, by omega, m5⟩
/-- a cell gets a content -/
theorem WkM.fill (h : WkM K C H A k t b) (ht : t < 900) : ∃ kc : List (List Key × V), H A.c = some (.dT kc) ∧ kc.length < sizeLine ∧ ∀ (c : Str) (ch : Nat) (v : Str), v.length ≤ b → WkM K C (upd H A.c (.dT (putK kc [Sum.inr c, Sum.inl ((ch : Nat) : Int)] (.str v)))) A (k.fill c ch v) (t + 1) b := by
  obtain ⟨⟨a1, a2, a3, a4, a5, a6⟩, ⟨b1, b2, b3⟩, ⟨c1, c2, c3, c4⟩, ⟨d1, d2⟩, f1, f2⟩ := h.apart
  obtain ⟨n1, n2, n3, n4⟩ := h.ne
  obtain ⟨m1, m2, m3, m4, m5⟩ := h.num
  obtain ⟨kc, e1, e2, e3, e4⟩ := h.con
  have line : (1000 : Nat) < sizeLine := by decide
  refine ⟨kc, e1, by omega, fun c ch v hv => ?_⟩
  have ts : TupS H (upd H A.c (.dT (putK kc [Sum.inr c, Sum.inl ((ch : Nat) : Int)] (.str v)))) := TupS.put e1 fun _ z => nomatch z
  refine ⟨by rw [upd_ne a3]; exact h.ins, h.hid.mv ts, by rw [upd_ne c4.symm]; exact h.ask, h.wor.mv (upd_ne b1) (by omega) (Nat.le_refl _), ⟨_, upd_same, ?_, fun j i => ?_, fun j i u => ?_⟩, h.lat.mv (upd_ne c1.symm) ts (by omega) (Nat.le_refl _), h.sen.mv (upd_ne c2.symm) ts, h.don.mv (upd_ne c3.symm) ts, h.ne, ?_, h.big, h.ml⟩
  · have := length_putK kc ([Sum.inr c, Sum.inl ((ch : Nat) : Int)] : List Key) (.str v)
    omega
  · rw [valV_put]
    show (if ([Sum.inr j, Sum.inl ((i : Nat) : Int)] : List Key) = [Sum.inr c, Sum.inl ((ch : Nat) : Int)] then some (V.str v) else _) = (if j = c ∧ i = ch then some v else k.conts j i).map V.str
    by_cases hj : j = c ∧ i = ch
    · obtain ⟨rfl, rfl⟩ := hj
      rw [if_pos rfl, if_pos ⟨rfl, rfl⟩]
      rfl
    · rw [if_neg, if_neg hj]
      · exact e3 j i
      · intro z
        injection z with z1 z2
        injection z2 with z2 _
        injection z1 with z1
        injection z2 with z2
        exact hj ⟨z1, by omega⟩
  · show (if j = c ∧ i = ch then some v else k.conts j i) = some u → _
    by_cases hj : j = c ∧ i = ch
    · rw [if_pos hj]
      intro z
      rw [← Option.some.inj z]
      exact hv
    · rw [if_neg hj]
      exact e4 j i u
  · exact ⟨by show k.sent.length ≤ _; omega, by show k.done.length ≤ _; omega, by show k.taken ≤ _; omega, by omega, m5⟩
/-- an access is noted in its chain -/
theorem WkM.mark (h : WkM K C H A k t b) (ht : t < 900) : ∃ kl : List (Key × V), H A.l = some (.dK kl) ∧ kl.length < sizeLine ∧ k.sent.length ≤ t ∧ (∀ c, k.chain c ≤ t + 2) ∧ ∀ (G : Hp) (c : Str) (q : Addr), Same H G → G q = some (.tup [.int (k.chain c : Nat), .int (k.sent.length : Nat)]) → WkM K C (upd G A.l (.dK (putK kl (Sum.inr c) (.ref q)))) A (k.mark c) (t + 1) b := by
  obtain ⟨n1, n2, n3, n4⟩ := h.ne
  obtain ⟨m1, m2, m3, m4, m5⟩ := h.num
  obtain ⟨kl, e1, e2, e3, e4⟩ := h.lat
  have line : (1000 : Nat) < sizeLine := by decide
  have lc : ∀ c, k.chain c ≤ t + 2 := fun c => by
    unfold Wk.chain
    cases hc : k.latest c with
    | none => dsimp only; omega
    | some p =>
      obtain ⟨ch, pl⟩ := p
      obtain ⟨_, q3, _⟩ := e4 c ch pl hc
      dsimp only
      split <;> omega
  refine ⟨kl, e1, by omega, m1, lc, fun G c q s hq => ?_⟩
  have hg := h.mv s
  obtain ⟨⟨a1, a2, a3, a4, a5, a6⟩, ⟨b1, b2, b3⟩, ⟨c1, c2, c3, c4⟩, ⟨d1, d2⟩, f1, f2⟩ := hg.apart
  have ts : TupS G (upd G A.l (.dK (putK kl (Sum.inr c) (.ref q)))) := TupS.put (s _ _ e1) fun _ z => nomatch z
  refine ⟨by rw [upd_ne a4]; exact hg.ins, hg.hid.mv ts, by rw [upd_ne n4]; exact hg.ask, hg.wor.mv (upd_ne n1) (by omega) (Nat.le_refl _), hg.con.mv (upd_ne c1) (by omega) (Nat.le_refl _), ⟨_, upd_same, ?_, fun j => ?_, fun j ch pl => ?_⟩, hg.sen.mv (upd_ne d1.symm) ts, hg.don.mv (upd_ne d2.symm) ts, h.ne, ?_, h.big, h.ml⟩
  · have := length_putK kl (Sum.inr c) (.ref q)
    omega
  · show (if j = c then some (k.chain c, k.sent.length) else k.latest j) = none → _
    by_cases hj : j = c
    · rw [if_pos hj]
      intro z
      cases z
    · rw [if_neg hj, valV_put, if_neg (fun z => hj (Sum.inr.inj z))]
      exact e3 j
  · show (if j = c then some (k.chain c, k.sent.length) else k.latest j) = some (ch, pl) → _
    by_cases hj : j = c
    · rw [if_pos hj]
      intro z
      injection z with z
      injection z with z1 z2
      subst hj
      subst z1
      subst z2
      refine ⟨⟨q, by rw [valV_put, if_pos rfl], ts _ _ hq⟩, lc _, Nat.le_refl _⟩
    · rw [if_neg hj]
      intro z
      obtain ⟨⟨q', q1, q2⟩, q3, q4⟩ := e4 j ch pl z
      refine ⟨⟨q', by rw [valV_put, if_neg (fun z => hj (Sum.inr.inj z))]; exact q1, ts _ _ (s _ _ q2)⟩, by omega, q4⟩
  · exact ⟨by show k.sent.length ≤ _; omega, by show k.done.length ≤ _; omega, by show k.taken ≤ _; omega, by omega, m5⟩
/-- a letter is sent -/
theorem WkM.send (h : WkM K C H A k t b) (ht : t < 900) : ∃ vs : List V, H A.s = some (.lst vs) ∧ vs.length < sizeLine ∧ Paired (LetR H) vs k.sent ∧ ∀ (w v : Str) (x : V), LetR H x (w, v) → WkM K C (upd H A.s (.lst (vs ++ [x]))) A (k.send w v) (t + 1) b := by
  obtain ⟨⟨a1, a2, a3, a4, a5, a6⟩, ⟨b1, b2, b3⟩, ⟨c1, c2, c3, c4⟩, ⟨d1, d2⟩, f1, f2⟩ := h.apart
  obtain ⟨n1, n2, n3, n4⟩ := h.ne
  obtain ⟨m1, m2, m3, m4, m5⟩ := h.num
  obtain ⟨vs, e1, e2⟩ := h.sen
  have l := e2.length
  have line : (1000 : Nat) < sizeLine := by decide
  refine ⟨vs, e1, by omega, e2, fun w v x hx => ?_⟩
  have ts : TupS H (upd H A.s (.lst (vs ++ [x]))) := TupS.put e1 fun _ z => nomatch z
  refine ⟨by rw [upd_ne a5]; exact h.ins, h.hid.mv ts, by rw [upd_ne f1.symm]; exact h.ask, h.wor.mv (upd_ne b2) (by omega) (Nat.le_refl _), h.con.mv (upd_ne c2) (by omega) (Nat.le_refl _), h.lat.mv (upd_ne d1) ts (by omega) (by unfold Wk.send; simp), ⟨_, upd_same, Paired.app (L2.Paired.mapP e2 fun _ _ z => z.mv ts) (.cons (hx.mv ts) .nil)⟩, h.don.mv (upd_ne n2.symm) ts, h.ne, ?_, h.big, h.ml⟩
  refine ⟨by show (k.sent ++ [_]).length ≤ _; simp; omega, by show k.done.length ≤ _; omega, by show k.taken ≤ _; omega, by omega, m5⟩
/-- an access is done -/
theorem WkM.note (h : WkM K C H A k t b) (ht : t < 900) : ∃ vs : List V, H A.d = some (.lst vs) ∧ vs.length < sizeLine ∧ ∀ (w c v : Str) (x : V) (G : Hp), Same H G → AccR G x (w, c, k.sent.length, v) → WkM K C (upd G A.d (.lst (vs ++ [x]))) A (k.note w c v) (t + 1) b := by
  obtain ⟨n1, n2, n3, n4⟩ := h.ne
  obtain ⟨m1, m2, m3, m4, m5⟩ := h.num
  obtain ⟨vs, e1, e2⟩ := h.don
  have l := e2.length
  have line : (1000 : Nat) < sizeLine := by decide
  refine ⟨vs, e1, by omega, fun w c v x G s hx => ?_⟩
  have hg := h.mv s
  obtain ⟨⟨a1, a2, a3, a4, a5, a6⟩, ⟨b1, b2, b3⟩, ⟨c1, c2, c3, c4⟩, ⟨d1, d2⟩, f1, f2⟩ := hg.apart
  have ts : TupS G (upd G A.d (.lst (vs ++ [x]))) := TupS.put (s _ _ e1) fun _ z => nomatch z
  refine ⟨by rw [upd_ne a6]; exact hg.ins, hg.hid.mv ts, by rw [upd_ne f2.symm]; exact hg.ask, hg.wor.mv (upd_ne b3) (by omega) (Nat.le_refl _), hg.con.mv (upd_ne c3) (by omega) (Nat.le_refl _), hg.lat.mv (upd_ne d2) ts (by omega) (Nat.le_refl _), hg.sen.mv (upd_ne n2) ts, ⟨_, upd_same, Paired.app (L2.Paired.mapP e2 fun _ _ z => (z.mv (TupS.same s)).mv ts) (.cons (hx.mv ts) .nil)⟩, h.ne, ?_, h.big, h.ml⟩
  refine ⟨by show k.sent.length ≤ _; omega, by show (k.done ++ [_]).length ≤ _; simp; omega, by show k.taken ≤ _; omega, by omega, m5⟩
/-- one get more -/
theorem WkM.take (h : WkM K C H A k t b) (ht : t < 900) : WkM K C (upd H A.me (.ins C A.dx (A.fs (k.taken + 1)))) A { k with taken := k.taken + 1 } (t + 1) b := by
  obtain ⟨⟨a1, a2, a3, a4, a5, a6⟩, ⟨b1, b2, b3⟩, ⟨c1, c2, c3, c4⟩, ⟨d1, d2⟩, f1, f2⟩ := h.apart
  obtain ⟨m1, m2, m3, m4, m5⟩ := h.num
  have ts : TupS H (upd H A.me (.ins C A.dx (A.fs (k.taken + 1)))) := TupS.put h.ins fun _ z => nomatch z
  exact ⟨upd_same, h.hid.mv ts, by rw [upd_ne a1.symm]; exact h.ask, h.wor.mv (upd_ne a2.symm) (by omega) (Nat.le_refl _), h.con.mv (upd_ne a3.symm) (by omega) (Nat.le_refl _), h.lat.mv (upd_ne a4.symm) ts (by omega) (Nat.le_refl _), h.sen.mv (upd_ne a5.symm) ts, h.don.mv (upd_ne a6.symm) ts, h.ne, ⟨by show k.sent.length ≤ _; omega, by show k.done.length ≤ _; omega, by show k.taken + 1 ≤ _; omega, by omega, m5⟩, h.big, h.ml⟩
end
end OM

namespace OM
open PySem PySem.Spec PyProof.Rows L2
abbrev sCcb : Stmt := top 62
abbrev sWorth : Stmt := inStK 59 11
abbrev sContent : Stmt := inStK 59 12
abbrev sAddL : Stmt := inStK 59 9
abbrev sNextC : Stmt := inStK 59 10
/-- a list that grows to what is known -/
def PvV (H : Hp) (D : Addr) (vs : List V) (i : Nat) (H' : Hp) : Prop := Same H H' ∧ H' D = some (.lst (vs.take i))
theorem PvV.zero {H : Hp} {D : Addr} {vs : List V} (hD : H D = none) : PvV H D vs 0 (upd H D (.lst [])) := ⟨same_upd hD, upd_same⟩
theorem PvV.step {H H3 H4 : Hp} {D : Addr} {vs : List V} {i : Nat} {v : V} (hD : H D = none) (hl : vs.length ≤ 1000) (hb : vs[i]? = some v) (p : PvV H D vs i H3) (s : Same H3 H4) : ∃ acc, H4 D = some (.lst acc) ∧ acc.length < sizeLine ∧ PvV H D vs (i + 1) (upd H4 D (.lst (acc ++ [v]))) := by
  refine ⟨_, s _ _ p.2, ?_, same_put hD (p.1.trans s), ?_⟩
  · rw [List.length_take]
    have : (1000 : Nat) < sizeLine := by decide
    omega
  · rw [upd_same, List.take_add_one, hb]
    rfl
theorem PvV.all {H H5 : Hp} {D : Addr} {vs : List V} {n : Nat} (p : PvV H D vs n H5) (hn : n = vs.length) : Same H H5 ∧ H5 D = some (.lst vs) := by
  have e := p.2
  rw [hn, List.take_length] at e
  exact ⟨p.1, e⟩
theorem cut_ab {xs : List V} {a b : Nat} (ha : a ≤ xs.length) (hb : b ≤ xs.length) : cutV xs (some ((a : Nat) : Int)) (some ((b : Nat) : Int)) = (xs.drop a).take (b - a) := by
  unfold cutV
  rw [HT.sIx_nat, HT.sIx_nat, Nat.min_eq_left ha, Nat.min_eq_left hb]
theorem cut_from {xs : List V} {a : Nat} (h : a ≤ xs.length) : cutV xs (some ((a : Nat) : Int)) none = xs.drop a := by
  unfold cutV
  rw [HT.sIx_nat, HT.sIx_none, Nat.min_eq_left h, List.take_of_length_le (by rw [List.length_drop]; exact Nat.le_refl _)]
theorem drop_first {p : Str} : ∀ {ks : List Str}, ks.contains p = true → ∃ j, ks[j]? = some p ∧ (∀ m < j, ∀ z, ks[m]? = some z → z ≠ p) ∧ (ks.dropWhile fun x => decide (x ≠ p)) = ks.drop j
  | [], h => by cases h
  | x :: r, h => by
    by_cases hx : x = p
    · subst hx
      refine ⟨0, rfl, fun m hm => absurd hm (Nat.not_lt_zero _), ?_⟩
      rw [List.dropWhile_cons, if_neg (by simp)]
      rfl
    · rw [List.contains_cons] at h
      have hr : r.contains p = true := by
        rcases Bool.or_eq_true_iff.mp h with z | z
        · exact absurd (beq_iff_eq.mp z).symm hx
        · exact z
      obtain ⟨j, h1, h2, h3⟩ := drop_first hr
      refine ⟨j + 1, by simpa using h1, fun m hm z hz => ?_, ?_⟩
      · cases m with
        | zero =>
          simp at hz
          subst hz
          exact hx
        | succ m => exact h2 m (by omega) z (by simpa using hz)
      · rw [List.dropWhile_cons, if_pos (by simpa using hx), h3]
        rfl
theorem drop_none {p : Str} : ∀ {ks : List Str}, ks.contains p = false → (ks.dropWhile fun x => decide (x ≠ p)) = []
  | [], _ => rfl
  | x :: r, h => by
    rw [List.contains_cons, Bool.or_eq_false_iff] at h
    have hx : x ≠ p := fun z => by
      have := h.1
      rw [z] at this
      simp at this
    rw [List.dropWhile_cons, if_pos (by simpa using hx)]
    exact drop_none h.2
theorem btw_no {ks : List Str} (h : ks.contains ("put" : Str) = false) : btw ks = false := by
  unfold btw
  rw [drop_none h]
  rfl
theorem flat_strs (l : List Str) : (l.map V.str).all flatV = true := by
  rw [List.all_map]
  exact List.all_eq_true.mpr fun _ _ => rfl
/-- letters, as a list or a tuple at a -/
def spCcb (K : PySem.W.Frag) : Sp := fun vs H Q _ => ∃ (a : Addr) (xs : List V) (ls : List (Str × Str)) (p q : Nat), vs = [.ref a, .int p, .int q] ∧ SqL K H a xs ∧ Paired (LetR H) xs ls ∧ p ≤ ls.length ∧ q ≤ ls.length ∧ ls.length ≤ 1000 ∧ ∀ H', Same H H' → Q (.bl (btw (kindsP ls p q))) H'
section
variable {P : Program} {w : World} {K : PySem.W.Frag} {mg : Str → Option Value} {base : Heap} {f : Addr} {fd : FuncData}
theorem scCcb : FnScope ["letters", "place", "after", "kinds", "letter"] ["letters", "place", "after"] (defScope sCcb) := ⟨rfl, rfl, rfl, by decide +kernel, rfl, by decide +kernel, by decide +kernel⟩
theorem ok_ccb (F : Fun K "can_come_between" "can_come_between" sCcb f fd) : FnOk P w K mg base CX0 1 f fd ["letters", "place", "after"] (spCcb K) := by
  refine F.ok scCcb (fun vs H Q E h => ?_) (fun cdv A outer s H vs Q E hr h => ?_)
  · obtain ⟨a, xs, ls, p, q, rfl, _⟩ := h
    rfl
  · obtain ⟨a, xs, ls, p, q, rfl, hs, hx, pq, ql, l9, k⟩ := h
    refine ⟨_, pss_cons (ps_setLc (i := 3) (own := [("letter", 4)]) rfl scCcb.nd rfl rfl (by rfl) (pi_list (pe_slice sl_list (pv 0) (po_some (pv 1)) (po_some (pv 2)))) (blkOk_by (N := ["letters", "place", "after", "kinds", "letter"]) (sc := defScope sCcb) (by decide +kernel))
        (fun _ _ _ _ _ => pg_name (i := 4) scCcb.nd rfl (Or.inl rfl)) (fun _ _ _ _ _ => pts_nil) (fun _ _ _ _ _ => pe_ix (r := rIxT K) ix_tup (pv 4) pe_int (fun _ _ => rfl)))
      (pss_one (ps_ret (pe_and (pe_cmpR op_in_seq pe_str (pv 3) (by rfl)) (pe_one (pe_cmpR op_in_seq pe_str (pe_slice sl_list (pv 3) (po_some (pe_bm PySem.F.plainAttrs_list PySem.F.slot_list_index PySem.F.type_list_index mt_index (pv 3) (pa_cons pe_str pa_nil))) po_none) (by rfl)))))), ?_⟩
    have lx := hx.length
    refine ⟨_, rfl, _, rfl, _, rfl, _, rfl, _, rfl, a, xs, rfl, hs, fun p1 hp1 => ?_⟩
    rw [cut_ab (by omega) (by omega)]
    have s1 := same_upd (o := .lst ((xs.drop p).take (q - p))) hp1
    have hx1 : Paired (LetR (upd H p1 (.lst ((xs.drop p).take (q - p))))) ((xs.drop p).take (q - p)) ((ls.drop p).take (q - p)) := Paired.take _ (Paired.drop _ (L2.Paired.mapP hx fun _ _ z => z.mv (TupS.same s1)))
    have lx1 := hx1.length
    have ll : ((ls.drop p).take (q - p)).length ≤ 1000 := by
      rw [List.length_take, List.length_drop]
      omega
    have lk : (kindsP ls p q).length = ((ls.drop p).take (q - p)).length := List.length_map ..
    refine ⟨p1, rfl, ⟨_, SqL.of upd_same⟩, fun D hD => lc_list (xs := (xs.drop p).take (q - p)) (PvV _ D ((kindsP ls p q).map V.str)) (PvV.zero hD) (fun i H' _ pv => SqL.of (pv.1 _ _ upd_same)) (fun i x H3 hi pv => ?_) (fun H5 pv => ?_)⟩
    · obtain ⟨l, hl, b, rfl, eb⟩ := Paired.at hx1 hi
      refine ⟨rfl, _, rfl, b, _, 0, .str l.1, rfl, rfl, SqT.of (pv.1 _ _ eb), at0, ?_⟩
      refine pv.step hD (by rw [List.length_map]; omega) ?_ (Same.refl H3)
      unfold kindsP
      rw [List.getElem?_map, List.getElem?_map, hl]
      rfl
    · obtain ⟨s5, e5⟩ := pv.all (by rw [List.length_map]; omega)
      have s15 := s1.trans s5
      refine ⟨_, rfl, D, _, rfl, .inl (SqL.of e5), rfl, flat_strs _, ?_⟩
      show ∃ c, V.bl (inV (.str "put") ((kindsP ls p q).map V.str)) = V.bl c ∧ _
      rw [inV_strs]
      refine ⟨_, rfl, ?_⟩
      cases hc : (kindsP ls p q).contains ("put" : Str) with
      | false =>
        refine iteF ?_
        rw [← btw_no hc]
        exact k _ s15
      | true =>
        obtain ⟨j, h1, h2, h3⟩ := drop_first hc
        have lj : j < (kindsP ls p q).length := (List.getElem?_eq_some_iff.mp h1).1
        refine iteT ⟨_, rfl, _, rfl, .inl ⟨rfl, _, SqL.of e5⟩, D, _, .str "put", j, .str "put", rfl, rfl, SqL.of e5, rfl, flat_strs _, by rw [List.getElem?_map, h1]; rfl, by decide +kernel, fun m z hm hz => ?_, (j : Int), rfl, D, _, rfl, SqL.of e5, fun p6 hp6 => ?_⟩
        · rw [List.getElem?_map] at hz
          obtain ⟨y, hy, rfl⟩ := Option.map_eq_some_iff.mp hz
          have := h2 m hm y hy
          show (y == ("put" : Str)) = false
          exact beq_eq_false_iff_ne.mpr this
        · rw [cut_from (by rw [List.length_map]; omega), ← List.map_drop]
          refine ⟨p6, _, rfl, .inl (SqL.of upd_same), rfl, flat_strs _, ?_⟩
          show Q (.bl (inV (.str "get") (((kindsP ls p q).drop j).map V.str))) _
          rw [inV_strs]
          have e : ((kindsP ls p q).drop j).contains ("get" : Str) = btw (kindsP ls p q) := by
            unfold btw
            rw [h3]
          rw [e]
          exact k _ (s15.trans (same_upd hp6))
end
end OM

namespace OM
open PySem PySem.Spec PyProof.Rows L2
/-- what may change: the objects of F, no tuple -/
structure Chg (F : List Addr) (H H' : Hp) : Prop where
  keep : ∀ b o, b ∉ F → H b = some o → H' b = some o
  tups : TupS H H'
theorem Chg.refl (F : List Addr) (H : Hp) : Chg F H H := ⟨fun _ _ _ e => e, fun _ _ e => e⟩
theorem Chg.same {F : List Addr} {H H' : Hp} (s : Same H H') : Chg F H H' := ⟨fun b o _ e => s b o e, .same s⟩
theorem Chg.trans {F : List Addr} {H H1 H2 : Hp} (a : Chg F H H1) (b : Chg F H1 H2) : Chg F H H2 := ⟨fun c o n e => b.keep c o n (a.keep c o n e), a.tups.trans b.tups⟩
theorem Chg.put {F : List Addr} {H : Hp} {a : Addr} {u o : HO} (ha : a ∈ F) (h : H a = some u) (n : ∀ xs, u ≠ .tup xs) : Chg F H (upd H a o) := ⟨fun b v hb e => by
  rw [upd_ne (fun z => hb (by rw [z]; exact ha))]
  exact e, .put h n⟩
theorem cutNG {A : Prop} {R C : Int → Hp → Prop} (f : (∀ n G, R n G → C n G) → A) (b : ∀ n G, R n G → C n G) : A := f b
/-- what the class Walk must have -/
structure WkC (K : PySem.W.Frag) (C : Addr) : Prop where
  cl : Cls K C
  na : ∀ f ∈ ([("told" : Str), "hidden", "asked", "lacking", "is_over", "worths", "contents", "latest", "sent", "taken", "done"] : List Str), NoAttr K C f
section
variable {K : PySem.W.Frag} {C : Addr}
theorem WkC.nt (R : WkC K C) : NoAttr K C "told" := R.na _ (by simp)
theorem WkC.nh (R : WkC K C) : NoAttr K C "hidden" := R.na _ (by simp)
theorem WkC.nas (R : WkC K C) : NoAttr K C "asked" := R.na _ (by simp)
theorem WkC.nlk (R : WkC K C) : NoAttr K C "lacking" := R.na _ (by simp)
theorem WkC.no (R : WkC K C) : NoAttr K C "is_over" := R.na _ (by simp)
theorem WkC.nw (R : WkC K C) : NoAttr K C "worths" := R.na _ (by simp)
theorem WkC.nc (R : WkC K C) : NoAttr K C "contents" := R.na _ (by simp)
theorem WkC.nl (R : WkC K C) : NoAttr K C "latest" := R.na _ (by simp)
theorem WkC.ns (R : WkC K C) : NoAttr K C "sent" := R.na _ (by simp)
theorem WkC.ntk (R : WkC K C) : NoAttr K C "taken" := R.na _ (by simp)
theorem WkC.nd (R : WkC K C) : NoAttr K C "done" := R.na _ (by simp)
end
theorem empty_cat (c : Str) : Str.empty ++ c = c := PySem.Str.ext' (by rw [PySem.Str.cps_append]; exact Array.empty_append)
def spWorth (K : PySem.W.Frag) (C : Addr) : Sp := fun vs H Q _ => ∃ (A : Ad) (k : Wk) (t b : Nat) (n : Str), vs = [.ref A.me, .str n] ∧ WkM K C H A k t b ∧ Q (.str (k.worth n)) H
def spContent (K : PySem.W.Frag) (C : Addr) : Sp := fun vs H Q _ => ∃ (A : Ad) (k : Wk) (t b : Nat) (c : Str) (ch : Nat), vs = [.ref A.me, .str c, .int ch] ∧ WkM K C H A k t b ∧ Nm c ∧ ch < 1000 ∧ ∀ H', Same H H' → Q (.str (k.content c ch)) H'
def spAddL (K : PySem.W.Frag) (C : Addr) : Sp := fun vs H Q _ => ∃ (A : Ad) (k : Wk) (t b : Nat) (x : V) (w v : Str), vs = [.ref A.me, x] ∧ WkM K C H A k t b ∧ t < 900 ∧ LetR H x (w, v) ∧ ∀ H', Chg A.own H H' → WkM K C H' A (k.send w v) (t + 1) b → Q .non H'
def spNextC (K : PySem.W.Frag) (C : Addr) : Sp := fun vs H Q _ => ∃ (A : Ad) (k : Wk) (t b : Nat) (c : Str) (kd : V), vs = [.ref A.me, kd, .str c] ∧ WkM K C H A k t b ∧ t < 900 ∧ ∀ H', Chg A.own H H' → WkM K C H' A (k.mark c) (t + 1) b → Q (.int (k.chain c : Nat)) H'
theorem worth_len {K : PySem.W.Frag} {C : Addr} {H : Hp} {A : Ad} {k : Wk} {t b : Nat} (h : WkM K C H A k t b) {n : Str} (hn : Nm n) : (k.worth n).length ≤ b := by
  obtain ⟨kw, _, _, _, e4⟩ := h.wor
  have := nm_len hn
  have := h.big
  unfold Wk.worth
  cases hw : k.worths n with
  | none =>
    show n.length ≤ b
    omega
  | some v => exact e4 n v hw
theorem unk_len {c : Str} {ch : Nat} (hc : Nm c) (h : ch < 1000) : (unk c ch).length ≤ 12 := by
  unfold unk
  have := nm_len hc
  have := num_small ch h
  rw [strLen_append, strLen_append]
  have e : ("." : Str).length = 1 := by decide +kernel
  omega
theorem content_len {K : PySem.W.Frag} {C : Addr} {H : Hp} {A : Ad} {k : Wk} {t b : Nat} (h : WkM K C H A k t b) {c : Str} {ch : Nat} (hn : Nm c) (hc : ch < 1000) : (k.content c ch).length ≤ b := by
  obtain ⟨kw, _, _, _, e4⟩ := h.con
  have := unk_len hn hc
  have := h.big
  unfold Wk.content
  cases hw : k.conts c ch with
  | none =>
    show (unk c ch).length ≤ b
    omega
  | some v => exact e4 c ch v hw
section
variable {P : Program} {w : World} {K : PySem.W.Frag} {mg : Str → Option Value} {base : Heap} {f C fC : Addr} {fd dC : FuncData}
theorem scWorth : FnScope ["self", "name"] ["self", "name"] (defScope sWorth) := ⟨rfl, rfl, rfl, by decide +kernel, rfl, by decide +kernel, by decide +kernel⟩
theorem ok_worth (F : Fun K "worth" "Walk.worth" sWorth f fd) (R : WkC K C) : FnOk P w K mg base CX0 1 f fd ["self", "name"] (spWorth K C) := by
  refine F.ok scWorth (fun vs H Q E h => ?_) (fun cdv A outer s H vs Q E hr h => ?_)
  · obtain ⟨A, k, t, b, n, rfl, _⟩ := h
    rfl
  · obtain ⟨A, k, t, b, n, rfl, h, q⟩ := h
    refine ⟨_, pss_one (ps_ret (pe_dget2 (hu_of hr) (pe_fld (pv 0) rfl) (pv 1) (pv 1) ⟨rfl, rfl, rfl, rfl⟩)), ?_⟩
    obtain ⟨kw, e1, e2, e3, e4⟩ := h.wor
    refine ⟨_, rfl, A.me, C, A.dx, _, .ref A.w, rfl, h.ins, R.cl, R.nw, rfl, A.w, rfl, .inl ⟨kw, .inl e1⟩, _, rfl, _, rfl, _, DGet.k (k := Sum.inr n) e1, ?_⟩
    rw [e3]
    have e : ((k.worths n).map V.str).getD (.str n) = .str (k.worth n) := by
      unfold Wk.worth
      cases k.worths n <;> rfl
    rw [e]
    exact q
theorem scContent : FnScope ["self", "cell", "chain"] ["self", "cell", "chain"] (defScope sContent) := ⟨rfl, rfl, rfl, by decide +kernel, rfl, by decide +kernel, by decide +kernel⟩
theorem ok_content (F : Fun K "content" "Walk.content" sContent f fd) (R : WkC K C) : FnOk P w K mg base CX0 1 f fd ["self", "cell", "chain"] (spContent K C) := by
  refine F.ok scContent (fun vs H Q E h => ?_) (fun cdv A outer s H vs Q E hr h => ?_)
  · obtain ⟨A, k, t, b, c, ch, rfl, _⟩ := h
    rfl
  · obtain ⟨A, k, t, b, c, ch, rfl, h, hc, hch, q⟩ := h
    refine ⟨_, pss_one (ps_ret (pe_dget2 (hu_of hr) (pe_fld (pv 0) rfl) (pe_tup (pa_cons (pv 1) (pa_cons (pv 2) pa_nil))) (pe_joined (.cons (pe_fmt (pv 1)) (.cons pe_str (.cons (pe_fmt (pv 2)) .nil)))) ⟨rfl, rfl, rfl, rfl⟩)), ?_⟩
    obtain ⟨kc, e1, e2, e3, e4⟩ := h.con
    have lc := nm_len hc
    have ln := num_small ch hch
    have line : (1000 : Nat) < sizeLine := by decide
    have ed : ("." : Str).length = 1 := by decide +kernel
    refine ⟨_, rfl, A.me, C, A.dx, _, .ref A.c, rfl, h.ins, R.cl, R.nc, rfl, A.c, rfl, .inr ⟨kc, .inl e1⟩, _, rfl, _, rfl, (by show 2 ≤ sizeLine; decide), fun p hp => ?_⟩
    have s1 := same_upd (o := .tup [.str c, .int (ch : Nat)]) hp
    have e0 : Str.empty ++ c = c := empty_cat c
    refine ⟨_, rfl, .inl ⟨c, rfl, by omega, c, rfl, by rw [e0]; omega, ?_⟩⟩
    rw [e0]
    refine ⟨_, rfl, by rw [strLen_append]; omega, ?_⟩
    refine ⟨_, rfl, .inr ⟨_, rfl, log_small hch, numS ch, rfl, by rw [strLen_append, strLen_append]; omega, ?_⟩⟩
    refine ⟨_, DGet.t (kvs := kc) (k := [Sum.inr c, Sum.inl ((ch : Nat) : Int)]) (s1 _ _ e1) upd_same, ?_⟩
    rw [e3]
    have e : ((k.conts c ch).map V.str).getD (.str ((c ++ ("." : Str)) ++ numS ch)) = .str (k.content c ch) := by
      unfold Wk.content unk
      cases k.conts c ch <;> rfl
    show Q (((k.conts c ch).map V.str).getD (.str ((c ++ ("." : Str)) ++ numS ch))) _
    rw [e]
    exact q _ s1
theorem scAddL : FnScope ["self", "letter"] ["self", "letter"] (defScope sAddL) := ⟨rfl, rfl, rfl, by decide +kernel, rfl, by decide +kernel, by decide +kernel⟩
theorem ok_addL (F : Fun K "add_letter" "Walk.add_letter" sAddL f fd) (R : WkC K C) : FnOk P w K mg base CX0 1 f fd ["self", "letter"] (spAddL K C) := by
  refine F.ok scAddL (fun vs H Q E h => ?_) (fun cdv A outer s H vs Q E hr h => ?_)
  · obtain ⟨A, k, t, b, x, w1, v, rfl, _⟩ := h
    rfl
  · obtain ⟨A, k, t, b, x, w1, v, rfl, h, ht, hx, q⟩ := h
    refine ⟨_, pss_one (ps_expr (pe_bm PySem.F.plainAttrs_list PySem.F.slot_list_append PySem.F.type_list_append mt_append (pe_fld (pv 0) rfl) (pa_cons (pv 1) pa_nil))), ?_⟩
    obtain ⟨vs, e1, e2, e3, e4⟩ := h.send ht
    refine ⟨_, rfl, A.me, C, A.dx, _, .ref A.s, rfl, h.ins, R.cl, R.ns, rfl, .inl ⟨rfl, _, SqL.of e1⟩, _, rfl, A.s, vs, x, rfl, rfl, e1, e2, ?_⟩
    exact q _ (.put (by unfold Ad.own; simp) e1 fun _ z => nomatch z) (e4 w1 v x hx)
theorem scNextC : FnScope ["self", "kind", "cell", "here", "chain", "place"] ["self", "kind", "cell"] (defScope sNextC) := ⟨rfl, rfl, rfl, by decide +kernel, rfl, by decide +kernel, by decide +kernel⟩
theorem ok_nextC (F : Fun K "next_chain" "Walk.next_chain" sNextC f fd) (R : WkC K C) (ln : mg "len" = none) (gC : mg "can_come_between" = some (.ref fC)) (kC : PySem.W.keepIn K (.ref fC) = true) (bC : Binds K dC ["letters", "place", "after"] []) (GC : FnOk P w K mg base CX0 1 fC dC ["letters", "place", "after"] (spCcb K)) :
    FnOk P w K mg base CX0 2 f fd ["self", "kind", "cell"] (spNextC K C) := by
  refine F.ok scNextC (fun vs H Q E h => ?_) (fun cdv A outer s H vs Q E hr h => ?_)
  · obtain ⟨A, k, t, b, c, kd, rfl, _⟩ := h
    rfl
  · obtain ⟨A, k, t, b, c, kd, rfl, h, ht, q⟩ := h
    refine ⟨_, pss_cons (ps_set (i := 3) scNextC.nd rfl (Or.inl rfl) (pe_callB call_len_seq (by rfl) ln PySem.boot_len (pa_cons (pe_fld (pv 0) rfl) pa_nil)))
      (pss_cons (ps_asg (pe_dget2 (hu_of hr) (pe_fld (pv 0) rfl) (pv 2) (pe_tup (pa_cons pe_int (pa_cons (pv 3) pa_nil))) ⟨rfl, rfl, rfl, rfl⟩) (pg_tup rfl (pgs_cons (pg_name (i := 4) scNextC.nd rfl (Or.inl rfl)) (pgs_cons (pg_name (i := 5) scNextC.nd rfl (Or.inl rfl)) pgs_nil))))
      (pss_cons (ps_if (PW.pt (pw_and (pt_cmpR op_notIn_seq (pv 2) (pe_fld (pv 0) rfl) (by rfl)) (pw_and1 (pt_val (pe_call GC hr (by rfl) gC kC bC .nil pass0 (pa_cons (pe_fld (pv 0) rfl) (pa_cons (pv 5) (pa_cons (pv 3) pa_nil)))))))) (pss_one (ps_aug (i := 4) scNextC.nd rfl (Or.inl rfl) pe_int ip_add)) pss_nil)
      (pss_cons (ps_dput (hu_of hr) (pe_fld (pv 0) rfl) (pv 2) (pe_tup (pa_cons (pv 4) (pa_cons (pv 3) pa_nil))) rfl)
      (pss_one (ps_ret (pv 4)))))), ?_⟩
    obtain ⟨kl, el, ll, l9, lc, mk⟩ := h.mark ht
    obtain ⟨vs, es, ps⟩ := h.sen
    have lv := ps.length
    obtain ⟨kl', el', _, f3, f4⟩ := h.lat
    have ek : kl' = kl := by
      rw [el] at el'
      injection el' with z
      injection z with z
      exact z.symm
    subst ek
    refine ⟨_, rfl, A.me, C, A.dx, _, .ref A.s, rfl, h.ins, R.cl, R.ns, rfl, A.s, vs, rfl, .inl (SqL.of es), ?_⟩
    rw [lv]
    refine ⟨_, rfl, A.me, C, A.dx, _, .ref A.l, rfl, h.ins, R.cl, R.nl, rfl, A.l, rfl, .inl ⟨_, .inl el⟩, _, rfl, _, rfl, (by show 2 ≤ sizeLine; decide), fun p hp => ?_⟩
    have s1 := same_upd (o := .tup [.int 1, .int (k.sent.length : Nat)]) hp
    refine ⟨_, DGet.k (k := Sum.inr c) (s1 _ _ el), ?_⟩
    have key : ∃ z ch pl, (valV kl' (Sum.inr c)).getD (.ref p) = .ref z ∧ (upd H p (.tup [.int 1, .int (k.sent.length : Nat)])) z = some (.tup [.int (ch : Nat), .int (pl : Nat)]) ∧ pl ≤ k.sent.length ∧ k.chain c = (if !k.hid.contains c && btw (kindsP k.sent pl k.sent.length) then ch + 1 else ch) := by
      cases hl : k.latest c with
      | none =>
        refine ⟨p, 1, k.sent.length, by rw [f3 c hl]; rfl, upd_same, Nat.le_refl _, ?_⟩
        have e : kindsP k.sent k.sent.length k.sent.length = [] := by
          unfold kindsP
          rw [Nat.sub_self, List.take_zero]
          rfl
        unfold Wk.chain
        rw [hl, e]
        have : btw [] = false := by decide +kernel
        rw [this, Bool.and_false]
        rfl
      | some x =>
        obtain ⟨ch, pl⟩ := x
        obtain ⟨⟨z, z1, z2⟩, _, z3⟩ := f4 c ch pl hl
        refine ⟨z, ch, pl, by rw [z1]; rfl, s1 _ _ z2, z3, ?_⟩
        unfold Wk.chain
        rw [hl]
    obtain ⟨z, ch, pl, ez, e3, lpl, ech⟩ := key
    rw [ez]
    refine ⟨z, _, rfl, SqT.of e3, rfl, _, _, rfl, _, _, rfl, rfl, ?_⟩
    have h1 := h.mv s1
    refine ⟨_, rfl, _, rfl, A.me, C, A.dx, _, .ref A.hid, rfl, h1.ins, R.cl, R.nh, rfl, A.hid, _, rfl, .inr h1.hid.seq, rfl, flat_strs _, ?_⟩
    show ∃ b, V.bl (!inV (.str c) (k.hid.map V.str)) = .bl b ∧ _
    rw [inV_strs]
    refine ⟨_, rfl, ?_⟩
    apply cutNG (R := fun n G => Same H G ∧ n = (k.chain c : Nat))
    · intro cont
      cases hc : k.hid.contains c with
      | true =>
        rw [hc] at ech
        refine iteF (iteF ?_)
        obtain ⟨n, hn⟩ : ∃ n : Int, n = ((ch : Nat) : Int) := ⟨_, rfl⟩
        rw [← hn]
        exact cont n _ ⟨s1, by rw [hn, ech]; rfl⟩
      | false =>
        rw [hc] at ech
        refine iteT ⟨_, rfl, A.me, C, A.dx, _, .ref A.s, rfl, h1.ins, R.cl, R.ns, rfl, _, rfl, _, rfl, A.s, vs, k.sent, pl, k.sent.length, rfl, SqL.of (s1 _ _ es), L2.Paired.mapP ps fun _ _ z => z.mv (TupS.same s1), lpl, Nat.le_refl _, by omega, fun H2 s2 => ⟨_, rfl, ?_⟩⟩
        cases hb : btw (kindsP k.sent pl k.sent.length) with
        | true =>
          rw [hb] at ech
          exact iteT ⟨_, rfl, _, _, rfl, rfl, cont (((ch : Nat) : Int) + 1) _ ⟨s1.trans s2, by rw [ech]; rfl⟩⟩
        | false =>
          rw [hb] at ech
          exact iteF (cont ((ch : Nat) : Int) _ ⟨s1.trans s2, by rw [ech]; rfl⟩)
    · rintro n G ⟨s2, rfl⟩
      have h2 := h.mv s2
      refine ⟨_, rfl, _, rfl, (by show 2 ≤ sizeLine; decide), fun p2 hp2 => ?_⟩
      have s3 := s2.trans (same_upd (o := .tup [.int (k.chain c : Nat), .int (k.sent.length : Nat)]) hp2)
      have h3 := h.mv s3
      refine ⟨_, rfl, A.me, C, A.dx, _, .ref A.l, rfl, h3.ins, R.cl, R.nl, rfl, _, rfl, A.l, _, rfl, DPut.k (k := Sum.inr c) (s3 _ _ el) ll, _, rfl, ?_⟩
      exact q _ ((Chg.same s3).trans (.put (by unfold Ad.own; simp) (s3 _ _ el) fun _ z => nomatch z)) (mk _ c p2 s3 upd_same)
end
end OM

namespace OM
open PySem PySem.Spec PyProof.Rows L2
abbrev sWritten : Stmt := top 22
abbrev sDo : Stmt := inStK 59 5
abbrev sDoR : Stmt := inStK 59 6
abbrev sDoW : Stmt := inStK 59 7
abbrev sDoG : Stmt := inStK 59 8
def MethN (P : Program) (w : World) (K : PySem.W.Frag) (mg : Str → Option Value) (base : Heap) (C : Addr) (m : Str) (k : Nat) (ps : List Str) (sp : Sp) : Prop := ∃ (g : Addr) (d : FuncData), Meth K C m g ∧ Binds K d ps [] ∧ FnOk P w K mg base CX0 k g d ps sp
def CallN (P : Program) (w : World) (K : PySem.W.Frag) (mg : Str → Option Value) (base : Heap) (name : Str) (k : Nat) (ps : List Str) (sp : Sp) : Prop := ∃ (g : Addr) (d : FuncData), mg name = some (.ref g) ∧ PySem.W.keepIn K (.ref g) = true ∧ Binds K d ps [] ∧ FnOk P w K mg base CX0 k g d ps sp
def Stm.grow (b : Nat) : Stm → Nat
  | .set _ _ as => if as = [] then b else 2 * b + 12
  | _ => b
theorem grow_le {s : Stm} {b : Nat} : b ≤ s.grow b := by
  cases s with
  | set r f as =>
    unfold Stm.grow
    dsimp only
    split <;> omega
  | _ => exact Nat.le_refl _
def spWrit (K : PySem.W.Frag) : Sp := fun vs H Q _ => ∃ (f : Str) (p : Addr) (as : List Str) (b : Nat), vs = [.str f, .ref p] ∧ f.length ≤ 8 ∧ SqL K H p (as.map V.str) ∧ as.length ≤ 2 ∧ (∀ a ∈ as, a.length ≤ b) ∧ b ≤ 4000000 ∧ Q (.str (wrT f as)) H
theorem join_le {as : List Str} {b : Nat} (h : ∀ a ∈ as, a.length ≤ b) (h2 : as.length ≤ 2) : (as.map (·.length)).sum ≤ 2 * b ∧ (Txt.join (", " : Str) as).length ≤ 2 * b + 2 := by
  have e : (", " : Str).length = 2 := by decide +kernel
  match as, h2 with
  | [], _ => exact ⟨Nat.zero_le _, Nat.zero_le _⟩
  | [x], _ =>
    have := h x (List.mem_singleton.mpr rfl)
    refine ⟨?_, ?_⟩
    · show x.length + 0 ≤ _
      omega
    · rw [TL.join_eq]
      show x.length ≤ _
      omega
  | [x, y], _ =>
    have h1 := h x (by simp)
    have h2 := h y (by simp)
    refine ⟨?_, ?_⟩
    · show x.length + (y.length + 0) ≤ _
      omega
    · rw [TL.join_eq]
      show ((x ++ (", " : Str)) ++ y).length ≤ _
      rw [strLen_append, strLen_append]
      omega
theorem wr_len {f : Str} {as : List Str} {b : Nat} (hf : f.length ≤ 8) (h : ∀ a ∈ as, a.length ≤ b) (h2 : as.length ≤ 2) (hb : 40 ≤ b) : (wrT f as).length ≤ if as = [] then b else 2 * b + 12 := by
  have e1 : ("(" : Str).length = 1 := by decide +kernel
  have e2 : (")" : Str).length = 1 := by decide +kernel
  have j := (join_le h h2).2
  unfold wrT
  rw [strLen_append, strLen_append, strLen_append]
  split
  · rename_i z
    subst z
    have : (Txt.join (", " : Str) []).length = 0 := by
      rw [TL.join_eq]
      rfl
    omega
  · omega
theorem dget_put {H : Hp} {a : Addr} {kw : List (Key × V)} {n : Str} {v : V} (e : H a = some (.dK (putK kw (Sum.inr n) v))) : DGet H a (.str n) (some v) := by
  have := DGet.k (k := Sum.inr n) e
  rw [valV_put, if_pos rfl] at this
  exact this
section
variable {P : Program} {w : World} {K : PySem.W.Frag} {mg : Str → Option Value} {base : Heap} {f C : Addr} {fd : FuncData}
theorem scWr : FnScope ["function", "values", "inside"] ["function", "values"] (defScope sWritten) := ⟨rfl, rfl, rfl, by decide +kernel, rfl, by decide +kernel, by decide +kernel⟩
theorem ok_writ (F : Fun K "written" "written" sWritten f fd) : FnOk P w K mg base CX0 1 f fd ["function", "values"] (spWrit K) := by
  refine F.ok scWr (fun vs H Q E h => ?_) (fun cdv A outer s H vs Q E hr h => ?_)
  · obtain ⟨fn, p, as, b, rfl, _⟩ := h
    rfl
  · obtain ⟨fn, p, as, b, rfl, hf, hp, h2, hl, hb, q⟩ := h
    refine ⟨_, pss_cons (ps_set (i := 2) scWr.nd rfl (Or.inl rfl) (pe_bm PySem.F.plainAttrs_str PySem.F.slot_str_join PySem.F.type_str_join mt_join pe_str (pa_cons (pv 1) pa_nil)))
      (pss_one (ps_ret (pe_joined (.cons (pe_fmt (pv 0)) (.cons pe_str (.cons (pe_fmt (pv 2)) (.cons pe_str .nil))))))), ?_⟩
    have line : (16000000 : Nat) ≤ sizeLine := by decide
    obtain ⟨j1, j2⟩ := join_le hl h2
    refine ⟨rfl, _, rfl, ", ", p, as, rfl, rfl, .inl hp, ?_, ?_⟩
    · have : (", " : Str).length = 2 := by decide +kernel
      rw [this]
      omega
    have l3 : ("(" : Str).length = 1 := by decide +kernel
    have l4 : (")" : Str).length = 1 := by decide +kernel
    have e0 : Str.empty ++ fn = fn := empty_cat fn
    refine ⟨_, rfl, .inl ⟨fn, rfl, by omega, fn, rfl, by rw [e0]; omega, ?_⟩⟩
    rw [e0]
    exact ⟨"(", rfl, by rw [strLen_append]; omega, _, rfl, .inl ⟨_, rfl, by omega, _, rfl, by rw [strLen_append, strLen_append]; omega, ")", rfl, by rw [strLen_append, strLen_append, strLen_append]; omega, q⟩⟩
end
def spDoG (K : PySem.W.Frag) (C : Addr) : Sp := fun vs H Q _ => ∃ (A : Ad) (k : Wk) (t b : Nat) (n : Str), vs = [.ref A.me, .str n] ∧ WkM K C H A k t b ∧ Nm n ∧ t < 890 ∧ ∀ H', Chg A.own H H' → WkM K C H' A (k.get n) (t + 3) b → Q .non H'
def spDoR (K : PySem.W.Frag) (C : Addr) : Sp := fun vs H Q _ => ∃ (A : Ad) (k : Wk) (t b : Nat) (n c : Str), vs = [.ref A.me, .str n, .str c] ∧ WkM K C H A k t b ∧ Nm n ∧ Nm c ∧ t < 890 ∧ ∀ H', Chg A.own H H' → WkM K C H' A (k.read n c) (t + 3) b → Q .non H'
def spDoW (K : PySem.W.Frag) (C : Addr) : Sp := fun vs H Q _ => ∃ (A : Ad) (k : Wk) (t b : Nat) (c n : Str), vs = [.ref A.me, .str c, .str n] ∧ WkM K C H A k t b ∧ Nm c ∧ Nm n ∧ t < 890 ∧ ∀ H', Chg A.own H H' → WkM K C H' A (k.write c n) (t + 3) b → Q .non H'
theorem num_get {n : Nat} (h : n < 1000) : (getT n).length ≤ 7 := by
  unfold getT
  have := num_small n h
  have e : ("get." : Str).length = 4 := by decide +kernel
  rw [strLen_append]
  omega
/-- the methods of a walk that its statements need -/
structure WkF (P : Program) (w : World) (K : PySem.W.Frag) (mg : Str → Option Value) (base : Heap) (C : Addr) : Prop where
  R : WkC K C
  ln : mg "len" = none
  worth : MethN P w K mg base C "worth" 1 ["self", "name"] (spWorth K C)
  content : MethN P w K mg base C "content" 1 ["self", "cell", "chain"] (spContent K C)
  addL : MethN P w K mg base C "add_letter" 1 ["self", "letter"] (spAddL K C)
  nextC : MethN P w K mg base C "next_chain" 2 ["self", "kind", "cell"] (spNextC K C)
section
variable {P : Program} {w : World} {K : PySem.W.Frag} {mg : Str → Option Value} {base : Heap} {f C : Addr} {fd : FuncData}
theorem scDoG : FnScope ["self", "name"] ["self", "name"] (defScope sDoG) := ⟨rfl, rfl, rfl, by decide +kernel, rfl, by decide +kernel, by decide +kernel⟩
theorem ok_doG (F : Fun K "do_get" "Walk.do_get" sDoG f fd) (W : WkF P w K mg base C) : FnOk P w K mg base CX0 2 f fd ["self", "name"] (spDoG K C) := by
  obtain ⟨gA, dA, mA, bA, GA⟩ := W.addL
  have R := W.R
  refine F.ok scDoG (fun vs H Q E h => ?_) (fun cdv A outer s H vs Q E hr h => ?_)
  · obtain ⟨A, k, t, b, n, rfl, _⟩ := h
    rfl
  · obtain ⟨A, k, t, b, n, rfl, h, hn, ht, q⟩ := h
    refine ⟨_, pss_cons (ps_fldaug (pv 0) pe_int in_add)
      (pss_cons (ps_dput (hu_of hr) (pe_fld (pv 0) rfl) (pv 1) (pe_joined (.cons pe_str (.cons (pe_fmt (pe_fld (pv 0) rfl)) .nil))) rfl)
      (pss_one (ps_expr (pe_meth (pv 0) R.cl mA GA hr bA .nil pass0 (pa_cons (pe_tup (pa_cons pe_str (pa_cons (pe_dget (hu_of hr) (pe_fld (pv 0) rfl) (pv 1) (fun _ _ => rfl)) pa_nil))) pa_nil))))), ?_⟩
    obtain ⟨m1, m2, m3, m4, m5⟩ := h.num
    have lxs : (A.fs k.taken).length < 1000 := by
      unfold Ad.fs
      simp only [List.length_cons]
      omega
    refine ⟨_, rfl, A.me, C, A.dx, _, .int (k.taken : Nat), rfl, h.ins, R.cl, R.ntk, rfl, _, _, rfl, rfl, A.dx, _, h.ins, lxs, ?_⟩
    have h1 := h.take (by omega)
    have e0 : Str.empty ++ ("get." : Str) = ("get." : Str) := by decide +kernel
    have lg := num_get (n := k.taken + 1) (by omega)
    have lg' : (("get." : Str) ++ numS (k.taken + 1)).length ≤ 7 := lg
    have line : (1000 : Nat) < sizeLine := by decide
    refine ⟨"get.", rfl, by decide +kernel, ?_⟩
    rw [e0]
    refine ⟨_, rfl, A.me, C, A.dx, _, .int ((k.taken + 1 : Nat) : Int), rfl, h1.ins, R.cl, R.ntk, rfl, .inr ⟨_, rfl, log_small (by omega), numS (k.taken + 1), rfl, by omega, ?_⟩⟩
    obtain ⟨kw, e1, e2, e3⟩ := h1.let (by omega)
    have g1 := h1.big
    refine ⟨_, rfl, A.me, C, A.dx, _, .ref A.w, rfl, h1.ins, R.cl, R.nw, rfl, _, rfl, A.w, _, rfl, DPut.k (k := Sum.inr n) e1 e2, ?_⟩
    have h2 := e3 n (getT (k.taken + 1)) (by omega)
    have c1 : Chg A.own H (upd H A.me (.ins C A.dx (A.fs (k.taken + 1)))) := .put (by unfold Ad.own; simp) h.ins fun _ z => nomatch z
    have c2 := c1.trans (.put (F := A.own) (o := .dK (putK kw (Sum.inr n) (.str (getT (k.taken + 1))))) (by unfold Ad.own; simp) e1 fun _ z => nomatch z)
    refine ⟨_, rfl, A.me, A.dx, _, rfl, h2.ins, h2.ml _ (by unfold mthW; simp), _, rfl, A.me, C, A.dx, _, .ref A.w, rfl, h2.ins, R.cl, R.nw, rfl, _, rfl, A.w, _, rfl, dget_put upd_same, (by show 2 ≤ sizeLine; decide), fun p hp => ?_⟩
    have s3 := same_upd (o := .tup [.str "get", .str (getT (k.taken + 1))]) hp
    refine ⟨A, _, t + 2, b, _, "get", getT (k.taken + 1), rfl, h2.mv s3, by omega, ⟨p, rfl, upd_same⟩, fun H4 c4 h4 => ?_⟩
    exact q H4 ((c2.trans (.same s3)).trans c4) h4
theorem scDoR : FnScope ["self", "name", "cell", "chain"] ["self", "name", "cell"] (defScope sDoR) := ⟨rfl, rfl, rfl, by decide +kernel, rfl, by decide +kernel, by decide +kernel⟩
theorem ok_doR (F : Fun K "do_read" "Walk.do_read" sDoR f fd) (W : WkF P w K mg base C) : FnOk P w K mg base CX0 3 f fd ["self", "name", "cell"] (spDoR K C) := by
  obtain ⟨gN, dN, mN, bN, GN⟩ := W.nextC
  obtain ⟨gC, dC, mC, bC, GC⟩ := W.content
  have R := W.R
  refine F.ok scDoR (fun vs H Q E h => ?_) (fun cdv A outer s H vs Q E hr h => ?_)
  · obtain ⟨A, k, t, b, n, c, rfl, _⟩ := h
    rfl
  · obtain ⟨A, k, t, b, n, c, rfl, h, hn, hc, ht, q⟩ := h
    refine ⟨_, pss_cons (ps_set (i := 3) scDoR.nd rfl (Or.inl rfl) (pe_meth (pv 0) R.cl mN GN hr bN .nil pass0 (pa_cons pe_str (pa_cons (pv 2) pa_nil))))
      (pss_one (ps_if (pt_cmp (pc_notN (pv 3)))
        (pss_cons (ps_dput (hu_of hr) (pe_fld (pv 0) rfl) (pv 1) (pe_meth (pv 0) R.cl mC GC (hr.mono (by decide)) bC .nil pass0 (pa_cons (pv 2) (pa_cons (pv 3) pa_nil))) rfl)
        (pss_one (ps_expr (pe_bm PySem.F.plainAttrs_list PySem.F.slot_list_append PySem.F.type_list_append mt_append (pe_fld (pv 0) rfl) (pa_cons (pe_tup (pa_cons pe_str (pa_cons (pv 2) (pa_cons (pe_callB call_len_seq (by rfl) W.ln PySem.boot_len (pa_cons (pe_fld (pv 0) rfl) pa_nil)) (pa_cons (pe_dget (hu_of hr) (pe_fld (pv 0) rfl) (pv 1) (fun _ _ => rfl)) pa_nil))))) pa_nil)))))
        pss_nil)), ?_⟩
    obtain ⟨_, _, _, _, lc, _⟩ := h.mark (by omega)
    have lch := lc c
    refine ⟨_, rfl, A.me, A.dx, _, rfl, h.ins, h.ml _ (by unfold mthW; simp), _, rfl, A, k, t, b, c, _, rfl, h, by omega, fun H1 c1 h1 => ?_⟩
    refine ⟨_, rfl, _, rfl, ?_⟩
    rw [decide_eq_false (show ¬ V.int (k.chain c : Nat) = V.non from fun z => nomatch z)]
    refine iteT ⟨_, rfl, A.me, A.dx, _, rfl, h1.ins, h1.ml _ (by unfold mthW; simp), _, rfl, _, rfl, A, k.mark c, t + 1, b, c, k.chain c, rfl, h1, hc, by omega, fun H2 s2 => ?_⟩
    have h2 := h1.mv s2
    obtain ⟨kw, e1, e2, e3⟩ := h2.let (by omega)
    refine ⟨_, rfl, A.me, C, A.dx, _, .ref A.w, rfl, h2.ins, R.cl, R.nw, rfl, _, rfl, A.w, _, rfl, DPut.k (k := Sum.inr n) e1 e2, ?_⟩
    have h3 := e3 n ((k.mark c).content c (k.chain c)) (content_len h2 hc (by omega))
    have c3 := (c1.trans (.same s2)).trans (.put (F := A.own) (o := .dK (putK kw (Sum.inr n) (.str ((k.mark c).content c (k.chain c))))) (by unfold Ad.own; simp) e1 fun _ z => nomatch z)
    obtain ⟨vs, es, ps⟩ := h3.sen
    obtain ⟨ds, ed, ld, nt⟩ := h3.note (by omega)
    refine ⟨_, rfl, A.me, C, A.dx, _, .ref A.d, rfl, h3.ins, R.cl, R.nd, rfl, .inl ⟨rfl, _, SqL.of ed⟩, _, rfl, _, rfl, A.me, C, A.dx, _, .ref A.s, rfl, h3.ins, R.cl, R.ns, rfl, A.s, vs, rfl, .inl (SqL.of es), _, rfl, A.me, C, A.dx, _, .ref A.w, rfl, h3.ins, R.cl, R.nw, rfl, _, rfl, A.w, _, rfl, dget_put upd_same, (by show 4 ≤ sizeLine; decide), fun p hp => ?_⟩
    rw [ps.length]
    have s4 := same_upd (o := .tup [.str "read", .str c, .int (k.sent.length : Nat), .str ((k.mark c).content c (k.chain c))]) hp
    refine ⟨A.d, ds, .ref p, rfl, rfl, s4 _ _ ed, ld, ?_⟩
    exact q _ ((c3.trans (.same s4)).trans (.put (by unfold Ad.own; simp) (s4 _ _ ed) fun _ z => nomatch z)) (nt "read" c _ (.ref p) _ s4 ⟨p, rfl, upd_same⟩)
theorem scDoW : FnScope ["self", "cell", "name", "chain"] ["self", "cell", "name"] (defScope sDoW) := ⟨rfl, rfl, rfl, by decide +kernel, rfl, by decide +kernel, by decide +kernel⟩
theorem ok_doW (F : Fun K "do_write" "Walk.do_write" sDoW f fd) (W : WkF P w K mg base C) : FnOk P w K mg base CX0 3 f fd ["self", "cell", "name"] (spDoW K C) := by
  obtain ⟨gN, dN, mN, bN, GN⟩ := W.nextC
  obtain ⟨gW, dW, mW, bW, GW⟩ := W.worth
  have R := W.R
  refine F.ok scDoW (fun vs H Q E h => ?_) (fun cdv A outer s H vs Q E hr h => ?_)
  · obtain ⟨A, k, t, b, c, n, rfl, _⟩ := h
    rfl
  · obtain ⟨A, k, t, b, c, n, rfl, h, hc, hn, ht, q⟩ := h
    refine ⟨_, pss_cons (ps_set (i := 3) scDoW.nd rfl (Or.inl rfl) (pe_meth (pv 0) R.cl mN GN hr bN .nil pass0 (pa_cons pe_str (pa_cons (pv 1) pa_nil))))
      (pss_one (ps_if (pt_cmp (pc_notN (pv 3)))
        (pss_cons (ps_dput (hu_of hr) (pe_fld (pv 0) rfl) (pe_tup (pa_cons (pv 1) (pa_cons (pv 3) pa_nil))) (pe_meth (pv 0) R.cl mW GW (hr.mono (by decide)) bW .nil pass0 (pa_cons (pv 2) pa_nil)) rfl)
        (pss_one (ps_expr (pe_bm PySem.F.plainAttrs_list PySem.F.slot_list_append PySem.F.type_list_append mt_append (pe_fld (pv 0) rfl) (pa_cons (pe_tup (pa_cons pe_str (pa_cons (pv 1) (pa_cons (pe_callB call_len_seq (by rfl) W.ln PySem.boot_len (pa_cons (pe_fld (pv 0) rfl) pa_nil)) (pa_cons (pe_meth (pv 0) R.cl mW GW (hr.mono (by decide)) bW .nil pass0 (pa_cons (pv 2) pa_nil)) pa_nil))))) pa_nil)))))
        pss_nil)), ?_⟩
    obtain ⟨_, _, _, _, lc, _⟩ := h.mark (by omega)
    have lch := lc c
    refine ⟨_, rfl, A.me, A.dx, _, rfl, h.ins, h.ml _ (by unfold mthW; simp), _, rfl, A, k, t, b, c, _, rfl, h, by omega, fun H1 c1 h1 => ?_⟩
    refine ⟨_, rfl, _, rfl, ?_⟩
    rw [decide_eq_false (show ¬ V.int (k.chain c : Nat) = V.non from fun z => nomatch z)]
    refine iteT ⟨_, rfl, A.me, A.dx, _, rfl, h1.ins, h1.ml _ (by unfold mthW; simp), _, rfl, A, k.mark c, t + 1, b, n, rfl, h1, ?_⟩
    obtain ⟨kc, e1, e2, e3⟩ := h1.fill (by omega)
    refine ⟨_, rfl, A.me, C, A.dx, _, .ref A.c, rfl, h1.ins, R.cl, R.nc, rfl, _, rfl, _, rfl, (by show 2 ≤ sizeLine; decide), fun p hp => ?_⟩
    have s2 := same_upd (o := .tup [.str c, .int (k.chain c : Nat)]) hp
    have h2 := h1.mv s2
    obtain ⟨kc', e1', e2', e3'⟩ := h2.fill (by omega)
    refine ⟨A.c, _, rfl, DPut.t (kvs := kc') (k := [Sum.inr c, Sum.inl ((k.chain c : Nat) : Int)]) e1' upd_same e2', ?_⟩
    have h3 := e3' c (k.chain c) ((k.mark c).worth n) (worth_len h1 hn)
    have c3 := (c1.trans (.same s2)).trans (.put (F := A.own) (o := .dT (putK kc' [Sum.inr c, Sum.inl ((k.chain c : Nat) : Int)] (.str ((k.mark c).worth n)))) (by unfold Ad.own; simp) e1' fun _ z => nomatch z)
    obtain ⟨vs, es, ps⟩ := h3.sen
    obtain ⟨ds, ed, ld, nt⟩ := h3.note (by omega)
    refine ⟨_, rfl, A.me, C, A.dx, _, .ref A.d, rfl, h3.ins, R.cl, R.nd, rfl, .inl ⟨rfl, _, SqL.of ed⟩, _, rfl, _, rfl, A.me, C, A.dx, _, .ref A.s, rfl, h3.ins, R.cl, R.ns, rfl, A.s, vs, rfl, .inl (SqL.of es), _, rfl, A.me, A.dx, _, rfl, h3.ins, h3.ml _ (by unfold mthW; simp), _, rfl, A, _, t + 2, b, n, rfl, h3, (by show 4 ≤ sizeLine; decide), fun p4 hp4 => ?_⟩
    rw [ps.length]
    have s4 := same_upd (o := .tup [.str "write", .str c, .int (k.sent.length : Nat), .str ((k.mark c).worth n)]) hp4
    refine ⟨A.d, ds, .ref p4, rfl, rfl, s4 _ _ ed, ld, ?_⟩
    exact q _ ((c3.trans (.same s4)).trans (.put (by unfold Ad.own; simp) (s4 _ _ ed) fun _ z => nomatch z)) (nt "write" c _ (.ref p4) _ s4 ⟨p4, rfl, upd_same⟩)
end
end OM

namespace OM
open PySem PySem.Spec PyProof.Rows L2
/-! ### t[::-1] of a tuple -/
theorem rev_adjust (n : Nat) : Builtin.Slice.sliceAdjust none none (-1) (n : Int) = ((n : Int) - 1, -1) := by
  unfold Builtin.Slice.sliceAdjust
  have h : (-1 : Int) < 0 := by decide
  simp only [h, if_true]
theorem rev_places (n : Nat) : Builtin.Slice.slicePlaces ((n : Int) - 1) (-1) (-1) = n := by
  unfold Builtin.Slice.slicePlaces
  have h : ¬ ((-1 : Int) > 0) := by decide
  simp only [h, if_false]
  have e : (- -1 : Int) = 1 := by decide
  rw [e, Int.ediv_one]
  split <;> omega
theorem rev_picked (xs : Array Value) : ((List.range xs.size).filterMap fun (k : Nat) => xs[((xs.size : Int) - 1 + (k : Int) * -1).toNat]?).toArray = xs.toList.reverse.toArray := by
  have e : (List.range xs.size).filterMap (fun (k : Nat) => xs[((xs.size : Int) - 1 + (k : Int) * -1).toNat]?) = ((List.range xs.size).map fun k => xs.size - 1 - k).filterMap (xs[·]?) := by
    rw [List.filterMap_map]
    congr 1
    funext k
    have z : ((xs.size : Int) - 1 + (k : Int) * -1).toNat = xs.size - 1 - k := by omega
    show _ = xs[xs.size - 1 - k]?
    rw [z]
  rw [e, PySem.W.krv_range, List.filterMap_reverse, PySem.W.krv_all]
section
variable {prog : Program} {w : World} {A : Around} {E : Value → Shared → Prop} {s : Shared}
theorem applied_rev {sl : Addr} {vs : Value} {n : Nat} {Q : Int × Int × Nat → Shared → Prop} (hs : s.heap.IsSliceOf sl .none .none vs) (ps : IsPart vs (some (-1))) (h : Q ((n : Int) - 1, -1, n) s) : wpAny (model prog w) A (Builtin.Slice.sliceApplied (.ref sl) (pure (n : Int))) Q E s := by
  obtain ⟨o, ho, hc, hd⟩ := id hs
  unfold Builtin.Slice.sliceApplied Builtin.Slice.sliceFields
  refine wpAny_bind (wpAny_bind (wpAny_field ho hd (x := .none) rfl (wpAny_bind (wpAny_field ho hd (x := .none) rfl (wpAny_bind (wpAny_field ho hd (x := vs) rfl (wpAny_pure (wpAny_bind (HT.slicePart_ ps ?_)))))))))
  show wpAny _ _ (if ((-1 : Int) == 0) = true then _ else _) _ _ s
  rw [if_neg (by decide)]
  refine wpAny_bind (HT.slicePart_ .none (wpAny_bind (HT.slicePart_ .none (wpAny_bind (wpAny_pure ?_)))))
  show wpAny _ _ (match Builtin.Slice.sliceAdjust none none (-1) (n : Int) with | (a, b) => pure (a, (-1 : Int), Builtin.Slice.slicePlaces a b (-1))) _ _ s
  rw [rev_adjust]
  show wpAny _ _ (pure ((n : Int) - 1, (-1 : Int), Builtin.Slice.slicePlaces ((n : Int) - 1) (-1) (-1))) _ _ s
  rw [rev_places]
  exact wpAny_pure h
theorem item_rev {t sl : Addr} {items : Array Value} {vs : Value} {Q : Value → Shared → Prop} (ht : IsTup s.heap t items) (hs : s.heap.IsSliceOf sl .none .none vs) (ps : IsPart vs (some (-1)))
    (h : Q (.ref s.heap.objs.size) { s with heap := s.heap.push { cls := .type "tuple", data := .seq items.toList.reverse.toArray } }) (z : items.size ≤ sizeLine) : wpAny (model prog w) A (getItem (.ref t) (.ref sl)) Q E s := by
  have ok : sizeOk (.seq items.toList.reverse.toArray) := by
    show items.toList.reverse.toArray.size ≤ sizeLine
    rw [List.size_toArray, List.length_reverse, Array.length_toList]
    exact z
  obtain ⟨o, ho, hc, hd⟩ := id hs
  have ty : s.TypeIs (.ref sl) "slice" := ⟨o, ho, hc⟩
  unfold getItem
  try with_reducible refine wpAny_holding ?_
  first | refine wpAny_bind (wpAny_pure ?_) | skip
  refine wpAny_bind (wpAny_sequenceKey ht.typeIs (by decide) (wpAny_bind (wpAny_callSpecial?_slot (name := Str.ofString "__getitem__") ht.typeIs PyProof.Rows.slot_tuple_getitem (wpAny_call_entry PyProof.Rows.slot_tuple_getitem ht.typeIs entry_tuple_getitem ?_ (args_tuple_getitem _ _)))))
  show wpAny _ _ (Builtin.Tuple.tupleItemsOf (.ref t) >>= _) _ _ s
  refine wpAny_bind (tupleItemsOf_ ht (wpAny_bind (wpAny_typeOf ty ?_)))
  rw [if_pos (by decide)]
  refine wpAny_bind (applied_rev hs ps ?_)
  have no : ¬ ((((items.size : Int) - 1) == 0 && (-1 : Int) == 1 && items.size == items.size) = true) := by
    intro q
    rw [Bool.and_eq_true, Bool.and_eq_true] at q
    exact absurd q.1.2 (by decide)
  show wpAny _ _ (if ((((items.size : Int) - 1) == 0 && (-1 : Int) == 1 && items.size == items.size) = true) then _ else _) _ _ s
  rw [if_neg no, rev_picked]
  first
    | exact wpAny_bind (m := Builtin.Tuple.tupleExact _) (wpAny_newObj_type (wpAny_pure ⟨_, rfl, wpAny_pure h⟩) ok)
    | exact wpAny_bind (m := Builtin.Tuple.tupleExact _) (wpAny_newObj_type (wpAny_bind (wpAny_pure (wpAny_pure ⟨_, rfl, wpAny_pure h⟩))) ok)
    | exact wpAny_bind (wpAny_bind (m := Builtin.Tuple.tupleExact _) (wpAny_newObj_type (wpAny_pure (wpAny_pure ⟨_, rfl, wpAny_pure h⟩)) ok))
end
def tRevT (K : PySem.W.Frag) (te : TE) : TE := fun σ H Q => te σ H fun x H1 => ∃ a xs, x = .ref a ∧ SqT K H1 a xs ∧ ∀ p, H1 p = none → Q (.ref p) (upd H1 p (.tup xs.reverse))
theorem pe_revT {X : Cx} {e : Expr} {te : TE} {k : Nat} {p1 p2 p3 pos : Pos} (he : PE X e te) : PE X (.Subscript e (.Slice none none (some (.UnaryOp .USub (.Constant (.int 1) k p1) p2)) p3) pos) (tRevT X.K te) := by
  refine ⟨fun pins s σ H Q I h => Subscript_ (thn (he.run pins s σ H _ I h) fun v s1 ⟨x, H1, I1, r1, a, xs, ex, hx, q⟩ => ?_)⟩
  subst ex
  cases r1
  have st : PO X (some (.UnaryOp .USub (.Constant (.int 1) k p1) p2)) (tPart (tUn (rU fun i => .int (-i)) (tC (.int 1)))) := po_some (pe_un un_neg pe_int)
  refine wpAny_Slice (thn (po_none.run pins s1 σ H1 (fun o H2 => o = none ∧ H2 = H1) I1 ⟨rfl, rfl⟩) fun vl s2 ⟨l, H2, I2, pl, el, e2⟩ => ?_)
  subst el e2
  refine thn (po_none.run pins s2 σ H2 (fun o H3 => o = none ∧ H3 = H2) I2 ⟨rfl, rfl⟩) fun vu s3 ⟨u, H3, I3, pu, eu, e3⟩ => ?_
  subst eu e3
  refine thn (st.run pins s3 σ H3 (fun o H4 => o = some (-1) ∧ H4 = H3) I3 ⟨1, rfl, -1, rfl, rfl, rfl⟩) fun vs s4 ⟨o, H4, I4, ps, eo, e4⟩ => ?_
  subst eo e4
  cases pl
  cases pu
  have I5 : Inv X pins σ H4 { s4 with heap := s4.heap.push { cls := .type "slice", data := .fields #[.none, .none, vs] } } := I4.kept (t' := s4.toks) fun b ob z => Heap.get?_push_of_some _ z
  obtain ⟨its, r, ht, hz⟩ := I5.tuple hx
  have len := r.length
  show wpAny (model X.prog X.w) X.A (subscriptTail e (.Slice none none (some (.UnaryOp .USub (.Constant (.int 1) k p1) p2)) p3) (.ref a) (.ref s4.heap.objs.size)) (EP X pins σ Q) X.xe { s4 with heap := s4.heap.push { cls := .type "slice", data := .fields #[.none, .none, vs] } }
  refine tail_any (ops := [.ref a, .ref s4.heap.objs.size]) ht.typeIs (PyProof.Rows.slot_tuple_getitem.lookup) (item_rev ht (Heap.IsSliceOf.new _ .none .none vs) ps ?_ (by rw [List.size_toArray]; omega)) (by with_unfolding_all rfl)
  refine ⟨.ref _, _, I5.laid (t' := s4.toks) (o := .tup xs.reverse) (fun b ob z => Heap.get?_push_of_some _ z) (Nat.le_refl _) ?_, rfl, q _ (I5.hok.fresh (Nat.le_refl _))⟩
  exact ⟨by rw [List.length_reverse]; exact hz, _, r.reverse, IsTup.new _ _⟩
end OM

namespace OM
open PySem PySem.Spec PyProof.Rows L2
abbrev sWIn : Stmt := inStK 59 0
abbrev sGo : Stmt := inStK 59 3
/-- a statement as objects -/
def StmAt (H : Hp) (v : V) : Stm → Prop
  | .read r c => ∃ p, v = .ref p ∧ H p = some (.tup [.str "read", .str r, .str c])
  | .write c r => ∃ p, v = .ref p ∧ H p = some (.tup [.str "write", .str c, .str r])
  | .set r f as => ∃ p q, v = .ref p ∧ H p = some (.tup [.str "set", .str r, .str f, .ref q]) ∧ H q = some (.tup (as.map V.str))
  | .copy r q => ∃ p, v = .ref p ∧ H p = some (.tup [.str "copy", .str r, .str q])
  | .get r => ∃ p, v = .ref p ∧ H p = some (.tup [.str "get", .str r])
  | .put r => ∃ p, v = .ref p ∧ H p = some (.tup [.str "put", .str r])
  | .shw r => ∃ p, v = .ref p ∧ H p = some (.tup [.str "show", .str r])
theorem StmAt.mv {H H' : Hp} (t : TupS H H') {v : V} : ∀ {s : Stm}, StmAt H v s → StmAt H' v s
  | .read _ _, ⟨p, e, h⟩ => ⟨p, e, t _ _ h⟩
  | .write _ _, ⟨p, e, h⟩ => ⟨p, e, t _ _ h⟩
  | .set _ _ _, ⟨p, q, e, h, k⟩ => ⟨p, q, e, t _ _ h, t _ _ k⟩
  | .copy _ _, ⟨p, e, h⟩ => ⟨p, e, t _ _ h⟩
  | .get _, ⟨p, e, h⟩ => ⟨p, e, t _ _ h⟩
  | .put _, ⟨p, e, h⟩ => ⟨p, e, t _ _ h⟩
  | .shw _, ⟨p, e, h⟩ => ⟨p, e, t _ _ h⟩
theorem row_strs {S : Addr → Prop} {H : Hp} {v : V} {ws : List Str} {w : Str} (h : Dt S H v (.tuple (.str w :: ws.map PyData.str))) : ∃ p, v = .ref p ∧ H p = some (.tup (.str w :: ws.map V.str)) := by
  obtain ⟨p, xr, rfl, e, _, hx⟩ := h.row
  rw [dt_strL hx] at e
  exact ⟨p, rfl, e⟩
theorem Dt.stm {S : Addr → Prop} {H : Hp} {v : V} : ∀ {s : Stm}, Dt S H v s.d → StmAt H v s
  | .read r c, h => row_strs (ws := [r, c]) h
  | .write c r, h => row_strs (ws := [c, r]) h
  | .set r f as, h => by
    obtain ⟨p, xr, rfl, e, _, hx⟩ := Dt.row (w := "set") (rest := [.str r, .str f, .tuple (as.map PyData.str)]) h
    cases hx with
    | cons h1 hx =>
      cases hx with
      | cons h2 hx =>
        cases hx with
        | cons h3 hx =>
          cases hx
          obtain ⟨q, xs, rfl, eq, _, hq⟩ := h3.tup_of
          rw [dt_str1 h1, dt_str1 h2] at e
          rw [dt_strL hq] at eq
          exact ⟨p, q, rfl, e, eq⟩
  | .copy r q, h => row_strs (ws := [r, q]) h
  | .get r, h => row_strs (ws := [r]) h
  | .put r, h => row_strs (ws := [r]) h
  | .shw r, h => row_strs (ws := [r]) h
theorem Dt.stms {S : Addr → Prop} {H : Hp} : ∀ {xs : List V} {ss : List Stm}, DtAll S H xs (ss.map Stm.d) → Paired (StmAt H) xs ss
  | [], [], _ => .nil
  | _ :: _, _ :: _, .cons h r => .cons h.stm (Dt.stms r)
def growL (b : Nat) (ss : List Stm) : Nat := ss.foldl (fun b s => s.grow b) b
theorem growL_le {ss : List Stm} : ∀ {b : Nat}, b ≤ growL b ss := by
  induction ss with
  | nil => exact Nat.le_refl _
  | cons s r ih => exact Nat.le_trans grow_le (ih (b := s.grow _))
theorem growL_app {a r : List Stm} {b : Nat} : growL b (a ++ r) = growL (growL b a) r := List.foldl_append ..
theorem grow_take {ss : List Stm} {i b : Nat} {s : Stm} (h : ss[i]? = some s) : growL b (ss.take (i + 1)) = s.grow (growL b (ss.take i)) ∧ growL b (ss.take (i + 1)) ≤ growL b ss := by
  constructor
  · rw [List.take_add_one, h]
    exact growL_app
  · have e : growL b ss = growL (growL b (ss.take (i + 1))) (ss.drop (i + 1)) := by rw [← growL_app, List.take_append_drop]
    rw [e]
    exact growL_le
theorem Wk.go_app {k : Wk} {a r : List Stm} : k.go (a ++ r) = (k.go a).go r := List.foldl_append ..
theorem go_take {k : Wk} {ss : List Stm} {i : Nat} {s : Stm} (h : ss[i]? = some s) : k.go (ss.take (i + 1)) = (k.go (ss.take i)).stm s := by
  rw [List.take_add_one, h]
  exact Wk.go_app
def spDo (K : PySem.W.Frag) (C : Addr) : Sp := fun vs H Q _ => ∃ (A : Ad) (k : Wk) (t b : Nat) (v : V) (s : Stm), vs = [.ref A.me, v] ∧ WkM K C H A k t b ∧ StmAt H v s ∧ s.ok ∧ (∀ r, s ≠ .shw r) ∧ t < 890 ∧ s.grow b ≤ 4000000 ∧ ∀ H', Chg A.own H H' → WkM K C H' A (k.stm s) (t + 3) (s.grow b) → Q .non H'
def spGo (K : PySem.W.Frag) (C : Addr) : Sp := fun vs H Q _ => ∃ (A : Ad) (k : Wk) (t b : Nat) (p : Addr) (xs : List V) (ss : List Stm), vs = [.ref A.me, .ref p] ∧ WkM K C H A k t b ∧ H p = some (.tup xs) ∧ Paired (StmAt H) xs ss ∧ (∀ s ∈ ss, s.ok ∧ ∀ r, s ≠ .shw r) ∧ t + 3 * ss.length ≤ 880 ∧ growL b ss ≤ 4000000 ∧ ∀ H', Chg A.own H H' → WkM K C H' A (k.go ss) (t + 3 * ss.length) (growL b ss) → Q .non H'
def spWIn (K : PySem.W.Frag) (C : Addr) : Sp := fun vs H Q _ => ∃ (me dx told hid : Addr) (hs : List Str), vs = [.ref me, .ref told, .ref hid] ∧ H me = some (.ins C dx []) ∧ HidR K H hid hs ∧ ∀ H' A, A.me = me → A.told = told → A.hid = hid → But me H H' → (∀ x ∈ A.own, x = me ∨ H x = none) → WkM K C H' A (Wk.new hs) 0 40 → Q .non H'
section
variable {P : Program} {w : World} {K : PySem.W.Frag} {mg : Str → Option Value} {base : Heap} {f C : Addr} {fd : FuncData}
theorem scDo : FnScope ["self", "statement", "word", "name"] ["self", "statement"] (defScope sDo) := ⟨rfl, rfl, rfl, by decide +kernel, rfl, by decide +kernel, by decide +kernel⟩
theorem ok_do (F : Fun K "do" "Walk.do" sDo f fd) (W : WkF P w K mg base C) (mR : MethN P w K mg base C "do_read" 3 ["self", "name", "cell"] (spDoR K C)) (mW : MethN P w K mg base C "do_write" 3 ["self", "cell", "name"] (spDoW K C)) (mG : MethN P w K mg base C "do_get" 2 ["self", "name"] (spDoG K C)) (wr : CallN P w K mg base "written" 1 ["function", "values"] (spWrit K)) :
    FnOk P w K mg base CX0 4 f fd ["self", "statement"] (spDo K C) := by
  obtain ⟨gR, dR, aR, bR, GR⟩ := mR
  obtain ⟨gW, dW, aW, bW, GW⟩ := mW
  obtain ⟨gG, dG, aG, bG, GG⟩ := mG
  obtain ⟨gT, dT, aT, kT, bT, GT⟩ := wr
  obtain ⟨gO, dO, aO, bO, GO⟩ := W.worth
  obtain ⟨gA, dA, aA, bA, GA⟩ := W.addL
  have R := W.R
  refine F.ok scDo (fun vs H Q E h => ?_) (fun cdv A outer s H vs Q E hr h => ?_)
  · obtain ⟨A, k, t, b, v, st, rfl, _⟩ := h
    rfl
  · obtain ⟨A, k, t, b, v, st, rfl, h, hs, ok, nsh, ht, hg, q⟩ := h
    refine ⟨_, pss_cons (ps_set (i := 2) scDo.nd rfl (Or.inl rfl) (pe_ix (r := rIxT K) ix_tup (pv 1) pe_int (fun _ _ => rfl)))
      (pss_one (ps_if (pt_cmpR op_eq (pv 2) pe_str (nomark _)) (pss_one (ps_expr (pe_meth (pv 0) R.cl aR GR hr bR .nil pass0 (pa_cons (pe_ix (r := rIxT K) ix_tup (pv 1) pe_int (fun _ _ => rfl)) (pa_cons (pe_ix (r := rIxT K) ix_tup (pv 1) pe_int (fun _ _ => rfl)) pa_nil)))))
      (pss_one (ps_if (pt_cmpR op_eq (pv 2) pe_str (nomark _)) (pss_one (ps_expr (pe_meth (pv 0) R.cl aW GW hr bW .nil pass0 (pa_cons (pe_ix (r := rIxT K) ix_tup (pv 1) pe_int (fun _ _ => rfl)) (pa_cons (pe_ix (r := rIxT K) ix_tup (pv 1) pe_int (fun _ _ => rfl)) pa_nil)))))
      (pss_one (ps_if (pt_cmpR op_eq (pv 2) pe_str (nomark _)) (pss_one (ps_dput (hu_of hr) (pe_fld (pv 0) rfl) (pe_ix (r := rIxT K) ix_tup (pv 1) pe_int (fun _ _ => rfl)) (pe_call GT (hr.mono (by decide)) (by rfl) aT kT bT .nil pass0 (pa_cons (pe_ix (r := rIxT K) ix_tup (pv 1) pe_int (fun _ _ => rfl))
          (pa_cons (pe_lc (own := [("name", 3)]) rfl scDo.nd (pi_tup (pe_ix (r := rIxT K) ix_tup (pv 1) pe_int (fun _ _ => rfl))) (blkOk_by (N := ["self", "statement", "word", "name"]) (sc := defScope sDo) (by decide +kernel)) (fun _ _ _ _ _ => pg_name (i := 3) scDo.nd rfl (Or.inl rfl)) (fun _ _ _ _ _ => pts_nil) (fun _ _ _ _ _ => pe_meth (pv 0) R.cl aO GO (hr.mono (by decide)) bO .nil pass0 (pa_cons (pv 3) pa_nil))) pa_nil))) rfl))
      (pss_one (ps_if (pt_cmpR op_eq (pv 2) pe_str (nomark _)) (pss_one (ps_dput (hu_of hr) (pe_fld (pv 0) rfl) (pe_ix (r := rIxT K) ix_tup (pv 1) pe_int (fun _ _ => rfl)) (pe_meth (pv 0) R.cl aO GO (hr.mono (by decide)) bO .nil pass0 (pa_cons (pe_ix (r := rIxT K) ix_tup (pv 1) pe_int (fun _ _ => rfl)) pa_nil)) rfl))
      (pss_one (ps_if (pt_cmpR op_eq (pv 2) pe_str (nomark _)) (pss_one (ps_expr (pe_meth (pv 0) R.cl aG GG (hr.mono (by decide)) bG .nil pass0 (pa_cons (pe_ix (r := rIxT K) ix_tup (pv 1) pe_int (fun _ _ => rfl)) pa_nil))))
      (pss_one (ps_expr (pe_meth (pv 0) R.cl aA GA (hr.mono (by decide)) bA .nil pass0 (pa_cons (pe_tup (pa_cons pe_str (pa_cons (pe_meth (pv 0) R.cl aO GO (hr.mono (by decide)) bO .nil pass0 (pa_cons (pe_ix (r := rIxT K) ix_tup (pv 1) pe_int (fun _ _ => rfl)) pa_nil)) pa_nil))) pa_nil)))))))))))))), ?_⟩
    have ne : ∀ {x y : Str}, x ≠ y → decide (V.str x = V.str y) = false := fun h => decide_eq_false fun z => h (V.str.inj z)
    cases st with
    | read r c =>
      obtain ⟨p, rfl, e⟩ := hs
      refine ⟨_, rfl, p, _, 0, _, rfl, rfl, SqT.of e, at0, _, rfl, rfl, _, rfl, ?_⟩
      rw [decide_eq_true rfl]
      exact iteT ⟨_, rfl, A.me, A.dx, _, rfl, h.ins, h.ml _ (by unfold mthW; simp), _, rfl, p, _, 1, .str r, rfl, rfl, SqT.of e, rfl, _, rfl, p, _, 2, .str c, rfl, rfl, SqT.of e, rfl, A, k, t, b, r, c, rfl, h, ok.1, ok.2, ht, q⟩
    | write c r =>
      obtain ⟨p, rfl, e⟩ := hs
      refine ⟨_, rfl, p, _, 0, _, rfl, rfl, SqT.of e, at0, _, rfl, rfl, _, rfl, ?_⟩
      rw [ne (by decide +kernel)]
      refine iteF ⟨_, rfl, rfl, _, rfl, ?_⟩
      rw [decide_eq_true rfl]
      exact iteT ⟨_, rfl, A.me, A.dx, _, rfl, h.ins, h.ml _ (by unfold mthW; simp), _, rfl, p, _, 1, .str c, rfl, rfl, SqT.of e, rfl, _, rfl, p, _, 2, .str r, rfl, rfl, SqT.of e, rfl, A, k, t, b, c, r, rfl, h, ok.1, ok.2, ht, q⟩
    | set r fn as =>
      obtain ⟨p, pq, rfl, e, eq⟩ := hs
      obtain ⟨o1, o2, o3, o4⟩ := ok
      refine ⟨_, rfl, p, _, 0, _, rfl, rfl, SqT.of e, at0, _, rfl, rfl, _, rfl, ?_⟩
      rw [ne (by decide +kernel)]
      refine iteF ⟨_, rfl, rfl, _, rfl, ?_⟩
      rw [ne (by decide +kernel)]
      refine iteF ⟨_, rfl, rfl, _, rfl, ?_⟩
      rw [decide_eq_true rfl]
      refine iteT ⟨_, rfl, p, _, 2, .str fn, rfl, rfl, SqT.of e, rfl, _, rfl, p, _, 3, .ref pq, rfl, rfl, SqT.of e, rfl, pq, rfl, ⟨_, SqT.of eq⟩, fun D hD => lc_tup (PvV H D ((as.map k.worth).map V.str)) (PvV.zero hD) (fun i H' _ pv => SqT.of (pv.1 _ _ eq)) (fun i x H3 hi pv => ?_) (fun H5 pv => ?_)⟩
      · rw [List.getElem?_map] at hi
        obtain ⟨a, ha, rfl⟩ := Option.map_eq_some_iff.mp hi
        have h3 := h.mv pv.1
        refine ⟨rfl, _, rfl, A.me, A.dx, _, rfl, h3.ins, h3.ml _ (by unfold mthW; simp), _, rfl, A, k, t, b, a, rfl, h3, ?_⟩
        exact pv.step hD (by rw [List.length_map, List.length_map]; omega) (by rw [List.getElem?_map, List.getElem?_map, ha]; rfl) (Same.refl H3)
      · obtain ⟨s5, e5⟩ := pv.all (by rw [List.length_map, List.length_map, List.length_map])
        have h5 := h.mv s5
        have lw : ∀ a ∈ as.map k.worth, a.length ≤ b := fun a ha => by
          obtain ⟨x, hx, rfl⟩ := List.mem_map.mp ha
          exact worth_len h (o4 x hx)
        have gb := h.big
        have e9 : Stm.grow b (.set r fn as) = if as = [] then b else 2 * b + 12 := rfl
        have hgr : Stm.grow b (.set r fn as) ≤ 4000000 := hg
        have h6 := h5.more (Nat.le_refl t) (grow_le (s := .set r fn as)) (by omega) hgr
        obtain ⟨kw, e1, e2, e3⟩ := h6.let (by omega)
        refine ⟨fn, D, as.map k.worth, b, rfl, nm_len o2, SqL.of e5, by rw [List.length_map]; exact o3, lw, by omega, _, rfl, A.me, C, A.dx, _, .ref A.w, rfl, h5.ins, R.cl, R.nw, rfl, _, rfl, p, _, 1, .str r, rfl, rfl, SqT.of (s5 _ _ e), rfl, A.w, _, rfl, DPut.k (k := Sum.inr r) e1 e2, ?_⟩
        have lv : (wrT fn (as.map k.worth)).length ≤ Stm.grow b (.set r fn as) := by
          have z := wr_len (nm_len o2) lw (by rw [List.length_map]; exact o3) gb.1
          rw [e9]
          by_cases hn : as = []
          · rw [if_pos hn]
            rw [if_pos (by rw [hn]; rfl)] at z
            exact z
          · rw [if_neg hn]
            rw [if_neg (by simpa using hn)] at z
            exact z
        exact q _ ((Chg.same s5).trans (.put (by unfold Ad.own; simp) e1 fun _ z => nomatch z)) ((e3 r _ lv).more (by omega) (Nat.le_refl _) (by omega) hgr)
    | copy r r2 =>
      obtain ⟨p, rfl, e⟩ := hs
      refine ⟨_, rfl, p, _, 0, _, rfl, rfl, SqT.of e, at0, _, rfl, rfl, _, rfl, ?_⟩
      rw [ne (by decide +kernel)]
      refine iteF ⟨_, rfl, rfl, _, rfl, ?_⟩
      rw [ne (by decide +kernel)]
      refine iteF ⟨_, rfl, rfl, _, rfl, ?_⟩
      rw [ne (by decide +kernel)]
      refine iteF ⟨_, rfl, rfl, _, rfl, ?_⟩
      rw [decide_eq_true rfl]
      obtain ⟨kw, e1, e2, e3⟩ := h.let (by omega)
      refine iteT ⟨_, rfl, A.me, A.dx, _, rfl, h.ins, h.ml _ (by unfold mthW; simp), _, rfl, p, _, 2, .str r2, rfl, rfl, SqT.of e, rfl, A, k, t, b, r2, rfl, h, _, rfl, A.me, C, A.dx, _, .ref A.w, rfl, h.ins, R.cl, R.nw, rfl, _, rfl, p, _, 1, .str r, rfl, rfl, SqT.of e, rfl, A.w, _, rfl, DPut.k (k := Sum.inr r) e1 e2, ?_⟩
      exact q _ (.put (by unfold Ad.own; simp) e1 fun _ z => nomatch z) ((e3 r _ (worth_len h ok.2)).more (by omega) (Nat.le_refl _) (by omega) h.big.2)
    | get r =>
      obtain ⟨p, rfl, e⟩ := hs
      refine ⟨_, rfl, p, _, 0, _, rfl, rfl, SqT.of e, at0, _, rfl, rfl, _, rfl, ?_⟩
      rw [ne (by decide +kernel)]
      refine iteF ⟨_, rfl, rfl, _, rfl, ?_⟩
      rw [ne (by decide +kernel)]
      refine iteF ⟨_, rfl, rfl, _, rfl, ?_⟩
      rw [ne (by decide +kernel)]
      refine iteF ⟨_, rfl, rfl, _, rfl, ?_⟩
      rw [ne (by decide +kernel)]
      refine iteF ⟨_, rfl, rfl, _, rfl, ?_⟩
      rw [decide_eq_true rfl]
      exact iteT ⟨_, rfl, A.me, A.dx, _, rfl, h.ins, h.ml _ (by unfold mthW; simp), _, rfl, p, _, 1, .str r, rfl, rfl, SqT.of e, rfl, A, k, t, b, r, rfl, h, ok, ht, q⟩
    | put r =>
      obtain ⟨p, rfl, e⟩ := hs
      refine ⟨_, rfl, p, _, 0, _, rfl, rfl, SqT.of e, at0, _, rfl, rfl, _, rfl, ?_⟩
      rw [ne (by decide +kernel)]
      refine iteF ⟨_, rfl, rfl, _, rfl, ?_⟩
      rw [ne (by decide +kernel)]
      refine iteF ⟨_, rfl, rfl, _, rfl, ?_⟩
      rw [ne (by decide +kernel)]
      refine iteF ⟨_, rfl, rfl, _, rfl, ?_⟩
      rw [ne (by decide +kernel)]
      refine iteF ⟨_, rfl, rfl, _, rfl, ?_⟩
      rw [ne (by decide +kernel)]
      refine iteF ⟨_, rfl, A.me, A.dx, _, rfl, h.ins, h.ml _ (by unfold mthW; simp), _, rfl, A.me, A.dx, _, rfl, h.ins, h.ml _ (by unfold mthW; simp), _, rfl, p, _, 1, .str r, rfl, rfl, SqT.of e, rfl, A, k, t, b, r, rfl, h, (by show 2 ≤ sizeLine; decide), fun z hz => ?_⟩
      have s1 := same_upd (o := .tup [.str "put", .str (k.worth r)]) hz
      exact ⟨A, k, t, b, .ref z, "put", k.worth r, rfl, h.mv s1, by omega, ⟨z, rfl, upd_same⟩, fun H2 c2 h2 => q H2 ((Chg.same s1).trans c2) (h2.more (by omega) (Nat.le_refl _) (by omega) h.big.2)⟩
    | shw r => exact absurd rfl (nsh r)
end
end OM

namespace OM
open PySem PySem.Spec PyProof.Rows L2
/-- an instance in the making: its fields so far, the objects made for it -/
structure InitS (H G : Hp) (me C dx : Addr) (fs : List (Str × V)) (news : List (Addr × HO)) : Prop where
  ins : G me = some (.ins C dx fs)
  but : But me H G
  new : ∀ p ∈ news, G p.1 = some p.2 ∧ H p.1 = none ∧ p.1 ≠ me
  nd : (news.map (·.1)).Nodup
theorem InitS.old {H G : Hp} {me C dx : Addr} {fs : List (Str × V)} {news : List (Addr × HO)} {f : Str} {v : V} (h : InitS H G me C dx fs news) : InitS H (upd G me (.ins C dx (putF f v fs))) me C dx (putF f v fs) news :=
  ⟨upd_same, fun b o n e => by rw [upd_ne n]; exact h.but b o n e, fun p hp => ⟨by rw [upd_ne (h.new p hp).2.2]; exact (h.new p hp).1, (h.new p hp).2⟩, h.nd⟩
theorem InitS.more {H G : Hp} {me C dx : Addr} {fs : List (Str × V)} {news : List (Addr × HO)} {f : Str} {v : V} {a : Addr} {o : HO} (h : InitS H G me C dx fs news) (ha : G a = none) : (upd G a o) me = some (.ins C dx fs) ∧ InitS H (upd (upd G a o) me (.ins C dx (putF f v fs))) me C dx (putF f v fs) ((a, o) :: news) := by
  have am : a ≠ me := fun z => by rw [z, h.ins] at ha; cases ha
  have aH : H a = none := by
    cases e : H a with
    | none => rfl
    | some u =>
      have := h.but a u am e
      rw [ha] at this
      cases this
  have s := same_upd (o := o) ha
  refine ⟨s _ _ h.ins, upd_same, fun b u n e => by rw [upd_ne n]; exact s _ _ (h.but b u n e), fun p hp => ?_, ?_⟩
  · rcases List.mem_cons.mp hp with rfl | hp
    · exact ⟨by rw [upd_ne am]; exact upd_same, aH, am⟩
    · obtain ⟨q1, q2, q3⟩ := h.new p hp
      exact ⟨by rw [upd_ne q3]; exact s _ _ q1, q2, q3⟩
  · refine List.nodup_cons.mpr ⟨fun z => ?_, h.nd⟩
    obtain ⟨p, hp, e⟩ := List.mem_map.mp z
    have := (h.new p hp).1
    rw [e, ha] at this
    cases this
section
variable {P : Program} {w : World} {K : PySem.W.Frag} {mg : Str → Option Value} {base : Heap} {f C : Addr} {fd : FuncData}
theorem scGo : FnScope ["self", "code", "ahead", "statement"] ["self", "code"] (defScope sGo) := ⟨rfl, rfl, rfl, by decide +kernel, rfl, by decide +kernel, by decide +kernel⟩
theorem ok_go (F : Fun K "go" "Walk.go" sGo f fd) (R : WkC K C) (ls : mg "list" = none) (mD : MethN P w K mg base C "do" 4 ["self", "statement"] (spDo K C)) : FnOk P w K mg base CX0 5 f fd ["self", "code"] (spGo K C) := by
  obtain ⟨gD, dD, aD, bD, GD⟩ := mD
  refine F.ok scGo (fun vs H Q E h => ?_) (fun cdv A outer s H vs Q E hr h => ?_)
  · obtain ⟨A, k, t, b, p, xs, ss, rfl, _⟩ := h
    rfl
  · obtain ⟨A, k, t, b, p, xs, ss, rfl, h, ep, hx, ok, ht, hg, q⟩ := h
    refine ⟨_, pss_cons (ps_set (i := 2) scGo.nd rfl (Or.inl rfl) (pe_callTy call_list_of (by rfl) ls (by decide +kernel) (pa_cons (pe_revT (pv 1)) pa_nil)))
      (pss_one (ps_while PassesOwn.never (PW.pt (pw_and (pt_truth (pv 2) (fun _ => rfl)) (pw_and1 (pt_not (pt_val (pe_fld (pv 0) rfl))))))
        (pss_cons (ps_set (i := 3) scGo.nd rfl (Or.inl rfl) (pe_bm0 PySem.F.plainAttrs_list PySem.F.slot_list_pop PySem.F.type_list_pop mt_pop (pv 2)))
        (pss_one (ps_if (pt_cmpR op_eq (pe_ix (r := rIxT K) ix_tup (pv 3) pe_int (fun _ _ => rfl)) pe_str (nomark _)) pss_never (pss_one (ps_expr (pe_meth (pv 0) R.cl aD GD hr bD .nil pass0 (pa_cons (pv 3) pa_nil))))))))), ?_⟩
    have lx := hx.length
    refine ⟨_, rfl, p, xs, rfl, SqT.of ep, fun p1 hp1 => ⟨p1, _, rfl, .inr (SqT.of upd_same), fun l hl => ?_⟩⟩
    have s1 := same_upd (o := .tup xs.reverse) hp1
    have s2 := s1.trans (same_upd (o := .lst xs.reverse) hl)
    have hlH : H l = none := s1.free hl
    have lo : l ∉ A.own := fun z => by
      obtain ⟨o, e⟩ := h.there l z
      rw [hlH] at e
      cases e
    have h2 := h.mv s2
    refine ⟨fun m σ G => ∃ i, i ≤ ss.length ∧ m = ss.length - i ∧ (∃ x, σ = [some (.ref A.me), some (.ref p), some (.ref l), x]) ∧ G l = some (.lst (xs.drop i).reverse) ∧ Chg A.own H G ∧ WkM K C G A (k.go (ss.take i)) (t + 3 * i) (growL b (ss.take i)),
      ⟨_, 0, Nat.zero_le _, rfl, ⟨_, rfl⟩, upd_same, .same s2, h2⟩, ?_⟩
    rintro m σ G ⟨i, hi, rfl, ⟨x3, rfl⟩, el, cg, hk⟩
    have live := hk.ins
    rcases Nat.lt_or_ge i ss.length with hlt | hge
    · obtain ⟨st, hst⟩ : ∃ st, ss[i]? = some st := ⟨_, List.getElem?_eq_getElem hlt⟩
      obtain ⟨x, hxi, hsx⟩ := Paired.of hx hst
      have ed : xs.drop i = x :: xs.drop (i + 1) := by
        obtain ⟨h1, h3⟩ := List.getElem?_eq_some_iff.mp hxi
        rw [← h3]
        exact List.drop_eq_getElem_cons h1
      have er : (xs.drop i).reverse = (xs.drop (i + 1)).reverse ++ [x] := by
        rw [ed, List.reverse_cons]
      rw [er] at el
      refine ⟨_, rfl, true, .inl ⟨_, SqL.of el, by simp⟩, iteT ⟨_, rfl, A.me, C, A.dx, _, .bl false, rfl, hk.ins, R.cl, R.no, rfl, false, rfl, iteT ?_⟩⟩
      refine ⟨fun σ' G' => (∃ x, σ' = [some (.ref A.me), some (.ref p), some (.ref l), x]) ∧ G' l = some (.lst (xs.drop (i + 1)).reverse) ∧ Chg A.own H G' ∧ WkM K C G' A (k.go (ss.take (i + 1))) (t + 3 * (i + 1)) (growL b (ss.take (i + 1))), fun σ' G' z => ⟨ss.length - (i + 1), by omega, i + 1, hlt, rfl, z⟩, ?_⟩
      refine ⟨_, rfl, .inl ⟨rfl, _, SqL.of el⟩, l, _, x, rfl, rfl, el, by simp, ?_⟩
      rw [List.dropLast_concat]
      obtain ⟨G1, eG1⟩ : ∃ G1, G1 = upd G l (.lst (xs.drop (i + 1)).reverse) := ⟨_, rfl⟩
      have sk : ∀ c o, c ≠ l → G c = some o → G1 c = some o := fun c o n e => by rw [eG1, upd_ne n]; exact e
      have tk : TupS G G1 := by
        rw [eG1]
        exact TupS.put el fun _ z => nomatch z
      have cg1 : Chg A.own H G1 := ⟨fun c o n e => sk c o (fun z => by rw [z, hlH] at e; cases e) (cg.keep c o n e), cg.tups.trans tk⟩
      have hk1 : WkM K C G1 A (k.go (ss.take i)) (t + 3 * i) (growL b (ss.take i)) := by
        have nl : ∀ c ∈ A.own, G1 c = G c := fun c hc => by
          rw [eG1, upd_ne (fun z => lo (by rw [← z]; exact hc))]
        have na : G1 A.a = G A.a := by
          rw [eG1, upd_ne (fun z => by rw [← z, hk.ask] at el; cases el)]
        unfold Ad.own at nl
        refine ⟨by rw [nl _ (by simp)]; exact hk.ins, hk.hid.mv tk, by rw [na]; exact hk.ask, hk.wor.mv (nl _ (by simp)) (Nat.le_refl _) (Nat.le_refl _), hk.con.mv (nl _ (by simp)) (Nat.le_refl _) (Nat.le_refl _), hk.lat.mv (nl _ (by simp)) tk (Nat.le_refl _) (Nat.le_refl _), hk.sen.mv (nl _ (by simp)) tk, hk.don.mv (nl _ (by simp)) tk, hk.ne, hk.num, hk.big, hk.ml⟩
      have e1 : G1 l = some (.lst (xs.drop (i + 1)).reverse) := by rw [eG1, upd_same]
      rw [← eG1]
      have hsG : StmAt G1 x st := hsx.mv cg1.tups
      have okst := ok st (List.mem_of_getElem? hst)
      obtain ⟨gt1, gt2⟩ := grow_take (b := b) hst
      have nif : ∃ pr w0 rest, x = .ref pr ∧ G1 pr = some (.tup (.str w0 :: rest)) ∧ w0 ≠ "if" := by
        cases st with
        | set r f as =>
          obtain ⟨pr, q9, z1, z2, _⟩ := hsG
          exact ⟨pr, _, _, z1, z2, by decide +kernel⟩
        | _ =>
          obtain ⟨pr, z1, z2⟩ := hsG
          exact ⟨pr, _, _, z1, z2, by decide +kernel⟩
      obtain ⟨pr, w0, rest, rfl, epr, nw⟩ := nif
      refine ⟨_, rfl, pr, _, 0, _, rfl, rfl, SqT.of epr, at0, rfl, _, rfl, ?_⟩
      rw [decide_eq_false (fun z => nw (V.str.inj z))]
      refine iteF ⟨_, rfl, A.me, A.dx, _, rfl, hk1.ins, hk1.ml _ (by unfold mthW; simp), _, rfl, A, _, _, _, _, st, rfl, hk1, hsG, okst.1, okst.2, by omega, by rw [← gt1]; omega, fun H' c2 h3 => ?_⟩
      rw [← gt1, ← go_take hst] at h3
      exact ⟨⟨_, rfl⟩, c2.keep _ _ lo e1, cg1.trans c2, h3⟩
    · obtain rfl : i = ss.length := by omega
      have e0 : xs.drop ss.length = [] := by rw [← lx, List.drop_length]
      rw [e0] at el
      rw [List.take_length] at hk
      exact ⟨_, rfl, false, .inl ⟨_, SqL.of el, rfl⟩, iteF (iteF (q G cg hk))⟩
theorem scWIn : FnScope ["self", "told", "hidden"] ["self", "told", "hidden"] (defScope sWIn) := ⟨rfl, rfl, rfl, by decide +kernel, rfl, by decide +kernel, by decide +kernel⟩
theorem ok_win (F : Fun K "__init__" "Walk.__init__" sWIn f fd) (R : WkC K C) : FnOk P w K mg base CX0 1 f fd ["self", "told", "hidden"] (spWIn K C) := by
  refine F.ok scWIn (fun vs H Q E h => ?_) (fun cdv A outer s H vs Q E hr h => ?_)
  · obtain ⟨me, dx, told, hid, hs, rfl, _⟩ := h
    rfl
  · obtain ⟨me, dx, told, hid, hs, rfl, e0, hh, q⟩ := h
    refine ⟨_, pss_cons (ps_fld (pv 0) (pv 1) rfl) (pss_cons (ps_fld (pv 0) (pv 2) rfl) (pss_cons (ps_fld (pv 0) pe_dnewK rfl) (pss_cons (ps_fld (pv 0) pe_non rfl) (pss_cons (ps_fld (pv 0) pe_bl rfl) (pss_cons (ps_fld (pv 0) pe_dnewK rfl) (pss_cons (ps_fld (pv 0) pe_dnewT rfl) (pss_cons (ps_fld (pv 0) pe_dnewK rfl)
      (pss_cons (ps_fld (pv 0) (pe_lst pa_nil) rfl) (pss_cons (ps_fld (pv 0) pe_int rfl) (pss_one (ps_fld (pv 0) (pe_lst pa_nil) rfl))))))))))), ?_⟩
    have i0 : InitS H H me C dx [] [] := ⟨e0, fun _ _ _ e => e, fun p hp => (by cases hp), List.nodup_nil⟩
    refine ⟨_, rfl, _, rfl, me, C, dx, _, rfl, i0.ins, R.cl, R.nt, (by show 0 < 1000; decide), ?_⟩
    have i1 := i0.old (f := "told") (v := .ref told)
    generalize upd H me _ = G1 at i1 ⊢
    refine ⟨_, rfl, _, rfl, me, C, dx, _, rfl, i1.ins, R.cl, R.nh, (by show 1 < 1000; decide), ?_⟩
    have i2 := i1.old (f := "hidden") (v := .ref hid)
    generalize upd G1 me _ = G2 at i2 ⊢
    refine fun aasked haasked => ?_
    obtain ⟨j2, i3⟩ := i2.more (f := "asked") (v := .ref aasked) (o := .dK []) haasked
    refine ⟨_, rfl, me, C, dx, _, rfl, j2, R.cl, R.nas, (by show 2 < 1000; decide), ?_⟩
    generalize upd (upd G2 aasked _) me _ = G3 at i3 ⊢
    refine ⟨_, rfl, me, C, dx, _, rfl, i3.ins, R.cl, R.nlk, (by show 3 < 1000; decide), ?_⟩
    have i4 := i3.old (f := "lacking") (v := .non)
    generalize upd G3 me _ = G4 at i4 ⊢
    refine ⟨_, rfl, me, C, dx, _, rfl, i4.ins, R.cl, R.no, (by show 4 < 1000; decide), ?_⟩
    have i5 := i4.old (f := "is_over") (v := .bl false)
    generalize upd G4 me _ = G5 at i5 ⊢
    refine fun aworths haworths => ?_
    obtain ⟨j5, i6⟩ := i5.more (f := "worths") (v := .ref aworths) (o := .dK []) haworths
    refine ⟨_, rfl, me, C, dx, _, rfl, j5, R.cl, R.nw, (by show 5 < 1000; decide), ?_⟩
    generalize upd (upd G5 aworths _) me _ = G6 at i6 ⊢
    refine fun acontents hacontents => ?_
    obtain ⟨j6, i7⟩ := i6.more (f := "contents") (v := .ref acontents) (o := .dT []) hacontents
    refine ⟨_, rfl, me, C, dx, _, rfl, j6, R.cl, R.nc, (by show 6 < 1000; decide), ?_⟩
    generalize upd (upd G6 acontents _) me _ = G7 at i7 ⊢
    refine fun alatest halatest => ?_
    obtain ⟨j7, i8⟩ := i7.more (f := "latest") (v := .ref alatest) (o := .dK []) halatest
    refine ⟨_, rfl, me, C, dx, _, rfl, j7, R.cl, R.nl, (by show 7 < 1000; decide), ?_⟩
    generalize upd (upd G7 alatest _) me _ = G8 at i8 ⊢
    refine ⟨(by show 0 ≤ sizeLine; decide), fun asent hasent => ?_⟩
    obtain ⟨j8, i9⟩ := i8.more (f := "sent") (v := .ref asent) (o := .lst []) hasent
    refine ⟨_, rfl, me, C, dx, _, rfl, j8, R.cl, R.ns, (by show 8 < 1000; decide), ?_⟩
    generalize upd (upd G8 asent _) me _ = G9 at i9 ⊢
    refine ⟨_, rfl, me, C, dx, _, rfl, i9.ins, R.cl, R.ntk, (by show 9 < 1000; decide), ?_⟩
    have i10 := i9.old (f := "taken") (v := .int 0)
    generalize upd G9 me _ = G10 at i10 ⊢
    refine ⟨(by show 0 ≤ sizeLine; decide), fun adone hadone => ?_⟩
    obtain ⟨j10, i11⟩ := i10.more (f := "done") (v := .ref adone) (o := .lst []) hadone
    refine ⟨_, rfl, me, C, dx, _, rfl, j10, R.cl, R.nd, (by show 10 < 1000; decide), ?_⟩
    generalize upd (upd G10 adone _) me _ = G11 at i11 ⊢
    obtain ⟨y1, y2, y3, y4⟩ := i11
    have nw := fun p hp => y3 p hp
    obtain ⟨d1, d2, d3⟩ := y3 _ (List.mem_cons_self ..)
    obtain ⟨s1, s2, s3⟩ := y3 (asent, .lst []) (by simp)
    obtain ⟨l1, l2, l3⟩ := y3 (alatest, .dK []) (by simp)
    obtain ⟨c1, c2, c3⟩ := y3 (acontents, .dT []) (by simp)
    obtain ⟨w1, w2, w3⟩ := y3 (aworths, .dK []) (by simp)
    obtain ⟨k1, k2, k3⟩ := y3 (aasked, .dK []) (by simp)
    simp only [List.map_cons, List.map_nil, List.nodup_cons, List.mem_cons, List.not_mem_nil, or_false, not_or] at y4
    refine q G11 ⟨me, dx, told, hid, aasked, aworths, acontents, alatest, asent, adone, []⟩ rfl rfl rfl y2 (fun x hx => ?_) ⟨y1, ?_, k1, ⟨[], w1, Nat.zero_le _, fun _ => rfl, fun _ _ z => by cases z⟩, ⟨[], c1, Nat.zero_le _, fun _ _ => rfl, fun _ _ _ z => by cases z⟩, ⟨[], l1, Nat.zero_le _, fun _ _ => rfl, fun _ _ _ z => by cases z⟩, ⟨[], s1, .nil⟩, ⟨[], d1, .nil⟩, ?_, ⟨Nat.le_refl _, Nat.le_refl _, Nat.le_refl _, by decide, Nat.zero_le _⟩, ⟨by decide, by decide⟩, fun _ _ => rfl⟩
    · unfold Ad.own at hx
      simp only [List.mem_cons, List.not_mem_nil, or_false] at hx
      rcases hx with rfl | rfl | rfl | rfl | rfl | rfl
      · exact .inl rfl
      · exact .inr w2
      · exact .inr c2
      · exact .inr l2
      · exact .inr s2
      · exact .inr d2
    · exact hh.imp (fun z => y2 _ _ (fun e => by rw [e, e0] at z; cases z) z) id
    · obtain ⟨⟨t1, t2, t3, t4, t5⟩, ⟨u1, u2, u3, u4⟩, ⟨v1, v2, v3⟩, ⟨x1, x2⟩, z1, _⟩ := y4
      refine ⟨?_, ?_, ?_, ?_⟩
      · exact fun z => v2 z.symm
      · exact fun z => t1 z.symm
      · exact fun z => z1 z.symm
      · exact fun z => v3 z.symm
end
end OM

namespace OM
open PySem PySem.Spec PyProof.Rows L2
section
variable {X : Cx} {elt tg iter : Expr} {ifs : List Expr} {scope : Scope} {own : List (Str × Nat)} {pos : Pos} {wi : TI} {g : TG} {tt : TT} {te : TE}
theorem sx1_core {pins : List (Addr × Obj)} {s : Shared} {σ : L2.St} {H : Hp} {Q : VK} {pos' : Pos} {use : Option (Value → Sem Unit)} {Qf : Value → Shared → Prop} (hc : X.calm = true) (hN : X.N.Nodup) (I : Inv X pins σ H s) (hi : PI X tg iter wi) (ok : BlkOk X.N X.env.scope scope own) 
    (hg : ∀ (s : Shared) (H : Hp) (C : Addr) (cl : List (Str × Addr)) (fp : List Addr), PG (X.blk s H scope (compEnvC scope cl C X.env) fp) tg g) (ht : ∀ (s : Shared) (H : Hp) (C : Addr) (cl : List (Str × Addr)) (fp : List Addr), PTs (X.blk s H scope (compEnvC scope cl C X.env) fp) ifs tt)
    (he : ∀ (s : Shared) (H : Hp) (C : Addr) (cl : List (Str × Addr)) (fp : List Addr), PE (X.blk s H scope (compEnvC scope cl C X.env) fp) elt te)
    (hs : ∀ x, foldedSetIterable iter X.env x = pure x) (h : tSx X.w wi g tt te (own.map (·.2)) σ H Q)
    (hRR : ∀ D C s' m H', Inv X pins σ H' s' → Q (.ref D) H' → s'.heap.Ns C m → FpOk X pins H' C → compPost (model X.prog X.w) X.A X.xe use Qf (.ref D) C (.ok .next) s') :
    wpAny (model X.prog X.w) X.A (comprehension (.SetComp elt [⟨tg, iter, ifs, 0⟩] scope pos) scope X.env pos' (newSet (.type "set")) false (eval iter X.env) use) Qf X.xe s := by
  have cells : ∀ y ∈ scope.names, y.2 = .free → ∃ c, X.env.cells.lookup y.1 = some c := fun y hy e => (ok.free y hy e).elim (fun k => I.ok.has _ (.inl k)) fun k => I.ok.has _ (.inr k)
  refine wpAny_comprehension_free (use := use) rfl hs (closure_ok cells) ok.kind (fun y hy e => by rw [ok.uniq y hy, e]) (thn (hi.run pins s σ H _ I h) fun xv s1 hx => thn hx fun itv s2 h2 => ?_)
  obtain ⟨it, fp, tn, J, H2, rfl, I2, T, st2, f2, q⟩ := h2
  refine PpSet.newSet_ok (newEnv_comp ?_)
  obtain ⟨D, hD⟩ : ∃ D, s2.heap.objs.size = D := ⟨_, rfl⟩
  obtain ⟨W, ⟨m0, w0⟩, turn⟩ := q D (I2.hok.fresh (Nat.le_of_eq hD))
  have fresh := tx_fresh (h := s2.heap) X.w
  rw [hD] at fresh ⊢
  obtain ⟨s3, es3⟩ : ∃ s3 : Shared, s3 = { s2 with heap := s2.heap.push { cls := .type "set", dict := none, data := .set #[] 0 (.fresh 0 0 (!X.w.params.followText "set-order")) } } := ⟨_, rfl⟩
  have h3 : s3.heap = s2.heap.push { cls := .type "set", dict := none, data := .set #[] 0 (.fresh 0 0 (!X.w.params.followText "set-order")) } := by rw [es3]
  have I3 : Inv X pins σ (upd H2 D (SetTO X.w D [])) s3 := by
    rw [es3]
    exact I2.laid (t' := s2.toks) (fun b o e => Heap.get?_push_of_some _ e) (Nat.le_of_eq hD) (txo_new fresh)
  rw [← es3]
  have f3 : ∀ b ∈ fp, FpOk X pins (upd H2 D (SetTO X.w D [])) b ∧ b < s3.heap.objs.size := fun b hb => by
    obtain ⟨o, e, _⟩ := T.obj _ _ st2 b hb
    have lt := Heap.lt_size e
    exact ⟨⟨by rw [upd_ne (by rw [← hD]; exact Nat.ne_of_lt lt)]; exact (f2 b hb).1, (f2 b hb).2⟩, by rw [h3, Heap.size_push]; exact Nat.lt_succ_of_lt lt⟩
  have st3 : tn 0 s3.heap := T.keep _ _ _ st2 fun b _ o e => by rw [h3]; exact Heap.get?_push_of_some _ e
  have I4 := block_start I3 ok hN f3
  have pg := hg s3 (upd H2 D (SetTO X.w D [])) s3.heap.objs.size (cellsFrom (s3.heap.objs.size + 1) scope.names (cloFrom X.env.cells scope.names [])) fp
  have pt := ht s3 (upd H2 D (SetTO X.w D [])) s3.heap.objs.size (cellsFrom (s3.heap.objs.size + 1) scope.names (cloFrom X.env.cells scope.names [])) fp
  have pe := he s3 (upd H2 D (SetTO X.w D [])) s3.heap.objs.size (cellsFrom (s3.heap.objs.size + 1) scope.names (cloFrom X.env.cells scope.names [])) fp
  show codeAny _ _ (.compStart (.SetComp elt [⟨tg, iter, ifs, 0⟩] scope pos) 0 (.ref it) (.ref D) (compEnvC scope (cellsFrom (s3.heap.objs.size + 1) scope.names (cloFrom X.env.cells scope.names [])) s3.heap.objs.size X.env)) (compPost (model X.prog X.w) X.A X.xe use Qf (.ref D) s3.heap.objs.size) { s3 with heap := pushCells (s3.heap.push { cls := .type "dict", data := .dict #[] }) scope.names }
  obtain ⟨ce, ece⟩ : ∃ ce, ce = compEnvC scope (cellsFrom (s3.heap.objs.size + 1) scope.names (cloFrom X.env.cells scope.names [])) s3.heap.objs.size X.env := ⟨_, rfl⟩
  have cL : ce.locals = s3.heap.objs.size := by rw [ece]; rfl
  obtain ⟨s4, es4⟩ : ∃ s4 : Shared, s4 = { s3 with heap := pushCells (s3.heap.push { cls := .type "dict", data := .dict #[] }) scope.names } := ⟨_, rfl⟩
  rw [← ece] at I4 pg pt pe ⊢
  rw [← es4] at I4 ⊢
  have st4 : tn 0 s4.heap := T.keep _ _ _ st3 fun b _ o e => by rw [es4]; exact pushCells_keeps _ _ _ _ (Heap.get?_push_of_some _ e)
  generalize upd H2 D (SetTO X.w D []) = H3 at w0 I3 f3 I4 pg pt pe
  have stat : ∀ {H' : Hp}, (∀ b ∈ fp, H' b = none) → ∀ b ∈ fp, FpOk (X.blk s3 H3 scope ce fp) [] H' b := fun {H'} hn b hb =>
    ⟨hn b hb, (I4.ok.exf b hb).1, I4.ok.exfs b hb, .inl hb, fun x c e => (I4.ok.exf b hb).2 x c e, fun p hp => absurd (show p ∈ ([] : List (Addr × Obj)) ++ [] from hp) (by simp)⟩
  have loop : codeAny (model X.prog X.w) X.A (.compLoop (.SetComp elt [⟨tg, iter, ifs, 0⟩] scope pos) 0 (.ref it) (.ref D) ce) (compPost (model X.prog X.w) X.A X.xe use Qf (.ref D) s3.heap.objs.size) s4 := by
    refine blk_loop (kn := fun σ2 => wipe σ2 (own.map (·.2)) = wipe σ (own.map (·.2))) (W := W) (Z := fun H => Q (.ref D) H) (g := g) (tt := tt) (em := emS X.prog X.w X.A (notedBy (model X.prog X.w) X.A ce fun e s' => compPost (model X.prog X.w) X.A X.xe use Qf (.ref D) s3.heap.objs.size (.error e) s') elt (.ref D) ce)
      (emH := fun σ2 H3 Nx => te σ2 H3 (tInto X.w D Nx)) (fun _ z => wiped z) hc T stat pg pt emS_ok (turn_s1 _ _ _) ?_ ?_ ?_ ?_ I4 st4 (fun b hb => (f3 b hb).1.1) w0
    · exact turn
    · intro Y Y' s h k
      exact wpAny_mono h (fun x s1 h1 => wpAny_mono h1 (fun _ s2 h2 => k _ h2) fun _ _ z => z) fun _ _ z => z
    · intro σ2 H4 Nx s pl I' hk q2
      exact into_ok pe I' hk q2
    · intro s6 H5 I6 qq
      have I7 : Inv X pins σ H5 s6 := I3.call' (ch := fp) I6.os I6.base I6.hok I6.bare fun b hb => ⟨(f3 b hb).1.2.2.2.1, (f3 b hb).1.2.1, (f3 b hb).1.2.2.2.2.1, (f3 b hb).1.2.2.2.2.2⟩
      have nC : H5 s3.heap.objs.size = none := by
        rw [← cL]
        exact I6.free
      obtain ⟨m, hn, _⟩ := I6.loc
      have hn : s6.heap.Ns ce.locals m := hn
      rw [cL] at hn
      exact hRR D s3.heap.objs.size s6 m H5 I7 qq hn (I3.fpOk (Nat.le_refl _) nC)
  exact start_any rfl rfl loop (T.self X.A 0 _ _ _ st4 loop)
theorem pe_sx1 (hc : X.calm = true) (hN : X.N.Nodup) (hi : PI X tg iter wi) (ok : BlkOk X.N X.env.scope scope own) (hg : ∀ (s : Shared) (H : Hp) (C : Addr) (cl : List (Str × Addr)) (fp : List Addr), PG (X.blk s H scope (compEnvC scope cl C X.env) fp) tg g)
    (ht : ∀ (s : Shared) (H : Hp) (C : Addr) (cl : List (Str × Addr)) (fp : List Addr), PTs (X.blk s H scope (compEnvC scope cl C X.env) fp) ifs tt)
    (he : ∀ (s : Shared) (H : Hp) (C : Addr) (cl : List (Str × Addr)) (fp : List Addr), PE (X.blk s H scope (compEnvC scope cl C X.env) fp) elt te) (hs : ∀ x, foldedSetIterable iter X.env x = pure x := by intro _; rfl) :
    PE X (.SetComp elt [⟨tg, iter, ifs, 0⟩] scope pos) (tSx X.w wi g tt te (own.map (·.2))) := by
  refine ⟨fun pins s σ H Q I h => ?_⟩
  rw [PpSet.eval_SetComp]
  refine sx1_core hc hN I hi ok hg ht he hs h fun D C s' m H' I' q hn ⟨f0, f1, f2, f3, f4, f5⟩ => ⟨m, hn, fun h'' sb => ?_⟩
  exact ⟨.ref D, H', I'.turned (t' := s'.toks) (fun b o hb e => (sb.2 b hb).trans e) f0 f1 f3 f4 f5, rfl, q⟩
/-- over a tuple that stays -/
theorem goes_tup {K : PySem.W.Frag} {a : Addr} {xs : List V} {H0 : Hp} {Z : Hp → Prop} {step : V → Hp → (Hp → Prop) → Prop} (Pv : Nat → Hp → Prop) (h0 : Pv 0 H0) (hl : ∀ i H, Pv i H → SqT K H a xs) (hs : ∀ i x H, xs[i]? = some x → Pv i H → step x H (Pv (i + 1))) (hd : ∀ H, Pv xs.length H → Z H) :
    ∃ W : Nat → Nat → Hp → Prop, (∃ m, W 0 m H0) ∧ goes (Itt K a) W Z step := by
  refine ⟨fun i m H => m = xs.length - i ∧ i ≤ xs.length ∧ Pv i H, ⟨_, rfl, Nat.zero_le _, h0⟩, ?_⟩
  rintro i m H ⟨rfl, hi, p⟩
  have q := hl i H p
  rcases Nat.lt_or_ge i xs.length with hlt | hge
  · refine .inr ⟨⟨xs, xs[i], q, by simp [hlt]⟩, Pv (i + 1), fun H' p' => ⟨xs.length - (i + 1), by omega, rfl, hlt, p'⟩, fun x H' y => ?_⟩
    obtain ⟨rfl, y⟩ := y
    exact hs i x _ (y xs q) p
  · obtain rfl : i = xs.length := by omega
    exact .inl ⟨⟨xs, q, Nat.le_refl _⟩, hd H p⟩
end
end OM

namespace OM
open PySem PySem.Spec PyProof.Rows L2
abbrev sNextP : Stmt := top 66
abbrev sChained : Stmt := top 63
theorem minOf_spec : ∀ (ys : List Int) (y : Int), PySem.W.minOf y ys ∈ y :: ys ∧ ∀ z ∈ y :: ys, PySem.W.minOf y ys ≤ z
  | [], y => ⟨List.mem_cons_self, fun z h => by
    rw [List.mem_singleton.mp h]
    exact Int.le_refl _⟩
  | a :: r, y => by
    obtain ⟨h1, h2⟩ := minOf_spec r (if decide (a < y) = true then a else y)
    have e : PySem.W.minOf y (a :: r) = PySem.W.minOf (if decide (a < y) = true then a else y) r := rfl
    rw [e]
    have h3 := h2 _ List.mem_cons_self
    constructor
    · rcases List.mem_cons.mp h1 with z | z
      · rw [z]
        split
        · exact List.mem_cons_of_mem _ List.mem_cons_self
        · exact List.mem_cons_self
      · exact List.mem_cons_of_mem _ (List.mem_cons_of_mem _ z)
    · intro z hz
      have ya : (if decide (a < y) = true then a else y) ≤ y ∧ (if decide (a < y) = true then a else y) ≤ a := by
        split
        · rename_i h
          have := of_decide_eq_true h
          omega
        · rename_i h
          have : ¬ a < y := fun z => h (decide_eq_true z)
          omega
      rcases List.mem_cons.mp hz with q | q
      · rw [q]
        omega
      · rcases List.mem_cons.mp q with q | q
        · rw [q]
          omega
        · exact h2 z (List.mem_cons_of_mem _ q)
/-- min(xs, default=d), ints -/
def rMinDef (K : PySem.W.Frag) : List V → List V → Hp → VK → Prop := fun vs zs H Q => ∃ (a : Addr) (ns : List Int) (d : Int), vs = [.ref a] ∧ zs = [.int d] ∧ SqL K H a (ns.map V.int) ∧ (ns = [] → Q (.int d) H) ∧ ∀ m, m ∈ ns → (∀ y ∈ ns, m ≤ y) → Q (.int m) H
theorem cr_minDef {X : Cx} (hc : X.calm = true) (hu : X.A.units + 1 < cLine) : CallRK X (.builtin "min") ["default"] (rMinDef X.K) := by
  intro pins s σ H xs zs us ws Q I rx rz h
  obtain ⟨a, ns, d, rfl, rfl, hs, q0, q1⟩ := h
  obtain ⟨u, rfl, ru⟩ := rz.one
  obtain ⟨tk, rfl⟩ := ru
  rw [Vals.ref1 rx]
  obtain ⟨its, r, pl, _⟩ := I.list hs
  have hi : IntsAre its ns := by simpa using r.ints
  refine PySem.W.min_list_datum_default (α := Int) (xs := ns) (I.ok.hd hc) pl.isList (by simpa using hold_ints hi) hu (fun e h' tk k => ⟨.int d, H, I.kept k, ⟨_, rfl⟩, q0 e⟩) fun y ys i v h' tk e hv hh k => ?_
  subst e
  obtain ⟨m1, m2⟩ := minOf_spec ys y
  obtain ⟨as, hr⟩ := hh
  refine ⟨.int (PySem.W.minOf y ys), H, I.kept k, ?_, q1 _ m1 m2⟩
  have hr : Reads h' v (.int (PySem.W.minOf y ys)) as := hr
  cases hr
  exact ⟨_, rfl⟩
def spNextP (K : PySem.W.Frag) : Sp := fun vs H Q _ => ∃ (a : Addr) (xs : List V) (ls : List (Str × Str)) (p : Nat), vs = [.ref a, .int p] ∧ SqL K H a xs ∧ Paired (LetR H) xs ls ∧ ls.length ≤ 900 ∧ p ≤ 900 ∧ ∀ H' (m : Nat), Same H H' → Q (.int m) H'
/-- chains as objects: tuples of indices below n -/
def ChnR (n : Nat) (H : Hp) (x : V) : Prop := ∃ (q : Addr) (js : List Nat), x = .ref q ∧ H q = some (.tup (js.map fun j => V.int (j : Nat))) ∧ js ≠ [] ∧ ∀ j ∈ js, j < n
def spChained (K : PySem.W.Frag) : Sp := fun vs H Q _ => ∃ (a s i : Addr) (ds ls : List V) (dn : List (Str × Str × Nat × Str)) (le : List (Str × Str)) (is : List Nat), vs = [.ref a, .ref s, .ref i] ∧ SqL K H a ds ∧ Paired (AccR H) ds dn ∧ SqL K H s ls ∧ Paired (LetR H) ls le ∧ SqL K H i (is.map fun j => V.int (j : Nat)) ∧
  (∀ j ∈ is, j < dn.length) ∧ (∀ d ∈ dn, d.2.2.1 ≤ le.length) ∧ le.length ≤ 900 ∧ is.length ≤ 900 ∧ ∀ H' p xs, Same H H' → H' p = some (.tup xs) → xs.length ≤ is.length → (∀ x ∈ xs, ChnR dn.length H' x) → Q (.ref p) H'
section
variable {P : Program} {w : World} {K : PySem.W.Frag} {mg : Str → Option Value} {base : Heap} {f fC : Addr} {fd dC : FuncData}
theorem scNP : FnScope ["letters", "place", "at"] ["letters", "place"] (defScope sNextP) := ⟨rfl, rfl, rfl, by decide +kernel, rfl, by decide +kernel, by decide +kernel⟩
theorem ok_nextP (F : Fun K "_next_put" "_next_put" sNextP f fd) (mi : mg "min" = none) (rng : mg "range" = none) (ln : mg "len" = none) : FnOk P w K mg base CX0 1 f fd ["letters", "place"] (spNextP K) := by
  refine F.ok scNP (fun vs H Q E h => ?_) (fun cdv A outer s H vs Q E hr h => ?_)
  · obtain ⟨a, xs, ls, p, rfl, _⟩ := h
    rfl
  · obtain ⟨a, xs, ls, p, rfl, hs, hx, l9, p9, q⟩ := h
    refine ⟨_, pss_one (ps_ret (pe_callBK (cr_minDef rfl (hu_of hr)) (by rfl) mi (by decide +kernel) (pa_cons (pe_lc (own := [("at", 2)]) rfl scNP.nd (pi_range2 (by rfl) rng (pa_cons (pv 1) (pa_cons (pe_callB call_len_seq (by rfl) ln PySem.boot_len (pa_cons (pv 0) pa_nil)) pa_nil))) (blkOk_by (N := ["letters", "place", "at"]) (sc := defScope sNextP) (by decide +kernel))
      (fun _ _ _ _ _ => pg_name (i := 2) scNP.nd rfl (Or.inl rfl)) (fun _ _ _ _ _ => pts_one (pt_cmpR op_eq (pe_ix (r := rIxT K) ix_tup (pe_ix (r := rIxL K) ix_list (pv 0) (pv 2) (fun _ _ => rfl)) pe_int (fun _ _ => rfl)) pe_str (nomark _))) (fun _ _ _ _ _ => pv 2)) pa_nil)
      (pk_cons (pe_callB call_len_seq (by rfl) ln PySem.boot_len (pa_cons (pv 0) pa_nil)) pk_nil))), ?_⟩
    have lx := hx.length
    have line : (1000 : Nat) < sizeLine := by decide
    refine ⟨_, rfl, _, rfl, a, xs, rfl, .inl hs, (p : Int), (xs.length : Int), rfl, ⟨by omega, by omega, by omega, by omega⟩, fun D hD => lc_range (lo := (p : Int)) (fun i G => Same H G ∧ ∃ ns : List Nat, G D = some (.lst (ns.map fun j => V.int (j : Nat))) ∧ ns.length ≤ i) ⟨same_upd hD, [], upd_same, Nat.le_refl _⟩ (fun i G hi pv => ?_) (fun G pv => ?_)⟩
    · obtain ⟨sG, ns, eD, lns⟩ := pv
      have hi2 : p + i < xs.length := by omega
      obtain ⟨l, hl, b, eb0, eb⟩ := Paired.at hx (List.getElem?_eq_getElem hi2)
      have e0 : ((p : Int) + (i : Nat)) = ((p + i : Nat) : Int) := by omega
      rw [e0]
      refine ⟨rfl, _, rfl, _, rfl, a, xs, _, _, rfl, rfl, sG.seq hs, atI_nat (List.getElem?_eq_getElem hi2), b, _, 0, .str l.1, eb0, rfl, SqT.of (sG _ _ eb), at0, rfl, _, rfl, ite2 (fun hk => ?_) (fun hk => ?_)⟩
      · refine ⟨_, rfl, _, eD, by rw [List.length_map]; omega, same_put hD sG, ns ++ [p + i], by rw [upd_same, List.map_append]; rfl, by rw [List.length_append]; show _ + 1 ≤ _; omega⟩
      · exact ⟨sG, ns, eD, by omega⟩
    · obtain ⟨sG, ns, eD, lns⟩ := pv
      refine ⟨_, rfl, a, xs, rfl, .inl (sG.seq hs), D, ns.map fun j => ((j : Nat) : Int), (xs.length : Nat), rfl, rfl, SqL.of (by rw [List.map_map]; exact eD), fun _ => q G xs.length sG, fun m hm _ => ?_⟩
      obtain ⟨j, _, rfl⟩ := List.mem_map.mp hm
      exact q G j sG
theorem scChn : FnScope ["accesses", "letters", "indices", "found", "index", "chain"] ["accesses", "letters", "indices"] (defScope sChained) := ⟨rfl, rfl, rfl, by decide +kernel, rfl, by decide +kernel, by decide +kernel⟩
/-- lists of indices, made behind H0 -/
inductive LisAt (n m : Nat) (H0 H : Hp) : List Addr → Prop where
  | nil : LisAt n m H0 H []
  | cons {a : Addr} {as : List Addr} {js : List Nat} (e : H a = some (.lst (js.map fun j => V.int (j : Nat)))) (new : H0 a = none) (ne : js ≠ []) (ok : ∀ j ∈ js, j < n) (len : js.length ≤ m) (t : LisAt n m H0 H as) : LisAt n m H0 H (a :: as)
theorem LisAt.keep {n m m' : Nat} {H0 H H' : Hp} (hm : m ≤ m') : ∀ {as : List Addr}, LisAt n m H0 H as → (∀ a ∈ as, H' a = H a) → LisAt n m' H0 H' as
  | _, .nil, _ => .nil
  | _, .cons e nw ne ok len t, k => .cons (by rw [k _ (List.mem_cons_self ..)]; exact e) nw ne ok (Nat.le_trans len hm) (LisAt.keep hm t fun a ha => k a (List.mem_cons_of_mem _ ha))
theorem LisAt.snoc {n m : Nat} {H0 H : Hp} {a : Addr} {js : List Nat} (e : H a = some (.lst (js.map fun j => V.int (j : Nat)))) (nw : H0 a = none) (ne : js ≠ []) (ok : ∀ j ∈ js, j < n) (len : js.length ≤ m) : ∀ {as : List Addr}, LisAt n m H0 H as → LisAt n m H0 H (as ++ [a])
  | _, .nil => .cons e nw ne ok len .nil
  | _, .cons e' nw' ne' ok' len' t => .cons e' nw' ne' ok' len' (LisAt.snoc e nw ne ok len t)
theorem LisAt.split {n m : Nat} {H0 H : Hp} {c : Addr} : ∀ {as : List Addr}, LisAt n m H0 H (as ++ [c]) → LisAt n m H0 H as ∧ ∃ js : List Nat, H c = some (.lst (js.map fun j => V.int (j : Nat))) ∧ H0 c = none ∧ js ≠ [] ∧ (∀ j ∈ js, j < n) ∧ js.length ≤ m
  | [], .cons e nw ne ok len _ => ⟨.nil, _, e, nw, ne, ok, len⟩
  | _ :: _, .cons e nw ne ok len t => ⟨.cons e nw ne ok len (LisAt.split t).1, (LisAt.split t).2⟩
theorem LisAt.mem {n m : Nat} {H0 H : Hp} : ∀ {as : List Addr}, LisAt n m H0 H as → ∀ a ∈ as, ∃ js : List Nat, H a = some (.lst (js.map fun j => V.int (j : Nat))) ∧ H0 a = none ∧ js ≠ [] ∧ (∀ j ∈ js, j < n) ∧ js.length ≤ m
  | _, .nil, _, h => by cases h
  | _, .cons e nw ne ok len t, a, h => by
    rcases List.mem_cons.mp h with rfl | h
    · exact ⟨_, e, nw, ne, ok, len⟩
    · exact LisAt.mem t a h
/-- the list of chains in the making -/
structure ChnS (n i : Nat) (H G : Hp) (p : Addr) : Prop where
  same : Same H G
  new : H p = none
  ex : ∃ as : List Addr, G p = some (.lst (as.map V.ref)) ∧ LisAt n i H G as ∧ (p :: as).Nodup ∧ as.length ≤ i
theorem last_of {as : List Addr} (h : as ≠ []) : ∃ bs c, as = bs ++ [c] := ⟨as.dropLast, as.getLast h, (List.dropLast_concat_getLast h).symm⟩
theorem last_nat {js : List Nat} (h : js ≠ []) : ∃ ks j, js = ks ++ [j] := ⟨js.dropLast, js.getLast h, (List.dropLast_concat_getLast h).symm⟩
theorem ChnS.one {n i : Nat} {H G G' : Hp} {p o : Addr} {j : Nat} (h : ChnS n i H G p) (s : Same G G') (ho : G' o = none) (hj : j < n) : ∃ xs, (upd G' o (.lst [.int (j : Nat)])) p = some (.lst xs) ∧ xs.length ≤ i ∧ ChnS n (i + 1) H (upd (upd G' o (.lst [.int (j : Nat)])) p (.lst (xs ++ [.ref o]))) p := by
  obtain ⟨sm, hp, as, e, L, nd, len⟩ := h
  have s1 := s.trans (same_upd (o := .lst [.int (j : Nat)]) ho)
  have oH : H o = none := sm.free (s.free ho)
  have op : o ≠ p := fun z => by
    rw [z, s _ _ e] at ho
    cases ho
  have oa : o ∉ as := fun z => by
    obtain ⟨js, q, _⟩ := L.mem o z
    rw [s _ _ q] at ho
    cases ho
  have pa : p ∉ as := (List.nodup_cons.mp nd).1
  refine ⟨_, s1 _ _ e, by rw [List.length_map]; exact len, same_put hp (sm.trans s1), hp, as ++ [o], by rw [upd_same, List.map_append]; rfl, ?_, ?_, by rw [List.length_append]; show _ + 1 ≤ _; omega⟩
  · refine LisAt.snoc (js := [j]) (by rw [upd_ne op, upd_same]; rfl) oH (by simp) (fun x hx => by rw [List.mem_singleton.mp hx]; exact hj) (by show 1 ≤ _; omega) (L.keep (by omega) fun a ha => ?_)
    obtain ⟨js, q, _⟩ := L.mem a ha
    rw [upd_ne (fun z => pa (by rw [← z]; exact ha)), s1 _ _ q, q]
  · rw [List.nodup_cons]
    refine ⟨fun z => ?_, ?_⟩
    · rcases List.mem_append.mp z with z | z
      · exact pa z
      · exact op (List.mem_singleton.mp z).symm
    · exact List.nodup_append.mpr ⟨(List.nodup_cons.mp nd).2, by simp, fun a ha b hb => by
        rw [List.mem_singleton.mp hb]
        exact fun z => oa (by rw [← z]; exact ha)⟩
/-- one index more in the last chain -/
theorem ChnS.last {n i : Nat} {H G G' : Hp} {p c : Addr} {j : Nat} {as : List Addr} {js : List Nat} (same : Same H G) (new : H p = none) (e : G p = some (.lst ((as ++ [c]).map V.ref))) (L : LisAt n i H G (as ++ [c])) (nd : (p :: (as ++ [c])).Nodup) (len : (as ++ [c]).length ≤ i) (ec : G c = some (.lst (js.map fun j => V.int (j : Nat)))) (s : Same G G') (hj : j < n) :
    ChnS n (i + 1) H (upd G' c (.lst ((js.map fun j => V.int (j : Nat)) ++ [.int (j : Nat)]))) p := by
  obtain ⟨L0, js', ec', nc, ne, ok, ln⟩ := L.split
  rw [ec] at ec'
  injection ec' with z
  injection z with z
  have ej : js = js' := by
    have h := congrArg (List.map fun v => match v with
      | V.int i => i.toNat
      | _ => 0) z
    rw [List.map_map, List.map_map] at h
    have e9 : ∀ l : List Nat, l.map ((fun v => match v with
      | V.int i => i.toNat
      | _ => 0) ∘ fun j => V.int (j : Nat)) = l := fun l => by
      conv => rhs; rw [← List.map_id l]
      exact List.map_congr_left fun x _ => Int.toNat_natCast x
    rw [e9, e9] at h
    exact h
  subst ej
  have pc : p ≠ c := fun z => (List.nodup_cons.mp nd).1 (by rw [z]; simp)
  have ca : c ∉ as := fun z => by
    have := (List.nodup_append.mp (List.nodup_cons.mp nd).2).2.2 c z c (by simp)
    exact this rfl
  refine ⟨same_put nc (same.trans s), new, as ++ [c], by rw [upd_ne pc]; exact s _ _ e, ?_, nd, by omega⟩
  refine LisAt.snoc (js := js ++ [j]) (by rw [upd_same, List.map_append]; rfl) nc (by simp) (fun x hx => ?_) (by rw [List.length_append]; show _ + 1 ≤ _; omega) (L0.keep (by omega) fun a ha => ?_)
  · rcases List.mem_append.mp hx with h | h
    · exact ok x h
    · rw [List.mem_singleton.mp h]
      exact hj
  · obtain ⟨ks, q, _⟩ := L0.mem a ha
    rw [upd_ne (fun z => ca (by rw [← z]; exact ha)), s _ _ q, q]
theorem ok_chained (F : Fun K "chained" "chained" sChained f fd) (tp : mg "tuple" = none) (gC : mg "can_come_between" = some (.ref fC)) (kC : PySem.W.keepIn K (.ref fC) = true) (bC : Binds K dC ["letters", "place", "after"] []) (GC : FnOk P w K mg base CX0 1 fC dC ["letters", "place", "after"] (spCcb K)) :
    FnOk P w K mg base CX0 2 f fd ["accesses", "letters", "indices"] (spChained K) := by
  refine F.ok scChn (fun vs H Q E h => ?_) (fun cdv A outer s H vs Q E hr h => ?_)
  · obtain ⟨a, s, i, ds, ls, dn, le, is, rfl, _⟩ := h
    rfl
  · obtain ⟨a, sa, ia, ds, ls, dn, le, is, rfl, hd, pd, hl, pl, hi, lt, pls, l9, i9, q⟩ := h
    refine ⟨_, pss_cons (ps_set (i := 3) scChn.nd rfl (Or.inl rfl) (pe_lst pa_nil))
      (pss_cons (ps_for PassesOwn.never rfl (pi_list (pv 2)) (pg_name (i := 4) scChn.nd rfl (Or.inl rfl))
        (pss_one (ps_if (PW.pt (pw_and (pt_truth (pv 3) (fun _ => rfl)) (pw_and1 (pt_not (pt_val (pe_call GC hr (by rfl) gC kC bC .nil pass0 (pa_cons (pv 1) (pa_cons
            (pe_ix (r := rIxT K) ix_tup (pe_ix (r := rIxL K) ix_list (pv 0) (pe_ix (r := rIxL K) ix_list (pe_ix (r := rIxL K) ix_list (pv 3) (pe_un un_neg pe_int) (fun _ _ => rfl)) (pe_un un_neg pe_int) (fun _ _ => rfl)) (fun _ _ => rfl)) pe_int (fun _ _ => rfl))
            (pa_cons (pe_ix (r := rIxT K) ix_tup (pe_ix (r := rIxL K) ix_list (pv 0) (pv 4) (fun _ _ => rfl)) pe_int (fun _ _ => rfl)) pa_nil)))))))))
          (pss_one (ps_expr (pe_bm PySem.F.plainAttrs_list PySem.F.slot_list_append PySem.F.type_list_append mt_append (pe_ix (r := rIxL K) ix_list (pv 3) (pe_un un_neg pe_int) (fun _ _ => rfl)) (pa_cons (pv 4) pa_nil))))
          (pss_one (ps_expr (pe_bm PySem.F.plainAttrs_list PySem.F.slot_list_append PySem.F.type_list_append mt_append (pv 3) (pa_cons (pe_lst (pa_cons (pv 4) pa_nil)) pa_nil)))))))
      (pss_one (ps_ret (pe_callTy call_tuple_of (by rfl) tp (by decide +kernel) (pa_cons (pe_lc (own := [("chain", 5)]) rfl scChn.nd (pi_list (pv 3)) (blkOk_by (N := ["accesses", "letters", "indices", "found", "index", "chain"]) (sc := defScope sChained) (by decide +kernel))
        (fun _ _ _ _ _ => pg_name (i := 5) scChn.nd rfl (Or.inl rfl)) (fun _ _ _ _ _ => pts_nil) (fun _ _ _ _ _ => pe_callTy (T := "tuple") (r := rTupO K) call_tuple_of (by rfl) tp (by decide +kernel) (pa_cons (pv 5) pa_nil))) pa_nil))))), ?_⟩
    have line : (1000 : Nat) < sizeLine := by decide
    refine ⟨(by show 0 ≤ sizeLine; decide), fun p hp => ?_⟩
    have s0 := same_upd (o := .lst []) hp
    refine ⟨_, rfl, ia, rfl, ⟨_, s0.seq hi⟩, for_list (xs := is.map fun j => V.int (j : Nat)) (fun i σ G => (∃ x4 x5, σ = [some (.ref a), some (.ref sa), some (.ref ia), some (.ref p), x4, x5]) ∧ ChnS dn.length i H G p)
      ⟨⟨_, _, rfl⟩, s0, hp, [], upd_same, .nil, by simp, Nat.le_refl _⟩ (fun i σ G _ h => h.2.same.seq hi) (fun i x σ G hx h => ?_) (fun σ G h => ?_)⟩
    · obtain ⟨⟨x4, x5, rfl⟩, cs⟩ := h
      rw [List.getElem?_map] at hx
      obtain ⟨j, hj, rfl⟩ := Option.map_eq_some_iff.mp hx
      have ji : i < is.length := (List.getElem?_eq_some_iff.mp hj).1
      have jn := lt j (List.mem_of_getElem? hj)
      have cs0 := cs
      obtain ⟨sm, hp', as, e, L, nd, len⟩ := cs
      have fresh : ∀ {G' : Hp}, Same G G' → ∀ o, G' o = none → ∃ xs, (upd G' o (.lst [.int (j : Nat)])) p = some (.lst xs) ∧ xs.length < sizeLine ∧ (∃ x4 x5, [some (V.ref a), some (.ref sa), some (.ref ia), some (.ref p), some (.int (j : Nat)), x5] = [some (.ref a), some (.ref sa), some (.ref ia), some (.ref p), x4, x5]) ∧ ChnS dn.length (i + 1) H (upd (upd G' o (.lst [.int (j : Nat)])) p (.lst (xs ++ [.ref o]))) p := fun s o ho => by
        obtain ⟨xs, q1, q2, q3⟩ := cs0.one s ho jn
        exact ⟨xs, q1, by omega, ⟨_, x5, rfl⟩, q3⟩
      by_cases ha : as = []
      · subst ha
        refine ⟨_, rfl, false, .inl ⟨_, SqL.of e, rfl⟩, iteF (iteF ?_)⟩
        refine ⟨_, rfl, .inl ⟨rfl, _, SqL.of e⟩, _, rfl, (by show 1 ≤ sizeLine; decide), fun o ho => ?_⟩
        obtain ⟨xs, q1, q2, _, q4⟩ := fresh (Same.refl G) o ho
        exact ⟨p, xs, .ref o, rfl, rfl, q1, q2, ⟨_, _, rfl⟩, q4⟩
      · obtain ⟨bs, c, rfl⟩ := last_of ha
        obtain ⟨L0, js, ec, nc, ne, ok, ln⟩ := L.split
        obtain ⟨ks, jl, rfl⟩ := last_nat ne
        have jl' := ok jl (by simp)
        obtain ⟨dv, hdv, rdv⟩ := Paired.of pd (List.getElem?_eq_getElem jl')
        obtain ⟨dw, hdw, rdw⟩ := Paired.of pd (List.getElem?_eq_getElem jn)
        obtain ⟨b1, rfl, eb1⟩ := rdv
        obtain ⟨b2, rfl, eb2⟩ := rdw
        have em : G p = some (.lst (bs.map V.ref ++ [.ref c])) := by rw [e, List.map_append]; rfl
        have ecm : G c = some (.lst ((ks.map fun j => V.int (j : Nat)) ++ [.int (jl : Nat)])) := by rw [ec, List.map_append]; rfl
        refine ⟨_, rfl, true, .inl ⟨_, SqL.of em, by simp⟩, iteT ?_⟩
        refine ⟨_, rfl, _, rfl, _, rfl, 1, rfl, p, _, -1, .ref c, rfl, rfl, SqL.of em, atI_last _ _, 1, rfl, c, _, -1, .int (jl : Nat), rfl, rfl, SqL.of ecm, atI_last _ _, a, ds, _, .ref b1, rfl, rfl, sm.seq hd, atI_nat hdv, b1, _, 2, _, rfl, rfl, SqT.of (sm _ _ eb1), rfl, _, rfl, _, rfl, a, ds, _, .ref b2, rfl, rfl, sm.seq hd, atI_nat hdw, b2, _, 2, _, rfl, rfl, SqT.of (sm _ _ eb2), rfl, sa, ls, le, _, _, rfl, sm.seq hl, L2.Paired.mapP pl fun _ _ z => z.mv (TupS.same sm), pls _ (List.getElem_mem _), pls _ (List.getElem_mem _), by omega, fun G2 s2 => ⟨_, rfl, ?_⟩⟩
        refine ite2 (fun _ => ?_) (fun _ => ?_)
        · refine ⟨_, rfl, 1, rfl, p, _, -1, .ref c, rfl, rfl, SqL.of (s2 _ _ em), atI_last _ _, .inl ⟨rfl, _, SqL.of (s2 _ _ ec)⟩, _, rfl, c, _, .int (j : Nat), rfl, rfl, s2 _ _ ec, by rw [List.length_map]; omega, ⟨_, _, rfl⟩, ?_⟩
          exact ChnS.last sm hp' e L nd len ec s2 jn
        · refine ⟨_, rfl, .inl ⟨rfl, _, SqL.of (s2 _ _ e)⟩, _, rfl, (by show 1 ≤ sizeLine; decide), fun o ho => ?_⟩
          obtain ⟨xs, q1, q2, _, q4⟩ := fresh s2 o ho
          exact ⟨p, xs, .ref o, rfl, rfl, q1, q2, ⟨_, _, rfl⟩, q4⟩
    · obtain ⟨⟨x4, x5, rfl⟩, sm, hp', as, e, L, nd, len⟩ := h
      rw [List.length_map] at len L
      refine ⟨_, rfl, p, rfl, ⟨_, SqL.of e⟩, fun D hD => lc_list (xs := as.map V.ref) (fun i G' => Same G G' ∧ ∃ xs : List V, G' D = some (.lst xs) ∧ xs.length = i ∧ ∀ x ∈ xs, ChnR dn.length G' x) ⟨same_upd hD, [], upd_same, rfl, fun _ z => by cases z⟩ (fun i G' _ pv => SqL.of (pv.1 _ _ e)) (fun i x G' hx pv => ?_) (fun G' pv => ?_)⟩
      · obtain ⟨sG, xs, eD, lxs, ch⟩ := pv
        rw [List.getElem?_map] at hx
        obtain ⟨c, hc, rfl⟩ := Option.map_eq_some_iff.mp hx
        have ic : i < as.length := (List.getElem?_eq_some_iff.mp hc).1
        obtain ⟨js, ec, _, ne, ok, _⟩ := L.mem c (List.mem_of_getElem? hc)
        refine ⟨rfl, _, rfl, c, _, rfl, .inl ⟨SqL.of (sG _ _ ec), fun t ht => ?_⟩⟩
        have s1 := same_upd (o := .tup (js.map fun j => V.int (j : Nat))) ht
        have tD : t ≠ D := fun z => by rw [z, eD] at ht; cases ht
        refine ⟨xs, s1 _ _ eD, by omega, same_put hD (sG.trans s1), xs ++ [.ref t], upd_same, by simp [lxs], fun x hx => ?_⟩
        rcases List.mem_append.mp hx with h | h
        · obtain ⟨q0, ks, rfl, eq, n1, n2⟩ := ch x h
          exact ⟨q0, ks, rfl, TupS.put (s1 _ _ eD) (fun _ z => nomatch z) _ _ (s1 _ _ eq), n1, n2⟩
        · rw [List.mem_singleton.mp h]
          exact ⟨t, js, rfl, by rw [upd_ne tD, upd_same], ne, ok⟩
      · obtain ⟨sG, xs, eD, lxs, ch⟩ := pv
        refine ⟨D, xs, rfl, .inl ⟨SqL.of eD, fun t ht => ?_⟩⟩
        have s1 := same_upd (o := .tup xs) ht
        rw [List.length_map] at lxs
        refine q _ t xs ((sm.trans sG).trans s1) upd_same (by omega) (fun x hx => ?_)
        obtain ⟨q0, ks, rfl, eq, n1, n2⟩ := ch x hx
        exact ⟨q0, ks, rfl, s1 _ _ eq, n1, n2⟩
end
end OM

namespace OM
open PySem PySem.Spec PyProof.Rows L2
open AutoSeq1 (wpAny_loadPart')
/-! ### enumerate(tuple) -/
theorem meets_enumT (l : Addr) (items : Array Value) (n : Nat) (dct : Option Addr) (sl : Array (Option Value)) :
    Meets (Builtin.«enumerate.__new__» ⟨[.type "enumerate", .ref l], []⟩) (fun _ R s => s.heap.get? l = some { cls := .type "tuple", dict := dct, data := .seq items n, slots := sl } ∧
      R (.ok (.ret (.ref (s.heap.push { cls := .type "tuple_iterator", data := .fields #[.ref l, .int 0 0] }).objs.size)))
        { s with heap := (s.heap.push { cls := .type "tuple_iterator", data := .fields #[.ref l, .int 0 0] }).push { cls := .type "enumerate", data := .fields #[.none, .bool false, .ref s.heap.objs.size, rawInt 0, .none, .none] } }) :=
  .of_wp fun prog w A R s hR => by
    obtain ⟨hp, gs, dr, tk, os⟩ := s; obtain ⟨el, hR⟩ := hR
    have sb := sub_enumerate
    have iT : Heap.IsTuple (Shared.heap ⟨hp, gs, dr, tk, os⟩) l items := ⟨_, el, rfl, n, rfl⟩
    wp_walk using wpAny_loadPart' el
    refine wpAny_stack_any fun st => wpAny_pure ?_
    split
    · rename_i c _ _ _ _ _
      cases (c == Value.type "enumerate")
      · wp_walk using wpAny_loadPart' el, wpAny_pyIter_tuple iT
        exact ⟨_, rfl, hR⟩
      · wp_walk using wpAny_loadPart' el, wpAny_pyIter_tuple iT
        exact ⟨_, rfl, hR⟩
    · wp_walk using wpAny_loadPart' el, wpAny_pyIter_tuple iT
      exact ⟨_, rfl, hR⟩
section
variable {prog : Program} {w : World} {A : Around} {E : Value → Shared → Prop} {s : Shared}
theorem call_enumT {l : Addr} {items : Array Value} {Q : Value → Shared → Prop} (hT : IsTup s.heap l items)
    (h : ∀ h', IsEnum h' (s.heap.objs.size + 1) s.heap.objs.size 0 .none → h'.IsTupleIter s.heap.objs.size l 0 → (∀ b o, s.heap.get? b = some o → h'.get? b = some o) → Q (.ref (s.heap.objs.size + 1)) { s with heap := h' }) :
    wpAny (model prog w) A (call (.type "enumerate") [.ref l]) Q E s := by
  obtain ⟨⟨c, dct, dt, sl⟩, el, hc, n, hd⟩ := hT
  obtain rfl : c = .type "tuple" := hc
  obtain rfl : dt = .seq items n := hd
  refine callType_new F.called_enumerate (by decide) (F.typeCall_enumerate_1 _) (F.newCall_enumerate_1 _) (fun obj => F.args_object_init_2 obj _) F.entry_enumerate_new (meets_enumT l items n dct sl) ⟨el, ?_⟩
  have z : (s.heap.push { cls := .type "tuple_iterator", data := .fields #[.ref l, .int 0 0] }).objs.size = s.heap.objs.size + 1 := Heap.size_push ..
  show _ ∧ _
  rw [z]
  have en : IsEnum ((s.heap.push { cls := .type "tuple_iterator", data := .fields #[.ref l, .int 0 0] }).push { cls := .type "enumerate", data := .fields #[.none, .bool false, .ref s.heap.objs.size, rawInt 0, .none, .none] }) (s.heap.objs.size + 1) s.heap.objs.size 0 .none := by
    have := Heap.get?_push_size (s.heap.push { cls := .type "tuple_iterator", data := .fields #[.ref l, .int 0 0] }) (o := { cls := .type "enumerate", data := .fields #[.none, .bool false, .ref s.heap.objs.size, rawInt 0, .none, .none] }) rfl
    rw [z] at this
    exact this
  exact ⟨⟨_, en, rfl⟩, h _ en ⟨_, Heap.get?_push_of_some _ (Heap.get?_push_size _ rfl), rfl, rfl⟩ fun b o x => Heap.get?_push_of_some _ (Heap.get?_push_of_some _ x)⟩
end
/-- the tuple at a, each item in a new pair -/
def Itet (K : PySem.W.Frag) (a : Addr) : It :=
  ⟨fun i H => ∃ (xs : List V) (x : V), SqT K H a xs ∧ xs[i]? = some x, fun i H v H' => ∃ T x, v = .ref T ∧ H T = none ∧ H' = upd H T (.tup [.int (i : Nat), x]) ∧ ∀ xs, SqT K H a xs → xs[i]? = some x, fun i H => ∃ xs : List V, SqT K H a xs ∧ i = xs.length⟩
theorem tup_ne {h : Heap} {a it : Addr} {i : Nat} {items : Array Value} (p : IsTup h a items) (q : h.IsTupleIter it a i) : a ≠ it := fun z => by
  obtain ⟨o, ho, hc, _⟩ := p
  obtain ⟨o', ho', hc', _⟩ := q
  rw [z, ho'] at ho
  injection ho with ho
  rw [← ho, hc'] at hc
  injection hc with hc
  exact absurd hc (by decide)
theorem enum_ne {h : Heap} {a e it : Addr} {i : Int} {old : Value} {items : Array Value} (p : IsTup h a items) (q : IsEnum h e it i old) : e ≠ a := fun z => by
  obtain ⟨o, ho, hc, _⟩ := p
  have q : h.get? e = some _ := q
  rw [z, ho] at q
  injection q with q
  rw [q] at hc
  injection hc with hc
  exact absurd hc (by decide)
theorem turn_enumT {P : Program} {w : World} {K : PySem.W.Frag} {elts : List Expr} {kk : Nat} {tpos : Pos} (a e it : Addr) :
    Turn P w K (.Tuple elts kk tpos) (Itet K a) [e, it] e (fun i h => (∃ old, IsEnum h e it ((i : Nat) : Int) old) ∧ h.IsTupleIter it a i ∧ e ≠ it) where
  mem := by simp
  obj := fun i h st b hb => by
    obtain ⟨⟨old, he⟩, ⟨o, ho, hc, hd⟩, _⟩ := st
    rcases List.mem_cons.mp hb with z | z
    · rw [z]
      exact ⟨_, he, fun v q => nomatch q⟩
    · rw [List.mem_singleton.mp z]
      exact ⟨o, ho, fun v q => by rw [hd] at q; cases q⟩
  keep := fun i h h' st k => let ⟨⟨old, he⟩, ⟨o, ho, r⟩, hne⟩ := st; ⟨⟨old, k e (by simp) _ he⟩, ⟨o, k it (by simp) o ho, r⟩, hne⟩
  item := by
    intro X hP hw hK hc i pins s σ H E I hf st hg
    subst hP hw hK
    obtain ⟨⟨old, he⟩, hit, hne⟩ := st
    obtain ⟨xs, x, hq, hx⟩ := hg
    obtain ⟨its, rv, p, hz⟩ := I.tuple hq
    obtain ⟨u, hu, ru⟩ := rv.get hx
    have le : e < s.heap.objs.size := Heap.lt_size he
    have li : it < s.heap.objs.size := by obtain ⟨_, q, _⟩ := hit; exact Heap.lt_size q
    have lt : i < its.toArray.size := by
      rw [List.size_toArray]
      exact (List.getElem?_eq_some_iff.mp hu).1
    refine wpAny_pyNext_enum_itemD (Draws.tuple (A := X.A.in1) (I.ok.hd hc) it a (tup_ne p hit) its.toArray) he ⟨hit, p⟩ lt hne (by simpa using ⟨hne, enum_ne p he⟩) fun v h' tk hv ho hit' hT hsz hk => ?_
    have ev : v = u := by
      have hv : its.toArray[i]? = some v := hv
      rw [show its.toArray[i]? = some u by simpa using hu] at hv
      exact (Option.some.inj hv).symm
    subst ev
    refine ⟨_, rfl, wpAny_letOwnedTupleGo_enum (s := { s with heap := h', toks := tk + 1 }) ho fun h'' he' sb => ?_⟩
    have at2 : h''.get? s.heap.objs.size = some { cls := .type "tuple", data := .seq #[.int i tk, v] } := (sb.2 _ (Nat.ne_of_gt le)).trans hT
    have new : ObjOk X.prog X.w (upd H s.heap.objs.size (.tup [.int (i : Nat), x])) h'' s.heap.objs.size (.tup [.int (i : Nat), x]) := ⟨by show 2 ≤ sizeLine; decide, [.int i tk, v], .cons ⟨_, rfl⟩ (.cons ru .nil), ⟨_, at2, rfl, _, rfl⟩⟩
    have I1 : Inv X pins σ (upd H s.heap.objs.size (.tup [.int (i : Nat), x])) { s with heap := h'', toks := tk + 1 } :=
      I.turnedNew (ch := [e, it]) (fun b ob hb q => (sb.2 b (fun z => hb (by simp [z]))).trans (hk b ob (fun z => hb (by simp [z])) (fun z => hb (by simp [z])) q)) hf (Nat.le_refl _) new
    refine ⟨.ref s.heap.objs.size, _, I1, rfl, ⟨_, x, rfl, I.hok.fresh (Nat.le_refl _), rfl, fun ys hy => by rw [I.tuple_inj hy hq]; exact hx⟩, ⟨⟨v, ?_⟩, ?_, hne⟩, fun b hb => ?_⟩
    · rw [show ((i + 1 : Nat) : Int) = (i : Int) + 1 by omega]
      exact he'
    · obtain ⟨o, o1, r⟩ := hit'.1
      exact ⟨o, (sb.2 it (Ne.symm hne)).trans o1, r⟩
    · have lb : b < s.heap.objs.size := by
        rcases List.mem_cons.mp hb with z | z
        · rw [z]
          exact le
        · rw [List.mem_singleton.mp z]
          exact li
      rw [upd_ne (Nat.ne_of_lt lb)]
      exact (hf b hb).1
  done := by
    intro X hP hw hK hc i pins s σ H E I hf st hg
    subst hP hw hK
    obtain ⟨⟨old, he⟩, hit, hne⟩ := st
    obtain ⟨xs, hq, hx⟩ := hg
    obtain ⟨its, rv, p, hz⟩ := I.tuple hq
    obtain ⟨f0, f1, f2, f3, f4, f5⟩ := hf it (by simp)
    subst hx
    have z : xs.length = its.toArray.size := by
      rw [List.size_toArray]
      exact rv.length
    rw [z] at hit he
    exact wpAny_pyNext_enum_endD (Draws.tuple (A := X.A.in1) (I.ok.hd hc) it a (tup_ne p hit) its.toArray) he ⟨hit, p⟩ fun h' eb => ⟨rfl, I.turned (t' := s.toks) (fun b o hb q => eb b o hb q) f0 f1 f3 f4 f5⟩
  self := fun A i s Q E st h => let ⟨⟨_, he⟩, _⟩ := st; wpAny_pyIter_enum he h
def iEnumT (K : PySem.W.Frag) (ta : TA) : TI := fun σ H R => ta σ H fun vs H1 => ∃ a xs, vs = [.ref a] ∧ SqT K H1 a xs ∧ R (Itet K a) H1
theorem pi_enumT {X : Cx} {e : Expr} {ta : TA} {p pos tpos : Pos} {elts : List Expr} {kk : Nat} (hg : Gl X "enumerate") (hm : X.mg "enumerate" = none) (ha : PA X [e] ta) (hs : starEach [e] X.env = [(false, eval e X.env)] := by rfl) :
    PI X (.Tuple elts kk tpos) (.Call (.Name "enumerate" p) [e] [] pos) (iEnumT X.K ta) := by
  refine ⟨fun pins s σ H R I h => Call_ (ld_blt I hg hm boot_enumerate (PyProof.Rows.callWith_type1 (thn (ha.run pos pins s σ H _ I h) fun us s1 ⟨vs, H1, I1, r1, a, xs, ex, hq, q⟩ => ?_) hs rfl))⟩
  subst ex
  cases r1 with
  | cons r rr =>
    cases rr
    cases r
    obtain ⟨its, rv, p', hz⟩ := I1.tuple hq
    refine call_enumT p' fun h' he hit hk => wpAny_pyIter_enum he ?_
    have I2 : Inv X pins σ H1 { s1 with heap := h' } := I1.kept (t' := s1.toks) hk
    refine ⟨s1.heap.objs.size + 1, [s1.heap.objs.size + 1, s1.heap.objs.size], _, _, H1, rfl, I2, turn_enumT a (s1.heap.objs.size + 1) s1.heap.objs.size, ⟨⟨.none, he⟩, hit, Nat.succ_ne_self _⟩, fun b hb => ?_, q⟩
    have ge : s1.heap.objs.size ≤ b := by
      rcases List.mem_cons.mp hb with z | z
      · rw [z]
        exact Nat.le_add_right _ _
      · rw [List.mem_singleton.mp z]
        exact Nat.le_refl _
    exact I1.fpOk ge (I1.hok.fresh ge)
/-- a comprehension over enumerate of a tuple -/
theorem lc_enumT {K : PySem.W.Frag} {a : Addr} {xs : List V} {g : TG} {tt : TT} {te : TE} {vs : List Nat} {σ : L2.St} {H1 : Hp} {D : Addr} {Qd : Hp → Prop} (Pv : Nat → Hp → Prop) (h0 : Pv 0 (upd H1 D (.lst []))) (hl : ∀ i H, Pv i H → SqT K H a xs)
    (hs : ∀ i x T H, xs[i]? = some x → Pv i H → H T = none → g (.ref T) (wipe σ vs) (upd H T (.tup [.int (i : Nat), x])) fun σ2 H2 => wipe σ2 vs = wipe σ vs ∧ tt σ2 H2 fun b H3 =>
      if b = true then te σ2 H3 fun y H4 => ∃ acc, H4 D = some (.lst acc) ∧ acc.length < sizeLine ∧ Pv (i + 1) (upd H4 D (.lst (acc ++ [y]))) else Pv (i + 1) H3) (hd : ∀ H, Pv xs.length H → Qd H) :
    ∃ W : Nat → Nat → Hp → Prop, (∃ m, W 0 m (upd H1 D (.lst []))) ∧ ∀ i m H, W i m H →
      ((Itet K a).stop i H ∧ Qd H) ∨ ((Itet K a).go i H ∧ ∃ Nx : Hp → Prop, (∀ H', Nx H' → ∃ m', m' < m ∧ W (i + 1) m' H') ∧ ∀ v H', (Itet K a).yld i H v H' → g v (wipe σ vs) H' fun σ2 H2 => wipe σ2 vs = wipe σ vs ∧ tt σ2 H2 fun b H3 =>
        if b = true then te σ2 H3 fun y H4 => ∃ acc, H4 D = some (.lst acc) ∧ acc.length < sizeLine ∧ Nx (upd H4 D (.lst (acc ++ [y]))) else Nx H3) := by
  refine ⟨fun i m H => i ≤ xs.length ∧ m = xs.length - i ∧ Pv i H, ⟨_, Nat.zero_le _, rfl, h0⟩, ?_⟩
  rintro i m H ⟨hi, rfl, p⟩
  have q := hl i H p
  rcases Nat.lt_or_ge i xs.length with hlt | hge
  · refine .inr ⟨⟨xs, _, q, List.getElem?_eq_getElem hlt⟩, Pv (i + 1), fun H' p' => ⟨xs.length - (i + 1), by omega, hlt, rfl, p'⟩, ?_⟩
    rintro v H' ⟨T, x, rfl, hT, rfl, f⟩
    exact hs i x T H (f xs q) p hT
  · obtain rfl : i = xs.length := by omega
    exact .inl ⟨⟨xs, q, rfl⟩, hd H p⟩
/-- the same of a list -/
theorem lc_enumL {K : PySem.W.Frag} {a : Addr} {xs : List V} {g : TG} {tt : TT} {te : TE} {vs : List Nat} {σ : L2.St} {H1 : Hp} {D : Addr} {Qd : Hp → Prop} (Pv : Nat → Hp → Prop) (h0 : Pv 0 (upd H1 D (.lst []))) (hl : ∀ i H, Pv i H → SqL K H a xs)
    (hs : ∀ i x T H, xs[i]? = some x → Pv i H → H T = none → g (.ref T) (wipe σ vs) (upd H T (.tup [.int (i : Nat), x])) fun σ2 H2 => wipe σ2 vs = wipe σ vs ∧ tt σ2 H2 fun b H3 =>
      if b = true then te σ2 H3 fun y H4 => ∃ acc, H4 D = some (.lst acc) ∧ acc.length < sizeLine ∧ Pv (i + 1) (upd H4 D (.lst (acc ++ [y]))) else Pv (i + 1) H3) (hd : ∀ H, Pv xs.length H → Qd H) :
    ∃ W : Nat → Nat → Hp → Prop, (∃ m, W 0 m (upd H1 D (.lst []))) ∧ ∀ i m H, W i m H →
      ((Ite K a).stop i H ∧ Qd H) ∨ ((Ite K a).go i H ∧ ∃ Nx : Hp → Prop, (∀ H', Nx H' → ∃ m', m' < m ∧ W (i + 1) m' H') ∧ ∀ v H', (Ite K a).yld i H v H' → g v (wipe σ vs) H' fun σ2 H2 => wipe σ2 vs = wipe σ vs ∧ tt σ2 H2 fun b H3 =>
        if b = true then te σ2 H3 fun y H4 => ∃ acc, H4 D = some (.lst acc) ∧ acc.length < sizeLine ∧ Nx (upd H4 D (.lst (acc ++ [y]))) else Nx H3) := by
  refine ⟨fun i m H => i ≤ xs.length ∧ m = xs.length - i ∧ Pv i H, ⟨_, Nat.zero_le _, rfl, h0⟩, ?_⟩
  rintro i m H ⟨hi, rfl, p⟩
  have q := hl i H p
  rcases Nat.lt_or_ge i xs.length with hlt | hge
  · refine .inr ⟨⟨xs, _, q, List.getElem?_eq_getElem hlt⟩, Pv (i + 1), fun H' p' => ⟨xs.length - (i + 1), by omega, hlt, rfl, p'⟩, ?_⟩
    rintro v H' ⟨T, x, rfl, hT, rfl, f⟩
    exact hs i x T H (f xs q) p hT
  · obtain rfl : i = xs.length := by omega
    exact .inl ⟨⟨xs, q, Nat.le_refl _⟩, hd H p⟩
end OM

namespace OM
open PySem PySem.Spec PyProof.Rows L2
abbrev sLeftIn : Stmt := top 65
abbrev sLeftBy : Stmt := top 64
/-- e.f within a comprehension's block -/
theorem pe_fldK {X : Cx} {K : PySem.W.Frag} {e : Expr} {f : Str} {pos : Pos} {ta : TE} (hK : X.K = K) (he : PE X e ta) (hb : attributeBase e f X.env (eval e X.env) = eval e X.env) : PE X (.Attribute e f pos) (tFld K ta f) := by
  subst hK
  exact pe_fld he hb
/-- the accesses of a walk are what they should be -/
def DoneOk (k : Wk) : Prop := (∀ d ∈ k.done, (d.1 = ("read" : Str) ∨ d.1 = ("write" : Str)) ∧ Nm d.2.1 ∧ d.2.2.1 ≤ k.sent.length) ∧ ∀ l ∈ k.sent, l.1 = ("get" : Str) ∨ l.1 = ("put" : Str)
theorem DoneOk.new {hs : List Str} : DoneOk (Wk.new hs) := by
  constructor
  · intro d h
    exact absurd (show d ∈ ([] : List (Str × Str × Nat × Str)) from h) List.not_mem_nil
  · intro d h
    exact absurd (show d ∈ ([] : List (Str × Str)) from h) List.not_mem_nil
theorem DoneOk.stm {k : Wk} {s : Stm} (h : DoneOk k) (ok : s.ok) : DoneOk (k.stm s) := by
  obtain ⟨h1, h2⟩ := h
  have send : ∀ {k : Wk} {w v : Str}, DoneOk k → (w = ("get" : Str) ∨ w = ("put" : Str)) → DoneOk (k.send w v) := fun {k w v} g hw => ⟨fun d hd => by
    obtain ⟨a, b, c⟩ := g.1 d hd
    exact ⟨a, b, by show _ ≤ (k.sent ++ [_]).length; rw [List.length_append]; omega⟩, fun l hl => by
    rcases List.mem_append.mp hl with z | z
    · exact g.2 l z
    · rw [List.mem_singleton.mp z]
      exact hw⟩
  have note : ∀ {k : Wk} {w c v : Str}, DoneOk k → (w = ("read" : Str) ∨ w = ("write" : Str)) → Nm c → DoneOk (k.note w c v) := fun {k w c v} g hw hc => ⟨fun d hd => by
    rcases List.mem_append.mp hd with z | z
    · exact g.1 d z
    · rw [List.mem_singleton.mp z]
      exact ⟨hw, hc, Nat.le_refl _⟩, g.2⟩
  cases s with
  | read r c => exact note (k := (k.mark c).let r (k.content c (k.chain c))) ⟨h1, h2⟩ (.inl rfl) ok.2
  | write c r => exact note (k := (k.mark c).fill c (k.chain c) (k.worth r)) ⟨h1, h2⟩ (.inr rfl) ok.1
  | set r f as => exact ⟨h1, h2⟩
  | copy r q => exact ⟨h1, h2⟩
  | get r => exact send (k := { k with taken := k.taken + 1 }.let r (getT (k.taken + 1))) ⟨h1, h2⟩ (.inl rfl)
  | put r => exact send ⟨h1, h2⟩ (.inr rfl)
  | shw r => exact ⟨h1, h2⟩
theorem DoneOk.go {ss : List Stm} : ∀ {k : Wk}, DoneOk k → (∀ s ∈ ss, s.ok) → DoneOk (k.go ss) := by
  induction ss with
  | nil => exact fun h _ => h
  | cons s r ih => exact fun h ok => ih (h.stm (ok s (List.mem_cons_self ..))) fun x hx => ok x (List.mem_cons_of_mem _ hx)
theorem two_sh {a b : Str} (ha : smlD (.str a) = true) (hb : smlD (.str b) = true) : SeqAt.shaped (.tuple (([a, b] : List Str).map PyData.str)) = true := by
  have p : pureD (.tuple (([a, b] : List Str).map PyData.str)) = true := by
    unfold pureD
    simp [pureAll, pureD]
  have sm : smlD (.tuple (([a, b] : List Str).map PyData.str)) = true := by
    unfold smlD
    show smlAll [.str a, .str b] = true
    unfold smlAll
    rw [ha]
    unfold smlAll
    rw [hb]
    unfold smlAll
    rfl
  show (PyData.canLay0 _ && decide ((PyData.tuple (([a, b] : List Str).map PyData.str)).depth ≤ 64)) = true
  rw [lay_pure _ p sm, decide_eq_true (show (PyData.tuple (([a, b] : List Str).map PyData.str)).depth ≤ 64 by rw [dep_tup]; show max (PyData.depth (.str a)) (max (PyData.depth (.str b)) 0) + 1 ≤ 64; unfold PyData.depth; decide)]
  rfl
def spLeftIn (K : PySem.W.Frag) (C : Addr) : Sp := fun vs H Q _ => ∃ (A : Ad) (k : Wk) (t b : Nat) (c : Str), vs = [.ref A.me, .str c] ∧ WkM K C H A k t b ∧ Nm c ∧ DoneOk k ∧ ∀ H' p xs, Same H H' → H p = none → H' p = some (.lst xs) → xs.length ≤ k.done.length → Q (.ref p) H'
def spLeftBy (K : PySem.W.Frag) (C : Addr) : Sp := fun vs H Q _ => ∃ (A : Ad) (k : Wk) (t b : Nat), vs = [.ref A.me] ∧ WkM K C H A k t b ∧ DoneOk k ∧ t ≤ 300 ∧ ∀ H' p xs, Same H H' → H' p = some (.tup xs) → Q (.ref p) H'
section
variable {P : Program} {w : World} {K : PySem.W.Frag} {mg : Str → Option Value} {base : Heap} {f fC fN C : Addr} {fd dC dN : FuncData}
abbrev nLI : List Str := ["walk", "cell", "writes", "index", "access", "lasts", "chain", "last"]
theorem scLI : FnScope nLI ["walk", "cell"] (defScope sLeftIn) := ⟨rfl, rfl, rfl, by decide +kernel, rfl, by decide +kernel, by decide +kernel⟩
theorem nm_sml {x : Str} (h : Nm x) : smlD (.str x) = true := (name_small h).1
theorem ok_leftIn (F : Fun K "_left_in" "_left_in" sLeftIn f fd) (R : WkC K C) (en : mg "enumerate" = none) (gC : mg "chained" = some (.ref fC)) (kC : PySem.W.keepIn K (.ref fC) = true) (bC : Binds K dC ["accesses", "letters", "indices"] []) (GC : FnOk P w K mg base CX0 2 fC dC ["accesses", "letters", "indices"] (spChained K))
    (gN : mg "_next_put" = some (.ref fN)) (kN : PySem.W.keepIn K (.ref fN) = true) (bN : Binds K dN ["letters", "place"] []) (GN : FnOk P w K mg base CX0 1 fN dN ["letters", "place"] (spNextP K)) : FnOk P w K mg base CX0 3 f fd ["walk", "cell"] (spLeftIn K C) := by
  refine F.ok scLI (fun vs H Q E h => ?_) (fun cdv A0 outer s H vs Q E hr h => ?_)
  · obtain ⟨A, k, t, b, c, rfl, _⟩ := h
    rfl
  · obtain ⟨A, k, t, b, c, rfl, h, hc, dk, q⟩ := h
    have hu : (A0.deeper (envOfC "_left_in" (defScope sLeftIn) s.heap.objs.size f cdv)).units + 64 < cLine := by
      have := hr.un
      omega
    refine ⟨_, pss_cons (ps_setLc (i := 2) (g := gTup K 2 (gCons (gName 3) (gCons (gName 4) gNil))) (own := [("index", 3), ("access", 4)]) rfl scLI.nd rfl rfl (by rfl) (pi_enum (by rfl) en (pa_cons (pe_fld (pv 0) rfl) pa_nil)) (blkOk_by (N := nLI) (sc := defScope sLeftIn) (by decide +kernel))
        (fun _ _ _ _ _ => pg_tup rfl (pgs_cons (pg_name (i := 3) scLI.nd rfl (Or.inl rfl)) (pgs_cons (pg_name (i := 4) scLI.nd rfl (Or.inl rfl)) pgs_nil)))
        (fun _ _ _ _ _ => pts_one (pt_cmpR (r := rEqD K) (op_eqD hu) (pe_slice (r := rSlA K) sl_tupA (pv 4) po_none (po_some pe_int)) (pe_tup (pa_cons pe_str (pa_cons (pv 1) pa_nil))) (nomark _))) (fun _ _ _ _ _ => pv 3))
      (pss_cons (ps_setLc (i := 5) (own := [("chain", 6)]) rfl scLI.nd rfl rfl (by rfl) (pi_tup (pe_call GC hr (by rfl) gC kC bC .nil pass0 (pa_cons (pe_fld (pv 0) rfl) (pa_cons (pe_fld (pv 0) rfl) (pa_cons (pv 2) pa_nil))))) (blkOk_by (N := nLI) (sc := defScope sLeftIn) (by decide +kernel))
        (fun _ _ _ _ _ => pg_name (i := 6) scLI.nd rfl (Or.inl rfl)) (fun _ _ _ _ _ => pts_nil) (fun _ _ _ _ _ => pe_ix (r := rIxL K) ix_list (pe_fldK (K := K) rfl (pv 0) rfl) (pe_ix (r := rIxT K) ix_tup (pv 6) (pe_un un_neg pe_int) (fun _ _ => rfl)) (fun _ _ => rfl)))
      (pss_one (ps_ret (pe_lc (own := [("last", 7)]) rfl scLI.nd (pi_list (pv 5)) (blkOk_by (N := nLI) (sc := defScope sLeftIn) (by decide +kernel))
        (fun _ _ _ _ _ => pg_name (i := 7) scLI.nd rfl (Or.inl rfl)) (fun _ _ _ _ _ => pts_nil) (fun _ _ _ _ _ => pe_tup (pa_cons (pv 1) (pa_cons (pe_call GN (hr.mono (by decide)) (by rfl) gN kN bN .nil pass0 (pa_cons (pe_fldK (K := K) rfl (pv 0) rfl) (pa_cons (pe_ix (r := rIxT K) ix_tup (pv 7) pe_int (fun _ _ => rfl)) pa_nil)))
          (pa_cons (pe_ix (r := rIxT K) ix_tup (pv 7) pe_int (fun _ _ => rfl)) pa_nil)))))))), ?_⟩
    obtain ⟨ds, ed, pd⟩ := h.don
    obtain ⟨ls, es, ps⟩ := h.sen
    obtain ⟨m1, m2, m3, m4, m5⟩ := h.num
    have ld := pd.length
    have lls := ps.length
    have line : (1000 : Nat) < sizeLine := by decide
    refine ⟨_, rfl, A.me, C, A.dx, _, .ref A.d, rfl, h.ins, R.cl, R.nd, rfl, A.d, ds, rfl, SqL.of ed, fun D hD => lc_enumL (xs := ds) (fun i G => Same H G ∧ ∃ ns : List Nat, G D = some (.lst (ns.map fun j => V.int (j : Nat))) ∧ ns.length ≤ i ∧ ∀ j ∈ ns, j < i) ⟨same_upd hD, [], upd_same, Nat.le_refl _, fun j z => by cases z⟩ (fun i G pv => SqL.of (pv.1 _ _ ed)) (fun i x T G hx pv hT => ?_) (fun G pv => ?_)⟩
    · obtain ⟨sG, ns, eD, lns, bns⟩ := pv
      obtain ⟨d, hd, a, rfl, ea⟩ := Paired.at pd hx
      have hi : i < ds.length := (List.getElem?_eq_some_iff.mp hx).1
      have sT := same_upd (o := .tup [.int (i : Nat), .ref a]) hT
      have eaT := sT _ _ (sG _ _ ea)
      refine ⟨T, _, rfl, SqT.of upd_same, rfl, _, _, rfl, _, _, rfl, rfl, rfl, ?_⟩
      refine ⟨_, rfl, 2, rfl, a, _, rfl, SqT.of eaT, fun hw => absurd hw.2 (by show ¬ HT.sIx 4 4 (some 2) = 4; decide), fun _ z hz => ?_⟩
      have sz := same_upd (o := .tup [.str d.1, .str d.2.1]) hz
      refine ⟨_, rfl, (by show 2 ≤ sizeLine; decide), fun y hy => ?_⟩
      have sy := same_upd (o := .tup [.str "write", .str c]) hy
      obtain ⟨dk1, dk2, dk3⟩ := dk.1 d (List.mem_of_getElem? hd)
      have sw : smlD (.str ("write" : Str)) = true := by decide +kernel
      have s1 : smlD (.str d.1) = true := by
        rcases dk1 with z | z
        · rw [z]
          decide +kernel
        · rw [z]
          exact sw
      refine ⟨.tuple (([d.1, d.2.1] : List Str).map PyData.str), .tuple (([("write" : Str), c] : List Str).map PyData.str), .tup (SqT.of (sy _ _ upd_same)) (dp_strs [d.1, d.2.1]), .tup (SqT.of upd_same) (dp_strs [("write" : Str), c]), two_sh s1 (nm_sml dk2), two_sh sw (nm_sml hc), _, rfl, ?_⟩
      have s3 := ((sG.trans sT).trans sz).trans sy
      have eD3 := sy _ _ (sz _ _ (sT _ _ eD))
      refine ite2 (fun _ => ?_) (fun _ => ?_)
      · exact ⟨_, rfl, _, eD3, by rw [List.length_map]; omega, same_put hD s3, ns ++ [i], by rw [upd_same, List.map_append]; rfl, by rw [List.length_append]; show _ + 1 ≤ _; omega, fun j hj => by
          rcases List.mem_append.mp hj with z | z
          · have := bns j z
            omega
          · rw [List.mem_singleton.mp z]
            omega⟩
      · exact ⟨s3, ns, eD3, by omega, fun j hj => by have := bns j hj; omega⟩
    · obtain ⟨sG, ns, eD, lns, bns⟩ := pv
      have hG := h.mv sG
      refine ⟨_, rfl, A.me, C, A.dx, _, .ref A.d, rfl, hG.ins, R.cl, R.nd, rfl, _, rfl, A.me, C, A.dx, _, .ref A.s, rfl, hG.ins, R.cl, R.ns, rfl, _, rfl, A.d, A.s, D, ds, ls, k.done, k.sent, ns, rfl, SqL.of (sG _ _ ed), L2.Paired.mapP pd fun _ _ z => z.mv (TupS.same sG), SqL.of (sG _ _ es), L2.Paired.mapP ps fun _ _ z => z.mv (TupS.same sG), SqL.of eD, fun j hj => by have := bns j hj; omega, fun d hd => (dk.1 d hd).2.2, by omega, by omega, fun G2 p xs s2 ep lx ch => ?_⟩
      have sG2 := sG.trans s2
      refine ⟨p, rfl, ⟨xs, SqT.of ep⟩, fun D2 hD2 => lc_tup (xs := xs) (fun i G => Same G2 G ∧ ∃ ys : List V, G D2 = some (.lst ys) ∧ ys.length = i ∧ ∀ y ∈ ys, y ∈ ds) ⟨same_upd hD2, [], upd_same, rfl, fun _ z => by cases z⟩ (fun i G _ pv => SqT.of (pv.1 _ _ ep)) (fun i x G hx pv => ?_) (fun G pv => ?_)⟩
      · obtain ⟨sG3, ys, eD2, lys, bys⟩ := pv
        obtain ⟨q0, js, rfl, eq, ne, bjs⟩ := ch x (List.mem_of_getElem? hx)
        obtain ⟨ks, jl, rfl⟩ := last_nat ne
        have jl' := bjs jl (by simp)
        have s23 := sG2.trans sG3
        have h3 := h.mv s23
        have eqm : G q0 = some (.tup ((ks.map fun j => V.int (j : Nat)) ++ [.int (jl : Nat)])) := by
          rw [sG3 _ _ eq, List.map_append]
          rfl
        have hjl : ds[jl]? = some (ds[jl]'(by omega)) := List.getElem?_eq_getElem (by omega)
        have hi : i < xs.length := (List.getElem?_eq_some_iff.mp hx).1
        refine ⟨rfl, _, rfl, A.me, C, A.dx, _, .ref A.d, rfl, h3.ins, R.cl, R.nd, rfl, _, rfl, 1, rfl, q0, _, -1, .int (jl : Nat), rfl, rfl, SqT.of eqm, atI_last _ _, A.d, ds, _, _, rfl, rfl, SqL.of (s23 _ _ ed), atI_nat hjl, ?_⟩
        refine ⟨ys, eD2, by omega, same_put hD2 sG3, ys ++ [_], upd_same, by simp [lys], fun y hy => ?_⟩
        rcases List.mem_append.mp hy with z | z
        · exact bys y z
        · rw [List.mem_singleton.mp z]
          exact List.getElem_mem _
      · obtain ⟨sG3, ys, eD2, lys, bys⟩ := pv
        have s23 := sG2.trans sG3
        refine ⟨_, rfl, D2, rfl, ⟨ys, SqL.of eD2⟩, fun D4 hD4 => lc_list (xs := ys) (fun i G' => Same G G' ∧ ∃ zs : List V, G' D4 = some (.lst zs) ∧ zs.length = i) ⟨same_upd hD4, [], upd_same, rfl⟩ (fun i G' _ pv => SqL.of (pv.1 _ _ eD2)) (fun i x G' hx pv => ?_) (fun G' pv => ?_)⟩
        · obtain ⟨s4, zs, eD4, lzs⟩ := pv
          have s24 := s23.trans s4
          have h4 := h.mv s24
          have hy := bys x (List.mem_of_getElem? hx)
          obtain ⟨jx, hjx⟩ := List.getElem?_of_mem hy
          obtain ⟨d, hd, a, rfl, ea⟩ := Paired.at pd hjx
          obtain ⟨dk1, dk2, dk3⟩ := dk.1 d (List.mem_of_getElem? hd)
          have hi : i < ys.length := (List.getElem?_eq_some_iff.mp hx).1
          refine ⟨rfl, _, rfl, _, rfl, A.me, C, A.dx, _, .ref A.s, rfl, h4.ins, R.cl, R.ns, rfl, _, rfl, a, _, 2, _, rfl, rfl, SqT.of (s24 _ _ ea), rfl, A.s, ls, k.sent, d.2.2.1, rfl, SqL.of (s24 _ _ es), L2.Paired.mapP ps fun _ _ z => z.mv (TupS.same s24), by omega, by omega, fun G5 m s5 => ⟨_, rfl, a, _, 3, _, rfl, rfl, SqT.of (s5 _ _ (s24 _ _ ea)), rfl, (by show 3 ≤ sizeLine; decide), fun z hz => ?_⟩⟩
          have s6 := s5.trans (same_upd (o := .tup [.str c, .int (m : Nat), .str d.2.2.2]) hz)
          exact ⟨zs, s6 _ _ eD4, by omega, same_put hD4 (s4.trans s6), zs ++ [.ref z], upd_same, by simp [lzs]⟩
        · obtain ⟨s4, zs, eD4, lzs⟩ := pv
          exact q G' D4 zs (s23.trans s4) ((sG2.trans sG3).free hD4) eD4 (by omega)
end
end OM

namespace OM
open PySem PySem.Spec PyProof.Rows L2
section
variable {P : Program} {w : World} {K : PySem.W.Frag} {mg : Str → Option Value} {base : Heap} {f fL C : Addr} {fd dL : FuncData}
abbrev nLB : List Str := ["walk", "found", "cell", "access"]
theorem scLB : FnScope nLB ["walk"] (defScope sLeftBy) := ⟨rfl, rfl, rfl, by decide +kernel, rfl, by decide +kernel, by decide +kernel⟩
theorem ok_leftBy (F : Fun K "_left_by" "_left_by" sLeftBy f fd) (R : WkC K C) (tp : mg "tuple" = none) (srt : mg "sorted" = none) (ln : mg "len" = none) (mC : MethN P w K mg base C "content" 1 ["self", "cell", "chain"] (spContent K C)) (gL : mg "_left_in" = some (.ref fL)) (kL : PySem.W.keepIn K (.ref fL) = true) (bL : Binds K dL ["walk", "cell"] [])
    (GL : FnOk P w K mg base CX0 3 fL dL ["walk", "cell"] (spLeftIn K C)) : FnOk P w K mg base CX0 4 f fd ["walk"] (spLeftBy K C) := by
  obtain ⟨gC, dC, aC, bC, GC⟩ := mC
  refine F.ok scLB (fun vs H Q E h => ?_) (fun cdv A0 outer s H vs Q E hr h => ?_)
  · obtain ⟨A, k, t, b, rfl, _⟩ := h
    rfl
  · obtain ⟨A, k, t, b, rfl, h, dk, ht, q⟩ := h
    refine ⟨_, pss_cons (ps_set (i := 1) scLB.nd rfl (Or.inl rfl) (pe_lst pa_nil))
      (pss_cons (ps_for PassesOwn.never rfl (pi_list (pe_callB (cr_sortX rfl) (by rfl) srt (by decide +kernel) (pa_cons (pe_sx1 (own := [("access", 3)]) rfl scLB.nd (pi_list (pe_fld (pv 0) rfl)) (blkOk_by (N := nLB) (sc := defScope sLeftBy) (by decide +kernel))
          (fun _ _ _ _ _ => pg_name (i := 3) scLB.nd rfl (Or.inl rfl)) (fun _ _ _ _ _ => pts_nil) (fun _ _ _ _ _ => pe_ix (r := rIxT K) ix_tup (pv 3) pe_int (fun _ _ => rfl))) pa_nil))) (pg_name (i := 2) scLB.nd rfl (Or.inl rfl))
        (pss_one (ps_if (pt_cmpR op_in_seq (pv 2) (pe_fld (pv 0) rfl) (by rfl))
          (pss_one (ps_expr (pe_bm PySem.F.plainAttrs_list PySem.F.slot_list_append PySem.F.type_list_append mt_append (pv 1) (pa_cons (pe_tup (pa_cons (pv 2) (pa_cons (pe_callB call_len_seq (by rfl) ln PySem.boot_len (pa_cons (pe_fld (pv 0) rfl) pa_nil)) (pa_cons (pe_meth (pv 0) R.cl aC GC (hr.mono (by decide)) bC .nil pass0 (pa_cons (pv 2) (pa_cons pe_int pa_nil))) pa_nil)))) pa_nil))))
          (pss_one (ps_expr (pe_bm PySem.F.plainAttrs_list PySem.F.slot_list_extend PySem.F.type_list_extend mt_extend (pv 1) (pa_cons (pe_call GL hr (by rfl) gL kL bL .nil pass0 (pa_cons (pv 0) (pa_cons (pv 2) pa_nil))) pa_nil)))))))
      (pss_one (ps_ret (pe_callTy call_tuple_of (by rfl) tp (by decide +kernel) (pa_cons (pv 1) pa_nil))))), ?_⟩
    obtain ⟨ds, ed, pd⟩ := h.don
    obtain ⟨ls, es, ps⟩ := h.sen
    obtain ⟨m1, m2, m3, m4, m5⟩ := h.num
    have ld := pd.length
    have line : (200000 : Nat) < sizeLine := by decide
    have sb : scanBound = 4096 := rfl
    refine ⟨(by show 0 ≤ sizeLine; decide), fun p hp => ?_⟩
    have s0 := same_upd (o := .lst []) hp
    have h0 := h.mv s0
    refine ⟨_, rfl, A.me, C, A.dx, _, .ref A.d, rfl, h0.ins, R.cl, R.nd, rfl, A.d, rfl, ⟨ds, SqL.of (s0 _ _ ed)⟩, fun D hD => goes_list (xs := ds) (fun i G => Same (upd H p (.lst [])) G ∧ ∃ L, G D = some (SetTO w D L) ∧ L.length ≤ i ∧ ∀ c ∈ L, Nm c) ⟨same_upd hD, [], upd_same, Nat.le_refl _, fun _ z => by cases z⟩ (fun i G pv => SqL.of (pv.1 _ _ (s0 _ _ ed))) (fun i x G hx pv => ?_) (fun G pv => ?_)⟩
    · obtain ⟨sG, L, eD, lL, nL⟩ := pv
      obtain ⟨d, hd, a, rfl, ea⟩ := Paired.at pd hx
      have hi : i < ds.length := (List.getElem?_eq_some_iff.mp hx).1
      obtain ⟨dk1, dk2, dk3⟩ := dk.1 d (List.mem_of_getElem? hd)
      refine ⟨rfl, _, rfl, a, _, 1, _, rfl, rfl, SqT.of (sG _ _ (s0 _ _ ea)), rfl, d.2.1, L, rfl, eD, by omega, same_put hD sG, addX L d.2.1, upd_same, by have := len_addX L d.2.1; omega, fun c hc => ?_⟩
      rcases mem_addX.mp hc with z | z
      · exact nL c z
      · rw [z]
        exact dk2
    · obtain ⟨sG, L, eD, lL, nL⟩ := pv
      refine ⟨D, L, rfl, eD, fun ys p2 py sy hp2 => ?_⟩
      have s2 := sG.trans (same_upd (o := .lst (ys.map V.str)) hp2)
      have hpH : H p = none := hp
      refine ⟨p2, rfl, ⟨_, SqL.of upd_same⟩, for_list (xs := ys.map V.str) (fun i σ G2 => (∃ x2 x3, σ = [some (.ref A.me), some (.ref p), x2, x3]) ∧ Same H G2 ∧ G2 p2 = some (.lst (ys.map V.str)) ∧ ∃ xs : List V, G2 p = some (.lst xs) ∧ xs.length ≤ i * 300)
        ⟨⟨_, _, rfl⟩, s0.trans s2, upd_same, [], s2 _ _ upd_same, Nat.zero_le _⟩ (fun i σ G2 _ z => SqL.of z.2.2.1) (fun i x σ G2 hx z => ?_) (fun σ G2 z => ?_)⟩
      · obtain ⟨⟨x2, x3, rfl⟩, sH, e2, xs, ep, lx⟩ := z
        rw [List.getElem?_map] at hx
        obtain ⟨c, hc, rfl⟩ := Option.map_eq_some_iff.mp hx
        have hcn : Nm c := nL c (py.mem_iff.mp (List.mem_of_getElem? hc))
        have hi : i < ys.length := (List.getElem?_eq_some_iff.mp hc).1
        have ly : ys.length = L.length := py.length_eq
        have hi3 : i < 300 := by omega
        have pp : p2 ≠ p := fun z => by
          rw [z, sG _ _ upd_same] at hp2
          cases hp2
        have h2 := h.mv sH
        refine ⟨_, rfl, _, rfl, A.me, C, A.dx, _, .ref A.hid, rfl, h2.ins, R.cl, R.nh, rfl, A.hid, _, rfl, .inr h2.hid.seq, rfl, flat_strs _, _, rfl, ?_⟩
        refine ite2 (fun _ => ?_) (fun _ => ?_)
        · refine ⟨_, rfl, .inl ⟨rfl, _, SqL.of ep⟩, _, rfl, _, rfl, A.me, C, A.dx, _, .ref A.s, rfl, h2.ins, R.cl, R.ns, rfl, A.s, ls, rfl, .inl (SqL.of (sH _ _ es)), _, rfl, A.me, A.dx, _, rfl, h2.ins, h2.ml _ (by unfold mthW; simp), _, rfl, A, k, t, b, c, 1, rfl, h2, hcn, by decide, fun G3 s3 => ⟨(by show 3 ≤ sizeLine; decide), fun z hz => ?_⟩⟩
          have s4 := s3.trans (same_upd (o := .tup [.str c, .int (ls.length : Nat), .str (k.content c 1)]) hz)
          exact ⟨p, xs, .ref z, rfl, rfl, s4 _ _ ep, by omega, ⟨_, _, rfl⟩, same_put hpH (sH.trans s4), by rw [upd_ne pp]; exact s4 _ _ e2, _, upd_same, by rw [List.length_append]; show _ + 1 ≤ _; omega⟩
        · refine ⟨_, rfl, .inl ⟨rfl, _, SqL.of ep⟩, _, rfl, _, rfl, A, k, t, b, c, rfl, h2, hcn, dk, fun G3 p3 zs s3 hp3 e3 lz => ?_⟩
          refine ⟨p, p3, xs, zs, rfl, rfl, s3 _ _ ep, e3, by omega, ⟨_, _, rfl⟩, same_put hpH (sH.trans s3), by rw [upd_ne pp]; exact s3 _ _ e2, _, upd_same, by rw [List.length_append]; omega⟩
      · obtain ⟨⟨x2, x3, rfl⟩, sH, e2, xs, ep, lx⟩ := z
        exact ⟨_, rfl, p, xs, rfl, .inl ⟨SqL.of ep, fun t2 ht2 => q _ t2 xs (sH.trans (same_upd ht2)) upd_same⟩⟩
end
end OM

namespace OM
open PySem PySem.Spec PyProof.Rows L2
abbrev sWayIn : Stmt := inStK 58 0
abbrev sChS : Stmt := top 60
abbrev sChP : Stmt := top 61
abbrev sIsAns : Stmt := top 20
def PropM (P : Program) (w : World) (K : PySem.W.Frag) (mg : Str → Option Value) (base : Heap) (C : Addr) (name : Str) (k : Nat) (sp : Sp) : Prop := ∃ (p g : Addr) (d : FuncData), PropOf K C name p g ∧ FnOk P w K mg base CX0 k g d ["self"] sp ∧ Binds K d ["self"] []
/-- a class whose instances isinstance knows -/
structure ClsI (K : PySem.W.Frag) (C : Addr) : Prop where
  cl : Cls K C
  ha : PySem.W.findIn K (.ref C) "__class__" = some (some (.builtin "object.__class__"))
  hn : PySem.W.specialIn K (.builtin "object.__class__") "__get__" = some (some (.builtin "getset_descriptor.__get__"))
  htk : PySem.W.takesIn K (.builtin "object.__class__") = some true
  hm : PySem.W.mroIn K C (.type "object") = some true
  kit : PySem.W.kitOne K (.ref C) (.ref C) = some true
theorem StrC.ci {K : PySem.W.Frag} {mg : Str → Option Value} {C fS aS : Addr} {dS : FuncData} (R : StrC K mg C fS aS dS) : ClsI K C := ⟨R.T.cl, R.ha, R.hn, R.htk, R.hm, R.kit⟩
/-- a check that a value is an instance of the class C -/
def spChS (C : Addr) : Sp := fun vs H Q _ => ∃ (a dx : Addr) (fs : List (Str × V)), vs = [.ref a] ∧ H a = some (.ins C dx fs) ∧ Q .non H
def spChP (K : PySem.W.Frag) : Sp := fun vs H Q _ => ∃ a : Addr, vs = [.ref a] ∧ Emp K a ∧ ∀ H', Same H H' → Q .non H'
def spAns0 : Sp := fun vs H Q _ => ∃ a : Addr, vs = [.ref a] ∧ H a = some (.dK []) ∧ ∀ H', Same H H' → Q (.bl true) H'
/-- a way: what it tells of letters and accesses -/
structure WayM (C : Addr) (K : PySem.W.Frag) (H : Hp) (a : Addr) (hid : List Str) (sent : List (Str × Str)) (done : List (Str × Str × Nat × Str)) : Prop where
  ex : ∃ (dx pv an l ac kp lf : Addr) (st : V) (ls as : List V), H a = some (.ins C dx [("_stretch", st), ("_private", .ref pv), ("_answers", .ref an), ("_letters", .ref l), ("_accesses", .ref ac), ("_kept", .ref kp), ("_left", .ref lf)]) ∧ HidR K H pv hid ∧ H l = some (.tup ls) ∧ Paired (LetR H) ls sent ∧ H ac = some (.tup as) ∧ Paired (AccR H) as done
theorem WayM.mv {C : Addr} {K : PySem.W.Frag} {H H' : Hp} {a : Addr} {hid : List Str} {sent : List (Str × Str)} {done : List (Str × Str × Nat × Str)} (h : WayM C K H a hid sent done) (s : Same H H') : WayM C K H' a hid sent done := by
  obtain ⟨dx, pv, an, l, ac, kp, lf, st, ls, as, e1, e2, e3, e4, e5, e6⟩ := h
  exact ⟨dx, pv, an, l, ac, kp, lf, st, ls, as, s _ _ e1, e2.mv (TupS.same s), s _ _ e3, L2.Paired.mapP e4 fun _ _ z => z.mv (TupS.same s), s _ _ e5, L2.Paired.mapP e6 fun _ _ z => z.mv (TupS.same s)⟩
/-- a dict comprehension over a list that stays -/
theorem dc_list {K : PySem.W.Frag} {a : Addr} {xs : List V} {g : TG} {tt : TT} {tk tv : TE} {vs : List Nat} {σ : L2.St} {H1 : Hp} {D : Addr} {Qd : Hp → Prop} (Pv : Nat → Hp → Prop) (h0 : Pv 0 (upd H1 D (.dK []))) (hl : ∀ i H, Pv i H → SqL K H a xs)
    (hs : ∀ i x H, xs[i]? = some x → Pv i H → g x (wipe σ vs) H fun σ2 H2 => wipe σ2 vs = wipe σ vs ∧ tt σ2 H2 fun b H3 =>
      if b = true then tk σ2 H3 fun y H4 => tv σ2 H4 fun z H5 => ∃ kvs k, y = kV k ∧ H5 D = some (.dK kvs) ∧ kvs.length < sizeLine ∧ Pv (i + 1) (upd H5 D (.dK (putK kvs k z))) else Pv (i + 1) H3) (hd : ∀ H, Pv xs.length H → Qd H) :
    ∃ W : Nat → Nat → Hp → Prop, (∃ m, W 0 m (upd H1 D (.dK []))) ∧ ∀ i m H, W i m H →
      ((Itl K a).stop i H ∧ Qd H) ∨ ((Itl K a).go i H ∧ ∃ Nx : Hp → Prop, (∀ H', Nx H' → ∃ m', m' < m ∧ W (i + 1) m' H') ∧ ∀ x H', (Itl K a).yld i H x H' → g x (wipe σ vs) H' fun σ2 H2 => wipe σ2 vs = wipe σ vs ∧ tt σ2 H2 fun b H3 =>
        if b = true then tk σ2 H3 fun y H4 => tv σ2 H4 fun z H5 => ∃ kvs k, y = kV k ∧ H5 D = some (.dK kvs) ∧ kvs.length < sizeLine ∧ Nx (upd H5 D (.dK (putK kvs k z))) else Nx H3) := by
  refine ⟨fun i m H => i ≤ xs.length ∧ m = xs.length - i ∧ Pv i H, ⟨_, Nat.zero_le _, rfl, h0⟩, ?_⟩
  rintro i m H ⟨hi, rfl, p⟩
  have q := hl i H p
  rcases Nat.lt_or_ge i xs.length with hlt | hge
  · refine .inr ⟨⟨xs, _, q, List.getElem?_eq_getElem hlt⟩, Pv (i + 1), fun H' p' => ⟨xs.length - (i + 1), by omega, hlt, rfl, p'⟩, ?_⟩
    rintro x H' ⟨rfl, y⟩
    exact hs i x _ (y xs q) p
  · obtain rfl : i = xs.length := by omega
    exact .inl ⟨⟨xs, q, Nat.le_refl _⟩, hd H p⟩
section
variable {P : Program} {w : World} {K : PySem.W.Frag} {mg : Str → Option Value} {base : Heap} {f fL fS C CS CW : Addr} {fd dL dS : FuncData}
theorem scCS : FnScope ["value"] ["value"] (defScope sChS) := ⟨rfl, rfl, rfl, by decide +kernel, rfl, by decide +kernel, by decide +kernel⟩
theorem ok_chs (F : Fun K "check_stretch" "check_stretch" sChS f fd) (R : ClsI K C) (gC : mg "Stretch" = some (.ref C)) (isi : mg "isinstance" = none) : FnOk P w K mg base CX0 1 f fd ["value"] (spChS C) := by
  refine F.ok scCS (fun vs H Q E h => ?_) (fun cdv A outer s H vs Q E hr h => ?_)
  · obtain ⟨a, dx, fs, rfl, _⟩ := h
    rfl
  · obtain ⟨a, dx, fs, rfl, ea, q⟩ := h
    refine ⟨_, pss_one (ps_if (pt_not (pt_val (pe_callB call_isi (by rfl) isi (by decide +kernel) (pa_cons (pv 0) (pa_cons (pe_glob (v := .ref C) (by rfl) gC rfl) pa_nil))))) pss_never pss_nil), ?_⟩
    exact ⟨_, rfl, .ref a, .ref C, .ref C, .ref C, true, rfl, .own C, .base (.ins ea R.cl R.ha R.hn R.htk R.hm), R.kit, _, rfl, iteF q⟩
theorem scCP : FnScope ["value"] ["value"] (defScope sChP) := ⟨rfl, rfl, rfl, by decide +kernel, rfl, by decide +kernel, by decide +kernel⟩
theorem ok_chp (F : Fun K "check_private" "check_private" sChP f fd) (gS : mg "is_set" = some (.ref fS)) (kS : PySem.W.keepIn K (.ref fS) = true) (bS : Binds K dS ["value"] []) (GS : FnOk P w K mg base CX0 2 fS dS ["value"] (spSet0 K)) : FnOk P w K mg base CX0 3 f fd ["value"] (spChP K) := by
  refine F.ok scCP (fun vs H Q E h => ?_) (fun cdv A outer s H vs Q E hr h => ?_)
  · obtain ⟨a, rfl, _⟩ := h
    rfl
  · obtain ⟨a, rfl, ea, q⟩ := h
    refine ⟨_, pss_one (ps_if (pt_not (pt_val (pe_call GS hr (by rfl) gS kS bS .nil pass0 (pa_cons (pv 0) pa_nil)))) pss_never pss_nil), ?_⟩
    exact ⟨_, rfl, a, rfl, ea, fun H1 s1 => ⟨_, rfl, iteF (q _ s1)⟩⟩
theorem scAns : FnScope ["value", "pair"] ["value"] (defScope sIsAns) := ⟨rfl, rfl, rfl, by decide +kernel, rfl, by decide +kernel, by decide +kernel⟩
theorem pe_never {X : Cx} {e : Expr} : PE X e (fun _ _ _ => False) := ⟨fun _ _ _ _ _ _ h => h.elim⟩
theorem ok_ans0 (F : Fun K "is_answers" "is_answers" sIsAns f fd) (isi : mg "isinstance" = none) (di : mg "dict" = none) (al : mg "all" = none) : FnOk P w K mg base CX0 1 f fd ["value"] spAns0 := by
  refine F.ok scAns (fun vs H Q E h => ?_) (fun cdv A outer s H vs Q E hr h => ?_)
  · obtain ⟨a, rfl, _⟩ := h
    rfl
  · obtain ⟨a, rfl, ea, q⟩ := h
    refine ⟨_, pss_one (ps_ret (pe_and (pe_callB call_isi (by rfl) isi (by decide +kernel) (pa_cons (pv 0) (pa_cons (pe_bltn (v := .ty "dict") (u := .type "dict") (by rfl) di (by decide +kernel) rfl) pa_nil)))
      (pe_one (pe_callB (cr_all rfl) (by rfl) al (by decide +kernel) (pa_cons (pe_lock (pe_lc (own := [("pair", 1)]) rfl scAns.nd (pi_keys (pv 0)) (blkOk_by (N := ["value", "pair"]) (sc := defScope sIsAns) (by decide +kernel)) (fun _ _ _ _ _ => pg_name (i := 1) scAns.nd rfl (Or.inl rfl)) (fun _ _ _ _ _ => pts_nil) (fun _ _ _ _ _ => pe_never))) pa_nil))))), ?_⟩
    refine isi_te (x := .ref a) rfl (.base (.dK ea)) (r := true) (show kitB "dict" "dict" = some true by decide +kernel) ⟨_, rfl, iteT ?_⟩
    refine ⟨a, .dK [], ea, True.intro, fun od => ⟨_, rfl, a, od, rfl, .inl ⟨[], upd_same, fun D hD => ⟨fun i m G => i = 0 ∧ G = upd (upd H a (.frz od (.dK []))) D (.lst []), ⟨0, rfl, rfl⟩, ?_⟩⟩⟩⟩
    rintro i m G ⟨rfl, rfl⟩
    have aD : a ≠ D := fun z => by
      rw [← z, upd_same] at hD
      cases hD
    have hD0 : H D = none := by
      rw [upd_ne aD.symm] at hD
      exact hD
    refine .inl ⟨⟨by rw [upd_ne aD, upd_same], Nat.le_refl _⟩, by rw [upd_ne aD, upd_same], D, [], rfl, SqL.of (by rw [upd_ne aD.symm, upd_same]; rfl), q _ fun b o e => ?_⟩
    by_cases ba : b = a
    · subst ba
      rw [upd_same, ← e, ea]
    · rw [upd_ne ba, upd_ne (ne_of_none e hD0), upd_ne ba]
      exact e
end
theorem InitS.ext {H G G' : Hp} {me C dx : Addr} {fs : List (Str × V)} {news : List (Addr × HO)} (h : InitS H G me C dx fs news) (s : Same G G') : InitS H G' me C dx fs news :=
  ⟨s _ _ h.ins, fun b o n e => s _ _ (h.but b o n e), fun p hp => ⟨s _ _ (h.new p hp).1, (h.new p hp).2⟩, h.nd⟩
/-- a walk stands beside what is made at me -/
theorem WkM.but {K : PySem.W.Frag} {C CW : Addr} {H H' : Hp} {A : Ad} {k : Wk} {t b : Nat} {me dx : Addr} (h : WkM K C H A k t b) (hm : H me = some (.ins CW dx [])) (hb : But me H H') : WkM K C H' A k t b := by
  have ts : TupS H H' := fun x xs e => hb x _ (fun z => by rw [z, hm] at e; cases e) e
  have eq : ∀ {x o}, H x = some o → o ≠ .ins CW dx [] → H' x = H x := fun {x o} e n => by
    rw [e]
    exact hb x o (fun z => by rw [z, hm] at e; exact n (Option.some.inj e).symm) e
  obtain ⟨_, e2, _⟩ := h.wor
  obtain ⟨_, e3, _⟩ := h.con
  obtain ⟨_, e4, _⟩ := h.lat
  obtain ⟨_, e5, _⟩ := h.sen
  obtain ⟨_, e6, _⟩ := h.don
  have e1 := h.ins
  refine ⟨by rw [eq e1 (fun z => by unfold Ad.fs at z; cases z)]; exact e1, h.hid.mv ts, by rw [eq h.ask (fun z => nomatch z)]; exact h.ask, h.wor.mv (eq e2 (fun z => nomatch z)) (Nat.le_refl _) (Nat.le_refl _), h.con.mv (eq e3 (fun z => nomatch z)) (Nat.le_refl _) (Nat.le_refl _), h.lat.mv (eq e4 (fun z => nomatch z)) ts (Nat.le_refl _) (Nat.le_refl _), h.sen.mv (eq e5 (fun z => nomatch z)) ts, h.don.mv (eq e6 (fun z => nomatch z)) ts, h.ne, h.num, h.big, h.ml⟩
/-- what the class Way must have -/
structure WyC (K : PySem.W.Frag) (C : Addr) : Prop where
  I : ClsI K C
  na : ∀ f ∈ ([("_stretch" : Str), "_private", "_answers", "_letters", "_accesses", "_kept", "_left"] : List Str), NoAttr K C f
def spWayIn (K : PySem.W.Frag) (CS C CW : Addr) : Sp := fun vs H Q _ => ∃ (me dx a da kb pv : Addr) (c : V) (A : Ad) (k : Wk) (t b : Nat) (ks hid : List Str), vs = [.ref me, .ref a, .ref pv, .ref A.me] ∧ H me = some (.ins CW dx []) ∧ H a = some (insS CS da c (.ref kb)) ∧ HidR K H kb ks ∧ ks.length ≤ 900 ∧ HidR K H pv hid ∧ WkM K C H A k t b ∧ DoneOk k ∧ t ≤ 300 ∧
  ∀ H', But me H H' → WayM CW K H' me hid k.sent k.done → Q .non H'
section
variable {P : Program} {w : World} {K : PySem.W.Frag} {mg : Str → Option Value} {base : Heap} {f fL C CS CW : Addr} {fd dL : FuncData}
abbrev nWI : List Str := ["self", "stretch", "private", "walk", "pair", "name"]
theorem scWI : FnScope nWI ["self", "stretch", "private", "walk"] (defScope sWayIn) := ⟨rfl, rfl, rfl, by decide +kernel, rfl, by decide +kernel, by decide +kernel⟩
theorem ok_wayIn (F : Fun K "__init__" "Way.__init__" sWayIn f fd) (R : WkC K C) (Y : WyC K CW) (clS : Cls K CS) (srt : mg "sorted" = none) (tp : mg "tuple" = none) (pk : PropM P w K mg base CS "keeps" 1 (getSp CS "_keeps")) (mW : MethN P w K mg base C "worth" 1 ["self", "name"] (spWorth K C)) (lb : CallN P w K mg base "_left_by" 4 ["walk"] (spLeftBy K C)) :
    FnOk P w K mg base CX0 5 f fd ["self", "stretch", "private", "walk"] (spWayIn K CS C CW) := by
  obtain ⟨pP, gP, dP, hP, GP, bP⟩ := pk
  obtain ⟨gW, dW, aW, bW, GW⟩ := mW
  obtain ⟨gL, dL, aL, kL, bL, GL⟩ := lb
  refine F.ok scWI (fun vs H Q E h => ?_) (fun cdv A0 outer s H vs Q E hr h => ?_)
  · obtain ⟨me, dx, a, da, kb, pv, c, A, k, t, b, ks, hid, rfl, _⟩ := h
    rfl
  · obtain ⟨me, dx, a, da, kb, pr, c, A, k, t, b, ks, hid, rfl, em, ea, hk, lk, hp, hw, dk, ht, q⟩ := h
    refine ⟨_, pss_cons (ps_fld (pv 0) (pv 1) rfl) (pss_cons (ps_fld (pv 0) (pv 2) rfl)
      (pss_cons (ps_fld (pv 0) (pe_dc (own := [("pair", 4)]) rfl scWI.nd (pi_list (pe_callB (call_sortedD rfl) (by rfl) srt (by decide +kernel) (pa_cons (pe_fld (pv 3) rfl) pa_nil))) (blkOk_by (N := nWI) (sc := defScope sWayIn) (by decide +kernel)) (fun _ _ _ _ _ => pg_name (i := 4) scWI.nd rfl (Or.inl rfl)) (fun _ _ _ _ _ => pts_nil) (fun _ _ _ _ _ => pe_never) (fun _ _ _ _ _ => pe_never)) rfl)
      (pss_cons (ps_fld (pv 0) (pe_callTy call_tuple_of (by rfl) tp (by decide +kernel) (pa_cons (pe_fld (pv 3) rfl) pa_nil)) rfl) (pss_cons (ps_fld (pv 0) (pe_callTy call_tuple_of (by rfl) tp (by decide +kernel) (pa_cons (pe_fld (pv 3) rfl) pa_nil)) rfl)
      (pss_cons (ps_fld (pv 0) (pe_dc (own := [("name", 5)]) rfl scWI.nd (pi_tup (pe_prop (E := E0) (pv 1) clS hP GP (hr.mono (by decide)) bP .nil pass0 (by rfl))) (blkOk_by (N := nWI) (sc := defScope sWayIn) (by decide +kernel)) (fun _ _ _ _ _ => pg_name (i := 5) scWI.nd rfl (Or.inl rfl)) (fun _ _ _ _ _ => pts_nil) (fun _ _ _ _ _ => pv 5) (fun _ _ _ _ _ => pe_meth (pv 3) R.cl aW GW (hr.mono (by decide)) bW .nil pass0 (pa_cons (pv 5) pa_nil))) rfl)
      (pss_one (ps_fld (pv 0) (pe_call GL hr (by rfl) aL kL bL .nil pass0 (pa_cons (pv 3) pa_nil)) rfl))))))), ?_⟩
    have na : ∀ {f : Str}, f ∈ ([("_stretch" : Str), "_private", "_answers", "_letters", "_accesses", "_kept", "_left"] : List Str) → NoAttr K CW f := fun h => Y.na _ h
    have line : (1000 : Nat) < sizeLine := by decide
    have am : a ≠ me := fun z => by
      rw [z, em] at ea
      unfold insS at ea
      cases ea
    have i0 : InitS H H me CW dx [] [] := ⟨em, fun _ _ _ e => e, fun p hp => (by cases hp), List.nodup_nil⟩
    refine ⟨_, rfl, _, rfl, me, CW, dx, [], rfl, em, Y.I.cl, na (by simp), (by show 0 < 1000; decide), ?_⟩
    have i1 := i0.old (f := "_stretch") (v := .ref a)
    generalize upd H me _ = G1 at i1 ⊢
    refine ⟨_, rfl, _, rfl, me, CW, dx, _, rfl, i1.ins, Y.I.cl, na (by simp), (by show 1 < 1000; decide), ?_⟩
    have i2 := i1.old (f := "_private") (v := .ref pr)
    generalize upd G1 me _ = G2 at i2 ⊢
    have w2 := hw.but em i2.but
    refine ⟨_, rfl, A.me, C, A.dx, _, .ref A.a, rfl, w2.ins, R.cl, R.nas, rfl, A.a, [], [], rfl, .of w2.ask, rfl, by decide, fun ys p py sy hp2 => ?_⟩
    obtain rfl : ys = [] := List.length_eq_zero_iff.mp (by have := py.length_eq; simpa using this)
    have j3 := i2.ext (same_upd (o := .lst (([] : List Str).map V.str)) hp2)
    generalize hg3 : upd G2 p _ = G3 at j3 ⊢
    have e3 : G3 p = some (.lst []) := by
      rw [← hg3, upd_same]
      rfl
    refine ⟨p, rfl, ⟨[], SqL.of e3⟩, fun D hD => dc_list (K := K) (a := p) (xs := []) (g := gName 4) (tt := L2.tYes) (tk := fun _ _ _ => False) (tv := fun _ _ _ => False) (vs := [4]) (fun _ G => G = upd G3 D (.dK [])) rfl (fun i G z => by rw [z]; exact SqL.of (same_upd hD _ _ e3)) (fun i x G hx => by simp at hx) (fun G z => ?_)⟩
    subst z
    have j4 := j3.ext (same_upd (o := .dK []) hD)
    refine ⟨_, rfl, me, CW, dx, _, rfl, j4.ins, Y.I.cl, na (by simp), (by show 2 < 1000; decide), ?_⟩
    have i5 := j4.old (f := "_answers") (v := .ref D)
    generalize upd (upd G3 D _) me _ = G5 at i5 ⊢
    have w5 := hw.but em i5.but
    obtain ⟨ls, es, ps⟩ := hw.sen
    obtain ⟨ds, ed, pd⟩ := hw.don
    have nm : ∀ {x : Addr} {o : HO}, H x = some o → o ≠ .ins CW dx [] → x ≠ me := fun e n z => by rw [z, em] at e; exact n (Option.some.inj e).symm
    refine ⟨_, rfl, A.me, C, A.dx, _, .ref A.s, rfl, w5.ins, R.cl, R.ns, rfl, A.s, ls, rfl, .inl ⟨SqL.of (i5.but _ _ (nm es (fun z => nomatch z)) es), fun l hl => ?_⟩⟩
    obtain ⟨j5, i6⟩ := i5.more (f := "_letters") (v := .ref l) (o := .tup ls) hl
    refine ⟨_, rfl, me, CW, dx, _, rfl, j5, Y.I.cl, na (by simp), (by show 3 < 1000; decide), ?_⟩
    generalize upd (upd G5 l _) me _ = G6 at i6 ⊢
    have w6 := hw.but em i6.but
    refine ⟨_, rfl, A.me, C, A.dx, _, .ref A.d, rfl, w6.ins, R.cl, R.nd, rfl, A.d, ds, rfl, .inl ⟨SqL.of (i6.but _ _ (nm ed (fun z => nomatch z)) ed), fun ac hac => ?_⟩⟩
    obtain ⟨j6, i7⟩ := i6.more (f := "_accesses") (v := .ref ac) (o := .tup ds) hac
    refine ⟨_, rfl, me, CW, dx, _, rfl, j6, Y.I.cl, na (by simp), (by show 4 < 1000; decide), ?_⟩
    generalize upd (upd G6 ac _) me _ = G7 at i7 ⊢
    have ea7 : G7 a = some (insS CS da c (.ref kb)) := i7.but _ _ am ea
    have hk7 : HidR K G7 kb ks := hk.mv fun x xs e => i7.but x _ (nm e (fun z => nomatch z)) e
    refine ⟨_, rfl, a, da, _, rfl, ea7, a, da, _, _, rfl, ea7, rfl, kb, rfl, ⟨_, hk7.seq⟩, fun D2 hD2 => dc_tup (xs := ks.map V.str) (fun i G => Same G7 G ∧ ∃ kvs, G D2 = some (.dK kvs) ∧ kvs.length ≤ i) ⟨same_upd hD2, [], upd_same, Nat.le_refl _⟩ (fun i G _ z => (hk7.mv (TupS.same z.1)).seq) (fun i x G hx z => ?_) (fun G z => ?_)⟩
    · obtain ⟨s8, kvs, e8, l8⟩ := z
      rw [List.getElem?_map] at hx
      obtain ⟨n, hn, rfl⟩ := Option.map_eq_some_iff.mp hx
      have hi : i < ks.length := (List.getElem?_eq_some_iff.mp hn).1
      have w8 := (hw.but em i7.but).mv s8
      refine ⟨rfl, _, rfl, _, rfl, A.me, A.dx, _, rfl, w8.ins, w8.ml _ (by unfold mthW; simp), _, rfl, A, k, t, b, n, rfl, w8, kvs, Sum.inr n, rfl, e8, by omega, same_put hD2 s8, _, upd_same, ?_⟩
      have := length_putK kvs (Sum.inr n) (.str (k.worth n))
      omega
    · obtain ⟨s8, kvs, e8, l8⟩ := z
      have j8 := i7.ext s8
      refine ⟨_, rfl, me, CW, dx, _, rfl, j8.ins, Y.I.cl, na (by simp), (by show 5 < 1000; decide), ?_⟩
      have i9 := j8.old (f := "_kept") (v := .ref D2)
      generalize upd G me _ = G9 at i9 ⊢
      have w9 := hw.but em i9.but
      refine ⟨_, rfl, A, k, t, b, rfl, w9, dk, ht, fun G10 lf xs s10 _ => ?_⟩
      have j10 := i9.ext s10
      refine ⟨_, rfl, me, CW, dx, _, rfl, j10.ins, Y.I.cl, na (by simp), (by show 6 < 1000; decide), ?_⟩
      have i11 := j10.old (f := "_left") (v := .ref lf)
      generalize upd G10 me _ = G11 at i11 ⊢
      have ts : TupS H G11 := fun x xs e => i11.but x _ (nm e (fun z => nomatch z)) e
      obtain ⟨n1, n2, n3⟩ := i11.new (l, .tup ls) (by simp)
      obtain ⟨n4, n5, n6⟩ := i11.new (ac, .tup ds) (by simp)
      exact q G11 i11.but ⟨dx, pr, D, l, ac, D2, lf, .ref a, ls, ds, i11.ins, hp.mv ts, n1, L2.Paired.mapP ps fun _ _ z => z.mv ts, n4, L2.Paired.mapP pd fun _ _ z => z.mv ts⟩
end
end OM

namespace OM
open PySem PySem.Spec PyProof.Rows L2
abbrev sFollow : Stmt := top 57
/-- a stretch of straight code, as it stands -/
structure StrS (CS : Addr) (K : PySem.W.Frag) (H : Hp) (a : Addr) (ss : List Stm) : Prop where
  ex : ∃ (dx cp kb : Addr) (xs : List V) (ks : List Str), H a = some (insS CS dx (.ref cp) (.ref kb)) ∧ H cp = some (.tup xs) ∧ Paired (StmAt H) xs ss ∧ HidR K H kb ks ∧ ks.length ≤ 900
  ok : ∀ s ∈ ss, s.ok ∧ ∀ r, s ≠ .shw r
  few : 3 * ss.length ≤ 300
  grow : growL 40 ss ≤ 4000000
def spFollow (K : PySem.W.Frag) (CS CW : Addr) : Sp := fun vs H Q _ => ∃ (a e pv : Addr) (ss : List Stm), vs = [.ref a, .ref e, .ref pv] ∧ StrS CS K H a ss ∧ H e = some (.dK []) ∧ Emp K pv ∧ ∀ H' x, Same H H' → WayM CW K H' x [] ((Wk.new []).go ss).sent ((Wk.new []).go ss).done → Q (.ref x) H'
structure FolF (P : Program) (w : World) (K : PySem.W.Frag) (mg : Str → Option Value) (base : Heap) (CS C CW : Addr) : Prop where
  R : WkC K C
  Y : WyC K CW
  clS : Cls K CS
  chs : CallN P w K mg base "check_stretch" 1 ["value"] (spChS CS)
  ans : CallN P w K mg base "is_answers" 1 ["value"] spAns0
  chp : CallN P w K mg base "check_private" 3 ["value"] (spChP K)
  code : PropM P w K mg base CS "code" 1 (getSp CS "_code")
  go : MethN P w K mg base C "go" 5 ["self", "code"] (spGo K C)
  win : ∃ (f : Addr) (d : FuncData), Mk K C f ∧ mg "Walk" = some (.ref C) ∧ Binds K d ["self", "told", "hidden"] [] ∧ FnOk P w K mg base CX0 1 f d ["self", "told", "hidden"] (spWIn K C)
  yin : ∃ (f : Addr) (d : FuncData), Mk K CW f ∧ mg "Way" = some (.ref CW) ∧ Binds K d ["self", "stretch", "private", "walk"] [] ∧ FnOk P w K mg base CX0 5 f d ["self", "stretch", "private", "walk"] (spWayIn K CS C CW)
section
variable {P : Program} {w : World} {K : PySem.W.Frag} {mg : Str → Option Value} {base : Heap} {f C CS CW : Addr} {fd : FuncData} {kws : List (Str × V)}
abbrev nFol : List Str := ["stretch", "answers", "private", "walk"]
theorem scFol : FnScope nFol ["stretch", "answers", "private"] (defScope sFollow) := ⟨rfl, rfl, rfl, by decide +kernel, rfl, by decide +kernel, by decide +kernel⟩
theorem ok_follow (F : FunD K "follow" "follow" (defArgs sFollow) (defBody sFollow) (defScope sFollow) [] kws f fd) (L : FolF P w K mg base CS C CW) : FnOk P w K mg base CX0 7 f fd ["stretch", "answers", "private"] (spFollow K CS CW) := by
  have R := L.R
  obtain ⟨q1, e1, g1, k1, b1, G1⟩ := L.chs
  obtain ⟨q2, e2, g2, k2, b2, G2⟩ := L.ans
  obtain ⟨q3, e3, g3, k3, b3, G3⟩ := L.chp
  obtain ⟨p4, q4, e4, h4, G4, b4⟩ := L.code
  obtain ⟨q5, e5, a5, b5, G5⟩ := L.go
  obtain ⟨q6, e6, m6, g6, b6, G6⟩ := L.win
  obtain ⟨q7, e7, m7, g7, b7, G7⟩ := L.yin
  refine F.ok scFol (fun vs H Q E h => ?_) (fun cdv A outer s H vs Q E hr h => ?_)
  · obtain ⟨a, e, pv, ss, rfl, _⟩ := h
    rfl
  · obtain ⟨a, e, pr, ss, rfl, hS, he, hp, q⟩ := h
    refine ⟨_, pss_cons (ps_expr (pe_call G1 (hr.mono (by decide)) (by rfl) g1 k1 b1 .nil pass0 (pa_cons (pv 0) pa_nil)))
      (pss_cons (ps_if (pt_not (pt_val (pe_call G2 (hr.mono (by decide)) (by rfl) g2 k2 b2 .nil pass0 (pa_cons (pv 1) pa_nil)))) pss_never pss_nil)
      (pss_cons (ps_expr (pe_call G3 (hr.mono (by decide)) (by rfl) g3 k3 b3 .nil pass0 (pa_cons (pv 2) pa_nil)))
      (pss_cons (ps_set (i := 3) scFol.nd rfl (Or.inl rfl) (pe_make m6 G6 (hr.mono (by decide)) (by rfl) g6 b6 .nil pass0 (pa_cons (pv 1) (pa_cons (pv 2) pa_nil))))
      (pss_cons (ps_expr (pe_meth (pv 3) R.cl a5 G5 (hr.mono (by decide)) b5 .nil pass0 (pa_cons (pe_prop (E := E0) (pv 0) L.clS h4 G4 (hr.mono (by decide)) b4 .nil pass0 (by rfl)) pa_nil)))
      (pss_cons (ps_if (pt_cmp (pc_notN (pe_fld (pv 3) rfl))) pss_never pss_nil)
      (pss_one (ps_ret (pe_make m7 G7 (hr.mono (by decide)) (by rfl) g7 b7 .nil pass0 (pa_cons (pv 0) (pa_cons (pv 2) (pa_cons (pv 3) pa_nil))))))))))), ?_⟩
    obtain ⟨⟨dx, cp, kb, xs, ks, ea, ec, hx, hk, lk⟩, ok, few, gr⟩ := hS
    refine ⟨_, rfl, a, dx, _, rfl, ea, ?_⟩
    refine ⟨_, rfl, e, rfl, he, fun H1 s1 => ⟨_, rfl, iteF ?_⟩⟩
    refine ⟨_, rfl, pr, rfl, hp, fun H2 s2 => ?_⟩
    have s02 := s1.trans s2
    refine ⟨_, rfl, _, rfl, fun x dx2 hx2 hdx2 ne => ?_⟩
    have ndx : upd H2 dx2 (.own x) x = none := by
      rw [upd_ne (fun z => ne z.symm)]
      exact hx2
    have s3 := (same_upd (o := .own x) hdx2).trans (same_upd (o := .ins C dx2 []) ndx)
    generalize hg3 : upd (upd H2 dx2 (.own x)) x (.ins C dx2 []) = H3 at s3 ⊢
    have e3 : H3 x = some (.ins C dx2 []) := by rw [← hg3, upd_same]
    have s03 := s02.trans s3
    refine ⟨x, dx2, e, pr, [], rfl, e3, .inr ⟨hp, rfl⟩, fun H4 A ae1 ae2 ae3 bt own hw => ⟨rfl, ?_⟩⟩
    have s04 : Same H H4 := fun b o eb => bt b o (ne_of_none (s02 b o eb) hx2) (s03 b o eb)
    have nown : ∀ b o, H b = some o → b ∉ A.own := fun b o eb hb => by
      rcases own b hb with z | z
      · rw [z] at eb
        rw [s02 _ _ eb] at hx2
        cases hx2
      · rw [s03 _ _ eb] at z
        cases z
    subst ae1
    refine ⟨_, rfl, A.me, A.dx, _, rfl, hw.ins, hw.ml _ (by unfold mthW; simp), _, rfl, a, dx, _, rfl, s04 _ _ ea, a, dx, _, _, rfl, s04 _ _ ea, rfl, A, _, _, _, cp, xs, ss, rfl, hw, s04 _ _ ec, L2.Paired.mapP hx (fun _ _ z => z.mv (TupS.same s04)), ok, by omega, gr, fun H5 c5 hw5 => ?_⟩
    have s05 : Same H H5 := fun b o eb => c5.keep b o (nown b o eb) (s04 b o eb)
    refine ⟨_, rfl, A.me, C, A.dx, _, .non, rfl, hw5.ins, R.cl, R.nlk, rfl, ?_⟩
    have dk : DoneOk ((Wk.new []).go ss) := DoneOk.new.go fun s hs => (ok s hs).1
    refine ⟨_, rfl, _, rfl, _, rfl, _, rfl, fun y dx6 hy hdx6 ne6 => ?_⟩
    have ndx6 : upd H5 dx6 (.own y) y = none := by
      rw [upd_ne (fun z => ne6 z.symm)]
      exact hy
    have s6 := (same_upd (o := .own y) hdx6).trans (same_upd (o := .ins CW dx6 []) ndx6)
    generalize hg6 : upd (upd H5 dx6 (.own y)) y (.ins CW dx6 []) = H6 at s6 ⊢
    have e6 : H6 y = some (.ins CW dx6 []) := by rw [← hg6, upd_same]
    have s06 := s05.trans s6
    refine ⟨y, dx6, a, dx, kb, pr, .ref cp, A, _, _, _, ks, [], rfl, e6, s06 _ _ ea, hk.mv (TupS.same s06), lk, .inr ⟨hp, rfl⟩, hw5.mv s6, dk, by omega, fun H7 b7' wy => ⟨rfl, q H7 y (fun b o eb => b7' b o (ne_of_none (s05 b o eb) hy) (s06 b o eb)) wy⟩⟩
end
end OM

namespace OM
open PySem PySem.Spec PyProof.Rows L2
abbrev sIdx : Stmt := top 72
abbrev sNear : Stmt := top 73
abbrev sChW : Stmt := top 74
abbrev sChK : Stmt := top 75
abbrev sChC : Stmt := top 76
abbrev sChPl : Stmt := top 77
abbrev sCvg : Stmt := top 69
abbrev sIsC : Stmt := top 70
abbrev sCvP : Stmt := top 71
/-! ### covering, apart from the model -/
abbrev Acc := Str × Str × Nat × Str
def covOf (kind : Str) : List Str := if kind = ("read" : Str) then ["read", "write"] else ["write"]
def relv (kind cell : Str) (a : Acc) : Bool := (covOf kind).contains a.1 && decide (a.2.1 = cell)
def noPut (l : Str × Str) : Bool := !decide (V.str l.1 = V.str "put")
def noGet (l : Str × Str) : Bool := !decide (V.str l.1 = V.str "get")
def near (ls : List (Str × Str)) (q p : Nat) : Bool := if q ≤ p then ((ls.drop q).take (p - q)).all noPut else ((ls.drop p).take (q - p)).all noGet
def idxs (kind cell : Str) (done : List Acc) : List Nat := (List.range done.length).filter fun i => (done[i]?).any (relv kind cell)
def covI (kind cell : Str) (ls : List (Str × Str)) (done : List Acc) (p : Nat) : List Nat := (idxs kind cell done).filter fun i => (done[i]?).any fun a => near ls a.2.2.1 p
def covB (kind cell : Str) (ls : List (Str × Str)) (done : List Acc) (p : Nat) : Bool := !(covI kind cell ls done p).isEmpty
abbrev natV (l : List Nat) : List V := l.map fun j => V.int (j : Nat)
def KindOk (k : Str) : Prop := k = ("read" : Str) ∨ k = ("write" : Str)
def spNear (K : PySem.W.Frag) : Sp := fun vs H Q _ => ∃ (a : Addr) (xs : List V) (ls : List (Str × Str)) (q p : Nat), vs = [.ref a, .int (q : Nat), .int (p : Nat)] ∧ H a = some (.tup xs) ∧ Paired (LetR H) xs ls ∧ q ≤ ls.length ∧ p ≤ ls.length ∧ ls.length ≤ 900 ∧ ∀ H', Same H H' → Q (.bl (near ls q p)) H'
def spChK : Sp := fun vs H Q _ => ∃ k : Str, vs = [.str k] ∧ KindOk k ∧ ∀ H', Same H H' → Q .non H'
def spChC : Sp := fun vs H Q _ => ∃ c : Str, vs = [.str c] ∧ Nm c ∧ ∀ H', Same H H' → Q .non H'
section
variable {P : Program} {w : World} {K : PySem.W.Frag} {mg : Str → Option Value} {base : Heap} {f fN C CS CW : Addr} {fd dN : FuncData}
theorem scNear : FnScope ["letters", "at", "place", "letter"] ["letters", "at", "place"] (defScope sNear) := ⟨rfl, rfl, rfl, by decide +kernel, rfl, by decide +kernel, by decide +kernel⟩
theorem ok_near1 (F : Fun K "_is_near" "_is_near" sNear f fd) (al : mg "all" = none) : FnOk P w K mg base CX0 1 f fd ["letters", "at", "place"] (spNear K) := by
  refine F.ok scNear (fun vs H Q E h => ?_) (fun cdv A outer s H vs Q E hr h => ?_)
  · obtain ⟨a, xs, ls, q, p, rfl, _⟩ := h
    rfl
  · obtain ⟨a, xs, ls, q, p, rfl, ea, hx, hq, hp, l9, k⟩ := h
    refine ⟨_, pss_cons (ps_if (pt_cmpR op_le (pv 1) (pv 2) (nomark _)) (pss_one (ps_ret (pe_callB (cr_all rfl) (by rfl) al (by decide +kernel) (pa_cons (pe_lc (own := [("letter", 3)]) rfl scNear.nd (pi_tup (pe_slice sl_tupA (pv 0) (po_some (pv 1)) (po_some (pv 2)))) (blkOk_by (N := ["letters", "at", "place", "letter"]) (sc := defScope sNear) (by decide +kernel))
          (fun _ _ _ _ _ => pg_name (i := 3) scNear.nd rfl (Or.inl rfl)) (fun _ _ _ _ _ => pts_nil) (fun _ _ _ _ _ => pe_cmpR op_ne (pe_ix (r := rIxT K) ix_tup (pv 3) pe_int (fun _ _ => rfl)) pe_str (nomark _))) pa_nil)))) pss_nil)
      (pss_one (ps_ret (pe_callB (cr_all rfl) (by rfl) al (by decide +kernel) (pa_cons (pe_lc (own := [("letter", 3)]) rfl scNear.nd (pi_tup (pe_slice sl_tupA (pv 0) (po_some (pv 2)) (po_some (pv 1)))) (blkOk_by (N := ["letters", "at", "place", "letter"]) (sc := defScope sNear) (by decide +kernel))
          (fun _ _ _ _ _ => pg_name (i := 3) scNear.nd rfl (Or.inl rfl)) (fun _ _ _ _ _ => pts_nil) (fun _ _ _ _ _ => pe_cmpR op_ne (pe_ix (r := rIxT K) ix_tup (pv 3) pe_int (fun _ _ => rfl)) pe_str (nomark _))) pa_nil)))), ?_⟩
    have lx := hx.length
    refine ⟨_, rfl, _, rfl, (q : Int), (p : Int), rfl, rfl, _, rfl, ?_⟩
    by_cases hc : q ≤ p
    · rw [decide_eq_true (show (q : Int) ≤ (p : Int) by omega)]
      refine iteT ?_
      refine ⟨_, rfl, _, rfl, _, rfl, _, rfl, _, rfl, sl_one ea fun c H1 s1 _ ec => ?_⟩
      rw [cut_ab (by omega) (by omega)] at ec
      have hx1 : Paired (LetR H1) ((xs.drop q).take (p - q)) ((ls.drop q).take (p - q)) := Paired.take _ (Paired.drop _ (L2.Paired.mapP hx fun _ _ z => z.mv (TupS.same s1)))
      have lx1 := hx1.length
      have ll : ((ls.drop q).take (p - q)).length ≤ 1000 := by
        rw [List.length_take, List.length_drop]
        omega
      refine ⟨c, rfl, ⟨_, SqT.of ec⟩, fun D hD => lc_tup (xs := (xs.drop q).take (p - q)) (PvM H1 D (((ls.drop q).take (p - q)).map noPut)) (PvM.zero hD) (fun i H' _ pv => SqT.of (pv.1 _ _ ec)) (fun i x H3 hi pv => ?_) (fun H5 pv => ?_)⟩
      · obtain ⟨l, hl, b, rfl, eb⟩ := Paired.at hx1 hi
        refine ⟨rfl, _, rfl, b, _, 0, .str l.1, rfl, rfl, SqT.of (pv.1 _ _ eb), at0, rfl, ?_⟩
        refine pv.step hD (by rw [List.length_map]; omega) ?_ (Same.refl H3)
        rw [List.getElem?_map, hl]
        rfl
      · obtain ⟨s5, e5⟩ := pv
        rw [List.take_of_length_le (by rw [List.length_map]; omega)] at e5
        refine ⟨D, _, rfl, SqL.of e5, ?_⟩
        have z := k H5 (s1.trans s5)
        unfold near at z
        rw [if_pos hc] at z
        rw [List.all_map]
        exact z
    · rw [decide_eq_false (show ¬ (q : Int) ≤ (p : Int) by omega)]
      refine iteF ?_
      refine ⟨_, rfl, _, rfl, _, rfl, _, rfl, _, rfl, sl_one ea fun c H1 s1 _ ec => ?_⟩
      rw [cut_ab (by omega) (by omega)] at ec
      have hx1 : Paired (LetR H1) ((xs.drop p).take (q - p)) ((ls.drop p).take (q - p)) := Paired.take _ (Paired.drop _ (L2.Paired.mapP hx fun _ _ z => z.mv (TupS.same s1)))
      have lx1 := hx1.length
      have ll : ((ls.drop p).take (q - p)).length ≤ 1000 := by
        rw [List.length_take, List.length_drop]
        omega
      refine ⟨c, rfl, ⟨_, SqT.of ec⟩, fun D hD => lc_tup (xs := (xs.drop p).take (q - p)) (PvM H1 D (((ls.drop p).take (q - p)).map noGet)) (PvM.zero hD) (fun i H' _ pv => SqT.of (pv.1 _ _ ec)) (fun i x H3 hi pv => ?_) (fun H5 pv => ?_)⟩
      · obtain ⟨l, hl, b, rfl, eb⟩ := Paired.at hx1 hi
        refine ⟨rfl, _, rfl, b, _, 0, .str l.1, rfl, rfl, SqT.of (pv.1 _ _ eb), at0, rfl, ?_⟩
        refine pv.step hD (by rw [List.length_map]; omega) ?_ (Same.refl H3)
        rw [List.getElem?_map, hl]
        rfl
      · obtain ⟨s5, e5⟩ := pv
        rw [List.take_of_length_le (by rw [List.length_map]; omega)] at e5
        refine ⟨D, _, rfl, SqL.of e5, ?_⟩
        have z := k H5 (s1.trans s5)
        unfold near at z
        rw [if_neg hc] at z
        rw [List.all_map]
        exact z
theorem scChW : FnScope ["value"] ["value"] (defScope sChW) := ⟨rfl, rfl, rfl, by decide +kernel, rfl, by decide +kernel, by decide +kernel⟩
theorem ok_chw (F : Fun K "_check_way" "_check_way" sChW f fd) (R : ClsI K CW) (gC : mg "Way" = some (.ref CW)) (isi : mg "isinstance" = none) : FnOk P w K mg base CX0 1 f fd ["value"] (spChS CW) := by
  refine F.ok scChW (fun vs H Q E h => ?_) (fun cdv A outer s H vs Q E hr h => ?_)
  · obtain ⟨a, dx, fs, rfl, _⟩ := h
    rfl
  · obtain ⟨a, dx, fs, rfl, ea, q⟩ := h
    refine ⟨_, pss_one (ps_if (pt_not (pt_val (pe_callB call_isi (by rfl) isi (by decide +kernel) (pa_cons (pv 0) (pa_cons (pe_glob (v := .ref CW) (by rfl) gC rfl) pa_nil))))) pss_never pss_nil), ?_⟩
    exact ⟨_, rfl, .ref a, .ref CW, .ref CW, .ref CW, true, rfl, .own CW, .base (.ins ea R.cl R.ha R.hn R.htk R.hm), R.kit, _, rfl, iteF q⟩
theorem scChK : FnScope ["value"] ["value"] (defScope sChK) := ⟨rfl, rfl, rfl, by decide +kernel, rfl, by decide +kernel, by decide +kernel⟩
theorem ok_chk (F : Fun K "_check_kind" "_check_kind" sChK f fd) : FnOk P w K mg base CX0 1 f fd ["value"] spChK := by
  refine F.ok scChK (fun vs H Q E h => ?_) (fun cdv A outer s H vs Q E hr h => ?_)
  · obtain ⟨k, rfl, _⟩ := h
    rfl
  · obtain ⟨k, rfl, hk, q⟩ := h
    refine ⟨_, pss_one (ps_if (pt_cmpR op_notIn_seq (pv 0) (pe_tup (pa_cons pe_str (pa_cons pe_str pa_nil))) (by rfl)) pss_never pss_nil), ?_⟩
    refine ⟨_, rfl, (by show 2 ≤ sizeLine; decide), fun p hp => ?_⟩
    refine ⟨p, _, rfl, .inr (SqT.of upd_same), rfl, (by decide +kernel), ?_⟩
    have e : inV (.str k) ((["read", "write"] : List Str).map V.str) = true := by
      rw [inV_strs]
      rcases hk with rfl | rfl <;> decide +kernel
    show ∃ c, V.bl (!inV (.str k) ((["read", "write"] : List Str).map V.str)) = V.bl c ∧ _
    rw [e]
    exact ⟨_, rfl, iteF (q _ (same_upd hp))⟩
theorem scChC : FnScope ["value"] ["value"] (defScope sChC) := ⟨rfl, rfl, rfl, by decide +kernel, rfl, by decide +kernel, by decide +kernel⟩
theorem ok_chc (F : Fun K "_check_cell" "_check_cell" sChC f fd) (nm : CallN P w K mg base "is_name" 1 ["value"] spName) : FnOk P w K mg base CX0 2 f fd ["value"] spChC := by
  obtain ⟨q1, e1, g1, k1, b1, G1⟩ := nm
  refine F.ok scChC (fun vs H Q E h => ?_) (fun cdv A outer s H vs Q E hr h => ?_)
  · obtain ⟨k, rfl, _⟩ := h
    rfl
  · obtain ⟨k, rfl, hk, q⟩ := h
    refine ⟨_, pss_one (ps_if (pt_not (pt_val (pe_call G1 hr (by rfl) g1 k1 b1 .nil pass0 (pa_cons (pv 0) pa_nil)))) pss_never pss_nil), ?_⟩
    refine ⟨_, rfl, fun _ => True, .str k, .str k, rfl, .at (.str k), nm_sml hk, fun H1 s1 => ⟨_, rfl, ?_⟩⟩
    rw [hk]
    exact iteF (q _ s1)
structure WayF (P : Program) (w : World) (K : PySem.W.Frag) (mg : Str → Option Value) (base : Heap) (CW : Addr) : Prop where
  I : ClsI K CW
  priv : PropM P w K mg base CW "private" 1 (getSp CW "_private")
  lets : PropM P w K mg base CW "letters" 1 (getSp CW "_letters")
  accs : PropM P w K mg base CW "accesses" 1 (getSp CW "_accesses")
theorem getW {H : Hp} {a : Addr} {hid : List Str} {sent : List (Str × Str)} {done : List Acc} (h : WayM CW K H a hid sent done) : ∃ (dx pv l ac : Addr) (fs : List (Str × V)) (ls as : List V), H a = some (.ins CW dx fs) ∧ fs.lookup ("_private" : Str) = some (.ref pv) ∧ fs.lookup ("_letters" : Str) = some (.ref l) ∧ fs.lookup ("_accesses" : Str) = some (.ref ac) ∧
    HidR K H pv hid ∧ H l = some (.tup ls) ∧ Paired (LetR H) ls sent ∧ H ac = some (.tup as) ∧ Paired (AccR H) as done := by
  obtain ⟨dx, pv, an, l, ac, kp, lf, st, ls, as, e1, e2, e3, e4, e5, e6⟩ := h.ex
  exact ⟨dx, pv, l, ac, _, ls, as, e1, rfl, rfl, rfl, e2, e3, e4, e5, e6⟩
def spChPl (K : PySem.W.Frag) (CW : Addr) : Sp := fun vs H Q _ => ∃ (a : Addr) (hid : List Str) (sent : List (Str × Str)) (done : List Acc) (p : Nat), vs = [.ref a, .int (p : Nat)] ∧ WayM CW K H a hid sent done ∧ p ≤ sent.length ∧ ∀ H', Same H H' → Q .non H'
theorem scChPl : FnScope ["way", "value"] ["way", "value"] (defScope sChPl) := ⟨rfl, rfl, rfl, by decide +kernel, rfl, by decide +kernel, by decide +kernel⟩
theorem ok_chpl (F : Fun K "_check_place" "_check_place" sChPl f fd) (W : WayF P w K mg base CW) (ln : mg "len" = none) (nu : CallN P w K mg base "is_number" 2 ["value", "low", "high"] spNumber) : FnOk P w K mg base CX0 3 f fd ["way", "value"] (spChPl K CW) := by
  obtain ⟨q1, e1, g1, k1, b1, G1⟩ := nu
  obtain ⟨pL, gL, dL, hL, GL, bL⟩ := W.lets
  refine F.ok scChPl (fun vs H Q E h => ?_) (fun cdv A outer s H vs Q E hr h => ?_)
  · obtain ⟨a, hid, sent, done, p, rfl, _⟩ := h
    rfl
  · obtain ⟨a, hid, sent, done, p, rfl, hw, hp, q⟩ := h
    refine ⟨_, pss_one (ps_if (pt_not (pt_val (pe_call G1 hr (by rfl) g1 k1 b1 .nil pass0 (pa_cons (pv 1) (pa_cons pe_int (pa_cons (pe_callB call_len_seq (by rfl) ln PySem.boot_len (pa_cons (pe_prop (E := E0) (pv 0) W.I.cl hL GL (hr.mono (by decide)) bL .nil pass0 (by rfl)) pa_nil)) pa_nil)))))) pss_never pss_nil), ?_⟩
    obtain ⟨dx, pr, l, ac, fs, ls, as, ea, f1, f2, f3, hh, el, hl, ec, hc⟩ := getW hw
    have lx := hl.length
    refine ⟨_, rfl, _, rfl, a, dx, _, rfl, ea, a, dx, _, _, rfl, ea, f2, l, ls, rfl, .inr (SqT.of el), (p : Int), 0, (ls.length : Int), rfl, by omega, by omega, fun H1 s1 => ⟨_, rfl, iteF (q _ s1)⟩⟩
end
/-! ### which accesses cover -/
def spIdx (K : PySem.W.Frag) (CW : Addr) : Sp := fun vs H Q _ => ∃ (a : Addr) (kind cell : Str) (hid : List Str) (sent : List (Str × Str)) (done : List Acc), vs = [.ref a, .str kind, .str cell] ∧ WayM CW K H a hid sent done ∧ KindOk kind ∧ done.length ≤ 900 ∧ ∀ H' p, Same H H' → H p = none → H' p = some (.lst (natV (idxs kind cell done))) → Q (.ref p) H'
def CovD (K : PySem.W.Frag) (w : World) (mg : Str → Option Value) : Prop := ∃ d, mg "COVERING" = some (.ref d) ∧ ∀ kind, KindOk kind → ∃ a, KDct K w d kind (.ref a) ∧ ∀ H, SqT K H a ((covOf kind).map V.str)
section
variable {P : Program} {w : World} {K : PySem.W.Frag} {mg : Str → Option Value} {base : Heap} {f fN C CS CW : Addr} {fd dN : FuncData}
theorem scIdx : FnScope ["way", "kind", "cell", "at", "access"] ["way", "kind", "cell"] (defScope sIdx) := ⟨rfl, rfl, rfl, by decide +kernel, rfl, by decide +kernel, by decide +kernel⟩
theorem filt_succ {f : Nat → Bool} {i : Nat} : natV ((List.range (i + 1)).filter f) = natV ((List.range i).filter f) ++ (if f i = true then [V.int (i : Nat)] else []) := by
  unfold natV
  rw [List.range_succ, List.filter_append, List.map_append]
  congr 1
  cases h : f i <;> simp [h]
theorem ok_idx (F : Fun K "_indices" "_indices" sIdx f fd) (W : WayF P w K mg base CW) (D : CovD K w mg) (en : mg "enumerate" = none) : FnOk P w K mg base CX0 3 f fd ["way", "kind", "cell"] (spIdx K CW) := by
  obtain ⟨cd, gM, hcd⟩ := D
  obtain ⟨pL, gL, dL, hL, GL, bL⟩ := W.accs
  refine F.ok scIdx (fun vs H Q E h => ?_) (fun cdv A outer s H vs Q E hr h => ?_)
  · obtain ⟨a, kind, cell, hid, sent, done, rfl, _⟩ := h
    rfl
  · obtain ⟨a, kind, cell, hid, sent, done, rfl, hw, hk, l9, q⟩ := h
    refine ⟨_, pss_one (ps_ret (pe_lc (g := gTup K 2 (gCons (gName 3) (gCons (gName 4) gNil))) (own := [("at", 3), ("access", 4)]) rfl scIdx.nd (pi_enumT (by rfl) en (pa_cons (pe_prop (E := E0) (pv 0) W.I.cl hL GL (hr.mono (by decide)) bL .nil pass0 (by rfl)) pa_nil)) (blkOk_by (N := ["way", "kind", "cell", "at", "access"]) (sc := defScope sIdx) (by decide +kernel))
        (fun _ _ _ _ _ => pg_tup rfl (pgs_cons (pg_name (i := 3) scIdx.nd rfl (Or.inl rfl)) (pgs_cons (pg_name (i := 4) scIdx.nd rfl (Or.inl rfl)) pgs_nil)))
        (fun _ _ _ _ _ => pts_one (PW.pt (pw_and (pt_cmpR (r := rIn K false) op_in_seq (pe_ix (r := rIxT K) ix_tup (pv 4) pe_int (fun _ _ => rfl)) (pe_ix (r := rIxD K w) ix_kdict (pe_glob (v := .ref cd) (by rfl) gM rfl) (pv 1) (fun _ _ => rfl)) (by rfl)) (pw_and1 (pt_cmpR op_eq (pe_ix (r := rIxT K) ix_tup (pv 4) pe_int (fun _ _ => rfl)) (pv 2) (nomark _)))))) (fun _ _ _ _ _ => pv 3))), ?_⟩
    obtain ⟨dx, pr, l, ac, fs, ls, as, ea, f1, f2, f3, hh, el, hl, ec, hc⟩ := getW hw
    have lx := hc.length
    have line : (1000 : Nat) < sizeLine := by decide
    obtain ⟨ca, kd, sq⟩ := hcd kind hk
    let g : Nat → Bool := fun i => (done[i]?).any (relv kind cell)
    refine ⟨_, rfl, a, dx, _, rfl, ea, a, dx, _, _, rfl, ea, f3, ac, as, rfl, SqT.of ec, fun D hD => lc_enumT (xs := as) (fun i G => Same H G ∧ G D = some (.lst (natV ((List.range i).filter g)))) ⟨same_upd hD, upd_same⟩ (fun i G pv => SqT.of (pv.1 _ _ ec)) (fun i x T G hx pv hT => ?_) (fun G pv => ?_)⟩
    · obtain ⟨sG, eD⟩ := pv
      obtain ⟨d, hd, b, rfl, eb⟩ := Paired.at hc hx
      have hi : i < as.length := (List.getElem?_eq_some_iff.mp hx).1
      have sT := same_upd (o := .tup [.int (i : Nat), .ref b]) hT
      have ebT := sT _ _ (sG _ _ eb)
      have eDT := sT _ _ eD
      have gi : g i = relv kind cell d := by
        show (done[i]?).any (relv kind cell) = _
        rw [hd]
        rfl
      have lf : (natV ((List.range i).filter g)).length < sizeLine := by
        unfold natV
        rw [List.length_map]
        have := List.length_filter_le g (List.range i)
        rw [List.length_range] at this
        omega
      have yes : relv kind cell d = true → ∃ acc, (upd G T (.tup [.int (i : Nat), .ref b])) D = some (.lst acc) ∧ acc.length < sizeLine ∧ Same H (upd (upd G T (.tup [.int (i : Nat), .ref b])) D (.lst (acc ++ [V.int (i : Nat)]))) ∧ (upd (upd G T (.tup [.int (i : Nat), .ref b])) D (.lst (acc ++ [V.int (i : Nat)]))) D = some (.lst (natV ((List.range (i + 1)).filter g))) := fun z => ⟨_, eDT, lf, same_put hD (sG.trans sT), by rw [upd_same, filt_succ, if_pos (gi.trans z)]⟩
      have no : relv kind cell d = false → Same H (upd G T (.tup [.int (i : Nat), .ref b])) ∧ (upd G T (.tup [.int (i : Nat), .ref b])) D = some (.lst (natV ((List.range (i + 1)).filter g))) := fun z => ⟨sG.trans sT, by rw [eDT, filt_succ, if_neg (by rw [gi, z]; decide), List.append_nil]⟩
      refine ⟨T, _, rfl, SqT.of upd_same, rfl, _, _, rfl, _, _, rfl, rfl, rfl, ?_⟩
      refine ⟨_, rfl, b, _, 0, .str d.1, rfl, rfl, SqT.of ebT, at0, _, rfl, cd, kind, .ref ca, rfl, rfl, kd, ca, _, rfl, .inr (sq _), rfl, flat_strs _, _, rfl, ?_⟩
      show if (inV (.str d.1) ((covOf kind).map V.str)) = true then _ else _
      rw [inV_strs]
      cases hcn : (covOf kind).contains d.1 with
      | false =>
        refine iteF (iteF (no ?_))
        unfold relv
        rw [hcn]
        rfl
      | true =>
        refine iteT ⟨_, rfl, b, _, 1, .str d.2.1, rfl, rfl, SqT.of ebT, rfl, _, rfl, rfl, _, rfl, ?_⟩
        by_cases he : d.2.1 = cell
        · have r : relv kind cell d = true := by
            unfold relv
            rw [hcn, decide_eq_true he]
            rfl
          rw [decide_eq_true (congrArg V.str he)]
          exact iteT ⟨_, rfl, yes r⟩
        · have r : relv kind cell d = false := by
            unfold relv
            rw [hcn, decide_eq_false he]
            rfl
          rw [decide_eq_false (fun z => he (V.str.inj z))]
          exact iteF (no r)
    · rw [lx] at pv
      exact q G D pv.1 hD pv.2
end
end OM

namespace OM
open PySem PySem.Spec PyProof.Rows L2
/-! ### tuples of numbers -/
abbrev natD (l : List Nat) : List PyData := l.map fun j => PyData.int (j : Nat)
theorem nats_lay : ∀ l : List Nat, PyData.canLayAll0 (natD l) = true
  | [] => by simp [PyData.canLayAll0]
  | z :: l => by
    have := nats_lay l
    simp only [natD, List.map_cons, PyData.canLayAll0, PyData.canLay0] at this ⊢
    simp [this]
theorem nats_depth : ∀ l : List Nat, PyData.depthAll (natD l) ≤ 2
  | [] => by simp [PyData.depthAll]
  | z :: l => by
    have := nats_depth l
    simp only [natD, List.map_cons, PyData.depthAll, PyData.depth] at this ⊢
    omega
theorem nats_sh (l : List Nat) : SeqAt.shaped (.tuple (natD l)) = true := by
  have h1 := nats_depth l
  have h2 : PyData.depth (.tuple (natD l)) ≤ 64 := by
    simp only [PyData.depth]
    omega
  show (PyData.canLay0 (.tuple (natD l)) && decide (PyData.depth (.tuple (natD l)) ≤ 64)) = true
  rw [Bool.and_eq_true]
  exact ⟨by simp only [PyData.canLay0]; exact nats_lay l, decide_eq_true h2⟩
theorem nats_nil (l : List Nat) : PyData.eqv (.tuple (natD l)) (.tuple []) = l.isEmpty := by
  cases l <;> simp [PyData.eqv, PyData.eqvAll]
theorem nats_dp {K : PySem.W.Frag} {H : Hp} : ∀ l : List Nat, DpAll K H (natV l) (natD l)
  | [] => .nil
  | x :: l => .cons (.int x) (nats_dp l)
/-! ### covering -/
def PlOk (sent : List (Str × Str)) (done : List Acc) : Prop := ∀ a ∈ done, a.2.2.1 ≤ sent.length
def spCvg (K : PySem.W.Frag) (CW : Addr) : Sp := fun vs H Q _ => ∃ (a : Addr) (kind cell : Str) (p : Nat) (sent : List (Str × Str)) (done : List Acc), vs = [.ref a, .str kind, .str cell, .int (p : Nat)] ∧ WayM CW K H a [] sent done ∧ KindOk kind ∧ Nm cell ∧ p ≤ sent.length ∧ sent.length ≤ 900 ∧ done.length ≤ 900 ∧ PlOk sent done ∧
  ∀ H' q, Same H H' → H' q = some (.tup (natV (covI kind cell sent done p))) → Q (.ref q) H'
def spIsCv (K : PySem.W.Frag) (CW : Addr) : Sp := fun vs H Q _ => ∃ (a : Addr) (kind cell : Str) (p : Nat) (sent : List (Str × Str)) (done : List Acc), vs = [.ref a, .str kind, .str cell, .int (p : Nat)] ∧ WayM CW K H a [] sent done ∧ KindOk kind ∧ Nm cell ∧ p ≤ sent.length ∧ sent.length ≤ 900 ∧ done.length ≤ 900 ∧ PlOk sent done ∧
  ∀ H', Same H H' → Q (.bl (covB kind cell sent done p)) H'
def spCvP (K : PySem.W.Frag) (CW : Addr) : Sp := fun vs H Q _ => ∃ (a : Addr) (kind cell : Str) (sent : List (Str × Str)) (done : List Acc), vs = [.ref a, .str kind, .str cell] ∧ WayM CW K H a [] sent done ∧ KindOk kind ∧ Nm cell ∧ sent.length ≤ 900 ∧ done.length ≤ 900 ∧ PlOk sent done ∧
  ∀ H' q, Same H H' → H' q = some (.tup (natV ((List.range (sent.length + 1)).filter (covB kind cell sent done)))) → Q (.ref q) H'
structure CvF (P : Program) (w : World) (K : PySem.W.Frag) (mg : Str → Option Value) (base : Heap) (CW : Addr) : Prop where
  W : WayF P w K mg base CW
  chw : CallN P w K mg base "_check_way" 1 ["value"] (spChS CW)
  chk : CallN P w K mg base "_check_kind" 1 ["value"] spChK
  chc : CallN P w K mg base "_check_cell" 2 ["value"] spChC
  chp : CallN P w K mg base "_check_place" 3 ["way", "value"] (spChPl K CW)
  idx : CallN P w K mg base "_indices" 3 ["way", "kind", "cell"] (spIdx K CW)
  near : CallN P w K mg base "_is_near" 1 ["letters", "at", "place"] (spNear K)
  tp : mg "tuple" = none
  ln : mg "len" = none
  rng : mg "range" = none
section
variable {P : Program} {w : World} {K : PySem.W.Frag} {mg : Str → Option Value} {base : Heap} {f CW : Addr} {fd : FuncData}
abbrev nCvg : List Str := ["way", "kind", "cell", "place", "index"]
theorem filter_snoc {f : Nat → Bool} {l : List Nat} {i j : Nat} (h : l[i]? = some j) : (l.take (i + 1)).filter f = (l.take i).filter f ++ (if f j = true then [j] else []) := by
  rw [List.take_add_one, h, List.filter_append]
  congr 1
  show List.filter f [j] = _
  cases e : f j <;> simp [e]
theorem scCvg : FnScope nCvg ["way", "kind", "cell", "place"] (defScope sCvg) := ⟨rfl, rfl, rfl, by decide +kernel, rfl, by decide +kernel, by decide +kernel⟩
theorem ok_cvg (F : Fun K "covering" "covering" sCvg f fd) (L : CvF P w K mg base CW) : FnOk P w K mg base CX0 4 f fd ["way", "kind", "cell", "place"] (spCvg K CW) := by
  obtain ⟨q1, e1, g1, k1, b1, G1⟩ := L.chw
  obtain ⟨q2, e2, g2, k2, b2, G2⟩ := L.chk
  obtain ⟨q3, e3, g3, k3, b3, G3⟩ := L.chc
  obtain ⟨q4, e4, g4, k4, b4, G4⟩ := L.chp
  obtain ⟨q5, e5, g5, k5, b5, G5⟩ := L.idx
  obtain ⟨q6, e6, g6, k6, b6, G6⟩ := L.near
  obtain ⟨pP, gP, dP, hP, GP, bP⟩ := L.W.priv
  obtain ⟨pL, gL, dL, hL, GL, bL⟩ := L.W.lets
  obtain ⟨pA, gA, dA, hA, GA, bA⟩ := L.W.accs
  refine F.ok scCvg (fun vs H Q E h => ?_) (fun cdv A outer s H vs Q E hr h => ?_)
  · obtain ⟨a, kind, cell, p, sent, done, rfl, _⟩ := h
    rfl
  · obtain ⟨a, kind, cell, p, sent, done, rfl, hw, hk, hc, hp, s9, d9, po, q⟩ := h
    refine ⟨_, pss_cons (ps_expr (pe_call G1 (hr.mono (by decide)) (by rfl) g1 k1 b1 .nil pass0 (pa_cons (pv 0) pa_nil)))
      (pss_cons (ps_expr (pe_call G2 (hr.mono (by decide)) (by rfl) g2 k2 b2 .nil pass0 (pa_cons (pv 1) pa_nil)))
      (pss_cons (ps_expr (pe_call G3 (hr.mono (by decide)) (by rfl) g3 k3 b3 .nil pass0 (pa_cons (pv 2) pa_nil)))
      (pss_cons (ps_expr (pe_call G4 hr (by rfl) g4 k4 b4 .nil pass0 (pa_cons (pv 0) (pa_cons (pv 3) pa_nil))))
      (pss_cons (ps_if (pt_cmpR op_in_seq (pv 2) (pe_prop (E := E0) (pv 0) L.W.I.cl hP GP (hr.mono (by decide)) bP .nil pass0 (by rfl)) (by rfl)) (pss_one (ps_ret (pe_tup pa_nil))) pss_nil)
      (pss_one (ps_ret (pe_callTy call_tuple_of (by rfl) L.tp (by decide +kernel) (pa_cons (pe_lc (own := [("index", 4)]) rfl scCvg.nd (pi_list (pe_call G5 hr (by rfl) g5 k5 b5 .nil pass0 (pa_cons (pv 0) (pa_cons (pv 1) (pa_cons (pv 2) pa_nil))))) (blkOk_by (N := nCvg) (sc := defScope sCvg) (by decide +kernel))
        (fun _ _ _ _ _ => pg_name (i := 4) scCvg.nd rfl (Or.inl rfl))
        (fun _ _ _ _ _ => pts_one (pt_val (pe_call G6 (hr.mono (by decide)) (by rfl) g6 k6 b6 .nil pass0 (pa_cons (pe_prop (E := E0) (pv 0) L.W.I.cl hL GL (hr.mono (by decide)) bL .nil pass0 (by rfl))
          (pa_cons (pe_ix (r := rIxT K) ix_tup (pe_ix (r := rIxT K) ix_tup (pe_prop (E := E0) (pv 0) L.W.I.cl hA GA (hr.mono (by decide)) bA .nil pass0 (by rfl)) (pv 4) (fun _ _ => rfl)) pe_int (fun _ _ => rfl)) (pa_cons (pv 3) pa_nil))))))
        (fun _ _ _ _ _ => pv 4)) pa_nil)))))))), ?_⟩
    obtain ⟨dx, pr, l, ac, fs, ls, as, ea, f1, f2, f3, hh, el, hl, ec, hc2⟩ := getW hw
    have lx := hc2.length
    have line : (1000 : Nat) < sizeLine := by decide
    refine ⟨_, rfl, a, dx, fs, rfl, ea, _, rfl, kind, rfl, hk, fun H1 s1 => ⟨_, rfl, cell, rfl, hc, fun H2 s2 => ?_⟩⟩
    have s02 := s1.trans s2
    refine ⟨_, rfl, _, rfl, a, [], sent, done, p, rfl, hw.mv s02, hp, fun H3 s3 => ?_⟩
    have s03 := s02.trans s3
    refine ⟨_, rfl, _, rfl, a, dx, fs, rfl, s03 _ _ ea, a, dx, fs, _, rfl, s03 _ _ ea, f1, pr, _, rfl, .inr (hh.mv (TupS.same s03)).seq, rfl, rfl, _, rfl, iteF ?_⟩
    refine ⟨_, rfl, _, rfl, _, rfl, a, kind, cell, [], sent, done, rfl, hw.mv s03, hk, d9, fun H4 pi s4 hpi ei => ?_⟩
    have s04 := s03.trans s4
    have wi := hw.mv s04
    have idl : (idxs kind cell done).length ≤ done.length := by
      unfold idxs
      have := List.length_filter_le (fun i => (done[i]?).any (relv kind cell)) (List.range done.length)
      rw [List.length_range] at this
      exact this
    let g : Nat → Bool := fun i => (done[i]?).any fun a => near sent a.2.2.1 p
    refine ⟨pi, rfl, ⟨_, SqL.of ei⟩, fun D hD => lc_list (xs := natV (idxs kind cell done)) (fun i G => Same H4 G ∧ G D = some (.lst (natV (((idxs kind cell done).take i).filter g)))) ⟨same_upd hD, upd_same⟩ (fun i G _ pv => SqL.of (pv.1 _ _ ei)) (fun i x G hi pv => ?_) (fun G pv => ?_)⟩
    · obtain ⟨sG, eD⟩ := pv
      rw [List.getElem?_map] at hi
      obtain ⟨j, hj, rfl⟩ := Option.map_eq_some_iff.mp hi
      have li : i < (idxs kind cell done).length := (List.getElem?_eq_some_iff.mp hj).1
      have mj : j ∈ idxs kind cell done := List.mem_of_getElem? hj
      unfold idxs at mj
      obtain ⟨mj, _⟩ := List.mem_filter.mp mj
      have jl : j < done.length := List.mem_range.mp mj
      have hd : done[j]? = some done[j] := List.getElem?_eq_getElem jl
      obtain ⟨v, hv, b, rfl, eb⟩ := Paired.of hc2 hd
      have s0G := s04.trans sG
      have gj : g j = near sent done[j].2.2.1 p := by
        show (done[j]?).any _ = _
        rw [hd]
        rfl
      refine ⟨rfl, _, rfl, a, dx, fs, rfl, s0G _ _ ea, a, dx, fs, _, rfl, s0G _ _ ea, f2, _, rfl, a, dx, fs, rfl, s0G _ _ ea, a, dx, fs, _, rfl, s0G _ _ ea, f3, _, rfl, ac, as, (j : Int), .ref b, rfl, rfl, SqT.of (s0G _ _ ec), atI_nat hv, b, _, 2, .int (done[j].2.2.1 : Nat), rfl, rfl, SqT.of (s0G _ _ eb), rfl, _, rfl,
        l, ls, sent, done[j].2.2.1, p, rfl, s0G _ _ el, L2.Paired.mapP hl (fun _ _ z => z.mv (TupS.same s0G)), po _ (List.getElem_mem jl), hp, s9, fun H5 s5 => ⟨_, rfl, ?_⟩⟩
      have lf : (natV (((idxs kind cell done).take i).filter g)).length < sizeLine := by
        unfold natV
        rw [List.length_map]
        have h1 := List.length_filter_le g ((idxs kind cell done).take i)
        rw [List.length_take] at h1
        omega
      have fs1 : natV (((idxs kind cell done).take (i + 1)).filter g) = natV (((idxs kind cell done).take i).filter g) ++ (if g j = true then [V.int (j : Nat)] else []) := by
        unfold natV
        rw [filter_snoc hj, List.map_append]
        congr 1
        cases g j <;> rfl
      have sG5 := sG.trans s5
      have eD5 := s5 _ _ eD
      rw [← gj]
      cases hg : g j with
      | true =>
        rw [hg] at fs1
        exact iteT ⟨_, rfl, _, eD5, lf, same_put hD sG5, by rw [upd_same, fs1]; rfl⟩
      | false =>
        rw [hg] at fs1
        exact iteF ⟨sG5, by rw [eD5, fs1]; simp⟩
    · rw [List.take_of_length_le (by simp [natV])] at pv
      obtain ⟨sG, eD⟩ := pv
      refine ⟨D, _, rfl, .inl ⟨SqL.of eD, fun t ht => q _ t ((s04.trans sG).trans (same_upd ht)) upd_same⟩⟩
theorem scIsC : FnScope ["way", "kind", "cell", "place"] ["way", "kind", "cell", "place"] (defScope sIsC) := ⟨rfl, rfl, rfl, by decide +kernel, rfl, by decide +kernel, by decide +kernel⟩
theorem ok_iscv (F : Fun K "is_covered" "is_covered" sIsC f fd) (W : WayF P w K mg base CW) (cv : CallN P w K mg base "covering" 4 ["way", "kind", "cell", "place"] (spCvg K CW)) : FnOk P w K mg base CX0 5 f fd ["way", "kind", "cell", "place"] (spIsCv K CW) := by
  obtain ⟨q1, e1, g1, k1, b1, G1⟩ := cv
  obtain ⟨pP, gP, dP, hP, GP, bP⟩ := W.priv
  refine F.ok scIsC (fun vs H Q E h => ?_) (fun cdv A outer s H vs Q E hr h => ?_)
  · obtain ⟨a, kind, cell, p, sent, done, rfl, _⟩ := h
    rfl
  · obtain ⟨a, kind, cell, p, sent, done, rfl, hw, hk, hc, hp, s9, d9, po, q⟩ := h
    have hu : (A.deeper (envOfC "is_covered" (defScope sIsC) s.heap.objs.size f cdv)).units + 64 < cLine := by
      have := hr.un
      omega
    refine ⟨_, pss_one (ps_ret (pe_or (pe_cmpR (op_neD hu) (pe_call G1 hr (by rfl) g1 k1 b1 .nil pass0 (pa_cons (pv 0) (pa_cons (pv 1) (pa_cons (pv 2) (pa_cons (pv 3) pa_nil))))) (pe_tup pa_nil) (nomark _))
      (pe_one (pe_cmpR op_in_seq (pv 2) (pe_prop (E := E0) (pv 0) W.I.cl hP GP (hr.mono (by decide)) bP .nil pass0 (by rfl)) (by rfl))))), ?_⟩
    obtain ⟨dx, pr, l, ac, fs, ls, as, ea, f1, f2, f3, hh, el, hl, ec, hc2⟩ := getW hw
    refine ⟨_, rfl, _, rfl, _, rfl, _, rfl, a, kind, cell, p, sent, done, rfl, hw, hk, hc, hp, s9, d9, po, fun H1 c s1 e1 => ⟨(by show 0 ≤ sizeLine; decide), fun z hz => ?_⟩⟩
    have s2 := same_upd (o := .tup []) hz
    have s02 := s1.trans s2
    refine ⟨.tuple (natD (covI kind cell sent done p)), .tuple [], .tup (SqT.of (s2 _ _ e1)) (nats_dp _), .tup (SqT.of upd_same) .nil, nats_sh _, by decide +kernel, ?_⟩
    rw [nats_nil]
    refine ⟨_, rfl, ?_⟩
    have k := q _ s02
    unfold covB at k
    cases h : (covI kind cell sent done p).isEmpty with
    | false =>
      rw [h] at k
      exact iteT k
    | true =>
      rw [h] at k
      exact iteF ⟨_, rfl, _, rfl, a, dx, fs, rfl, s02 _ _ ea, a, dx, fs, _, rfl, s02 _ _ ea, f1, pr, _, rfl, .inr (hh.mv (TupS.same s02)).seq, rfl, rfl, k⟩
theorem scCvP : FnScope ["way", "kind", "cell", "place"] ["way", "kind", "cell"] (defScope sCvP) := ⟨rfl, rfl, rfl, by decide +kernel, rfl, by decide +kernel, by decide +kernel⟩
theorem ok_cvp (F : Fun K "covered_places" "covered_places" sCvP f fd) (L : CvF P w K mg base CW) (ic : CallN P w K mg base "is_covered" 5 ["way", "kind", "cell", "place"] (spIsCv K CW)) : FnOk P w K mg base CX0 6 f fd ["way", "kind", "cell"] (spCvP K CW) := by
  obtain ⟨q1, e1, g1, k1, b1, G1⟩ := L.chw
  obtain ⟨q2, e2, g2, k2, b2, G2⟩ := L.chk
  obtain ⟨q3, e3, g3, k3, b3, G3⟩ := L.chc
  obtain ⟨q4, e4, g4, k4, b4, G4⟩ := ic
  obtain ⟨pL, gL, dL, hL, GL, bL⟩ := L.W.lets
  refine F.ok scCvP (fun vs H Q E h => ?_) (fun cdv A outer s H vs Q E hr h => ?_)
  · obtain ⟨a, kind, cell, sent, done, rfl, _⟩ := h
    rfl
  · obtain ⟨a, kind, cell, sent, done, rfl, hw, hk, hc, s9, d9, po, q⟩ := h
    refine ⟨_, pss_cons (ps_expr (pe_call G1 (hr.mono (by decide)) (by rfl) g1 k1 b1 .nil pass0 (pa_cons (pv 0) pa_nil)))
      (pss_cons (ps_expr (pe_call G2 (hr.mono (by decide)) (by rfl) g2 k2 b2 .nil pass0 (pa_cons (pv 1) pa_nil)))
      (pss_cons (ps_expr (pe_call G3 (hr.mono (by decide)) (by rfl) g3 k3 b3 .nil pass0 (pa_cons (pv 2) pa_nil)))
      (pss_one (ps_ret (pe_callTy call_tuple_of (by rfl) L.tp (by decide +kernel) (pa_cons (pe_lc (own := [("place", 3)]) rfl scCvP.nd (pi_range1 (by rfl) L.rng (pa_cons (pe_op op_add (pe_callB call_len_seq (by rfl) L.ln PySem.boot_len (pa_cons (pe_prop (E := E0) (pv 0) L.W.I.cl hL GL (hr.mono (by decide)) bL .nil pass0 (by rfl)) pa_nil)) pe_int) pa_nil)) (blkOk_by (N := ["way", "kind", "cell", "place"]) (sc := defScope sCvP) (by decide +kernel))
        (fun _ _ _ _ _ => pg_name (i := 3) scCvP.nd rfl (Or.inl rfl))
        (fun _ _ _ _ _ => pts_one (pt_val (pe_call G4 hr (by rfl) g4 k4 b4 .nil pass0 (pa_cons (pv 0) (pa_cons (pv 1) (pa_cons (pv 2) (pa_cons (pv 3) pa_nil)))))))
        (fun _ _ _ _ _ => pv 3)) pa_nil)))))), ?_⟩
    obtain ⟨dx, pr, l, ac, fs, ls, as, ea, f1, f2, f3, hh, el, hl, ec, hc2⟩ := getW hw
    have lx := hl.length
    have line : (1000 : Nat) < sizeLine := by decide
    refine ⟨_, rfl, a, dx, fs, rfl, ea, _, rfl, kind, rfl, hk, fun H1 s1 => ⟨_, rfl, cell, rfl, hc, fun H2 s2 => ?_⟩⟩
    have s02 := s1.trans s2
    refine ⟨_, rfl, a, dx, fs, rfl, s02 _ _ ea, a, dx, fs, _, rfl, s02 _ _ ea, f2, l, ls, rfl, .inr (SqT.of (s02 _ _ el)), _, _, rfl, rfl, ((ls.length : Nat) : Int) + 1, rfl, by omega, by omega, fun D hD => ?_⟩
    have e1' : (((ls.length : Nat) : Int) + 1).toNat = sent.length + 1 := by omega
    rw [e1']
    refine lc_range (fun i G => Same H2 G ∧ G D = some (.lst (natV ((List.range i).filter (covB kind cell sent done))))) ⟨same_upd hD, upd_same⟩ (fun i G hi pv => ?_) (fun G pv => ?_)
    · obtain ⟨sG, eD⟩ := pv
      have s0G := s02.trans sG
      have ei : ((0 : Int) + (i : Int)) = ((i : Nat) : Int) := by omega
      rw [ei]
      have lf : (natV ((List.range i).filter (covB kind cell sent done))).length < sizeLine := by
        unfold natV
        rw [List.length_map]
        have h1 := List.length_filter_le (covB kind cell sent done) (List.range i)
        rw [List.length_range] at h1
        omega
      refine ⟨rfl, _, rfl, _, rfl, _, rfl, _, rfl, a, kind, cell, i, sent, done, rfl, hw.mv s0G, hk, hc, by omega, s9, d9, po, fun H3 s3 => ⟨_, rfl, ?_⟩⟩
      have fs1 := filt_succ (f := covB kind cell sent done) (i := i)
      cases hg : covB kind cell sent done i with
      | true =>
        rw [hg] at fs1
        exact iteT ⟨_, rfl, _, s3 _ _ eD, lf, same_put hD (sG.trans s3), by rw [upd_same, fs1]; rfl⟩
      | false =>
        rw [hg] at fs1
        exact iteF ⟨sG.trans s3, by rw [s3 _ _ eD, fs1]; simp⟩
    · obtain ⟨sG, eD⟩ := pv
      exact ⟨D, _, rfl, .inl ⟨SqL.of eD, fun t ht => q _ t ((s02.trans sG).trans (same_upd ht)) upd_same⟩⟩
end
end OM

namespace OM
open PySem PySem.Spec PyProof.Rows L2
abbrev sOrd : Stmt := top 87
/-! ### what near tells -/
theorem near_iff {ls : List (Str × Str)} {q p : Nat} : near ls q p = true ↔ ∀ i l, ls[i]? = some l → (q ≤ i → i < p → noPut l = true) ∧ (p ≤ i → i < q → noGet l = true) := by
  have key : ∀ (g : Str × Str → Bool) (a b : Nat), ((ls.drop a).take (b - a)).all g = true ↔ ∀ i l, ls[i]? = some l → a ≤ i → i < b → g l = true := fun g a b => by
    rw [List.all_eq_true]
    constructor
    · intro h i l hl ha hb
      refine h l (List.mem_of_getElem? (i := i - a) ?_)
      rw [List.getElem?_take, if_pos (by omega), List.getElem?_drop, show a + (i - a) = i by omega]
      exact hl
    · intro h l hl
      obtain ⟨j, hj⟩ := List.getElem?_of_mem hl
      rw [List.getElem?_take] at hj
      split at hj
      · rw [List.getElem?_drop] at hj
        exact h (a + j) l hj (by omega) (by omega)
      · cases hj
  unfold near
  split
  · rename_i h
    rw [key]
    constructor
    · intro z i l hl
      exact ⟨z i l hl, fun h1 h2 => absurd h2 (by omega)⟩
    · intro z i l hl
      exact (z i l hl).1
  · rename_i h
    rw [key]
    constructor
    · intro z i l hl
      exact ⟨fun h1 h2 => absurd h2 (by omega), z i l hl⟩
    · intro z i l hl
      exact (z i l hl).2
theorem near_self {ls : List (Str × Str)} {p : Nat} : near ls p p = true := near_iff.mpr fun i l _ => ⟨fun a b => absurd b (by omega), fun a b => absurd b (by omega)⟩
theorem near_trans {ls : List (Str × Str)} {q p s : Nat} (h1 : near ls q p = true) (h2 : near ls p s = true) : near ls q s = true := by
  rw [near_iff] at h1 h2 ⊢
  intro i l hl
  obtain ⟨a1, a2⟩ := h1 i l hl
  obtain ⟨b1, b2⟩ := h2 i l hl
  constructor
  · intro z1 z2
    by_cases h : i < p
    · exact a1 z1 h
    · exact b1 (by omega) z2
  · intro z1 z2
    by_cases h : i < p
    · exact b2 z1 h
    · exact a2 (by omega) z2
/-- letters of a kind in a stretch of places -/
def isK (k : Str) (ls : List (Str × Str)) (i : Nat) : Bool := (ls[i]?).any fun l => decide (V.str l.1 = V.str k)
def inK (k : Str) (ls : List (Str × Str)) (a n : Nat) : List Nat := ((List.range n).map (a + ·)).filter (isK k ls)
theorem inK_nil {k : Str} {ls : List (Str × Str)} {a n : Nat} : (inK k ls a n).isEmpty = true ↔ ∀ i l, ls[i]? = some l → a ≤ i → i < a + n → (!decide (V.str l.1 = V.str k)) = true := by
  rw [List.isEmpty_iff]
  unfold inK
  rw [List.filter_eq_nil_iff]
  constructor
  · intro h i l hl h1 h2
    have := h i (List.mem_map.mpr ⟨i - a, List.mem_range.mpr (by omega), by omega⟩)
    unfold isK at this
    rw [hl] at this
    simpa using this
  · intro h j hj
    obtain ⟨m, hm, rfl⟩ := List.mem_map.mp hj
    have hm := List.mem_range.mp hm
    unfold isK
    cases hl : ls[a + m]? with
    | none => simp
    | some l =>
      have := h (a + m) l hl (by omega) (by omega)
      simpa using this
theorem near_inK {ls : List (Str × Str)} {q p : Nat} : ((inK "put" ls q (p - q)).isEmpty && (inK "get" ls p (q - p)).isEmpty) = near ls q p := by
  rw [Bool.eq_iff_iff, Bool.and_eq_true, inK_nil, inK_nil, near_iff]
  constructor
  · intro ⟨h1, h2⟩ i l hl
    exact ⟨fun a b => h1 i l hl a (by omega), fun a b => h2 i l hl a (by omega)⟩
  · intro h
    exact ⟨fun i l hl a b => (h i l hl).1 a (by omega), fun i l hl a b => (h i l hl).2 a (by omega)⟩
theorem inK_succ {k : Str} {ls : List (Str × Str)} {a n : Nat} : natV (inK k ls a (n + 1)) = natV (inK k ls a n) ++ (if isK k ls (a + n) = true then [V.int ((a + n : Nat) : Int)] else []) := by
  unfold inK natV
  rw [List.range_succ, List.map_append, List.filter_append, List.map_append]
  congr 1
  show List.map _ (List.filter _ [a + n]) = _
  cases h : isK k ls (a + n) <;> simp [h]
theorem inK_len {k : Str} {ls : List (Str × Str)} {a n : Nat} : (natV (inK k ls a n)).length ≤ n := by
  unfold inK natV
  rw [List.length_map]
  have := List.length_filter_le (isK k ls) ((List.range n).map (a + ·))
  rw [List.length_map, List.length_range] at this
  exact this
theorem natsL_sh (l : List Nat) : SeqAt.shaped (.list (natD l)) = true := by
  have h1 := nats_depth l
  have h2 : PyData.depth (.list (natD l)) ≤ 64 := by
    simp only [PyData.depth]
    omega
  show (PyData.canLay0 (.list (natD l)) && decide (PyData.depth (.list (natD l)) ≤ 64)) = true
  rw [Bool.and_eq_true]
  exact ⟨by simp only [PyData.canLay0]; exact nats_lay l, decide_eq_true h2⟩
theorem natsL_nil (l : List Nat) : PyData.eqv (.list (natD l)) (.list []) = l.isEmpty := by
  cases l <;> simp [PyData.eqv, PyData.eqvAll]
def spOrd (K : PySem.W.Frag) : Sp := fun vs H Q _ => ∃ (a : Addr) (xs : List V) (ls : List (Str × Str)) (p s : Nat), vs = [.ref a, .int (p : Nat), .int (s : Nat)] ∧ H a = some (.tup xs) ∧ Paired (LetR H) xs ls ∧ p ≤ ls.length ∧ s ≤ ls.length ∧ ls.length ≤ 900 ∧ ∀ H', Same H H' → Q (.bl (!near ls p s)) H'
section
variable {P : Program} {w : World} {K : PySem.W.Frag} {mg : Str → Option Value} {base : Heap} {f : Addr} {fd : FuncData}
abbrev nOrd : List Str := ["_law_letters", "_law_place", "_law_spot", "_law_heard", "_law_at", "_law_waits"]
theorem scOrd : FnScope nOrd ["_law_letters", "_law_place", "_law_spot"] (defScope sOrd) := ⟨rfl, rfl, rfl, by decide +kernel, rfl, by decide +kernel, by decide +kernel⟩
theorem ok_ord (F : Fun K "_law_is_ordered" "_law_is_ordered" sOrd f fd) (rng : mg "range" = none) : FnOk P w K mg base CX0 1 f fd ["_law_letters", "_law_place", "_law_spot"] (spOrd K) := by
  refine F.ok scOrd (fun vs H Q E h => ?_) (fun cdv A outer s0 H vs Q E hr h => ?_)
  · obtain ⟨a, xs, ls, p, s, rfl, _⟩ := h
    rfl
  · obtain ⟨a, xs, ls, p, s, rfl, ea, hx, hp, hs, l9, q⟩ := h
    have hu : (A.deeper (envOfC "_law_is_ordered" (defScope sOrd) s0.heap.objs.size f cdv)).units + 64 < cLine := by
      have := hr.un
      omega
    refine ⟨_, pss_cons (ps_setLc (i := 3) (own := [("_law_at", 4)]) rfl scOrd.nd rfl rfl (by rfl) (pi_range2 (by rfl) rng (pa_cons (pv 1) (pa_cons (pv 2) pa_nil))) (blkOk_by (N := nOrd) (sc := defScope sOrd) (by decide +kernel))
        (fun _ _ _ _ _ => pg_name (i := 4) scOrd.nd rfl (Or.inl rfl)) (fun _ _ _ _ _ => pts_one (pt_cmpR op_eq (pe_ix (r := rIxT K) ix_tup (pe_ix (r := rIxT K) ix_tup (pv 0) (pv 4) (fun _ _ => rfl)) pe_int (fun _ _ => rfl)) pe_str (nomark _))) (fun _ _ _ _ _ => pv 4))
      (pss_cons (ps_setLc (i := 5) (own := [("_law_at", 4)]) rfl scOrd.nd rfl rfl (by rfl) (pi_range2 (by rfl) rng (pa_cons (pv 2) (pa_cons (pv 1) pa_nil))) (blkOk_by (N := nOrd) (sc := defScope sOrd) (by decide +kernel))
        (fun _ _ _ _ _ => pg_name (i := 4) scOrd.nd rfl (Or.inl rfl)) (fun _ _ _ _ _ => pts_one (pt_cmpR op_eq (pe_ix (r := rIxT K) ix_tup (pe_ix (r := rIxT K) ix_tup (pv 0) (pv 4) (fun _ _ => rfl)) pe_int (fun _ _ => rfl)) pe_str (nomark _))) (fun _ _ _ _ _ => pv 4))
      (pss_one (ps_ret (pe_or (pe_cmpR (op_neD hu) (pv 3) (pe_lst pa_nil) (nomark _)) (pe_one (pe_cmpR (op_neD hu) (pv 5) (pe_lst pa_nil) (nomark _))))))), ?_⟩
    have lx := hx.length
    have line : (1000 : Nat) < sizeLine := by decide
    have step : ∀ (k : Str) (u v n : Nat) (G0 : Hp) (D : Addr), n = v - u → v ≤ ls.length → Same H G0 → G0 D = none → ∀ (i : Nat) (G : Hp), i < n → Same G0 G → G D = some (.lst (natV (inK k ls u i))) →
        ∃ (l : Str × Str) (b : Addr), xs[u + i]? = some (.ref b) ∧ G b = some (.tup [.str l.1, .str l.2]) ∧ (decide (V.str l.1 = V.str k) = true → ∃ acc, G D = some (.lst acc) ∧ acc.length < sizeLine ∧ Same G0 (upd G D (.lst (acc ++ [V.int ((u + i : Nat) : Int)]))) ∧ (upd G D (.lst (acc ++ [V.int ((u + i : Nat) : Int)]))) D = some (.lst (natV (inK k ls u (i + 1))))) ∧
          (decide (V.str l.1 = V.str k) = false → Same G0 G ∧ G D = some (.lst (natV (inK k ls u (i + 1))))) := fun k u v n G0 D en hv s0 hD i G hi sG eD => by
      have hl : ls[u + i]? = some ls[u + i] := List.getElem?_eq_getElem (by omega)
      obtain ⟨x, hxi, b, rfl, eb⟩ := Paired.of hx hl
      refine ⟨ls[u + i], b, hxi, sG _ _ (s0 _ _ eb), fun z => ⟨_, eD, ?_, same_put hD sG, ?_⟩, fun z => ⟨sG, ?_⟩⟩
      · have := inK_len (k := k) (ls := ls) (a := u) (n := i)
        omega
      · have hk : isK k ls (u + i) = true := by
          unfold isK
          rw [hl]
          exact z
        rw [upd_same, inK_succ, if_pos hk]
      · have hk : ¬ isK k ls (u + i) = true := by
          unfold isK
          rw [hl]
          show ¬ decide _ = true
          rw [z]
          decide
        rw [eD, inK_succ, if_neg hk, List.append_nil]
    have e1 : ∀ u v : Nat, ((v : Int) - (u : Int)).toNat = v - u := fun u v => by omega
    refine ⟨_, rfl, _, rfl, (p : Int), (s : Int), rfl, by omega, fun D hD => ?_⟩
    rw [e1]
    refine lc_range (fun i G => Same H G ∧ G D = some (.lst (natV (inK "put" ls p i)))) ⟨same_upd hD, upd_same⟩ (fun i G hi pv => ?_) (fun G pv => ?_)
    · obtain ⟨l, b, h1, h2, h3, h4⟩ := step "put" p s (s - p) H D rfl hs (Same.refl H) hD i G hi pv.1 pv.2
      have ei : ((p : Int) + (i : Int)) = ((p + i : Nat) : Int) := by omega
      rw [ei]
      refine ⟨rfl, _, rfl, _, rfl, a, xs, ((p + i : Nat) : Int), .ref b, rfl, rfl, SqT.of (pv.1 _ _ ea), atI_nat h1, b, _, 0, .str l.1, rfl, rfl, SqT.of h2, at0, rfl, _, rfl, ?_⟩
      cases hc : decide (V.str l.1 = V.str "put") with
      | true => exact iteT ⟨_, rfl, h3 hc⟩
      | false => exact iteF (h4 hc)
    · obtain ⟨sG, eD⟩ := pv
      refine ⟨_, rfl, _, rfl, (s : Int), (p : Int), rfl, by omega, fun D2 hD2 => ?_⟩
      rw [e1]
      refine lc_range (fun i G2 => Same G G2 ∧ G2 D2 = some (.lst (natV (inK "get" ls s i)))) ⟨same_upd hD2, upd_same⟩ (fun i G2 hi pv => ?_) (fun G2 pv => ?_)
      · obtain ⟨l, b, h1, h2, h3, h4⟩ := step "get" s p (p - s) G D2 rfl hp sG hD2 i G2 hi pv.1 pv.2
        have ei : ((s : Int) + (i : Int)) = ((s + i : Nat) : Int) := by omega
        rw [ei]
        refine ⟨rfl, _, rfl, _, rfl, a, xs, ((s + i : Nat) : Int), .ref b, rfl, rfl, SqT.of (pv.1 _ _ (sG _ _ ea)), atI_nat h1, b, _, 0, .str l.1, rfl, rfl, SqT.of h2, at0, rfl, _, rfl, ?_⟩
        cases hc : decide (V.str l.1 = V.str "get") with
        | true => exact iteT ⟨_, rfl, h3 hc⟩
        | false => exact iteF (h4 hc)
      · obtain ⟨sG2, eD2⟩ := pv
        refine ⟨_, rfl, (by show 0 ≤ sizeLine; decide), fun z hz => ?_⟩
        have s3 := same_upd (o := .lst []) hz
        refine ⟨.list (natD (inK "put" ls p (s - p))), .list [], .lst (SqL.of (s3 _ _ (sG2 _ _ eD))) (nats_dp _), .lst (SqL.of upd_same) .nil, natsL_sh _, by decide +kernel, ?_⟩
        rw [natsL_nil]
        have k := fun H' z => q H' z
        rw [← near_inK] at k
        have s03 := (sG.trans sG2).trans s3
        refine ⟨_, rfl, ?_⟩
        cases h1 : (inK "put" ls p (s - p)).isEmpty with
        | false =>
          rw [h1] at k
          exact iteT (k _ s03)
        | true =>
          rw [h1] at k
          refine iteF ⟨_, rfl, (by show 0 ≤ sizeLine; decide), fun z2 hz2 => ?_⟩
          have s4 := same_upd (o := .lst []) hz2
          refine ⟨.list (natD (inK "get" ls s (p - s))), .list [], .lst (SqL.of (s4 _ _ (s3 _ _ eD2))) (nats_dp _), .lst (SqL.of upd_same) .nil, natsL_sh _, by decide +kernel, ?_⟩
          rw [natsL_nil]
          exact k _ (s03.trans s4)
end
end OM

namespace OM
open PySem PySem.Spec PyProof.Rows L2
abbrev sTch : Stmt := top 88
theorem idxs_mem {kind cell : Str} {done : List Acc} {i : Nat} : i ∈ idxs kind cell done ↔ ∃ a, done[i]? = some a ∧ relv kind cell a = true := by
  unfold idxs
  rw [List.mem_filter, List.mem_range]
  constructor
  · rintro ⟨h1, h2⟩
    rw [List.getElem?_eq_getElem h1] at h2
    exact ⟨_, List.getElem?_eq_getElem h1, h2⟩
  · rintro ⟨a, h1, h2⟩
    exact ⟨(List.getElem?_eq_some_iff.mp h1).1, by rw [h1]; exact h2⟩
theorem covI_nil {kind cell : Str} {ls : List (Str × Str)} {done : List Acc} {p : Nat} : (covI kind cell ls done p).isEmpty = true ↔ ∀ a ∈ done, relv kind cell a = true → near ls a.2.2.1 p = false := by
  rw [List.isEmpty_iff]
  unfold covI
  rw [List.filter_eq_nil_iff]
  constructor
  · intro h a ha hr
    obtain ⟨i, hi⟩ := List.getElem?_of_mem ha
    have := h i (idxs_mem.mpr ⟨a, hi, hr⟩)
    rw [hi] at this
    exact Bool.eq_false_iff.mpr this
  · intro h i hi
    obtain ⟨a, h1, h2⟩ := idxs_mem.mp hi
    have := h a (List.mem_of_getElem? h1) h2
    rw [h1]
    show ¬ near ls a.2.2.1 p = true
    rw [this]
    decide
def cloF (kind cell : Str) (ls : List (Str × Str)) (s : Nat) (a : Acc) : Bool := relv kind cell a && near ls a.2.2.1 s
def clo (kind cell : Str) (ls : List (Str × Str)) (done : List Acc) (s : Nat) : List Nat := (done.filter (cloF kind cell ls s)).map (·.2.2.1)
theorem clo_cov {kind cell : Str} {ls : List (Str × Str)} {done : List Acc} {s : Nat} : (clo kind cell ls done s).isEmpty = !covB kind cell ls done s := by
  unfold covB
  rw [Bool.not_not, Bool.eq_iff_iff, covI_nil, List.isEmpty_iff]
  unfold clo
  rw [List.map_eq_nil_iff, List.filter_eq_nil_iff]
  constructor
  · intro h a ha hr
    have := h a ha
    unfold cloF at this
    rw [hr] at this
    exact Bool.eq_false_iff.mpr this
  · intro h a ha
    unfold cloF
    intro z
    rw [Bool.and_eq_true] at z
    have := h a ha z.1
    rw [this] at z
    exact absurd z.2 (by decide)
theorem clo_succ {kind cell : Str} {ls : List (Str × Str)} {done : List Acc} {s j : Nat} {a : Acc} (h : done[j]? = some a) : natV (clo kind cell ls (done.take (j + 1)) s) = natV (clo kind cell ls (done.take j) s) ++ (if cloF kind cell ls s a = true then [V.int (a.2.2.1 : Nat)] else []) := by
  unfold clo natV
  rw [List.take_add_one, h, List.filter_append, List.map_append, List.map_append]
  congr 1
  show List.map _ (List.map _ (List.filter _ [a])) = _
  cases e : cloF kind cell ls s a <;> simp [e]
theorem relv_eq {kind cell : Str} {a : Acc} (hk : KindOk kind) (ha : KindOk a.1) : relv kind cell a = (decide (a.2.1 = cell) && (decide (kind = ("read" : Str)) || decide (a.1 = ("write" : Str)))) := by
  unfold relv covOf
  rw [Bool.and_comm]
  congr 1
  rcases hk with rfl | rfl <;> rcases ha with z | z <;> rw [z] <;> decide +kernel
def RowR (H : Hp) (v : V) (a : Acc) : Prop := ∃ b, v = .ref b ∧ H b = some (.tup [.str a.1, .str a.2.1, .int (a.2.2.1 : Nat)])
theorem RowR.mv {H H' : Hp} {v : V} {p : Acc} (t : TupS H H') (h : RowR H v p) : RowR H' v p := by
  obtain ⟨a, e, h⟩ := h
  exact ⟨a, e, t _ _ h⟩
def freeS (kind cell : Str) (sent : List (Str × Str)) (done : List Acc) : Nat → Bool := fun s => !covB kind cell sent done s
def spTch (K : PySem.W.Frag) : Sp := fun vs H Q _ => ∃ (l ac : Addr) (kind cell : Str) (ls rows : List V) (sent : List (Str × Str)) (done : List Acc), vs = [.ref l, .ref ac, .str kind, .str cell] ∧ H l = some (.tup ls) ∧ Paired (LetR H) ls sent ∧ H ac = some (.lst rows) ∧ Paired (RowR H) rows done ∧ KindOk kind ∧ (∀ a ∈ done, KindOk a.1) ∧ PlOk sent done ∧ sent.length ≤ 900 ∧ done.length ≤ 900 ∧
  ∀ H' D, Same H H' → H' D = some (.lst (natV ((List.range (sent.length + 1)).filter (freeS kind cell sent done)))) → Q (.ref D) H'
section
variable {P : Program} {w : World} {K : PySem.W.Frag} {mg : Str → Option Value} {base : Heap} {f : Addr} {fd : FuncData}
abbrev nTch : List Str := ["_law_letters", "_law_accesses", "_law_kind", "_law_cell", "_law_found", "_law_spot", "_law_close", "_law_word", "_law_other", "_law_place"]
theorem scTch : FnScope nTch ["_law_letters", "_law_accesses", "_law_kind", "_law_cell"] (defScope sTch) := ⟨rfl, rfl, rfl, by decide +kernel, rfl, by decide +kernel, by decide +kernel⟩
theorem ok_tch (F : Fun K "_law_touches" "_law_touches" sTch f fd) (rng : mg "range" = none) (ln : mg "len" = none) (od : CallN P w K mg base "_law_is_ordered" 1 ["_law_letters", "_law_place", "_law_spot"] (spOrd K)) : FnOk P w K mg base CX0 2 f fd ["_law_letters", "_law_accesses", "_law_kind", "_law_cell"] (spTch K) := by
  obtain ⟨q1, e1, g1, k1, b1, G1⟩ := od
  refine F.ok scTch (fun vs H Q E h => ?_) (fun cdv A outer s0 H vs Q E hr h => ?_)
  · obtain ⟨l, ac, kind, cell, ls, rows, sent, done, rfl, _⟩ := h
    rfl
  · obtain ⟨l, ac, kind, cell, ls, rows, sent, done, rfl, el, hl, ec, hc, hk, ha, po, s9, d9, q⟩ := h
    have hu : (A.deeper (envOfC "_law_touches" (defScope sTch) s0.heap.objs.size f cdv)).units + 64 < cLine := by
      have := hr.un
      omega
    refine ⟨_, pss_cons (ps_set (i := 4) scTch.nd rfl (Or.inl rfl) (pe_lst pa_nil))
      (pss_cons (ps_for PassesOwn.never rfl (pi_range1 (by rfl) rng (pa_cons (pe_op op_add (pe_callB call_len_seq (by rfl) ln PySem.boot_len (pa_cons (pv 0) pa_nil)) pe_int) pa_nil)) (pg_name (i := 5) scTch.nd rfl (Or.inl rfl))
        (pss_cons (ps_set (i := 6) scTch.nd rfl (Or.inl rfl) (pe_lst pa_nil))
        (pss_cons (ps_for PassesOwn.never rfl (pi_list (pv 1)) (pg_tup rfl (pgs_cons (pg_name (i := 7) scTch.nd rfl (Or.inl rfl)) (pgs_cons (pg_name (i := 8) scTch.nd rfl (Or.inl rfl)) (pgs_cons (pg_name (i := 9) scTch.nd rfl (Or.inl rfl)) pgs_nil))))
          (pss_one (ps_if (PW.pt (pw_and (pt_cmpR op_eq (pv 8) (pv 3) (nomark _)) (pw_and (PW.pt (pw_or (pt_cmpR op_eq (pv 2) pe_str (nomark _)) (pw_or1 (pt_cmpR op_eq (pv 7) pe_str (nomark _)))))
              (pw_and1 (pt_not (pt_val (pe_call G1 hr (by rfl) g1 k1 b1 .nil pass0 (pa_cons (pv 0) (pa_cons (pv 9) (pa_cons (pv 5) pa_nil))))))))))
            (pss_one (ps_expr (pe_bm PySem.F.plainAttrs_list PySem.F.slot_list_append PySem.F.type_list_append mt_append (pv 6) (pa_cons (pv 9) pa_nil)))) pss_nil)))
        (pss_one (ps_expr (pe_bm PySem.F.plainAttrs_list PySem.F.slot_list_extend PySem.F.type_list_extend mt_extend (pv 4) (pa_cons (pe_ifExp (pt_cmpR (op_eqD hu) (pv 6) (pe_lst pa_nil) (nomark _)) (pe_lst (pa_cons (pv 5) pa_nil)) (pe_lst pa_nil)) pa_nil)))))))
      (pss_one (ps_ret (pv 4)))), ?_⟩
    have lx := hl.length
    have lc := hc.length
    have line : (1000 : Nat) < sizeLine := by decide
    refine ⟨(by show 0 ≤ sizeLine; decide), fun F0 hF => ?_⟩
    have sF := same_upd (o := .lst []) hF
    refine ⟨_, rfl, l, ls, rfl, .inr (SqT.of (sF _ _ el)), _, _, rfl, rfl, ((ls.length : Nat) : Int) + 1, rfl, by omega, by omega, ?_⟩
    have en : (((ls.length : Nat) : Int) + 1).toNat = sent.length + 1 := by omega
    rw [en]
    refine for_range (fun i σ G => (∃ x5 x6 x7 x8 x9, σ = [some (.ref l), some (.ref ac), some (.str kind), some (.str cell), some (.ref F0), x5, x6, x7, x8, x9]) ∧ Same H G ∧ G F0 = some (.lst (natV ((List.range i).filter (freeS kind cell sent done))))) ⟨⟨_, _, _, _, _, rfl⟩, sF, upd_same⟩ (fun i σ G hi h => ?_) (fun σ G h => ?_)
    · obtain ⟨⟨x5, x6, x7, x8, x9, rfl⟩, sG, eF⟩ := h
      have ei : ((0 : Int) + (i : Int)) = ((i : Nat) : Int) := by omega
      rw [ei]
      refine ⟨(by show 0 ≤ sizeLine; decide), fun C hC => ?_⟩
      have CF : F0 ≠ C := ne_of_none eF hC
      have HC : H C = none := sG.free hC
      have sC := same_upd (o := .lst []) hC
      refine ⟨_, rfl, ac, rfl, ⟨rows, SqL.of (sC _ _ (sG _ _ ec))⟩, for_list (xs := rows) (fun j σ G2 => (∃ y7 y8 y9, σ = [some (.ref l), some (.ref ac), some (.str kind), some (.str cell), some (.ref F0), some (.int (i : Nat)), some (.ref C), y7, y8, y9]) ∧ Same H G2 ∧ G2 F0 = some (.lst (natV ((List.range i).filter (freeS kind cell sent done)))) ∧ G2 C = some (.lst (natV (clo kind cell sent (done.take j) i)))) ⟨⟨_, _, _, rfl⟩, sG.trans sC, sC _ _ eF, upd_same⟩ (fun j σ G2 _ h => SqL.of (h.2.1 _ _ ec)) (fun j x σ G2 hj h => ?_) (fun σ G2 h => ?_)⟩
      · obtain ⟨⟨y7, y8, y9, rfl⟩, s2, eF2, eC2⟩ := h
        obtain ⟨d, hd, b, rfl, eb⟩ := Paired.at hc hj
        have jl : j < rows.length := (List.getElem?_eq_some_iff.mp hj).1
        have md := List.mem_of_getElem? hd
        refine ⟨b, _, rfl, SqT.of (s2 _ _ eb), rfl, _, _, rfl, _, _, rfl, _, _, rfl, rfl, ?_⟩
        have hr2 := relv_eq (cell := cell) (a := d) hk (ha d md)
        have sc := clo_succ (kind := kind) (cell := cell) (ls := sent) (s := i) hd
        have no : cloF kind cell sent i d = false → ∀ G3, Same G2 G3 → Same H G3 ∧ G3 F0 = some (.lst (natV ((List.range i).filter (freeS kind cell sent done)))) ∧ G3 C = some (.lst (natV (clo kind cell sent (done.take (j + 1)) i))) := fun z G3 s3 => by
          refine ⟨s2.trans s3, s3 _ _ eF2, ?_⟩
          rw [s3 _ _ eC2, sc, if_neg (by rw [z]; decide), List.append_nil]
        refine ⟨_, rfl, _, rfl, rfl, _, rfl, ?_⟩
        by_cases h1 : d.2.1 = cell
        · rw [decide_eq_true (congrArg V.str h1)]
          refine iteT ⟨_, rfl, rfl, _, rfl, ?_⟩
          by_cases hrd : kind = ("read" : Str)
          · have rl : relv kind cell d = true := by
              rw [hr2, decide_eq_true h1, decide_eq_true hrd]
              rfl
            rw [decide_eq_true (congrArg V.str hrd)]
            refine iteT (iteT ?_)
            refine ⟨_, rfl, _, rfl, _, rfl, l, ls, sent, d.2.2.1, i, rfl, s2 _ _ el, L2.Paired.mapP hl (fun _ _ z => z.mv (TupS.same s2)), po d md, by omega, s9, fun H5 s5 => ⟨_, rfl, ?_⟩⟩
            cases hn : near sent d.2.2.1 i with
            | true =>
              have cf : cloF kind cell sent i d = true := by
                unfold cloF
                rw [rl, hn]
                rfl
              refine iteT ⟨_, rfl, .inl ⟨rfl, _, SqL.of (s5 _ _ eC2)⟩, _, rfl, C, _, .int (d.2.2.1 : Nat), rfl, rfl, s5 _ _ eC2, ?_, ⟨_, _, _, rfl⟩, same_put HC (s2.trans s5), by rw [upd_ne CF]; exact s5 _ _ eF2, by rw [upd_same, sc, if_pos cf]⟩
              unfold clo natV
              rw [List.length_map, List.length_map]
              have z := List.length_filter_le (cloF kind cell sent i) (done.take j)
              rw [List.length_take] at z
              omega
            | false =>
              refine iteF ⟨⟨_, _, _, rfl⟩, no ?_ H5 s5⟩
              unfold cloF
              rw [hn, Bool.and_false]
          · rw [decide_eq_false (fun z => hrd (V.str.inj z))]
            refine iteF ⟨_, rfl, rfl, _, rfl, ?_⟩
            by_cases hwr : d.1 = ("write" : Str)
            · have rl : relv kind cell d = true := by
                rw [hr2, decide_eq_true h1, decide_eq_true hwr, Bool.or_true]
                rfl
              rw [decide_eq_true (congrArg V.str hwr)]
              refine iteT ?_
              refine ⟨_, rfl, _, rfl, _, rfl, l, ls, sent, d.2.2.1, i, rfl, s2 _ _ el, L2.Paired.mapP hl (fun _ _ z => z.mv (TupS.same s2)), po d md, by omega, s9, fun H5 s5 => ⟨_, rfl, ?_⟩⟩
              cases hn : near sent d.2.2.1 i with
              | true =>
                have cf : cloF kind cell sent i d = true := by
                  unfold cloF
                  rw [rl, hn]
                  rfl
                refine iteT ⟨_, rfl, .inl ⟨rfl, _, SqL.of (s5 _ _ eC2)⟩, _, rfl, C, _, .int (d.2.2.1 : Nat), rfl, rfl, s5 _ _ eC2, ?_, ⟨_, _, _, rfl⟩, same_put HC (s2.trans s5), by rw [upd_ne CF]; exact s5 _ _ eF2, by rw [upd_same, sc, if_pos cf]⟩
                unfold clo natV
                rw [List.length_map, List.length_map]
                have z := List.length_filter_le (cloF kind cell sent i) (done.take j)
                rw [List.length_take] at z
                omega
              | false =>
                refine iteF ⟨⟨_, _, _, rfl⟩, no ?_ H5 s5⟩
                unfold cloF
                rw [hn, Bool.and_false]
            · rw [decide_eq_false (fun z => hwr (V.str.inj z))]
              refine iteF (iteF ⟨⟨_, _, _, rfl⟩, no ?_ G2 (Same.refl G2)⟩)
              unfold cloF
              rw [hr2, decide_eq_false hrd, decide_eq_false hwr, Bool.or_false, Bool.and_false]
              rfl
        · rw [decide_eq_false (fun z => h1 (V.str.inj z))]
          refine iteF (iteF ⟨⟨_, _, _, rfl⟩, no ?_ G2 (Same.refl G2)⟩)
          unfold cloF
          rw [hr2, decide_eq_false h1]
          rfl
      · obtain ⟨⟨y7, y8, y9, rfl⟩, s2, eF2, eC2⟩ := h
        rw [List.take_of_length_le (by omega)] at eC2
        have FC : H F0 = none := hF
        have lf : (natV ((List.range i).filter (freeS kind cell sent done))).length ≤ 901 := by
          unfold natV
          rw [List.length_map]
          have z := List.length_filter_le (freeS kind cell sent done) (List.range i)
          rw [List.length_range] at z
          omega
        have fs := filt_succ (f := freeS kind cell sent done) (i := i)
        refine ⟨_, rfl, .inl ⟨rfl, _, SqL.of eF2⟩, _, rfl, (by show 0 ≤ sizeLine; decide), fun z hz => ?_⟩
        have s3 := same_upd (o := .lst []) hz
        refine ⟨.list (natD (clo kind cell sent done i)), .list [], .lst (SqL.of (s3 _ _ eC2)) (nats_dp _), .lst (SqL.of upd_same) .nil, natsL_sh _, by decide +kernel, _, rfl, ?_⟩
        rw [natsL_nil, clo_cov]
        have s03 := s2.trans s3
        cases hcv : freeS kind cell sent done i with
        | true =>
          have hcv2 : (!covB kind cell sent done i) = true := hcv
          rw [hcv2]
          rw [hcv] at fs
          refine iteT ⟨_, rfl, (by show 1 ≤ sizeLine; decide), fun y hy => ?_⟩
          have s4 := same_upd (o := .lst [.int (i : Nat)]) hy
          refine ⟨F0, y, _, [.int (i : Nat)], rfl, rfl, s4 _ _ (s3 _ _ eF2), upd_same, by show _ + 1 ≤ sizeLine; omega, ⟨_, _, _, _, _, rfl⟩, same_put FC (s03.trans s4), ?_⟩
          rw [upd_same, fs]
          rfl
        | false =>
          have hcv2 : (!covB kind cell sent done i) = false := hcv
          rw [hcv2]
          rw [hcv] at fs
          refine iteF ⟨(by show 0 ≤ sizeLine; decide), fun y hy => ?_⟩
          have s4 := same_upd (o := .lst []) hy
          refine ⟨F0, y, _, [], rfl, rfl, s4 _ _ (s3 _ _ eF2), upd_same, by show _ + 0 ≤ sizeLine; omega, ⟨_, _, _, _, _, rfl⟩, same_put FC (s03.trans s4), ?_⟩
          rw [upd_same, fs]
          rfl
    · obtain ⟨⟨x5, x6, x7, x8, x9, rfl⟩, sG, eF⟩ := h
      exact ⟨_, rfl, q G F0 sG eF⟩
end
end OM

namespace OM
open PySem PySem.Spec PyProof.Rows L2
theorem rows_small {ds : List PyData} (h : ds.all (rowD (cdOf 3)) = true) : smlAll ds = true :=
  (all_small (m := PyData.weightAll ds) fun d hd => ⟨(row_small 3 d (List.all_eq_true.mp h d hd)).1, by
    clear h
    induction ds with
    | nil => cases hd
    | cons x r ih =>
      rw [weightAll_cons]
      rcases List.mem_cons.mp hd with rfl | hd
      · omega
      · have := ih hd
        omega⟩).1
structure StOk (ds : List PyData) (ks : List Str) : Prop where
  rows : ds.all (rowD (cdOf 3)) = true
  few : (flatN 3 ds).length ≤ 100
  bnd : bndD ds = true
  ns : nsAll ds = true
  kept : keptD (strT ks) = true
theorem StOk.okD {ds : List PyData} {ks : List Str} (h : StOk ds ks) : okD (.tuple ds) (strT ks) = true := by
  have cd : codeD 3 (.tuple ds) = true := by
    rw [codeD_tup]
    exact h.rows
  unfold OM.okD itemsD
  rw [cd, h.bnd, h.kept]
  rfl
theorem ris_step {x y : Str} {r : List Str} (hx : x ∈ regs4) (hy : y ∈ regs4) (ne : x ≠ y) (h : sortedS (x :: y :: r) = true) : ltS x y = true ∧ sortedS (y :: r) = true := by
  have h1 : (∀ x ∈ regs4, ∀ y ∈ regs4, x ≠ y → sortedS [x, y] = true → ltS x y = true) := by decide +kernel
  have h2 : sortedS (x :: y :: r) = (sortedS [x, y] && sortedS (y :: r)) := by
    have e1 : ∀ (a b : Str) (r : List Str), risingS a (b :: r) = (!ltCps b.cps.toList a.cps.toList && risingS b r) := fun a b r => by
      conv => lhs; unfold risingS
    show risingS x (y :: r) = (risingS x [y] && risingS y r)
    rw [e1 x y r, e1 x y []]
    show _ = (_ && true && _)
    rw [Bool.and_true]
  rw [h2, Bool.and_eq_true] at h
  exact ⟨h1 x hx y hy ne h.1, h.2⟩
theorem kept_lt : ∀ {ks : List Str}, sortedS ks = true → ks.Nodup → (∀ k ∈ ks, k ∈ regs4) → (List.zipWith ltS ks ks.tail).all id = true
  | [], _, _, _ => rfl
  | [x], _, _, _ => rfl
  | x :: y :: r, h, n, m => by
    obtain ⟨n1, n2⟩ := List.nodup_cons.mp n
    obtain ⟨a, b⟩ := ris_step (m x (by simp)) (m y (by simp)) (fun z => n1 (by rw [z]; simp)) h
    have ih := kept_lt b n2 (fun k hk => m k (List.mem_cons_of_mem _ hk))
    show (ltS x y :: List.zipWith ltS (y :: r) (y :: r).tail).all id = true
    rw [List.all_cons, ih, Bool.and_true]
    exact a
theorem kept_ok {ks : List Str} (h : sortedS ks = true) (n : ks.Nodup) (m : ∀ k ∈ ks, k ∈ regs4) : keptD (.tuple (ks.map PyData.str)) = true := by
  have hl : ks.length ≤ 4 := List.Nodup.length_le_of_subset (l₂ := regs4) n m
  have hm : (ks.map PyData.str).map strD = ks := by
    rw [List.map_map]
    have : (strD ∘ PyData.str) = id := rfl
    rw [this, List.map_id]
  show ((ks.map PyData.str).all isNameD && (List.zipWith ltS ((ks.map PyData.str).map strD) ((ks.map PyData.str).map strD).tail).all id && decide ((ks.map PyData.str).length ≤ 4)) = true
  rw [hm, kept_lt h n m, List.length_map, decide_eq_true hl, Bool.and_true, Bool.and_true, List.all_map]
  exact List.all_eq_true.mpr fun k hk => (by decide +kernel : ∀ k ∈ regs4, isNameD (.str k) = true) k (m k hk)
theorem NearOk.stk {e : List PyData} {ks : List Str} (h : NearOk True e) (hk : keptD (strT ks) = true) : StOk e ks := ⟨h.rows, Nat.le_trans h.few (by decide), h.bnd trivial, h.ns trivial, hk⟩
theorem mk_st {C cS : Addr} {H : Hp} {Q : VK} {E : XK} {x : V} {kb a dx : Addr} {ds : List PyData} {ks : List Str} (ha : H a = none) (hdx : H dx = none) (d : Dt (fun _ => True) H x (.tuple ds)) (ek : H kb = some (.tup (ks.map V.str))) (ok : StOk ds ks)
    (q : ∀ H', Same H H' → H' a = some (insS C dx x (.ref kb)) → Q .non H') : spSI C cS [.ref a, x, .ref kb] (upd (upd H dx (.own a)) a (.ins C dx [])) Q E := by
  have s1 : Same H (upd (upd H dx (.own a)) a (.ins C dx [])) := fun b u e => by
    rw [upd_ne (ne_of_none e ha), upd_ne (ne_of_none e hdx)]
    exact e
  have lk := kept_len ok.kept
  exact ⟨fun _ => True, a, dx, x, .ref kb, .tuple ds, strT ks, rfl, upd_same, d.mv (fun _ z => z) (fun b o _ z => s1 b o z), dt_strT (s1 _ _ ek) (by omega), by rw [nsD_tup]; exact ok.ns, by rw [sml_tup]; exact rows_small ok.rows, (keeps_sh ok.kept).2.1, fun _ => Nat.le_trans ok.few (by decide),
    fun _ H2 b2' e2 => q H2 (fun b u e => b2' b u (ne_of_none e ha) (s1 b u e)) e2, fun z => by rw [ok.okD] at z; cases z⟩
theorem seq_but {K : PySem.W.Frag} {H H1 H2 : Hp} {a p : Addr} {xs : List V} (h : SqL K H a xs) (n : H p = none) (s : Same H H1) (b : But p H1 H2) : SqL K H2 a xs := by
  rcases h with (h | ⟨o, h⟩) | h
  · exact .inl (.inl (b _ _ (ne_of_none h n) (s _ _ h)))
  · exact .inl (.inr ⟨o, b _ _ (ne_of_none h n) (s _ _ h)⟩)
  · exact .inr h
theorem made0_te {K : PySem.W.Frag} {C cS aS : Addr} {H : Hp} {v : V} {ds : List PyData} {Z : Addr → Hp → Prop} {E : XK} (em : Emp K aS) (hc : Dt (fun _ => True) H v (.tuple ds)) (ok : okD (.tuple ds) (.tuple []) = true) (ns : nsD (.tuple ds) = true) (sm : smlD (.tuple ds) = true) (few : (flatN 3 ds).length ≤ 400)
    (q : ∀ H' x dx, Same H H' → H' x = some (insS C dx v (.ref aS)) → Z x H') : ∀ x dx, H x = none → H dx = none → dx ≠ x → spSI0 K C cS (.ref x :: ([v] ++ [V.ref aS])) (upd (upd H dx (.own x)) x (.ins C dx [])) (fun w H2 => w = .non ∧ Z x H2) E := fun x dx hx hdx ne => by
  have ndx : upd H dx (.own x) x = none := by
    rw [upd_ne (fun z => ne z.symm)]
    exact hx
  have s2 := (same_upd (o := .own x) hdx).trans (same_upd (o := .ins C dx []) ndx)
  refine ⟨fun _ => True, x, dx, aS, v, .tuple ds, rfl, upd_same, hc.mv (fun _ z => z) (fun b o _ z => s2 b o z), em, ns, sm, fun _ => few, fun _ H2 b2 e2 => ⟨rfl, ?_⟩, fun z => absurd z (by rw [ok]; decide)⟩
  refine q H2 x dx (fun b o eo => ?_) e2
  have nb : b ≠ x := ne_of_none eo hx
  exact b2 b o nb (s2 b o eo)
theorem t_st : Stays (fun _ _ => True) := ⟨fun _ _ _ _ _ => trivial⟩
end OM

namespace OM
open PySem PySem.Spec PyProof.Rows L2
abbrev sMade : Stmt := top 86
abbrev sRt14 : Stmt := top 89
/-! ### drawn straight code -/
theorem std_up {n m : Nat} {d : PyData} {l s t z : Nat} (h : StD n d l s t z) (ht : t = 0) : StD m d l s t z := by
  cases h with
  | read hr hx => exact .read hr hx
  | write hx hr => exact .write hx hr
  | copy hr ha => exact .copy hr ha
  | letter hw hr => exact .letter hw hr
  | set hr hf ha hl => exact .set hr hf ha hl
  | iff => omega
theorem cod_up {m : Nat} : ∀ {n : Nat} {ds : List PyData} {l s t z : Nat}, CoD n ds l s t z → t = 0 → CoD m ds l s t z
  | _, _, _, _, _, _, .nil, _ => .nil
  | _, _, _, _, _, _, .cons h r, e => .cons (std_up h (by omega)) (cod_up r (by omega))
theorem regs_nm : ∀ r ∈ regs4, Nm r := by decide +kernel
theorem cells_nm : ∀ r ∈ cells3, Nm r := by decide +kernel
theorem std_stm {n : Nat} {d : PyData} {l s t z : Nat} (h : StD n d l s t z) (ht : t = 0) : ∃ st : Stm, d = st.d ∧ st.ok ∧ (∀ r, st ≠ .shw r) ∧ ∀ b, st.grow b + 12 ≤ 2 ^ s * (b + 12) := by
  cases h with
  | @read _ r x hr hx => exact ⟨.read r x, rfl, ⟨regs_nm _ hr, cells_nm _ hx⟩, fun _ z => (nomatch z), fun b => by show b + 12 ≤ 1 * _; omega⟩
  | @write _ r x hx hr => exact ⟨.write x r, rfl, ⟨cells_nm _ hx, regs_nm _ hr⟩, fun _ z => (nomatch z), fun b => by show b + 12 ≤ 1 * _; omega⟩
  | @copy _ r a hr ha => exact ⟨.copy r a, rfl, ⟨regs_nm _ hr, regs_nm _ ha⟩, fun _ z => (nomatch z), fun b => by show b + 12 ≤ 1 * _; omega⟩
  | @letter _ w r hw hr =>
    rcases hw with rfl | rfl
    · exact ⟨.get r, rfl, regs_nm _ hr, fun _ z => (nomatch z), fun b => by show b + 12 ≤ 1 * _; omega⟩
    · exact ⟨.put r, rfl, regs_nm _ hr, fun _ z => (nomatch z), fun b => by show b + 12 ≤ 1 * _; omega⟩
  | @set _ r f as hr hf ha hl =>
    refine ⟨.set r f as, rfl, ⟨regs_nm _ hr, ?_, hl, fun a h => regs_nm _ (ha a h)⟩, fun _ z => (nomatch z), fun b => ?_⟩
    · rcases hf with rfl | rfl <;> (show isNameD _ = true; decide +kernel)
    · show (if as = [] then b else 2 * b + 12) + 12 ≤ 2 * _
      split <;> omega
  | iff => omega
theorem cod_stms : ∀ {n : Nat} {ds : List PyData} {l s t z : Nat}, CoD n ds l s t z → t = 0 → ∃ ss : List Stm, ds = ss.map Stm.d ∧ (∀ x ∈ ss, x.ok ∧ ∀ r, x ≠ .shw r) ∧ ∀ b, growL b ss + 12 ≤ 2 ^ s * (b + 12)
  | _, _, _, _, _, _, .nil, _ => ⟨[], rfl, fun _ h => (by cases h), fun b => by show b + 12 ≤ 1 * _; omega⟩
  | _, _, _, _, _, _, .cons (s := s) (s' := s') h r, e => by
    obtain ⟨st, rfl, ok, ns, g⟩ := std_stm h (by omega)
    obtain ⟨ss, rfl, oks, gs⟩ := cod_stms r (by omega)
    refine ⟨st :: ss, rfl, fun x hx => ?_, fun b => ?_⟩
    · rcases List.mem_cons.mp hx with rfl | hx
      · exact ⟨ok, ns⟩
      · exact oks x hx
    · show growL (st.grow b) ss + 12 ≤ _
      have h1 := gs (st.grow b)
      have h2 := Nat.mul_le_mul_left (2 ^ s') (g b)
      rw [Nat.pow_add]
      calc growL (st.grow b) ss + 12 ≤ 2 ^ s' * (st.grow b + 12) := h1
        _ ≤ 2 ^ s' * (2 ^ s * (b + 12)) := h2
        _ = 2 ^ s * 2 ^ s' * (b + 12) := by rw [← Nat.mul_assoc, Nat.mul_comm (2 ^ s') (2 ^ s)]
theorem go_len {ss : List Stm} : ∀ {k : Wk}, (k.go ss).sent.length ≤ k.sent.length + ss.length ∧ (k.go ss).done.length ≤ k.done.length + ss.length := by
  induction ss with
  | nil => exact fun {k} => ⟨Nat.le_refl _, Nat.le_refl _⟩
  | cons s r ih =>
    intro k
    have h := ih (k := k.stm s)
    have e : (k.stm s).sent.length ≤ k.sent.length + 1 ∧ (k.stm s).done.length ≤ k.done.length + 1 := by
      cases s with
      | read r c => exact ⟨Nat.le_succ _, by show (k.done ++ [_]).length ≤ _; rw [List.length_append]; exact Nat.le_refl _⟩
      | write c r => exact ⟨Nat.le_succ _, by show (k.done ++ [_]).length ≤ _; rw [List.length_append]; exact Nat.le_refl _⟩
      | set r f as => exact ⟨Nat.le_succ _, Nat.le_succ _⟩
      | copy r q => exact ⟨Nat.le_succ _, Nat.le_succ _⟩
      | get r => exact ⟨by show (k.sent ++ [_]).length ≤ _; rw [List.length_append]; exact Nat.le_refl _, Nat.le_succ _⟩
      | put r => exact ⟨by show (k.sent ++ [_]).length ≤ _; rw [List.length_append]; exact Nat.le_refl _, Nat.le_succ _⟩
      | shw r => exact ⟨Nat.le_succ _, Nat.le_succ _⟩
    show ((k.stm s).go r).sent.length ≤ _ ∧ ((k.stm s).go r).done.length ≤ _
    rw [List.length_cons]
    omega
theorem go_facts {ss : List Stm} (ok : ∀ s ∈ ss, s.ok) (few : ss.length ≤ 900) : (∀ a ∈ ((Wk.new []).go ss).done, KindOk a.1) ∧ PlOk ((Wk.new []).go ss).sent ((Wk.new []).go ss).done ∧ ((Wk.new []).go ss).sent.length ≤ 900 ∧ ((Wk.new []).go ss).done.length ≤ 900 := by
  have dk : DoneOk ((Wk.new []).go ss) := DoneOk.new.go ok
  obtain ⟨l1, l2⟩ := go_len (ss := ss) (k := Wk.new [])
  have e1 : (Wk.new []).sent.length = 0 := rfl
  have e2 : (Wk.new []).done.length = 0 := rfl
  exact ⟨fun a h => (dk.1 a h).1, fun a h => (dk.1 a h).2.2, by omega, by omega⟩
/-! ### a place is covered exactly if no free spot can be beside it -/
theorem free_iff {kind cell : Str} {sent : List (Str × Str)} {done : List Acc} {p : Nat} (hp : p ≤ sent.length) : (((List.range (sent.length + 1)).filter (freeS kind cell sent done)).filter (near sent p)).isEmpty = covB kind cell sent done p := by
  have c : ∀ s, covB kind cell sent done s = true ↔ ∃ a ∈ done, relv kind cell a = true ∧ near sent a.2.2.1 s = true := fun s => by
    unfold covB
    rw [Bool.not_eq_true', ← Bool.not_eq_true, covI_nil]
    constructor
    · intro h
      apply Classical.byContradiction
      intro n
      exact h fun a ha hr => Bool.eq_false_iff.mpr fun z => n ⟨a, ha, hr, z⟩
    · rintro ⟨a, ha, hr, hn⟩ h
      rw [h a ha hr] at hn
      cases hn
  rw [Bool.eq_iff_iff, List.isEmpty_iff, List.filter_eq_nil_iff]
  constructor
  · intro h
    cases z : covB kind cell sent done p with
    | true => rfl
    | false => exact absurd near_self (h p (List.mem_filter.mpr ⟨List.mem_range.mpr (by omega), by show (!_) = true; rw [z]; rfl⟩))
  · intro h s hs hn
    obtain ⟨hs1, hs2⟩ := List.mem_filter.mp hs
    obtain ⟨a, ha, hr, hq⟩ := (c p).mp h
    have : covB kind cell sent done s = true := (c s).mpr ⟨a, ha, hr, near_trans hq hn⟩
    have hs2 : (!covB kind cell sent done s) = true := hs2
    rw [this] at hs2
    cases hs2
theorem inV_nats (x : Nat) : ∀ l : List Nat, inV (.int (x : Nat)) (natV l) = l.contains x
  | [] => rfl
  | y :: l => by
    have h := inV_nats x l
    unfold inV natV at h ⊢
    rw [List.map_cons, List.any_cons, h, List.contains_cons]
    congr 1
    show (((y : Nat) : Int) == ((x : Nat) : Int)) = (x == y)
    rw [Bool.eq_iff_iff, beq_iff_eq, beq_iff_eq]
    omega
theorem flat_nats : ∀ l : List Nat, (natV l).all flatV = true
  | [] => rfl
  | y :: l => by
    unfold natV
    rw [List.map_cons, List.all_cons]
    exact flat_nats l
theorem cov_contains {f : Nat → Bool} {n p : Nat} (hp : p ≤ n) : ((List.range (n + 1)).filter f).contains p = f p := by
  rw [Bool.eq_iff_iff, List.contains_iff_mem, List.mem_filter, List.mem_range]
  exact ⟨fun h => h.2, fun h => ⟨by omega, h⟩⟩
/-! ### a stretch made -/
def spMade (C : Addr) : Sp := fun vs H Q _ => ∃ (v : V) (kb : Addr) (ds : List PyData) (ks : List Str), vs = [v, .ref kb] ∧ Dt (fun _ => True) H v (.tuple ds) ∧ H kb = some (.tup (ks.map V.str)) ∧ StOk ds ks ∧ ∀ H' x dx, Same H H' → H' x = some (insS C dx v (.ref kb)) → Q (.ref x) H'
section
variable {P : Program} {w : World} {K : PySem.W.Frag} {mg : Str → Option Value} {base : Heap} {f fS aS C cS CW : Addr} {fd dS : FuncData}
theorem scMade : FnScope ["_law_code_here", "_law_keeps"] ["_law_code_here", "_law_keeps"] (defScope sMade) := ⟨rfl, rfl, rfl, by decide +kernel, rfl, by decide +kernel, by decide +kernel⟩
theorem ok_made (F : Fun K "_law_made" "_law_made" sMade f fd) (R : StrC K mg C fS aS dS) (bS : Binds K dS ["self", "code", "keeps"] []) (GS : FnOk P w K mg base (L2.CX P w) 15 fS dS ["self", "code", "keeps"] (spSI C cS)) : FnOk P w K mg base CX0 17 f fd ["_law_code_here", "_law_keeps"] (spMade C) := by
  refine F.ok scMade (fun vs H Q E h => ?_) (fun cdv A outer s H vs Q E hr h => ?_)
  · obtain ⟨v, kb, ds, ks, rfl, _⟩ := h
    rfl
  · obtain ⟨v, kb, ds, ks, rfl, hd, ek, ok, q⟩ := h
    refine ⟨_, pss_one (ps_ret (pe_make R.MS GS (hr.mono (by decide)) (by rfl) R.gSt bS .nil (passes_call L2.takes0 (fun _ _ _ _ h => h)) (pa_cons (pv 0) (pa_cons (pv 1) pa_nil)))), ?_⟩
    refine ⟨_, rfl, _, rfl, fun x dx hx hdx ne => ?_⟩
    exact mk_st hx hdx hd ek ok fun H' s e => ⟨rfl, q H' x dx s e⟩
/-- what the law's round needs -/
structure Law14 (P : Program) (w : World) (K : PySem.W.Frag) (mg : Str → Option Value) (base : Heap) (C CW : Addr) : Prop where
  W : WayF P w K mg base CW
  stretch : CallN P w K mg base "_law_stretch" 9 ["_law_dice_here", "_law_most", "_law_letters", "_law_tests"] spStretch
  made : CallN P w K mg base "_law_made" 17 ["_law_code_here", "_law_keeps"] (spMade C)
  follow : ∃ (g : Addr) (d : FuncData) (aP : Addr) (ds : List Value), mg "follow" = some (.ref g) ∧ PySem.W.keepIn K (.ref g) = true ∧ Vals [V.ref aP] ds ∧ Binds K d ["stretch", "answers", "private"] ds ∧ Emp K aP ∧ FnOk P w K mg base CX0 7 g d ["stretch", "answers", "private"] (spFollow K C CW)
  ord : CallN P w K mg base "_law_is_ordered" 1 ["_law_letters", "_law_place", "_law_spot"] (spOrd K)
  tch : CallN P w K mg base "_law_touches" 2 ["_law_letters", "_law_accesses", "_law_kind", "_law_cell"] (spTch K)
  cvp : CallN P w K mg base "covered_places" 6 ["way", "kind", "cell"] (spCvP K CW)
  rng : mg "range" = none
  ln : mg "len" = none
def spRt14 : Sp := fun vs H Q _ => ∃ d : Addr, vs = [.ref d] ∧ Dice H d ∧ ∀ H', But d H H' → Dice H' d → Q (.bl true) H'
abbrev nRt : List Str := ["_law_dice_here", "_law_code_here", "_law_keeps", "_law_way", "_law_accesses", "_law_row", "_law_cell", "_law_kind", "_law_spots", "_law_place", "_law_free", "_law_spot"]
theorem scRt : FnScope nRt ["_law_dice_here"] (defScope sRt14) := ⟨rfl, rfl, rfl, by decide +kernel, rfl, by decide +kernel, by decide +kernel⟩
theorem ok_rt14 (F : Fun K "_law_right" "_law_right" sRt14 f fd) (L : Law14 P w K mg base C CW) : FnOk P w K mg base CX0 18 f fd ["_law_dice_here"] spRt14 := by
  obtain ⟨q1, e1, g1, k1, b1, G1⟩ := L.stretch
  obtain ⟨q2, e2, g2, k2, b2, G2⟩ := L.made
  obtain ⟨q3, e3, aP, dv, g3, k3, hv, b3, emp, G3⟩ := L.follow
  obtain ⟨q4, e4, g4, k4, b4, G4⟩ := L.ord
  obtain ⟨q5, e5, g5, k5, b5, G5⟩ := L.tch
  obtain ⟨q6, e6, g6, k6, b6, G6⟩ := L.cvp
  obtain ⟨pL, gL, dL, hL, GL, bL⟩ := L.W.lets
  obtain ⟨pA, gA, dA, hA, GA, bA⟩ := L.W.accs
  refine F.ok scRt (fun vs H Q E h => ?_) (fun cdv A outer s H vs Q E hr h => ?_)
  · obtain ⟨d, rfl, _⟩ := h
    rfl
  · obtain ⟨d, rfl, hd, q⟩ := h
    have hu : (A.deeper (envOfC "_law_right" (defScope sRt14) s.heap.objs.size f cdv)).units + 64 < cLine := by
      have := hr.un
      omega
    refine ⟨_, pss_cons (ps_asg (pe_call G1 (hr.mono (by decide)) (by rfl) g1 k1 b1 .nil pass0 (pa_cons (pv 0) (pa_cons pe_int (pa_cons pe_int (pa_cons pe_int pa_nil))))) (pg_tup rfl (pgs_cons (pg_name (i := 1) scRt.nd rfl (Or.inl rfl)) (pgs_cons (pg_name (i := 2) scRt.nd rfl (Or.inl rfl)) pgs_nil))))
      (pss_cons (ps_set (i := 3) scRt.nd rfl (Or.inr rfl) (pe_call G3 (hr.mono (by decide)) (by rfl) g3 k3 b3 hv pass0 (pa_cons (pe_call G2 hr (by rfl) g2 k2 b2 .nil pass0 (pa_cons (pv 1) (pa_cons (pv 2) pa_nil))) (pa_cons pe_dnewK pa_nil))))
      (pss_cons (ps_setLc (i := 4) (own := [("_law_row", 5)]) rfl scRt.nd rfl rfl (by rfl) (pi_tup (pe_prop (E := E0) (pv 3) L.W.I.cl hA GA (hr.mono (by decide)) bA .nil pass0 (by rfl))) (blkOk_by (N := nRt) (sc := defScope sRt14) (by decide +kernel))
        (fun _ _ _ _ _ => pg_name (i := 5) scRt.nd rfl (Or.inl rfl)) (fun _ _ _ _ _ => pts_nil) (fun _ _ _ _ _ => pe_slice (r := rSlA K) sl_tupA (pv 5) po_none (po_some pe_int)))
      (pss_cons (ps_for PassesOwn.never rfl (pi_list (pe_lst (pa_cons pe_str (pa_cons pe_str (pa_cons pe_str pa_nil))))) (pg_name (i := 6) scRt.nd rfl (Or.inl rfl))
        (pss_one (ps_for PassesOwn.never rfl (pi_list (pe_lst (pa_cons pe_str (pa_cons pe_str pa_nil)))) (pg_name (i := 7) scRt.nd rfl (Or.inl rfl))
          (pss_cons (ps_set (i := 8) scRt.nd rfl (Or.inl rfl) (pe_call G5 (hr.mono (by decide)) (by rfl) g5 k5 b5 .nil pass0 (pa_cons (pe_prop (E := E0) (pv 3) L.W.I.cl hL GL (hr.mono (by decide)) bL .nil pass0 (by rfl)) (pa_cons (pv 4) (pa_cons (pv 7) (pa_cons (pv 6) pa_nil))))))
          (pss_one (ps_for PassesOwn.never rfl (pi_range1 (by rfl) L.rng (pa_cons (pe_op op_add (pe_callB call_len_seq (by rfl) L.ln PySem.boot_len (pa_cons (pe_prop (E := E0) (pv 3) L.W.I.cl hL GL (hr.mono (by decide)) bL .nil pass0 (by rfl)) pa_nil)) pe_int) pa_nil)) (pg_name (i := 9) scRt.nd rfl (Or.inr rfl))
            (pss_cons (ps_setLc (i := 10) (own := [("_law_spot", 11)]) rfl scRt.nd rfl rfl (by rfl) (pi_list (pv 8)) (blkOk_by (N := nRt) (sc := defScope sRt14) (by decide +kernel))
                (fun _ _ _ _ _ => pg_name (i := 11) scRt.nd rfl (Or.inl rfl)) (fun _ _ _ _ _ => pts_one (pt_not (pt_val (pe_call G4 (hr.mono (by decide)) (by rfl) g4 k4 b4 .nil pass0 (pa_cons (pe_prop (E := E0) (pv 3) L.W.I.cl hL GL (hr.mono (by decide)) bL .nil pass0 (by rfl)) (pa_cons (pv 9) (pa_cons (pv 11) pa_nil))))))) (fun _ _ _ _ _ => pv 11))
            (pss_one (ps_if (pt_cmpR op_ne (pe_cmpR op_in_seq (pv 9) (pe_call G6 (hr.mono (by decide)) (by rfl) g6 k6 b6 .nil pass0 (pa_cons (pv 3) (pa_cons (pv 7) (pa_cons (pv 6) pa_nil)))) (by rfl)) (pe_cmpR (op_eqD hu) (pv 10) (pe_lst pa_nil) (nomark _)) (nomark _)) (pss_one (ps_ret pe_bl)) pss_nil)))))))))
      (pss_one (ps_ret pe_bl))))), ?_⟩
    have line : (1000 : Nat) < sizeLine := by decide
    refine ⟨_, rfl, d, 13, 5, 0, rfl, by decide, hd, fun H1 v1 cs l1 sa t1 z1 ks bt1 hd1 co hcl hl1 hs1 ht1 so nodup sub dv1 => ?_⟩
    obtain ⟨a1, x1, rfl, e1a, _, hx1⟩ := (dv1.mv (fun _ _ => trivial) fun b o _ z => z : Dt (fun _ => True) H1 v1 _).tup_of
    cases hx1 with
    | @cons xc _ _ _ dxc hx1 =>
      cases hx1 with
      | @cons xk _ _ _ dxk hx1 =>
        cases hx1
        obtain ⟨kb, xks, rfl, ekb, _, hks⟩ := dxk.tup_of
        have kp : keptD (strT ks) = true := kept_ok so nodup sub
        have lk := kept_len kp
        have nm : (ks.map PyData.str).all isNameD = true := by
          have h : (setD (strT ks) && decide ((ks.map PyData.str).length ≤ 4)) = true := kp
          exact (Bool.and_eq_true_iff.mp (Bool.and_eq_true_iff.mp h).1).1
        have eks : xks = ks.map V.str := by
          rw [dt_names hks nm, List.map_map, List.map_map]
          rfl
        subst eks
        have t0 : t1 = 0 := by omega
        have co3 := cod_up (m := 3) co t0
        have dr := co3.dr
        have nc : NearOk True cs := by
          have z1 := dr.sz
          have z2 := dr.lt
          have z3 := dr.st
          have z4 := dr.iff
          exact near_bnd dr.rows (by omega) (by omega) (by omega) (by omega) fun _ => dr.cel
        have okc : StOk cs ks := nc.stk kp
        obtain ⟨ss, rfl, oks, gs⟩ := cod_stms co t0
        rw [List.length_map] at hcl
        refine ⟨a1, [xc, .ref kb], rfl, SqT.of e1a, rfl, _, _, rfl, _, _, rfl, rfl, ?_⟩
        refine ⟨_, rfl, _, rfl, xc, kb, _, ks, rfl, dxc, ekb, okc, fun H2 x dx s2 e2 => fun eo heo => ?_⟩
        have so2 := same_upd (o := .dK []) heo
        obtain ⟨cp, xs, rfl, ecp, _, hcs⟩ := dxc.tup_of
        have gr : growL 40 ss ≤ 4000000 := by
          have z1 := gs 40
          have z2 : 2 ^ sa ≤ 2 ^ 3 := Nat.pow_le_pow_right (by decide) hs1
          have z3 : 2 ^ sa * (40 + 12) ≤ 2 ^ 3 * (40 + 12) := Nat.mul_le_mul_right _ z2
          omega
        have s12 := s2.trans so2
        have SS : StrS C K (upd H2 eo (.dK [])) x ss := ⟨⟨dx, cp, kb, xs, ks, so2 _ _ e2, s12 _ _ ecp, L2.Paired.mapP (Dt.stms hcs) (fun _ _ z => z.mv (TupS.same s12)), .inl (s12 _ _ ekb), by omega⟩, oks, by omega, gr⟩
        refine ⟨x, eo, aP, ss, rfl, SS, upd_same, emp, fun H3 wy s3 hw => ?_⟩
        have s13 := s12.trans s3
        obtain ⟨kds, po, s9, d9⟩ := go_facts (ss := ss) (fun s hs => (oks s hs).1) (by omega)
        revert hw kds po s9 d9
        generalize ((Wk.new []).go ss).sent = sent
        generalize ((Wk.new []).go ss).done = done
        intro hw kds po s9 d9
        obtain ⟨dw, pr, l, ac, fs, ls, as, ea, f1, f2, f3, hh, el, hl, ec, hc2⟩ := getW hw
        have lls := hl.length
        have las := hc2.length
        refine ⟨_, rfl, wy, dw, fs, rfl, ea, wy, dw, fs, _, rfl, ea, f3, ac, rfl, ⟨as, SqT.of ec⟩, fun D hD => lc_tup (xs := as) (fun i G => Same H3 G ∧ ∃ rows, G D = some (.lst rows) ∧ rows.length = i ∧ Paired (RowR G) rows (done.take i)) ⟨same_upd hD, [], upd_same, rfl, .nil⟩ (fun i G _ pv => SqT.of (pv.1 _ _ ec)) (fun i y G hi pv => ?_) (fun G pv => ?_)⟩
        · obtain ⟨sG, rows, eD, lr, pr2⟩ := pv
          obtain ⟨a, ha, b, rfl, eb⟩ := Paired.at hc2 hi
          have il : i < as.length := (List.getElem?_eq_some_iff.mp hi).1
          refine ⟨rfl, _, rfl, 3, rfl, sl_one (sG _ _ eb) fun c H' s' _ ec' => ?_⟩
          have ec' : H' c = some (.tup [.str a.1, .str a.2.1, .int (a.2.2.1 : Nat)]) := ec'
          have cD : c ≠ D := fun z => by
            rw [z, s' _ _ eD] at ec'
            cases ec'
          refine ⟨rows, s' _ _ eD, by omega, same_put hD (sG.trans s'), rows ++ [.ref c], upd_same, by rw [List.length_append, lr]; rfl, ?_⟩
          rw [List.take_add_one, ha]
          refine Paired.app (L2.Paired.mapP pr2 fun _ _ z => z.mv ((TupS.same s').trans (TupS.put (s' _ _ eD) fun xs z => (nomatch z)))) (.cons ⟨c, rfl, by rw [upd_ne cD]; exact ec'⟩ .nil)
        · obtain ⟨sG, rows, eD, lr, pr2⟩ := pv
          rw [List.take_of_length_le (by omega)] at pr2
          have cells : ∀ y ∈ ([.str "x", .str "y", .str "zz"] : List V), ∃ c : Str, y = .str c ∧ Nm c := fun y hy => by
            rcases List.mem_cons.mp hy with rfl | hy
            · exact ⟨"x", rfl, by decide +kernel⟩
            rcases List.mem_cons.mp hy with rfl | hy
            · exact ⟨"y", rfl, by decide +kernel⟩
            rcases List.mem_cons.mp hy with rfl | hy
            · exact ⟨"zz", rfl, by decide +kernel⟩
            cases hy
          have kinds : ∀ y ∈ ([.str "read", .str "write"] : List V), ∃ c : Str, y = .str c ∧ KindOk c := fun y hy => by
            rcases List.mem_cons.mp hy with rfl | hy
            · exact ⟨"read", rfl, .inl rfl⟩
            rcases List.mem_cons.mp hy with rfl | hy
            · exact ⟨"write", rfl, .inr rfl⟩
            cases hy
          refine ⟨(by show 3 ≤ sizeLine; decide), fun L hL => ?_⟩
          have sL := same_upd (o := .lst [.str "x", .str "y", .str "zz"]) hL
          have eL : upd G L (.lst [.str "x", .str "y", .str "zz"]) L = some (.lst [.str "x", .str "y", .str "zz"]) := upd_same
          generalize upd G L (.lst [.str "x", .str "y", .str "zz"]) = HL at sL eL ⊢
          have sGL := sG.trans sL
          have wL := hw.mv sGL
          have eaL := sGL _ _ ea
          have elL := sGL _ _ el
          have hlL : Paired (LetR HL) ls sent := L2.Paired.mapP hl fun _ _ z => z.mv (TupS.same sGL)
          have eDL := sL _ _ eD
          have prL : Paired (RowR HL) rows done := L2.Paired.mapP pr2 fun _ _ z => z.mv (TupS.same sL)
          have s1L := s13.trans sGL
          have btL : But d H HL := bt1.tr (s_bt s1L)
          have hdL : Dice HL d := hd1.mv s1L
          refine ⟨L, rfl, ⟨_, SqL.of eL⟩, for_list (xs := [.str "x", .str "y", .str "zz"]) (fun i σ G1 => (∃ z5 z6 z7 z8 z9 z10 z11, σ = [some (.ref d), some (.ref cp), some (.ref kb), some (.ref wy), some (.ref D), z5, z6, z7, z8, z9, z10, z11]) ∧ Same HL G1) ⟨⟨_, _, _, _, _, _, _, rfl⟩, Same.refl _⟩ (fun i σ G1 _ h => SqL.of (h.2 _ _ eL)) (fun i y σ G1 hi h => ?_) (fun σ G1 h => ?_)⟩
          · obtain ⟨⟨z5, z6, z7, z8, z9, z10, z11, rfl⟩, sG1⟩ := h
            obtain ⟨cell, rfl, hcell⟩ := cells y (List.mem_of_getElem? hi)
            refine ⟨(by show 2 ≤ sizeLine; decide), fun M hM => ?_⟩
            have sM := same_upd (o := .lst [.str "read", .str "write"]) hM
            refine ⟨M, rfl, ⟨_, SqL.of upd_same⟩, for_list (xs := [.str "read", .str "write"]) (fun j σ G2 => (∃ z5 z7 z8 z9 z10 z11, σ = [some (.ref d), some (.ref cp), some (.ref kb), some (.ref wy), some (.ref D), z5, some (.str cell), z7, z8, z9, z10, z11]) ∧ Same HL G2 ∧ G2 M = some (.lst [.str "read", .str "write"])) ⟨⟨_, _, _, _, _, _, rfl⟩, sG1.trans sM, upd_same⟩ (fun j σ G2 _ h => SqL.of h.2.2) (fun j y2 σ G2 hj h => ?_) (fun σ G2 h => ?_)⟩
            · obtain ⟨⟨z5, z7, z8, z9, z10, z11, rfl⟩, sG2, eM⟩ := h
              obtain ⟨kind, rfl, hkind⟩ := kinds y2 (List.mem_of_getElem? hj)
              refine ⟨_, rfl, wy, dw, fs, rfl, sG2 _ _ eaL, wy, dw, fs, _, rfl, sG2 _ _ eaL, f2, _, rfl, _, rfl, _, rfl, l, D, kind, cell, ls, rows, sent, done, rfl, sG2 _ _ elL, L2.Paired.mapP hlL (fun _ _ z => z.mv (TupS.same sG2)), sG2 _ _ eDL, L2.Paired.mapP prL (fun _ _ z => z.mv (TupS.same sG2)), hkind, kds, po, s9, d9, fun G3 SP s3' eSP => ?_⟩
              have sG3 := sG2.trans s3'
              refine ⟨_, rfl, wy, dw, fs, rfl, sG3 _ _ eaL, wy, dw, fs, _, rfl, sG3 _ _ eaL, f2, l, ls, rfl, .inr (SqT.of (sG3 _ _ elL)), _, _, rfl, rfl, ((ls.length : Nat) : Int) + 1, rfl, by omega, by omega, ?_⟩
              have en : (((ls.length : Nat) : Int) + 1).toNat = sent.length + 1 := by omega
              rw [en]
              refine for_range (fun p σ G4 => (∃ z5 z9 z10 z11, σ = [some (.ref d), some (.ref cp), some (.ref kb), some (.ref wy), some (.ref D), z5, some (.str cell), some (.str kind), some (.ref SP), z9, z10, z11]) ∧ Same HL G4 ∧ G4 M = some (.lst [.str "read", .str "write"]) ∧ G4 SP = some (.lst (natV ((List.range (sent.length + 1)).filter (freeS kind cell sent done))))) ⟨⟨_, _, _, _, rfl⟩, sG3, s3' _ _ eM, eSP⟩ (fun p σ G4 hp h => ?_) (fun σ G4 h => ?_)
              · obtain ⟨⟨z5, z9, z10, z11, rfl⟩, sG4, eM4, eSP4⟩ := h
                have ei : ((0 : Int) + (p : Int)) = ((p : Nat) : Int) := by omega
                rw [ei]
                have pn : p ≤ sent.length := by omega
                have spl : ((List.range (sent.length + 1)).filter (freeS kind cell sent done)).length ≤ 901 := by
                  have z := List.length_filter_le (freeS kind cell sent done) (List.range (sent.length + 1))
                  rw [List.length_range] at z
                  omega
                refine ⟨_, rfl, SP, rfl, ⟨_, SqL.of eSP4⟩, fun FR hFR => lc_list (xs := natV ((List.range (sent.length + 1)).filter (freeS kind cell sent done))) (fun i G5 => Same G4 G5 ∧ G5 FR = some (.lst (natV ((((List.range (sent.length + 1)).filter (freeS kind cell sent done)).take i).filter (near sent p))))) ⟨same_upd hFR, upd_same⟩ (fun i G5 _ pv => SqL.of (pv.1 _ _ eSP4)) (fun i y G5 hi pv => ?_) (fun G5 pv => ?_)⟩
                · obtain ⟨s5, eFR⟩ := pv
                  rw [List.getElem?_map] at hi
                  obtain ⟨sp, hsp, rfl⟩ := Option.map_eq_some_iff.mp hi
                  have msp := List.mem_of_getElem? hsp
                  have lsp : sp < sent.length + 1 := List.mem_range.mp (List.mem_filter.mp msp).1
                  have sL5 := sG4.trans s5
                  refine ⟨rfl, _, rfl, wy, dw, fs, rfl, sL5 _ _ eaL, wy, dw, fs, _, rfl, sL5 _ _ eaL, f2, _, rfl, _, rfl, l, ls, sent, p, sp, rfl, sL5 _ _ elL, L2.Paired.mapP hlL (fun _ _ z => z.mv (TupS.same sL5)), pn, by omega, s9, fun G6 s6 => ⟨_, rfl, ?_⟩⟩
                  have fsn : natV ((((List.range (sent.length + 1)).filter (freeS kind cell sent done)).take (i + 1)).filter (near sent p)) = natV ((((List.range (sent.length + 1)).filter (freeS kind cell sent done)).take i).filter (near sent p)) ++ (if near sent p sp = true then [V.int (sp : Nat)] else []) := by
                    unfold natV
                    rw [filter_snoc hsp, List.map_append]
                    congr 1
                    cases near sent p sp <;> rfl
                  have lf : (natV ((((List.range (sent.length + 1)).filter (freeS kind cell sent done)).take i).filter (near sent p))).length < sizeLine := by
                    unfold natV
                    rw [List.length_map]
                    have h1 := List.length_filter_le (near sent p) (((List.range (sent.length + 1)).filter (freeS kind cell sent done)).take i)
                    rw [List.length_take] at h1
                    omega
                  cases hg : near sent p sp with
                  | true =>
                    rw [hg] at fsn
                    exact iteT ⟨_, rfl, _, s6 _ _ eFR, lf, same_put hFR (s5.trans s6), by rw [upd_same, fsn]; rfl⟩
                  | false =>
                    rw [hg] at fsn
                    exact iteF ⟨s5.trans s6, by rw [s6 _ _ eFR, fsn]; simp⟩
                · rw [List.take_of_length_le (by simp [natV])] at pv
                  obtain ⟨s5, eFR⟩ := pv
                  have sL5 := sG4.trans s5
                  refine ⟨_, rfl, _, rfl, _, rfl, _, rfl, wy, kind, cell, sent, done, rfl, wL.mv sL5, hkind, hcell, s9, d9, po, fun G6 cq s6 ecq => ?_⟩
                  refine ⟨cq, _, rfl, .inr (SqT.of ecq), rfl, flat_nats _, _, rfl, (by show 0 ≤ sizeLine; decide), fun zz hzz => ?_⟩
                  have s7 := same_upd (o := .lst []) hzz
                  have s67 := s6.trans s7
                  refine ⟨.list (natD (((List.range (sent.length + 1)).filter (freeS kind cell sent done)).filter (near sent p))), .list [], .lst (SqL.of (s67 _ _ eFR)) (nats_dp _), .lst (SqL.of upd_same) .nil, natsL_sh _, by decide +kernel, rfl, _, rfl, ?_⟩
                  show if (!decide (V.bl (inV (.int (p : Nat)) (natV ((List.range (sent.length + 1)).filter (covB kind cell sent done)))) = V.bl (PyData.eqv (.list (natD (((List.range (sent.length + 1)).filter (freeS kind cell sent done)).filter (near sent p)))) (.list [])))) = true then _ else _
                  rw [inV_nats, cov_contains pn, natsL_nil, free_iff pn, decide_eq_true rfl]
                  exact iteF ⟨⟨_, _, _, _, rfl⟩, sL5.trans s67, s67 _ _ (s5 _ _ eM4), s67 _ _ (s5 _ _ eSP4)⟩
              · obtain ⟨⟨z5, z9, z10, z11, rfl⟩, sG4, eM4, eSP4⟩ := h
                exact ⟨⟨_, _, _, _, _, _, rfl⟩, sG4, eM4⟩
            · obtain ⟨⟨z5, z7, z8, z9, z10, z11, rfl⟩, sG2, eM⟩ := h
              exact ⟨⟨_, _, _, _, _, _, _, rfl⟩, sG2⟩
          · obtain ⟨⟨z5, z6, z7, z8, z9, z10, z11, rfl⟩, sG1⟩ := h
            exact q G1 (btL.tr (s_bt sG1)) (hdL.mv sG1)
end
end OM

namespace OM
open PySem PySem.Spec PyProof.Rows L2
abbrev sLaw14 : Stmt := top 90
abbrev nLaw14 : List Str := ["_law_script", "_law_at", "_law_dice_here", "_law_turn"]
def ss0 : List Stm := [.read "a" "x", .put "a"]
def ds0 : List PyData := [.tuple [.str "read", .str "a", .str "x"], .tuple [.str "put", .str "a"]]
theorem ds0_eq : ds0 = ss0.map Stm.d := rfl
theorem ss0_ok : ∀ s ∈ ss0, s.ok ∧ ∀ r, s ≠ .shw r := fun s hs => by
  rcases List.mem_cons.mp hs with rfl | hs
  · exact ⟨⟨by decide +kernel, by decide +kernel⟩, fun _ z => (nomatch z)⟩
  rcases List.mem_cons.mp hs with rfl | hs
  · exact ⟨show isNameD _ = true by decide +kernel, fun _ z => (nomatch z)⟩
  cases hs
theorem cov0 : (List.range (((Wk.new []).go ss0).sent.length + 1)).filter (covB "read" "x" ((Wk.new []).go ss0).sent ((Wk.new []).go ss0).done) = [0] := by decide +kernel
structure LawH14 (P : Program) (w : World) (K : PySem.W.Frag) (mg : Str → Option Value) (base : Heap) (C cS CW : Addr) : Prop where
  L : Law14 P w K mg base C CW
  S : ∃ (fS aS : Addr) (dS : FuncData), StrC K mg C fS aS dS ∧ FnOk P w K mg base (L2.CX P w) 15 fS dS ["self", "code", "keeps"] (spSI0 K C cS)
  dice : CallN P w K mg base "_law_dice" 1 ["_law_script", "_law_at"] (spDice K)
  right : CallN P w K mg base "_law_right" 18 ["_law_dice_here"] spRt14
  max : mg "max" = none
  min : mg "min" = none
def spLaw14 (K : PySem.W.Frag) : Sp := fun vs H Q _ => ∃ (a : Addr) (ns : List Int), vs = [.ref a] ∧ ns.length ≤ 63 ∧ SqL K H a (ns.map V.int) ∧ ∀ H', Q (.bl true) H'
section
variable {P : Program} {w : World} {K : PySem.W.Frag} {mg : Str → Option Value} {base : Heap} {f C cS CW : Addr} {fd : FuncData}
theorem scLaw14 : FnScope nLaw14 ["_law_script"] (defScope sLaw14) := ⟨rfl, rfl, rfl, by decide +kernel, rfl, by decide +kernel, by decide +kernel⟩
theorem ok_law14 (F : Fun K "law" "law" sLaw14 f fd) (R : LawH14 P w K mg base C cS CW) : GFn P w K mg base 19 f fd ["_law_script"] (spLaw14 K) := by
  obtain ⟨fS, aS, dS, RS, GS0⟩ := R.S
  obtain ⟨dsv, hvS, bS1⟩ := RS.bS1
  obtain ⟨fD, dD, gD, kD, bD, GD⟩ := R.dice
  obtain ⟨fR, dR, gR, kR, bR, GR⟩ := R.right
  obtain ⟨q3, e3, aP, dv, g3, k3, hv, b3, emp, G3⟩ := R.L.follow
  obtain ⟨q6, e6, g6, k6, b6, G6⟩ := R.L.cvp
  refine gfn_of F scLaw14 (fun vs H Q E h => ?_) (fun cdv A outer s H vs Q E hga hr h => ?_)
  · obtain ⟨a, ns, rfl, _⟩ := h
    rfl
  · obtain ⟨a, ns, rfl, hn, hS, q⟩ := h
    have hu : (A.deeper (envOfC "law" (defScope sLaw14) s.heap.objs.size f cdv)).units + 64 < cLine := by
      have := hr.un
      omega
    refine ⟨_, pss_cons (ps_for PassesOwn.never rfl (pi_range1 (by rfl) R.L.rng (pa_cons (pe_callB (call_max2 rfl) (by rfl) R.max (by decide +kernel) (pa_cons pe_int (pa_cons (pe_callB (call_min2 rfl) (by rfl) R.min (by decide +kernel) (pa_cons pe_int
          (pa_cons (pe_callB call_len_seq (by rfl) R.L.ln PySem.boot_len (pa_cons (pv 0) pa_nil)) pa_nil))) pa_nil))) pa_nil)) (pg_name (i := 1) scLaw14.nd rfl (Or.inl rfl))
        (pss_cons (ps_set (i := 2) scLaw14.nd rfl (Or.inl rfl) (pe_call GD (hr.mono (by decide)) (by rfl) gD kD bD .nil pass0 (pa_cons (pv 0) (pa_cons (pv 1) pa_nil))))
        (pss_one (ps_for PassesOwn.never rfl (pi_range1 (by rfl) R.L.rng (pa_cons pe_int pa_nil)) (pg_name (i := 3) scLaw14.nd rfl (Or.inl rfl))
          (pss_one (ps_if (pt_not (pt_val (pe_call GR hr (by rfl) gR kR bR .nil pass0 (pa_cons (pv 2) pa_nil)))) (pss_one (ps_ret pe_bl)) pss_nil))))))
      (pss_one (ps_ret (pe_cmpR (op_eqD hu) (pe_call G6 (hr.mono (by decide)) (by rfl) g6 k6 b6 .nil pass0 (pa_cons (pe_call G3 (hr.mono (by decide)) (by rfl) g3 k3 b3 hv pass0 (pa_cons (pe_make RS.MS GS0 (hr.mono (by decide)) (by rfl) RS.gSt bS1 hvS (passes_call L2.takes0 (fun _ _ _ _ h => h))
          (pa_cons (pe_lt (R := fun _ _ => True) (ds := ds0) (pa_lc t_st (pe_lt (pa_lc t_st pe_ls (pa_lc t_st pe_ls (pa_lc t_st pe_ls pa_ln)))) (pa_lc t_st (pe_lt (pa_lc t_st pe_ls (pa_lc t_st pe_ls pa_ln))) pa_ln))) pa_nil)) (pa_cons pe_dnewK pa_nil))) (pa_cons pe_str (pa_cons pe_str pa_nil)))) (pe_tup (pa_cons pe_int pa_nil)) (nomark _)))), ?_⟩
    refine ⟨_, rfl, a, _, rfl, .inl hS, 6, _, rfl, 1, _, rfl, _, rfl, ?_⟩
    have hj : 1 ≤ (if (if (((ns.map V.int).length : Nat) : Int) < 6 then (((ns.map V.int).length : Nat) : Int) else 6) > 1 then (if (((ns.map V.int).length : Nat) : Int) < 6 then (((ns.map V.int).length : Nat) : Int) else 6) else 1) ∧
        (if (if (((ns.map V.int).length : Nat) : Int) < 6 then (((ns.map V.int).length : Nat) : Int) else 6) > 1 then (if (((ns.map V.int).length : Nat) : Int) < 6 then (((ns.map V.int).length : Nat) : Int) else 6) else 1) ≤ 6 := by
      split <;> split <;> omega
    revert hj
    generalize (if (if (((ns.map V.int).length : Nat) : Int) < 6 then (((ns.map V.int).length : Nat) : Int) else 6) > 1 then (if (((ns.map V.int).length : Nat) : Int) < 6 then (((ns.map V.int).length : Nat) : Int) else 6) else 1) = jn
    intro hj
    refine ⟨by omega, by omega, fun i m σ H => m = jn.toNat - i ∧ i ≤ jn.toNat ∧ (∃ x1 x2 x3, σ = [some (.ref a), x1, x2, x3]) ∧ SqL K H a (ns.map V.int), ⟨_, rfl, Nat.zero_le _, ⟨_, _, _, rfl⟩, hS⟩, ?_⟩
    rintro i m σ H ⟨rfl, hi, ⟨x1, x2, x3, rfl⟩, hS⟩
    rcases Nat.lt_or_ge i jn.toNat with hlt | hge
    · refine .inr ⟨hlt, fun σ' H' => (∃ x1 x2 x3, σ' = [some (.ref a), x1, x2, x3]) ∧ SqL K H' a (ns.map V.int), fun σ' H' h => ⟨jn.toNat - (i + 1), by omega, rfl, hlt, h.1, h.2⟩, ?_⟩
      rintro x H' ⟨rfl, rfl⟩
      refine ⟨_, rfl, _, rfl, a, ns, 0 + i, rfl, hS, fun H1 p s1 n1 d1 => ?_⟩
      refine ⟨8, rfl, by decide, by decide, for_range (fun j σ G => (∃ y1 y3, σ = [some (.ref a), y1, some (.ref p), y3]) ∧ But p H1 G ∧ Dice G p) ⟨⟨_, _, rfl⟩, (fun _ _ _ e => e), d1⟩ (fun j σ G hjl h => ?_) (fun σ G h => ?_)⟩
      · obtain ⟨⟨y1, y3, rfl⟩, bG, dG⟩ := h
        exact ⟨_, rfl, p, rfl, dG, fun G2 b2 d2 => ⟨_, rfl, iteF ⟨⟨_, _, rfl⟩, bG.tr b2, d2⟩⟩⟩
      · obtain ⟨⟨y1, y3, rfl⟩, bG, dG⟩ := h
        exact ⟨⟨_, _, _, rfl⟩, seq_but hS n1 s1 bG⟩
    · refine .inl ⟨hge, ?_⟩
      refine ⟨trivial, fun v1 H1 s1 dv1 => ?_⟩
      refine made0_te (ds := ds0) RS.emp dv1 (by decide +kernel) (by decide +kernel) (by decide +kernel) (by decide +kernel) fun H2 x dx s2 e2 => ?_
      refine fun eo heo => ?_
      have so := same_upd (o := .dK []) heo
      obtain ⟨cp, xs, rfl, ecp, _, hcs⟩ := dv1.tup_of
      have s12 := s2.trans so
      have SS : StrS C K (upd H2 eo (.dK [])) x ss0 := ⟨⟨dx, cp, aS, xs, [], so _ _ e2, s12 _ _ ecp, L2.Paired.mapP (Dt.stms (ss := ss0) hcs) (fun _ _ z => z.mv (TupS.same s12)), .inr ⟨RS.emp, rfl⟩, by decide⟩, ss0_ok, by decide, by decide⟩
      refine ⟨x, eo, aP, ss0, rfl, SS, upd_same, emp, fun H3 wy s3 hw => ?_⟩
      obtain ⟨kds, po, s9, d9⟩ := go_facts (ss := ss0) (fun s hs => (ss0_ok s hs).1) (by decide)
      refine ⟨wy, "read", "x", _, _, rfl, hw, .inl rfl, (by decide +kernel), s9, d9, po, fun H4 cq s4 ecq => ?_⟩
      rw [cov0] at ecq
      refine ⟨(by show 1 ≤ sizeLine; decide), fun z hz => ?_⟩
      have s5 := same_upd (o := .tup [.int 0]) hz
      refine ⟨.tuple (natD [0]), .tuple (natD [0]), .tup (SqT.of (s5 _ _ ecq)) (nats_dp _), .tup (SqT.of upd_same) (nats_dp [0]), nats_sh _, nats_sh _, ?_⟩
      have e : PyData.eqv (.tuple (natD [0])) (.tuple (natD [0])) = true := by decide +kernel
      rw [e]
      exact q _
end
end OM

namespace OM
open PySem PySem.Spec PyProof.Rows L2
def HasFn (K : PySem.W.Frag) (x qual : Str) (st : Stmt) (f : Addr) : Prop := ∃ fd, Fun K x qual st f fd
def HasM (K : PySem.W.Frag) (f : Addr) : Prop := ∃ fd, FunD K "__init__" "MoveError.__init__" (defArgs sMI) (defBody sMI) (defScope sMI) [.str ""] [] f fd
def HasN (K : PySem.W.Frag) (f : Addr) : Prop := ∃ fd, FunD K "is_nested_code" "is_nested_code" (defArgs sNested) (defBody sNested) (defScope sNested) [.bl false] [] f fd
def HasS (K : PySem.W.Frag) (f a : Addr) : Prop := ∃ fd, FunD K "__init__" "Stretch.__init__" (defArgs sSI) (defBody sSI) (defScope sSI) [.ref a] [] f fd
/-- names that the text does not bind -/
def freeN : List Str := ["isinstance", "str", "len", "all", "tuple", "zip", "list", "sorted", "sum", "max", "min", "set", "range", "int", "abs", "enumerate", "ValueError", "dict", "bool"]
def freeB (K : PySem.W.Frag) : Bool := freeN.all fun x => decide (PySem.W.nsIn K mainGlobals x = some none)
theorem free_of {K : PySem.W.Frag} {h : Heap} {mg : Str → Option Value} (X : K.In h) (G : h.Ns mainGlobals mg) (b : freeB K = true) (x : Str) (hx : x ∈ freeN) : mg x = none :=
  PySem.W.mg_none_of X G (of_decide_eq_true (List.all_eq_true.mp b x hx))
/-- a written tuple of texts -/
def strV : Value → Option Str
  | .str x _ => some x
  | _ => none
def tupB (K : PySem.W.Frag) (a : Addr) (xs : List Str) : Bool := match K.lookup a with
  | some ⟨.type c, _, .seq its _, _⟩ => decide (c = "tuple") && (decide (its.toList.map strV = xs.map some) && decide (xs.length ≤ 100))
  | _ => false
theorem vals_strs : ∀ {us : List Value} {xs : List Str}, us.map strV = xs.map some → Vals (xs.map V.str) us
  | [], [], _ => .nil
  | [], _ :: _, h => by cases h
  | _ :: _, [], h => by cases h
  | u :: us, x :: xs, h => by
    rw [List.map_cons, List.map_cons] at h
    injection h with h1 h2
    refine .cons ?_ (vals_strs h2)
    unfold strV at h1
    split at h1
    · rename_i y t
      cases h1
      exact ⟨t, rfl⟩
    · cases h1
theorem tupB_ok {K : PySem.W.Frag} {a : Addr} {xs : List Str} (h : tupB K a xs = true) (H : Hp) : SqT K H a (xs.map V.str) := by
  unfold tupB at h
  split at h
  · rename_i c od its n sl hk
    rw [Bool.and_eq_true, Bool.and_eq_true] at h
    obtain ⟨h1, h2, h3⟩ := h
    have e := of_decide_eq_true h1
    subst e
    have e2 := of_decide_eq_true h2
    have e3 := of_decide_eq_true h3
    refine .inr ⟨_, its, n, hk, rfl, rfl, ?_, vals_strs e2⟩
    have l := congrArg List.length e2
    rw [List.length_map, List.length_map, Array.length_toList] at l
    rw [l]
    exact Nat.le_trans e3 (by decide)
  · cases h
def names8 : List Str := ["read", "write", "set", "copy", "get", "put", "if", "show"]
/-- FORMS, as it is written -/
def keysB (K : PySem.W.Frag) (d : Addr) : Bool := match K.lookup d with
  | some ⟨_, _, .dict es _, _⟩ => es.toList.all fun e => match e.key with
    | .str x _ => (formOf x).isSome
    | _ => false
  | _ => false
def formsB (K : PySem.W.Frag) (d : Addr) : Bool := names8.all fun z => match PySem.W.nsIn K d z with
  | some (some (.ref a)) => tupB K a ((formOf z).getD [])
  | _ => false
theorem keysB_ok {K : PySem.W.Frag} {d : Addr} (h : keysB K d = true) {z : Str} (hz : formOf z = none) : PySem.W.nsIn K d z = some none := by
  unfold keysB at h
  split at h
  · rename_i oc od es n sl hk
    have ha := List.all_eq_true.mp h
    unfold PySem.W.nsIn
    rw [hk]
    have f : es.toList.find? (·.key.isStr z) = none := List.find?_eq_none.mpr fun e he y => by
      have := ha e he
      split at this
      · rename_i x t hx
        rw [hx] at y
        have e2 : x = z := by simpa [Value.isStr] using y
        rw [e2, hz] at this
        cases this
      · cases this
    have g : es.toList.any (·.refKey) = false := by
      rw [Bool.eq_false_iff]
      intro y
      obtain ⟨e, he, q⟩ := List.any_eq_true.mp y
      have := ha e he
      split at this
      · rename_i x t hx
        unfold DictEntry.refKey at q
        rw [hx] at q
        cases q
      · cases this
    show (match es.toList.find? (·.key.isStr z) with
      | some e => some (some e.val)
      | none => if es.toList.any (·.refKey) then none else some none) = some none
    rw [f, g]
    rfl
  · cases h
theorem form_names {z : Str} {rs : List Str} (h : formOf z = some rs) : z ∈ names8 := by
  unfold formOf at h
  unfold names8
  repeat' split at h
  all_goals first
    | cases h; done
    | (subst_vars; decide)
theorem formsB_ok {K : PySem.W.Frag} {d : Addr} (h : formsB K d = true) {z : Str} {rs : List Str} (hz : formOf z = some rs) : ∃ a, PySem.W.nsIn K d z = some (some (.ref a)) ∧ ∀ H, SqT K H a (rs.map V.str) := by
  have := List.all_eq_true.mp h z (form_names hz)
  split at this
  · rename_i a ha
    rw [hz] at this
    exact ⟨a, ha, fun H => tupB_ok this H⟩
  · cases this
def exmB (K : PySem.W.Frag) (a b : Addr) (r : Bool) : Bool := decide (PySem.W.exmOne K (.ref a) (.ref b) = some r)
/-- the class Stretch -/
def strB (K : PySem.W.Frag) (C f : Addr) : Bool := PySem.W.plainGet K C Str.empty && (PySem.W.hasDictIn K C && (PySem.W.plainOver K C && (decide (PySem.W.findIn K (.ref C) "__setattr__" = some (some (.builtin "object.__setattr__"))) && (decide (PySem.W.findIn K (.ref C) "_code" = some none) && (decide (PySem.W.findIn K (.ref C) "_keeps" = some none) &&
  (PySem.W.makesIn K C && (decide (PySem.W.findIn K (.ref C) "__init__" = some (some (.ref f))) && (PySem.W.isFn K (.ref f) && PySem.W.keepIn K (.ref C)))))))))
theorem strB_ok {K : PySem.W.Frag} {mg : Str → Option Value} {C f : Addr} (h : strB K C f = true) : StrT K mg C ∧ Mk K C f := by
  unfold strB at h
  simp only [Bool.and_eq_true, decide_eq_true_eq] at h
  obtain ⟨h1, h2, h3, h4, h5, h6, h7, h8, h9, h10⟩ := h
  exact ⟨⟨⟨h1, h2, h3, h4⟩, h5, h6⟩, ⟨h7, h8, h9, h10⟩⟩
def HasFol (K : PySem.W.Frag) (f a : Addr) : Prop := ∃ fd, FunD K "follow" "follow" (defArgs sFollow) (defBody sFollow) (defScope sFollow) [] [("private", .ref a)] f fd
def names2 : List Str := ["read", "write"]
/-- COVERING, as it is written -/
def covgB (K : PySem.W.Frag) (d : Addr) : Bool := names2.all fun z => match PySem.W.nsIn K d z with
  | some (some (.ref a)) => tupB K a (covOf z)
  | _ => false
theorem covgB_ok {K : PySem.W.Frag} {d : Addr} (h : covgB K d = true) {z : Str} (hz : z ∈ names2) : ∃ a, PySem.W.nsIn K d z = some (some (.ref a)) ∧ ∀ H, SqT K H a ((covOf z).map V.str) := by
  have := List.all_eq_true.mp h z hz
  split at this
  · rename_i a ha
    exact ⟨a, ha, fun H => tupB_ok this H⟩
  · cases this
/-- the rest that is asked of a class that isinstance knows -/
def strC (K : PySem.W.Frag) (C : Addr) : Bool := decide (PySem.W.findIn K (.ref C) "__class__" = some (some (.builtin "object.__class__"))) && (decide (PySem.W.specialIn K (.builtin "object.__class__") "__get__" = some (some (.builtin "getset_descriptor.__get__"))) &&
  (decide (PySem.W.takesIn K (.builtin "object.__class__") = some true) && (decide (PySem.W.mroIn K C (.type "object") = some true) && decide (PySem.W.kitOne K (.ref C) (.ref C) = some true))))
def methB (K : PySem.W.Frag) (f : Addr) : Bool := PySem.W.isFn K (.ref f) && PySem.W.keepIn K (.ref f)
theorem methB_ok {K : PySem.W.Frag} {f : Addr} (h : methB K f = true) : PySem.W.isFn K (.ref f) = true ∧ PySem.W.keepIn K (.ref f) = true := Bool.and_eq_true_iff.mp h
/-- a class of the text's own, without names of these -/
def clsB (K : PySem.W.Frag) (C f : Addr) (as : List Str) : Bool := PySem.W.plainGet K C Str.empty && (PySem.W.hasDictIn K C && (PySem.W.plainOver K C && (decide (PySem.W.findIn K (.ref C) "__setattr__" = some (some (.builtin "object.__setattr__"))) && ((as.all fun a => decide (PySem.W.findIn K (.ref C) a = some none)) &&
  (PySem.W.makesIn K C && (decide (PySem.W.findIn K (.ref C) "__init__" = some (some (.ref f))) && (PySem.W.isFn K (.ref f) && PySem.W.keepIn K (.ref C))))))))
theorem clsB_ok {K : PySem.W.Frag} {C f : Addr} {as : List Str} (h : clsB K C f as = true) : Cls K C ∧ Mk K C f ∧ ∀ a ∈ as, NoAttr K C a := by
  unfold clsB at h
  simp only [Bool.and_eq_true, decide_eq_true_eq] at h
  obtain ⟨h1, h2, h3, h4, h5, h7, h8, h9, h10⟩ := h
  exact ⟨⟨h1, h2, h3, h4⟩, ⟨h7, h8, h9, h10⟩, fun a ha => (show PySem.W.findIn K (.ref C) a = some none from of_decide_eq_true (List.all_eq_true.mp h5 a ha))⟩
theorem prop_mk {K : PySem.W.Frag} {C p g : Addr} {f : Str} {od : Option Addr} {vs : Array Value} {sl : Array (Option Value)} {rest : List Value} (h1 : PySem.W.findIn K (.ref C) f = some (some (.ref p))) (l : K.lookup p = some ⟨.type "property", od, .fields vs, sl⟩) (hv : vs.toList = .ref g :: rest)
    (h2 : decide (PySem.W.specialIn K (.ref p) "__get__" = some (some (.builtin "property.__get__"))) = true) (h3 : decide (PySem.W.takesIn K (.ref p) = some true) = true) : PropOf K C f p g :=
  ⟨h1, of_decide_eq_true h2, of_decide_eq_true h3, rest, by
    unfold PySem.W.recIn
    rw [l]
    simp [hv]⟩
theorem emp_mk {K : PySem.W.Frag} {a : Addr} {od : Option Addr} {n : Nat} {sl : Array (Option Value)} (l : K.lookup a = some ⟨.type "tuple", od, .seq #[] n, sl⟩) : Emp K a := ⟨_, n, l, rfl, rfl⟩
/-- what stands behind the top -/
structure Top14 (K : PySem.W.Frag) (w : World) (g : Nat → Addr) (c1 f0 fS aS aP C pC fC pK fK dF cvD aW CR r0 r1 r2 r3 r4 r5 r6 r7 r8 r9 CW s0 pP gP pL gL pA gA : Addr) : Prop where
  kc1 : PySem.W.nsIn K mainGlobals "InvalidStretch" = some (some (.ref c1))
  iMAX_LETTERS : ∃ t, PySem.W.nsIn K mainGlobals "MAX_LETTERS" = some (some (.int 8 t))
  iMAX_REGISTERS : ∃ t, PySem.W.nsIn K mainGlobals "MAX_REGISTERS" = some (some (.int 2 t))
  iMAX_DEPTH : ∃ t, PySem.W.nsIn K mainGlobals "MAX_DEPTH" = some (some (.int 3 t))
  iMAX_KEPT : ∃ t, PySem.W.nsIn K mainGlobals "MAX_KEPT" = some (some (.int 4 t))
  iMAX_STATEMENTS : ∃ t, PySem.W.nsIn K mainGlobals "MAX_STATEMENTS" = some (some (.int 24 t))
  iMAX_CELLS : ∃ t, PySem.W.nsIn K mainGlobals "MAX_CELLS" = some (some (.int 4 t))
  iMAX_LETTERS_SENT : ∃ t, PySem.W.nsIn K mainGlobals "MAX_LETTERS_SENT" = some (some (.int 6 t))
  iMAX_SETS : ∃ t, PySem.W.nsIn K mainGlobals "MAX_SETS" = some (some (.int 6 t))
  iMAX_TESTS : ∃ t, PySem.W.nsIn K mainGlobals "MAX_TESTS" = some (some (.int 3 t))
  lets : ∃ t, PySem.W.nsIn K mainGlobals "LETTERS" = some (some (.str alphabet t))
  words : PySem.W.nsIn K mainGlobals "WORDS" = some (some (.ref aW))
  wordsT : tupB K aW words6 = true
  forms : PySem.W.nsIn K mainGlobals "FORMS" = some (some (.ref dF))
  formsD : He.dicW K dF = some (He.keysIn w.params names8)
  formsK : keysB K dF = true
  formsV : formsB K dF = true
  covg : PySem.W.nsIn K mainGlobals "COVERING" = some (some (.ref cvD))
  covgD : He.dicW K cvD = some (He.keysIn w.params names2)
  covgV : covgB K cvD = true
  stretch : PySem.W.nsIn K mainGlobals "Stretch" = some (some (.ref C))
  inS : PySem.W.findIn K (.ref C) "__init__" = some (some (.ref fS))
  k1 : KCls K c1 f0 "ValueError" []
  m0 : HasM K f0
  mS : HasS K fS aS
  emp : Emp K aS
  strOk : strB K C fS = true
  strCk : strC K C = true
  pcP : PropOf K C "code" pC fC
  pcF : HasFn K "code" "Stretch.code" (inStK 52 1) fC
  pkP : PropOf K C "keeps" pK fK
  pkF : HasFn K "keeps" "Stretch.keeps" (inStK 52 2) fK
  bV : PySem.W.findCls K (.type "ValueError") (.type "type") "__init__" = some (.val (.builtin "ValueError.__init__"))
  rg : PySem.W.nsIn K mainGlobals "Walk" = some (some (.ref CR))
  ri : PySem.W.findIn K (.ref CR) "__init__" = some (some (.ref r0))
  rB : clsB K CR r0 ["told", "hidden", "asked", "lacking", "is_over", "worths", "contents", "latest", "sent", "taken", "done"] = true
  rf0 : HasFn K "__init__" "Walk.__init__" sWIn r0
  re1 : PySem.W.findIn K (.ref CR) "go" = some (some (.ref r1))
  rb1 : methB K r1 = true
  rf1 : HasFn K "go" "Walk.go" sGo r1
  re2 : PySem.W.findIn K (.ref CR) "do" = some (some (.ref r2))
  rb2 : methB K r2 = true
  rf2 : HasFn K "do" "Walk.do" sDo r2
  re3 : PySem.W.findIn K (.ref CR) "do_read" = some (some (.ref r3))
  rb3 : methB K r3 = true
  rf3 : HasFn K "do_read" "Walk.do_read" sDoR r3
  re4 : PySem.W.findIn K (.ref CR) "do_write" = some (some (.ref r4))
  rb4 : methB K r4 = true
  rf4 : HasFn K "do_write" "Walk.do_write" sDoW r4
  re5 : PySem.W.findIn K (.ref CR) "do_get" = some (some (.ref r5))
  rb5 : methB K r5 = true
  rf5 : HasFn K "do_get" "Walk.do_get" sDoG r5
  re6 : PySem.W.findIn K (.ref CR) "add_letter" = some (some (.ref r6))
  rb6 : methB K r6 = true
  rf6 : HasFn K "add_letter" "Walk.add_letter" sAddL r6
  re7 : PySem.W.findIn K (.ref CR) "next_chain" = some (some (.ref r7))
  rb7 : methB K r7 = true
  rf7 : HasFn K "next_chain" "Walk.next_chain" sNextC r7
  re8 : PySem.W.findIn K (.ref CR) "worth" = some (some (.ref r8))
  rb8 : methB K r8 = true
  rf8 : HasFn K "worth" "Walk.worth" sWorth r8
  re9 : PySem.W.findIn K (.ref CR) "content" = some (some (.ref r9))
  rb9 : methB K r9 = true
  rf9 : HasFn K "content" "Walk.content" sContent r9
  sg : PySem.W.nsIn K mainGlobals "Way" = some (some (.ref CW))
  si : PySem.W.findIn K (.ref CW) "__init__" = some (some (.ref s0))
  sB : clsB K CW s0 ["_stretch", "_private", "_answers", "_letters", "_accesses", "_kept", "_left"] = true
  sf0 : HasFn K "__init__" "Way.__init__" sWayIn s0
  wyC : strC K CW = true
  wpP : PropOf K CW "private" pP gP
  wpF : HasFn K "private" "Way.private" (inStK 58 2) gP
  wlP : PropOf K CW "letters" pL gL
  wlF : HasFn K "letters" "Way.letters" (inStK 58 4) gL
  waP : PropOf K CW "accesses" pA gA
  waF : HasFn K "accesses" "Way.accesses" (inStK 58 5) gA
  nn : freeB K = true
  n33 : PySem.W.nsIn K mainGlobals "is_nested_code" = some (some (.ref (g 33)))
  h33 : HasN K (g 33)
  n57 : PySem.W.nsIn K mainGlobals "follow" = some (some (.ref (g 57)))
  h57 : HasFol K (g 57) aP
  empP : Emp K aP
  n15 : PySem.W.nsIn K mainGlobals "is_number" = some (some (.ref (g 15)))
  h15 : HasFn K "is_number" "is_number" (top 15) (g 15)
  n16 : PySem.W.nsIn K mainGlobals "is_whole" = some (some (.ref (g 16)))
  h16 : HasFn K "is_whole" "is_whole" (top 16) (g 16)
  n17 : PySem.W.nsIn K mainGlobals "is_name" = some (some (.ref (g 17)))
  h17 : HasFn K "is_name" "is_name" (top 17) (g 17)
  n18 : PySem.W.nsIn K mainGlobals "is_set" = some (some (.ref (g 18)))
  h18 : HasFn K "is_set" "is_set" (top 18) (g 18)
  n20 : PySem.W.nsIn K mainGlobals "is_answers" = some (some (.ref (g 20)))
  h20 : HasFn K "is_answers" "is_answers" (top 20) (g 20)
  n22 : PySem.W.nsIn K mainGlobals "written" = some (some (.ref (g 22)))
  h22 : HasFn K "written" "written" (top 22) (g 22)
  n34 : PySem.W.nsIn K mainGlobals "_is_statement" = some (some (.ref (g 34)))
  h34 : HasFn K "_is_statement" "_is_statement" (top 34) (g 34)
  n35 : PySem.W.nsIn K mainGlobals "_fits" = some (some (.ref (g 35)))
  h35 : HasFn K "_fits" "_fits" (top 35) (g 35)
  n36 : PySem.W.nsIn K mainGlobals "flattened" = some (some (.ref (g 36)))
  h36 : HasFn K "flattened" "flattened" (top 36) (g 36)
  n37 : PySem.W.nsIn K mainGlobals "codes_in" = some (some (.ref (g 37)))
  h37 : HasFn K "codes_in" "codes_in" (top 37) (g 37)
  n38 : PySem.W.nsIn K mainGlobals "names_in" = some (some (.ref (g 38)))
  h38 : HasFn K "names_in" "names_in" (top 38) (g 38)
  n39 : PySem.W.nsIn K mainGlobals "_names_of" = some (some (.ref (g 39)))
  h39 : HasFn K "_names_of" "_names_of" (top 39) (g 39)
  n40 : PySem.W.nsIn K mainGlobals "most_on_path" = some (some (.ref (g 40)))
  h40 : HasFn K "most_on_path" "most_on_path" (top 40) (g 40)
  n41 : PySem.W.nsIn K mainGlobals "_most_at" = some (some (.ref (g 41)))
  h41 : HasFn K "_most_at" "_most_at" (top 41) (g 41)
  n42 : PySem.W.nsIn K mainGlobals "_path_kind" = some (some (.ref (g 42)))
  h42 : HasFn K "_path_kind" "_path_kind" (top 42) (g 42)
  n51 : PySem.W.nsIn K mainGlobals "is_code" = some (some (.ref (g 51)))
  h51 : HasFn K "is_code" "is_code" (top 51) (g 51)
  n54 : PySem.W.nsIn K mainGlobals "is_bounded" = some (some (.ref (g 54)))
  h54 : HasFn K "is_bounded" "is_bounded" (top 54) (g 54)
  n55 : PySem.W.nsIn K mainGlobals "is_kept" = some (some (.ref (g 55)))
  h55 : HasFn K "is_kept" "is_kept" (top 55) (g 55)
  n60 : PySem.W.nsIn K mainGlobals "check_stretch" = some (some (.ref (g 60)))
  h60 : HasFn K "check_stretch" "check_stretch" (top 60) (g 60)
  n61 : PySem.W.nsIn K mainGlobals "check_private" = some (some (.ref (g 61)))
  h61 : HasFn K "check_private" "check_private" (top 61) (g 61)
  n62 : PySem.W.nsIn K mainGlobals "can_come_between" = some (some (.ref (g 62)))
  h62 : HasFn K "can_come_between" "can_come_between" (top 62) (g 62)
  n63 : PySem.W.nsIn K mainGlobals "chained" = some (some (.ref (g 63)))
  h63 : HasFn K "chained" "chained" (top 63) (g 63)
  n64 : PySem.W.nsIn K mainGlobals "_left_by" = some (some (.ref (g 64)))
  h64 : HasFn K "_left_by" "_left_by" (top 64) (g 64)
  n65 : PySem.W.nsIn K mainGlobals "_left_in" = some (some (.ref (g 65)))
  h65 : HasFn K "_left_in" "_left_in" (top 65) (g 65)
  n66 : PySem.W.nsIn K mainGlobals "_next_put" = some (some (.ref (g 66)))
  h66 : HasFn K "_next_put" "_next_put" (top 66) (g 66)
  n69 : PySem.W.nsIn K mainGlobals "covering" = some (some (.ref (g 69)))
  h69 : HasFn K "covering" "covering" (top 69) (g 69)
  n70 : PySem.W.nsIn K mainGlobals "is_covered" = some (some (.ref (g 70)))
  h70 : HasFn K "is_covered" "is_covered" (top 70) (g 70)
  n71 : PySem.W.nsIn K mainGlobals "covered_places" = some (some (.ref (g 71)))
  h71 : HasFn K "covered_places" "covered_places" (top 71) (g 71)
  n72 : PySem.W.nsIn K mainGlobals "_indices" = some (some (.ref (g 72)))
  h72 : HasFn K "_indices" "_indices" (top 72) (g 72)
  n73 : PySem.W.nsIn K mainGlobals "_is_near" = some (some (.ref (g 73)))
  h73 : HasFn K "_is_near" "_is_near" (top 73) (g 73)
  n74 : PySem.W.nsIn K mainGlobals "_check_way" = some (some (.ref (g 74)))
  h74 : HasFn K "_check_way" "_check_way" (top 74) (g 74)
  n75 : PySem.W.nsIn K mainGlobals "_check_kind" = some (some (.ref (g 75)))
  h75 : HasFn K "_check_kind" "_check_kind" (top 75) (g 75)
  n76 : PySem.W.nsIn K mainGlobals "_check_cell" = some (some (.ref (g 76)))
  h76 : HasFn K "_check_cell" "_check_cell" (top 76) (g 76)
  n77 : PySem.W.nsIn K mainGlobals "_check_place" = some (some (.ref (g 77)))
  h77 : HasFn K "_check_place" "_check_place" (top 77) (g 77)
  n79 : PySem.W.nsIn K mainGlobals "_law_dice" = some (some (.ref (g 79)))
  h79 : HasFn K "_law_dice" "_law_dice" (top 79) (g 79)
  n80 : PySem.W.nsIn K mainGlobals "_law_roll" = some (some (.ref (g 80)))
  h80 : HasFn K "_law_roll" "_law_roll" (top 80) (g 80)
  n81 : PySem.W.nsIn K mainGlobals "_law_one_of" = some (some (.ref (g 81)))
  h81 : HasFn K "_law_one_of" "_law_one_of" (top 81) (g 81)
  n82 : PySem.W.nsIn K mainGlobals "_law_mixed" = some (some (.ref (g 82)))
  h82 : HasFn K "_law_mixed" "_law_mixed" (top 82) (g 82)
  n83 : PySem.W.nsIn K mainGlobals "_law_statement" = some (some (.ref (g 83)))
  h83 : HasFn K "_law_statement" "_law_statement" (top 83) (g 83)
  n84 : PySem.W.nsIn K mainGlobals "_law_code" = some (some (.ref (g 84)))
  h84 : HasFn K "_law_code" "_law_code" (top 84) (g 84)
  n85 : PySem.W.nsIn K mainGlobals "_law_stretch" = some (some (.ref (g 85)))
  h85 : HasFn K "_law_stretch" "_law_stretch" (top 85) (g 85)
  n86 : PySem.W.nsIn K mainGlobals "_law_made" = some (some (.ref (g 86)))
  h86 : HasFn K "_law_made" "_law_made" (top 86) (g 86)
  n87 : PySem.W.nsIn K mainGlobals "_law_is_ordered" = some (some (.ref (g 87)))
  h87 : HasFn K "_law_is_ordered" "_law_is_ordered" (top 87) (g 87)
  n88 : PySem.W.nsIn K mainGlobals "_law_touches" = some (some (.ref (g 88)))
  h88 : HasFn K "_law_touches" "_law_touches" (top 88) (g 88)
  n89 : PySem.W.nsIn K mainGlobals "_law_right" = some (some (.ref (g 89)))
  h89 : HasFn K "_law_right" "_law_right" (top 89) (g 89)
  n90 : PySem.W.nsIn K mainGlobals "law" = some (some (.ref (g 90)))
  h90 : HasFn K "law" "law" (top 90) (g 90)
theorem all_mk14 {l : PySem.W.OpenLaw} {w : World} {K : PySem.W.Frag} {h : Heap} {mg : Str → Option Value} {fa : Addr} {g : Nat → Addr} {c1 f0 fS aS aP C pC fC pK fK dF cvD aW CR r0 r1 r2 r3 r4 r5 r6 r7 r8 r9 CW s0 pP gP pL gL pA gA : Addr} (X : K.In h) (G : h.Ns mainGlobals mg) (hfa : mg "law" = some (.ref fa)) (T : Top14 K w g c1 f0 fS aS aP C pC fC pK fK dF cvD aW CR r0 r1 r2 r3 r4 r5 r6 r7 r8 r9 CW s0 pP gP pL gL pA gA) :
    ∃ gd : FuncData, (∀ (s : Shared) (u : Value), BindsTo s gd ⟨[u], []⟩ [("_law_script", u)]) ∧ ∀ base : Heap, K.In base → base.Ns mainGlobals mg → (∃ o, base.get? sysModules = some o) → GFn l.prog w K mg base 19 fa gd ["_law_script"] (spLaw14 K) := by
  have gl : ∀ {x : Str} {u : Value}, PySem.W.nsIn K mainGlobals x = some (some u) → mg x = some u := fun e => PySem.W.mg_of X G e
  obtain rfl : g 90 = fa := by
    have e := hfa.symm.trans (gl T.n90)
    cases e
    rfl
  have no : ∀ x, x ∈ freeN → mg x = none := free_of X G T.nn
  obtain ⟨e15, E15⟩ := T.h15
  have r15 := E15.binds (ps := ["value", "low", "high"]) fun _ _ _ _ _ _ us hl => match us, hl with | [_, _, _], _ => rfl
  obtain ⟨e16, E16⟩ := T.h16
  have r16 := E16.binds (ps := ["value"]) fun _ _ _ _ _ _ us hl => match us, hl with | [_], _ => rfl
  obtain ⟨e17, E17⟩ := T.h17
  have r17 := E17.binds (ps := ["value"]) fun _ _ _ _ _ _ us hl => match us, hl with | [_], _ => rfl
  obtain ⟨e18, E18⟩ := T.h18
  have r18 := E18.binds (ps := ["value"]) fun _ _ _ _ _ _ us hl => match us, hl with | [_], _ => rfl
  obtain ⟨e20, E20⟩ := T.h20
  have r20 := E20.binds (ps := ["value"]) fun _ _ _ _ _ _ us hl => match us, hl with | [_], _ => rfl
  obtain ⟨e22, E22⟩ := T.h22
  have r22 := E22.binds (ps := ["function", "values"]) fun _ _ _ _ _ _ us hl => match us, hl with | [_, _], _ => rfl
  obtain ⟨e34, E34⟩ := T.h34
  have r34 := E34.binds (ps := ["value", "depth", "shows"]) fun _ _ _ _ _ _ us hl => match us, hl with | [_, _, _], _ => rfl
  obtain ⟨e35, E35⟩ := T.h35
  have r35 := E35.binds (ps := ["part", "role", "depth", "shows"]) fun _ _ _ _ _ _ us hl => match us, hl with | [_, _, _, _], _ => rfl
  obtain ⟨e36, E36⟩ := T.h36
  have r36 := E36.binds (ps := ["code"]) fun _ _ _ _ _ _ us hl => match us, hl with | [_], _ => rfl
  obtain ⟨e37, E37⟩ := T.h37
  have r37 := E37.binds (ps := ["statement"]) fun _ _ _ _ _ _ us hl => match us, hl with | [_], _ => rfl
  obtain ⟨e38, E38⟩ := T.h38
  have r38 := E38.binds (ps := ["code", "role"]) fun _ _ _ _ _ _ us hl => match us, hl with | [_, _], _ => rfl
  obtain ⟨e39, E39⟩ := T.h39
  have r39 := E39.binds (ps := ["statement", "role"]) fun _ _ _ _ _ _ us hl => match us, hl with | [_, _], _ => rfl
  obtain ⟨e40, E40⟩ := T.h40
  have r40 := E40.binds (ps := ["code", "kind"]) fun _ _ _ _ _ _ us hl => match us, hl with | [_, _], _ => rfl
  obtain ⟨e41, E41⟩ := T.h41
  have r41 := E41.binds (ps := ["statement", "kind"]) fun _ _ _ _ _ _ us hl => match us, hl with | [_, _], _ => rfl
  obtain ⟨e42, E42⟩ := T.h42
  have r42 := E42.binds (ps := ["statement"]) fun _ _ _ _ _ _ us hl => match us, hl with | [_], _ => rfl
  obtain ⟨e51, E51⟩ := T.h51
  have r51 := E51.binds (ps := ["value"]) fun _ _ _ _ _ _ us hl => match us, hl with | [_], _ => rfl
  obtain ⟨e54, E54⟩ := T.h54
  have r54 := E54.binds (ps := ["code"]) fun _ _ _ _ _ _ us hl => match us, hl with | [_], _ => rfl
  obtain ⟨e55, E55⟩ := T.h55
  have r55 := E55.binds (ps := ["value"]) fun _ _ _ _ _ _ us hl => match us, hl with | [_], _ => rfl
  obtain ⟨e60, E60⟩ := T.h60
  have r60 := E60.binds (ps := ["value"]) fun _ _ _ _ _ _ us hl => match us, hl with | [_], _ => rfl
  obtain ⟨e61, E61⟩ := T.h61
  have r61 := E61.binds (ps := ["value"]) fun _ _ _ _ _ _ us hl => match us, hl with | [_], _ => rfl
  obtain ⟨e62, E62⟩ := T.h62
  have r62 := E62.binds (ps := ["letters", "place", "after"]) fun _ _ _ _ _ _ us hl => match us, hl with | [_, _, _], _ => rfl
  obtain ⟨e63, E63⟩ := T.h63
  have r63 := E63.binds (ps := ["accesses", "letters", "indices"]) fun _ _ _ _ _ _ us hl => match us, hl with | [_, _, _], _ => rfl
  obtain ⟨e64, E64⟩ := T.h64
  have r64 := E64.binds (ps := ["walk"]) fun _ _ _ _ _ _ us hl => match us, hl with | [_], _ => rfl
  obtain ⟨e65, E65⟩ := T.h65
  have r65 := E65.binds (ps := ["walk", "cell"]) fun _ _ _ _ _ _ us hl => match us, hl with | [_, _], _ => rfl
  obtain ⟨e66, E66⟩ := T.h66
  have r66 := E66.binds (ps := ["letters", "place"]) fun _ _ _ _ _ _ us hl => match us, hl with | [_, _], _ => rfl
  obtain ⟨e69, E69⟩ := T.h69
  have r69 := E69.binds (ps := ["way", "kind", "cell", "place"]) fun _ _ _ _ _ _ us hl => match us, hl with | [_, _, _, _], _ => rfl
  obtain ⟨e70, E70⟩ := T.h70
  have r70 := E70.binds (ps := ["way", "kind", "cell", "place"]) fun _ _ _ _ _ _ us hl => match us, hl with | [_, _, _, _], _ => rfl
  obtain ⟨e71, E71⟩ := T.h71
  have r71 := E71.binds (ps := ["way", "kind", "cell"]) fun _ _ _ _ _ _ us hl => match us, hl with | [_, _, _], _ => rfl
  obtain ⟨e72, E72⟩ := T.h72
  have r72 := E72.binds (ps := ["way", "kind", "cell"]) fun _ _ _ _ _ _ us hl => match us, hl with | [_, _, _], _ => rfl
  obtain ⟨e73, E73⟩ := T.h73
  have r73 := E73.binds (ps := ["letters", "at", "place"]) fun _ _ _ _ _ _ us hl => match us, hl with | [_, _, _], _ => rfl
  obtain ⟨e74, E74⟩ := T.h74
  have r74 := E74.binds (ps := ["value"]) fun _ _ _ _ _ _ us hl => match us, hl with | [_], _ => rfl
  obtain ⟨e75, E75⟩ := T.h75
  have r75 := E75.binds (ps := ["value"]) fun _ _ _ _ _ _ us hl => match us, hl with | [_], _ => rfl
  obtain ⟨e76, E76⟩ := T.h76
  have r76 := E76.binds (ps := ["value"]) fun _ _ _ _ _ _ us hl => match us, hl with | [_], _ => rfl
  obtain ⟨e77, E77⟩ := T.h77
  have r77 := E77.binds (ps := ["way", "value"]) fun _ _ _ _ _ _ us hl => match us, hl with | [_, _], _ => rfl
  obtain ⟨e79, E79⟩ := T.h79
  have r79 := E79.binds (ps := ["_law_script", "_law_at"]) fun _ _ _ _ _ _ us hl => match us, hl with | [_, _], _ => rfl
  obtain ⟨e80, E80⟩ := T.h80
  have r80 := E80.binds (ps := ["_law_dice_here", "_law_total"]) fun _ _ _ _ _ _ us hl => match us, hl with | [_, _], _ => rfl
  obtain ⟨e81, E81⟩ := T.h81
  have r81 := E81.binds (ps := ["_law_dice_here", "_law_items"]) fun _ _ _ _ _ _ us hl => match us, hl with | [_, _], _ => rfl
  obtain ⟨e82, E82⟩ := T.h82
  have r82 := E82.binds (ps := ["_law_dice_here", "_law_items"]) fun _ _ _ _ _ _ us hl => match us, hl with | [_, _], _ => rfl
  obtain ⟨e83, E83⟩ := T.h83
  have r83 := E83.binds (ps := ["_law_dice_here", "_law_room", "_law_deep"]) fun _ _ _ _ _ _ us hl => match us, hl with | [_, _, _], _ => rfl
  obtain ⟨e84, E84⟩ := T.h84
  have r84 := E84.binds (ps := ["_law_dice_here", "_law_most", "_law_room", "_law_deep"]) fun _ _ _ _ _ _ us hl => match us, hl with | [_, _, _, _], _ => rfl
  obtain ⟨e85, E85⟩ := T.h85
  have r85 := E85.binds (ps := ["_law_dice_here", "_law_most", "_law_letters", "_law_tests"]) fun _ _ _ _ _ _ us hl => match us, hl with | [_, _, _, _], _ => rfl
  obtain ⟨e86, E86⟩ := T.h86
  have r86 := E86.binds (ps := ["_law_code_here", "_law_keeps"]) fun _ _ _ _ _ _ us hl => match us, hl with | [_, _], _ => rfl
  obtain ⟨e87, E87⟩ := T.h87
  have r87 := E87.binds (ps := ["_law_letters", "_law_place", "_law_spot"]) fun _ _ _ _ _ _ us hl => match us, hl with | [_, _, _], _ => rfl
  obtain ⟨e88, E88⟩ := T.h88
  have r88 := E88.binds (ps := ["_law_letters", "_law_accesses", "_law_kind", "_law_cell"]) fun _ _ _ _ _ _ us hl => match us, hl with | [_, _, _, _], _ => rfl
  obtain ⟨e89, E89⟩ := T.h89
  have r89 := E89.binds (ps := ["_law_dice_here"]) fun _ _ _ _ _ _ us hl => match us, hl with | [_], _ => rfl
  obtain ⟨e90, E90⟩ := T.h90
  have r90 := E90.binds (ps := ["_law_script"]) fun _ _ _ _ _ _ us hl => match us, hl with | [_], _ => rfl
  obtain ⟨dC, FC⟩ := T.pcF
  have bC := FC.binds (ps := ["self"]) fun _ _ _ _ _ _ us hl => match us, hl with | [_], _ => rfl
  obtain ⟨dK, FK⟩ := T.pkF
  have bK := FK.binds (ps := ["self"]) fun _ _ _ _ _ _ us hl => match us, hl with | [_], _ => rfl
  obtain ⟨dwP, FwP⟩ := T.wpF
  have bwP := FwP.binds (ps := ["self"]) fun _ _ _ _ _ _ us hl => match us, hl with | [_], _ => rfl
  obtain ⟨dwL, FwL⟩ := T.wlF
  have bwL := FwL.binds (ps := ["self"]) fun _ _ _ _ _ _ us hl => match us, hl with | [_], _ => rfl
  obtain ⟨dwA, FwA⟩ := T.waF
  have bwA := FwA.binds (ps := ["self"]) fun _ _ _ _ _ _ us hl => match us, hl with | [_], _ => rfl
  obtain ⟨ds0, Fs0⟩ := T.sf0
  have bs0 := Fs0.binds (ps := ["self", "stretch", "private", "walk"]) fun _ _ _ _ _ _ us hl => match us, hl with | [_, _, _, _], _ => rfl
  obtain ⟨dr0, Fr0⟩ := T.rf0
  have br0 := Fr0.binds (ps := ["self", "told", "hidden"]) fun _ _ _ _ _ _ us hl => match us, hl with | [_, _, _], _ => rfl
  obtain ⟨dr1, Fr1⟩ := T.rf1
  have br1 := Fr1.binds (ps := ["self", "code"]) fun _ _ _ _ _ _ us hl => match us, hl with | [_, _], _ => rfl
  obtain ⟨dr2, Fr2⟩ := T.rf2
  have br2 := Fr2.binds (ps := ["self", "statement"]) fun _ _ _ _ _ _ us hl => match us, hl with | [_, _], _ => rfl
  obtain ⟨dr3, Fr3⟩ := T.rf3
  have br3 := Fr3.binds (ps := ["self", "name", "cell"]) fun _ _ _ _ _ _ us hl => match us, hl with | [_, _, _], _ => rfl
  obtain ⟨dr4, Fr4⟩ := T.rf4
  have br4 := Fr4.binds (ps := ["self", "cell", "name"]) fun _ _ _ _ _ _ us hl => match us, hl with | [_, _, _], _ => rfl
  obtain ⟨dr5, Fr5⟩ := T.rf5
  have br5 := Fr5.binds (ps := ["self", "name"]) fun _ _ _ _ _ _ us hl => match us, hl with | [_, _], _ => rfl
  obtain ⟨dr6, Fr6⟩ := T.rf6
  have br6 := Fr6.binds (ps := ["self", "letter"]) fun _ _ _ _ _ _ us hl => match us, hl with | [_, _], _ => rfl
  obtain ⟨dr7, Fr7⟩ := T.rf7
  have br7 := Fr7.binds (ps := ["self", "kind", "cell"]) fun _ _ _ _ _ _ us hl => match us, hl with | [_, _, _], _ => rfl
  obtain ⟨dr8, Fr8⟩ := T.rf8
  have br8 := Fr8.binds (ps := ["self", "name"]) fun _ _ _ _ _ _ us hl => match us, hl with | [_, _], _ => rfl
  obtain ⟨dr9, Fr9⟩ := T.rf9
  have br9 := Fr9.binds (ps := ["self", "cell", "chain"]) fun _ _ _ _ _ _ us hl => match us, hl with | [_, _, _], _ => rfl
  obtain ⟨e33, E33⟩ := T.h33
  have r33 : Binds K e33 ["value", "depth", "shows"] [] := by
    obtain ⟨ds, hv, hb⟩ := E33.binds1 (ps := ["value", "depth", "shows"]) 3 1 (by simp) rfl fun T kV doc pm an cdv ct us its h1 h2 => match us, its, h1, h2 with
      | [_, _, _], [_], _, _ => ⟨_, rfl, rfl⟩
    cases hv
    exact hb
  have r33d : ∃ ds, Vals [V.bl false] ds ∧ Binds K e33 ["value", "depth", "shows"] ds := E33.binds1 (ps := ["value", "depth", "shows"]) 2 0 (by simp) rfl fun T kV doc pm an cdv ct us its h1 h2 => match us, its, h1, h2 with
    | [_, _], [_], _, _ => ⟨_, rfl, rfl⟩
  obtain ⟨d0, F0⟩ := T.m0
  obtain ⟨dS, FS⟩ := T.mS
  have b0 : Binds K d0 ["self", "why"] [] := by
    obtain ⟨ds, hv, hb⟩ := F0.binds1 (ps := ["self", "why"]) 2 1 (by simp) rfl fun T kV doc pm an cdv ct us its h1 h2 => match us, its, h1, h2 with
      | [_, _], [_], _, _ => ⟨_, rfl, rfl⟩
    cases hv
    exact hb
  have bS : Binds K dS ["self", "code", "keeps"] [] := by
    obtain ⟨ds, hv, hb⟩ := FS.binds1 (ps := ["self", "code", "keeps"]) 3 1 (by simp) rfl fun T kV doc pm an cdv ct us its h1 h2 => match us, its, h1, h2 with
      | [_, _, _], [_], _, _ => ⟨_, rfl, rfl⟩
    cases hv
    exact hb
  have bS1 : ∃ ds, Vals [V.ref aS] ds ∧ Binds K dS ["self", "code", "keeps"] ds := FS.binds1 (ps := ["self", "code", "keeps"]) 2 0 (by simp) rfl fun T kV doc pm an cdv ct us its h1 h2 => match us, its, h1, h2 with
    | [_, _], [_], _, _ => ⟨_, rfl, rfl⟩
  obtain ⟨e57, E57⟩ := T.h57
  obtain ⟨dv57, hv57, b57⟩ : ∃ ds, Vals [V.ref aP] ds ∧ Binds K e57 ["stretch", "answers", "private"] ds := E57.binds0 (ps := ["stretch", "answers", "private"]) 2 (by simp) rfl fun D doc pm an cdv ct us ks h1 h2 => match us, ks, h1, h2 with
    | [_, _], [_], _, _ => ⟨_, _, _, _, _, _, rfl, rfl, rfl⟩
  have gi : ∀ {x : Str} {i : Int}, (∃ t, PySem.W.nsIn K mainGlobals x = some (some (.int i t))) → ∃ t, mg x = some (.int i t) := fun ⟨t, e⟩ => ⟨t, gl e⟩
  have TD : TxtD mg := ⟨no _ (by decide), no _ (by decide), no _ (by decide)⟩
  have TN : TxtN K mg := ⟨no _ (by decide), no _ (by decide), no _ (by decide), no _ (by decide), gi T.iMAX_LETTERS, by
    obtain ⟨t, e⟩ := T.lets
    exact ⟨t, gl e⟩, ⟨aW, gl T.words, fun H => tupB_ok T.wordsT H⟩⟩
  have TF : TxtF K w mg := by
    obtain ⟨es, n, kd⟩ := He.dicW_ok T.formsD
    exact ⟨no _ (by decide), no _ (by decide), gi T.iMAX_REGISTERS, ⟨dF, es, n, gl T.forms, kd, fun z hz => keysB_ok T.formsK hz, fun z rs hz => formsB_ok T.formsV hz⟩⟩
  have CD : CovD K w mg := by
    obtain ⟨es, n, kd⟩ := He.dicW_ok T.covgD
    refine ⟨cvD, gl T.covg, fun kind hk => ?_⟩
    obtain ⟨a, ha, hs⟩ := covgB_ok (z := kind) T.covgV (by rcases hk with rfl | rfl <;> decide)
    exact ⟨a, ⟨es, n, _, kd.at_, kd.lit, ha, rfl⟩, hs⟩
  have TS : TxtS mg := ⟨no _ (by decide), no _ (by decide), no _ (by decide), no _ (by decide), no _ (by decide)⟩
  have TB : TxtB mg := ⟨gi T.iMAX_STATEMENTS, gi T.iMAX_CELLS, gi T.iMAX_LETTERS_SENT, gi T.iMAX_SETS, gi T.iMAX_TESTS⟩
  have CF : CodeF K mg (g 33) (g 34) (g 35) (g 17) e33 e34 e35 e17 := ⟨E33, E34, E35, E17, gl T.n33, gl T.n34, gl T.n35, gl T.n17, r33, r33d, r34, r35, r17, TN⟩
  have DF : DiceF K mg (g 80) (g 81) e80 e81 := ⟨E80, E81, gl T.n80, gl T.n81, r80, r81, TD⟩
  have DC : DCodeF K mg (g 80) (g 81) (g 84) (g 83) e80 e81 e84 e83 := ⟨DF, E84, E83, gl T.n84, gl T.n83, r84, r83, no _ (by decide), no _ (by decide)⟩
  have FF : FlatF K mg (g 36) (g 37) (g 39) e36 e37 e39 := ⟨E36, E37, E39, gl T.n36, gl T.n37, gl T.n39, r36, r37, r39⟩
  have MF : MostF K mg (g 40) (g 41) (g 42) e40 e41 e42 := ⟨E40, E41, E42, gl T.n40, gl T.n41, gl T.n42, r40, r41, r42⟩
  obtain ⟨ST, MS⟩ := strB_ok (mg := mg) T.strOk
  have ci : ∀ {D : Addr}, Cls K D → strC K D = true → ClsI K D := fun {D} c sc => by
    unfold strC at sc
    simp only [Bool.and_eq_true, decide_eq_true_eq] at sc
    obtain ⟨s1', s2', s3', s4', s5'⟩ := sc
    exact ⟨c, s1', s2', s3', s4', s5'⟩
  have IS : ClsI K C := ci ST.cl T.strCk
  have SC : StrC K mg C fS aS dS := ⟨ST, MS, gl T.stretch, bS1, T.emp, IS.ha, IS.hn, IS.htk, IS.hm, IS.kit⟩
  obtain ⟨rc, rm, ra⟩ := clsB_ok T.rB
  obtain ⟨xc, xm, xa⟩ := clsB_ok T.sB
  have IW : ClsI K CW := ci xc T.wyC
  have RW : WkC K CR := ⟨rc, ra⟩
  have YW : WyC K CW := ⟨IW, xa⟩
  have mt : ∀ {D : Addr} {m : Str} {f : Addr}, PySem.W.findIn K (.ref D) m = some (some (.ref f)) → methB K f = true → Meth K D m f := fun e h => ⟨e, (methB_ok h).1, (methB_ok h).2⟩
  refine ⟨e90, fun s u => ?_, fun base KB GB hs => ?_⟩
  · obtain ⟨oc, od, kV, doc, pm, an, cv, ct, osl, rfl, lk, hcd⟩ := E90.ex
    exact .of_eq rfl
  · have G0 : True := trivial
    have G17 : FnOk l.prog w K mg base CX0 1 (g 17) e17 ["value"] spName := ok_isname E17 TN
    have N17 : CallN l.prog w K mg base "is_name" 1 ["value"] spName := ⟨g 17, e17, gl T.n17, E17.kp, r17, G17⟩
    have GIC : FnOk l.prog w K mg base CX0 14 (g 51) e51 ["value"] spIsCode := ok_iscode E51 CF TF (gi T.iMAX_DEPTH)
    have GI0 : FnOk l.prog w K mg base CX0 1 f0 d0 ["self", "why"] (spI0 K "ValueError") := ok_iM F0 ⟨no _ (by decide), T.bV⟩
    have GB' : FnOk l.prog w K mg base CX0 10 (g 54) e54 ["code"] spBnd := ok_bounded E54 TF TS TB FF MF (gl T.n38) E38 r38
    have GK : FnOk l.prog w K mg base CX0 3 (g 55) e55 ["value"] spKept := ok_kept E55 TN TF (gl T.n17) E17 r17 (gl T.n18) E18 r18 (gi T.iMAX_KEPT)
    have GK0 : FnOk l.prog w K mg base CX0 3 (g 55) e55 ["value"] (spKept0 K) := ok_kept0 E55 TN TF (gl T.n17) E17 r17 (gl T.n18) E18 r18 (gi T.iMAX_KEPT)
    have GS0' : FnOk l.prog w K mg base CX0 2 (g 18) e18 ["value"] (spSet0 K) := ok_isset0 E18 TN TF (gl T.n17) E17 r17
    have GS : FnOk l.prog w K mg base (L2.CX l.prog w) 15 fS dS ["self", "code", "keeps"] (spSI C c1) := ok_sinit FS ST T.k1 (gl T.kc1) GI0 b0 (gl T.n51) E51.kp r51 GIC (gl T.n54) E54.kp r54 GB' (gl T.n55) E55.kp r55 GK
    have GS0 : FnOk l.prog w K mg base (L2.CX l.prog w) 15 fS dS ["self", "code", "keeps"] (spSI0 K C c1) := ok_sinit0 FS ST T.k1 (gl T.kc1) GI0 b0 (gl T.n51) E51.kp r51 GIC (gl T.n54) E54.kp r54 GB' (gl T.n55) E55.kp r55 GK0
    have PC : PropM l.prog w K mg base C "code" 1 (getSp C "_code") := ⟨_, _, _, T.pcP, by
      obtain ⟨oc, od, kV, doc, pm, an, cv, ct, osl, rfl, lk, hcd⟩ := FC.ex
      exact fn_getter (N := ["self"]) lk hcd ⟨rfl, rfl, rfl, by decide +kernel, rfl, by decide +kernel, by decide +kernel⟩ rfl rfl ST.cl ST.nc, bC⟩
    have PK : PropM l.prog w K mg base C "keeps" 1 (getSp C "_keeps") := ⟨_, _, _, T.pkP, by
      obtain ⟨oc, od, kV, doc, pm, an, cv, ct, osl, rfl, lk, hcd⟩ := FK.ex
      exact fn_getter (N := ["self"]) lk hcd ⟨rfl, rfl, rfl, by decide +kernel, rfl, by decide +kernel, by decide +kernel⟩ rfl rfl ST.cl ST.nk, bK⟩
    have PWp : PropM l.prog w K mg base CW "private" 1 (getSp CW "_private") := ⟨_, _, _, T.wpP, by
      obtain ⟨oc, od, kV, doc, pm, an, cv, ct, osl, rfl, lk, hcd⟩ := FwP.ex
      exact fn_getter (N := ["self"]) lk hcd ⟨rfl, rfl, rfl, by decide +kernel, rfl, by decide +kernel, by decide +kernel⟩ rfl rfl xc (xa _ (by simp)), bwP⟩
    have PWl : PropM l.prog w K mg base CW "letters" 1 (getSp CW "_letters") := ⟨_, _, _, T.wlP, by
      obtain ⟨oc, od, kV, doc, pm, an, cv, ct, osl, rfl, lk, hcd⟩ := FwL.ex
      exact fn_getter (N := ["self"]) lk hcd ⟨rfl, rfl, rfl, by decide +kernel, rfl, by decide +kernel, by decide +kernel⟩ rfl rfl xc (xa _ (by simp)), bwL⟩
    have PWa : PropM l.prog w K mg base CW "accesses" 1 (getSp CW "_accesses") := ⟨_, _, _, T.waP, by
      obtain ⟨oc, od, kV, doc, pm, an, cv, ct, osl, rfl, lk, hcd⟩ := FwA.ex
      exact fn_getter (N := ["self"]) lk hcd ⟨rfl, rfl, rfl, by decide +kernel, rfl, by decide +kernel, by decide +kernel⟩ rfl rfl xc (xa _ (by simp)), bwA⟩
    have WF : WayF l.prog w K mg base CW := ⟨IW, PWp, PWl, PWa⟩
    have G60 : FnOk l.prog w K mg base CX0 1 (g 60) e60 ["value"] (spChS C) := ok_chs E60 IS (gl T.stretch) (no _ (by decide))
    have N60 : CallN l.prog w K mg base "check_stretch" 1 ["value"] (spChS C) := ⟨g 60, e60, gl T.n60, E60.kp, r60, G60⟩
    have G61 : FnOk l.prog w K mg base CX0 3 (g 61) e61 ["value"] (spChP K) := ok_chp E61 (gl T.n18) E18.kp r18 GS0'
    have N61 : CallN l.prog w K mg base "check_private" 3 ["value"] (spChP K) := ⟨g 61, e61, gl T.n61, E61.kp, r61, G61⟩
    have G20 : FnOk l.prog w K mg base CX0 1 (g 20) e20 ["value"] spAns0 := ok_ans0 E20 (no _ (by decide)) (no _ (by decide)) (no _ (by decide))
    have N20 : CallN l.prog w K mg base "is_answers" 1 ["value"] spAns0 := ⟨g 20, e20, gl T.n20, E20.kp, r20, G20⟩
    have G62 : FnOk l.prog w K mg base CX0 1 (g 62) e62 ["letters", "place", "after"] (spCcb K) := ok_ccb E62
    have N62 : CallN l.prog w K mg base "can_come_between" 1 ["letters", "place", "after"] (spCcb K) := ⟨g 62, e62, gl T.n62, E62.kp, r62, G62⟩
    have G22 : FnOk l.prog w K mg base CX0 1 (g 22) e22 ["function", "values"] (spWrit K) := ok_writ E22
    have N22 : CallN l.prog w K mg base "written" 1 ["function", "values"] (spWrit K) := ⟨g 22, e22, gl T.n22, E22.kp, r22, G22⟩
    have M8 : MethN l.prog w K mg base CR "worth" 1 ["self", "name"] (spWorth K CR) := ⟨r8, dr8, mt T.re8 T.rb8, br8, ok_worth Fr8 RW⟩
    have M9 : MethN l.prog w K mg base CR "content" 1 ["self", "cell", "chain"] (spContent K CR) := ⟨r9, dr9, mt T.re9 T.rb9, br9, ok_content Fr9 RW⟩
    have M6 : MethN l.prog w K mg base CR "add_letter" 1 ["self", "letter"] (spAddL K CR) := ⟨r6, dr6, mt T.re6 T.rb6, br6, ok_addL Fr6 RW⟩
    have M7 : MethN l.prog w K mg base CR "next_chain" 2 ["self", "kind", "cell"] (spNextC K CR) := ⟨r7, dr7, mt T.re7 T.rb7, br7, ok_nextC Fr7 RW (no _ (by decide)) (gl T.n62) E62.kp r62 G62⟩
    have WK : WkF l.prog w K mg base CR := ⟨RW, no _ (by decide), M8, M9, M6, M7⟩
    have M5 : MethN l.prog w K mg base CR "do_get" 2 ["self", "name"] (spDoG K CR) := ⟨r5, dr5, mt T.re5 T.rb5, br5, ok_doG Fr5 WK⟩
    have M3 : MethN l.prog w K mg base CR "do_read" 3 ["self", "name", "cell"] (spDoR K CR) := ⟨r3, dr3, mt T.re3 T.rb3, br3, ok_doR Fr3 WK⟩
    have M4 : MethN l.prog w K mg base CR "do_write" 3 ["self", "cell", "name"] (spDoW K CR) := ⟨r4, dr4, mt T.re4 T.rb4, br4, ok_doW Fr4 WK⟩
    have M2 : MethN l.prog w K mg base CR "do" 4 ["self", "statement"] (spDo K CR) := ⟨r2, dr2, mt T.re2 T.rb2, br2, ok_do Fr2 WK M3 M4 M5 N22⟩
    have M1 : MethN l.prog w K mg base CR "go" 5 ["self", "code"] (spGo K CR) := ⟨r1, dr1, mt T.re1 T.rb1, br1, ok_go Fr1 RW (no _ (by decide)) M2⟩
    have GW0 : FnOk l.prog w K mg base CX0 1 r0 dr0 ["self", "told", "hidden"] (spWIn K CR) := ok_win Fr0 RW
    have G66 : FnOk l.prog w K mg base CX0 1 (g 66) e66 ["letters", "place"] (spNextP K) := ok_nextP E66 (no _ (by decide)) (no _ (by decide)) (no _ (by decide))
    have N66 : CallN l.prog w K mg base "_next_put" 1 ["letters", "place"] (spNextP K) := ⟨g 66, e66, gl T.n66, E66.kp, r66, G66⟩
    have G63 : FnOk l.prog w K mg base CX0 2 (g 63) e63 ["accesses", "letters", "indices"] (spChained K) := ok_chained E63 (no _ (by decide)) (gl T.n62) E62.kp r62 G62
    have N63 : CallN l.prog w K mg base "chained" 2 ["accesses", "letters", "indices"] (spChained K) := ⟨g 63, e63, gl T.n63, E63.kp, r63, G63⟩
    have G65 : FnOk l.prog w K mg base CX0 3 (g 65) e65 ["walk", "cell"] (spLeftIn K CR) := ok_leftIn E65 RW (no _ (by decide)) (gl T.n63) E63.kp r63 G63 (gl T.n66) E66.kp r66 G66
    have N65 : CallN l.prog w K mg base "_left_in" 3 ["walk", "cell"] (spLeftIn K CR) := ⟨g 65, e65, gl T.n65, E65.kp, r65, G65⟩
    have G64 : FnOk l.prog w K mg base CX0 4 (g 64) e64 ["walk"] (spLeftBy K CR) := ok_leftBy E64 RW (no _ (by decide)) (no _ (by decide)) (no _ (by decide)) M9 (gl T.n65) E65.kp r65 G65
    have N64 : CallN l.prog w K mg base "_left_by" 4 ["walk"] (spLeftBy K CR) := ⟨g 64, e64, gl T.n64, E64.kp, r64, G64⟩
    have GY0 : FnOk l.prog w K mg base CX0 5 s0 ds0 ["self", "stretch", "private", "walk"] (spWayIn K C CR CW) := ok_wayIn Fs0 RW YW ST.cl (no _ (by decide)) (no _ (by decide)) PK M8 N64
    have FO : FolF l.prog w K mg base C CR CW := {
      R := RW
      Y := YW
      clS := ST.cl
      chs := N60
      ans := N20
      chp := N61
      code := PC
      go := M1
      win := ⟨r0, dr0, rm, gl T.rg, br0, GW0⟩
      yin := ⟨s0, ds0, xm, gl T.sg, bs0, GY0⟩ }
    have G57 : FnOk l.prog w K mg base CX0 7 (g 57) e57 ["stretch", "answers", "private"] (spFollow K C CW) := ok_follow E57 FO
    have G16 : FnOk l.prog w K mg base CX0 1 (g 16) e16 ["value"] spWhole := ok_whole E16 (no _ (by decide)) (no _ (by decide)) (no _ (by decide))
    have N16 : CallN l.prog w K mg base "is_whole" 1 ["value"] spWhole := ⟨g 16, e16, gl T.n16, E16.kp, r16, G16⟩
    have G15 : FnOk l.prog w K mg base CX0 2 (g 15) e15 ["value", "low", "high"] spNumber := ok_number E15 (gl T.n16) E16.kp r16 G16
    have N15 : CallN l.prog w K mg base "is_number" 2 ["value", "low", "high"] spNumber := ⟨g 15, e15, gl T.n15, E15.kp, r15, G15⟩
    have G73 : FnOk l.prog w K mg base CX0 1 (g 73) e73 ["letters", "at", "place"] (spNear K) := ok_near1 E73 (no _ (by decide))
    have N73 : CallN l.prog w K mg base "_is_near" 1 ["letters", "at", "place"] (spNear K) := ⟨g 73, e73, gl T.n73, E73.kp, r73, G73⟩
    have G74 : FnOk l.prog w K mg base CX0 1 (g 74) e74 ["value"] (spChS CW) := ok_chw E74 IW (gl T.sg) (no _ (by decide))
    have N74 : CallN l.prog w K mg base "_check_way" 1 ["value"] (spChS CW) := ⟨g 74, e74, gl T.n74, E74.kp, r74, G74⟩
    have G75 : FnOk l.prog w K mg base CX0 1 (g 75) e75 ["value"] spChK := ok_chk E75
    have N75 : CallN l.prog w K mg base "_check_kind" 1 ["value"] spChK := ⟨g 75, e75, gl T.n75, E75.kp, r75, G75⟩
    have G76 : FnOk l.prog w K mg base CX0 2 (g 76) e76 ["value"] spChC := ok_chc E76 N17
    have N76 : CallN l.prog w K mg base "_check_cell" 2 ["value"] spChC := ⟨g 76, e76, gl T.n76, E76.kp, r76, G76⟩
    have G77 : FnOk l.prog w K mg base CX0 3 (g 77) e77 ["way", "value"] (spChPl K CW) := ok_chpl E77 WF (no _ (by decide)) N15
    have N77 : CallN l.prog w K mg base "_check_place" 3 ["way", "value"] (spChPl K CW) := ⟨g 77, e77, gl T.n77, E77.kp, r77, G77⟩
    have G72 : FnOk l.prog w K mg base CX0 3 (g 72) e72 ["way", "kind", "cell"] (spIdx K CW) := ok_idx E72 WF CD (no _ (by decide))
    have N72 : CallN l.prog w K mg base "_indices" 3 ["way", "kind", "cell"] (spIdx K CW) := ⟨g 72, e72, gl T.n72, E72.kp, r72, G72⟩
    have CV : CvF l.prog w K mg base CW := ⟨WF, N74, N75, N76, N77, N72, N73, no _ (by decide), no _ (by decide), no _ (by decide)⟩
    have G69 : FnOk l.prog w K mg base CX0 4 (g 69) e69 ["way", "kind", "cell", "place"] (spCvg K CW) := ok_cvg E69 CV
    have N69 : CallN l.prog w K mg base "covering" 4 ["way", "kind", "cell", "place"] (spCvg K CW) := ⟨g 69, e69, gl T.n69, E69.kp, r69, G69⟩
    have G70 : FnOk l.prog w K mg base CX0 5 (g 70) e70 ["way", "kind", "cell", "place"] (spIsCv K CW) := ok_iscv E70 WF N69
    have N70 : CallN l.prog w K mg base "is_covered" 5 ["way", "kind", "cell", "place"] (spIsCv K CW) := ⟨g 70, e70, gl T.n70, E70.kp, r70, G70⟩
    have G71 : FnOk l.prog w K mg base CX0 6 (g 71) e71 ["way", "kind", "cell"] (spCvP K CW) := ok_cvp E71 CV N70
    have N71 : CallN l.prog w K mg base "covered_places" 6 ["way", "kind", "cell"] (spCvP K CW) := ⟨g 71, e71, gl T.n71, E71.kp, r71, G71⟩
    have G85 : FnOk l.prog w K mg base CX0 9 (g 85) e85 ["_law_dice_here", "_law_most", "_law_letters", "_law_tests"] spStretch := ok_stretch E85 DC E82 (gl T.n82) r82 (no _ (by decide)) (no _ (by decide))
    have N85 : CallN l.prog w K mg base "_law_stretch" 9 ["_law_dice_here", "_law_most", "_law_letters", "_law_tests"] spStretch := ⟨g 85, e85, gl T.n85, E85.kp, r85, G85⟩
    have G86 : FnOk l.prog w K mg base CX0 17 (g 86) e86 ["_law_code_here", "_law_keeps"] (spMade C) := ok_made E86 SC bS GS
    have N86 : CallN l.prog w K mg base "_law_made" 17 ["_law_code_here", "_law_keeps"] (spMade C) := ⟨g 86, e86, gl T.n86, E86.kp, r86, G86⟩
    have G87 : FnOk l.prog w K mg base CX0 1 (g 87) e87 ["_law_letters", "_law_place", "_law_spot"] (spOrd K) := ok_ord E87 (no _ (by decide))
    have N87 : CallN l.prog w K mg base "_law_is_ordered" 1 ["_law_letters", "_law_place", "_law_spot"] (spOrd K) := ⟨g 87, e87, gl T.n87, E87.kp, r87, G87⟩
    have G88 : FnOk l.prog w K mg base CX0 2 (g 88) e88 ["_law_letters", "_law_accesses", "_law_kind", "_law_cell"] (spTch K) := ok_tch E88 (no _ (by decide)) (no _ (by decide)) N87
    have N88 : CallN l.prog w K mg base "_law_touches" 2 ["_law_letters", "_law_accesses", "_law_kind", "_law_cell"] (spTch K) := ⟨g 88, e88, gl T.n88, E88.kp, r88, G88⟩
    have G79 : FnOk l.prog w K mg base CX0 1 (g 79) e79 ["_law_script", "_law_at"] (spDice K) := ok_dice E79 TD
    have N79 : CallN l.prog w K mg base "_law_dice" 1 ["_law_script", "_law_at"] (spDice K) := ⟨g 79, e79, gl T.n79, E79.kp, r79, G79⟩
    have LL : Law14 l.prog w K mg base C CW := {
      W := WF
      stretch := N85
      made := N86
      follow := ⟨g 57, e57, aP, dv57, gl T.n57, E57.kp, hv57, b57, T.empP, G57⟩
      ord := N87
      tch := N88
      cvp := N71
      rng := no _ (by decide)
      ln := no _ (by decide) }
    have G89 : FnOk l.prog w K mg base CX0 18 (g 89) e89 ["_law_dice_here"] spRt14 := ok_rt14 E89 LL
    have N89 : CallN l.prog w K mg base "_law_right" 18 ["_law_dice_here"] spRt14 := ⟨g 89, e89, gl T.n89, E89.kp, r89, G89⟩
    exact ok_law14 (cS := c1) E90 {
      L := LL
      S := ⟨fS, aS, dS, SC, GS0⟩
      dice := N79
      right := N89
      max := no _ (by decide)
      min := no _ (by decide) }
end OM

namespace OM
open PySem PySem.Spec PyProof.Rows L2
/-! ### the head's facts, by a hook -/
def obsM (fn : List He5.DefA) (ts : List He.Tab) (ex : PySem.W.Frag → List Bool) (K : PySem.W.Frag) : (Bool × List He.FnW) × List (Option (List (Option (Str × Int)))) :=
  (((ex K).all id && fn.all fun d => d.ok K, fn.map fun d => He5.fnA K (d.at_ K)), ts.map fun t => He.dicW K (t.1 K))
def valM (fn : List He5.DefA) (ts : List He.Tab) (w : World) : (Bool × List He.FnW) × List (Option (List (Option (Str × Int)))) := ((true, fn.map He5.DefA.val), ts.map fun t => some (He.keysIn w.params t.2))
def hookM (need : (Addr → Option Obj) → List Addr) (fn : List He5.DefA) (ts : List He.Tab) (ex : PySem.W.Frag → List Bool) : PySem.W.Hook where
  α := (Bool × List He.FnW) × List (Option (List (Option (Str × Int))))
  obs := fun s => obsM fn ts ex (He.frG s.heap.get? (need s.heap.get?))
  val := fun w => valM fn ts w
  says := fun w h => ∃ K : PySem.W.Frag, K.In h ∧ obsM fn ts ex K = valM fn ts w
  of := fun _ _ e => ⟨_, He.frG_in, e⟩
  keeps := fun _ _ _ ⟨K, hK, c⟩ k => ⟨K, PySem.W.Frag.In.keeps hK k, c⟩
section
variable {fn : List He5.DefA} {ts : List He.Tab} {ex : PySem.W.Frag → List Bool} {K : PySem.W.Frag} {w : World}
theorem says_ex (c : obsM fn ts ex K = valM fn ts w) : ∀ (i : Nat) (b : Bool), (ex K)[i]? = some b → b = true := fun i b h => by
  have c1 : ((ex K).all id && fn.all fun d => d.ok K) = true := congrArg (fun z => z.1.1) c
  exact List.all_eq_true.mp (Bool.and_eq_true_iff.mp c1).1 b (List.mem_of_getElem? h)
theorem says_fn (c : obsM fn ts ex K = valM fn ts w) : ∀ (i : Nat) (d : He5.DefA), fn[i]? = some d → ∃ fd, FunD K d.name d.qual d.params d.body d.scope (d.dvs K) (d.kws K) (d.at_ K) fd := fun i d h => by
  have c1 : ((ex K).all id && fn.all fun d => d.ok K) = true := congrArg (fun z => z.1.1) c
  have e : fn.map (fun d => He5.fnA K (d.at_ K)) = fn.map He5.DefA.val := congrArg (fun z => z.1.2) c
  have e2 : (fn.map fun d => He5.fnA K (d.at_ K))[i]? = (fn.map He5.DefA.val)[i]? := by rw [e]
  rw [List.getElem?_map, List.getElem?_map, h] at e2
  exact He5.DefA.funD (Option.some.inj e2) (List.all_eq_true.mp (Bool.and_eq_true_iff.mp c1).2 d (List.mem_of_getElem? h))
theorem says_tab (c : obsM fn ts ex K = valM fn ts w) : ∀ (i : Nat) (t : He.Tab), ts[i]? = some t → He.dicW K (t.1 K) = some (He.keysIn w.params t.2) := fun i t h => by
  have e : ts.map (fun t => He.dicW K (t.1 K)) = ts.map fun t => some (He.keysIn w.params t.2) := congrArg (fun z => z.2) c
  have e2 : (ts.map fun t => He.dicW K (t.1 K))[i]? = (ts.map fun t => some (He.keysIn w.params t.2))[i]? := by rw [e]
  rw [List.getElem?_map, List.getElem?_map, h] at e2
  exact Option.some.inj e2
end
def intB (K : PySem.W.Frag) (x : Str) (v : Int) : Bool := match PySem.W.nsIn K mainGlobals x with
  | some (some (.int i _)) => decide (i = v)
  | _ => false
theorem intB_ok {K : PySem.W.Frag} {x : Str} {v : Int} (h : intB K x v = true) : ∃ t, PySem.W.nsIn K mainGlobals x = some (some (.int v t)) := by
  unfold intB at h
  split at h
  · rename_i i t e
    rw [e, of_decide_eq_true h]
    exact ⟨t, rfl⟩
  · cases h
def strG (K : PySem.W.Frag) (x z : Str) : Bool := match PySem.W.nsIn K mainGlobals x with
  | some (some (.str y _)) => decide (y = z)
  | _ => false
theorem strG_ok {K : PySem.W.Frag} {x z : Str} (h : strG K x z = true) : ∃ t, PySem.W.nsIn K mainGlobals x = some (some (.str z t)) := by
  unfold strG at h
  split at h
  · rename_i y t e
    rw [e, of_decide_eq_true h]
    exact ⟨t, rfl⟩
  · cases h
def empB (K : PySem.W.Frag) (a : Addr) : Bool := match K.lookup a with
  | some ⟨.type t, _, .seq its _, _⟩ => decide (t = "tuple") && its.toList.isEmpty
  | _ => false
theorem empB_ok {K : PySem.W.Frag} {a : Addr} (h : empB K a = true) : Emp K a := by
  unfold empB at h
  split at h
  · rename_i t od its n sl e
    obtain ⟨h1, h2⟩ := Bool.and_eq_true_iff.mp h
    obtain ⟨l⟩ := its
    have l0 : l = [] := List.isEmpty_iff.mp h2
    subst l0
    exact ⟨_, n, e, congrArg Value.type (of_decide_eq_true h1), rfl⟩
  · cases h
/-- the getter of the property at p -/
def propG (K : PySem.W.Frag) (p : Addr) : Addr := match K.lookup p with
  | some ⟨_, _, .fields vs, _⟩ => (match vs.toList with
    | .ref g :: _ => g
    | _ => 0)
  | _ => 0
def propB (K : PySem.W.Frag) (C : Addr) (f : Str) : Bool := He.eqO (PySem.W.findIn K (.ref C) f) (some (some (.ref (He.ma K C f)))) && (decide (PySem.W.specialIn K (.ref (He.ma K C f)) "__get__" = some (some (.builtin "property.__get__"))) && (decide (PySem.W.takesIn K (.ref (He.ma K C f)) = some true) &&
  (match K.lookup (He.ma K C f) with
    | some ⟨.type t, _, .fields vs, _⟩ => decide (t = "property") && (match vs.toList with
      | .ref _ :: _ => true
      | _ => false)
    | _ => false)))
theorem propB_ok {K : PySem.W.Frag} {C : Addr} {f : Str} (h : propB K C f = true) : PropOf K C f (He.ma K C f) (propG K (He.ma K C f)) := by
  unfold propB at h
  simp only [Bool.and_eq_true] at h
  obtain ⟨h1, h2, h3, h4⟩ := h
  unfold propG
  split at h4
  · rename_i t od vs sl e
    rw [e]
    dsimp only
    obtain ⟨h5, h6⟩ := Bool.and_eq_true_iff.mp h4
    have ht := of_decide_eq_true h5
    subst ht
    split at h6
    · rename_i g rest ev
      exact prop_mk (He.eqO_ok h1) e ev h2 h3
    · cases h6
  · cases h4
/-- a keyword-only default that is an object -/
def kwAt (x y : Str) (K : PySem.W.Frag) : Addr := match K.lookup (He.ga K x) with
  | some ⟨_, _, .func fd, _⟩ => (match fd.kwdefaults with
    | .ref D => (match PySem.W.nsIn K D y with
      | some (some (.ref a)) => a
      | _ => 0)
    | _ => 0)
  | _ => 0
def veTail : List Value := [.type "ValueError", .type "Exception", .type "BaseException", .type "object"]
def excB (K : PySem.W.Frag) (C : Addr) : Bool := match K.lookup C with
  | some ⟨.type t, _, .cls cd, ⟨[_, _, _, _, some (.builtin b), _]⟩⟩ => decide (t = "type") && (decide (b = "ValueError.__new__") && (decide (cd.mro.head? = some (.ref C)) && (cd.hasDict && (!cd.hasDel && refsT veTail cd.mro.tail))))
  | _ => false
def excC (K : PySem.W.Frag) (C f : Addr) : Bool := He.eqO (PySem.W.findIn K (.ref C) "__setattr__") (some (some (.builtin "object.__setattr__"))) && (decide (PySem.W.subIn K (.ref C) (.type "BaseException") = some true) && (decide (PySem.W.typeIn K (.ref C) = some (.type "type")) &&
  (PySem.W.keepIn K (.ref C) && (He.eqO (PySem.W.findIn K (.ref C) "__init__") (some (some (.ref f))) && decide (PySem.W.typeIn K (.ref f) = some (.type "function"))))))
section
variable {K : PySem.W.Frag} {C fI : Addr} {B nI iI : String} {tail : List Value} {nq q : Str} {N : Addr} {bs bm : List Value} {sn : List Str} {sub : List Value} {ab : Bool} {col : Option Bool} {dd : Option Addr} {k0 k1 k2 k3 k5 : Option Value} {x y : Str}
theorem kc_mk3 (Y : BaseX B nI iI tail) (lk : K.lookup C = some (excClassObj nq q C N bs bm true sn sub ab col dd k0 k1 k2 k3 k5 nI)) (rt : refsT tail bm = true) (sa : PySem.W.findIn K (.ref C) "__setattr__" = some (some (.builtin "object.__setattr__")))
    (ex : PySem.W.subIn K (.ref C) (.type "BaseException") = some true) (ty : PySem.W.typeIn K (.ref C) = some (.type "type")) (kp : PySem.W.keepIn K (.ref C) = true) (ic : PySem.W.findIn K (.ref C) "__init__" = some (some (.ref fI)))
    (ti : PySem.W.typeIn K (.ref fI) = some (.type "function")) (hb : tail.contains (.type B) = true) : KCls K C fI B [] :=
  ⟨⟨tail, ⟨⟨⟨_, _, _, _, _, _, _, _, _, _, _, _, _, _, _, _, _, _, Y, lk, rt⟩, sa, ex, ty, kp⟩, ic, ti⟩, hb⟩, fun _ h => (nomatch h)⟩
end
theorem exc_kc {K : PySem.W.Frag} {C f : Addr} (h : excB K C = true) (h2 : excC K C f = true) : KCls K C f "ValueError" [] := by
  unfold excC at h2
  simp only [Bool.and_eq_true] at h2
  obtain ⟨a1, a2, a3, a4, a5, a6⟩ := h2
  unfold excB at h
  split at h
  · rename_i t od cd k0 k1 k2 k3 b k5 e
    simp only [Bool.and_eq_true, decide_eq_true_eq, Bool.not_eq_true'] at h
    obtain ⟨b1, b2, b3, b4, b5, b6⟩ := h
    subst b1 b2
    have ec : cd = { name := cd.name, bases := cd.bases, mro := .ref C :: cd.mro.tail, ns := cd.ns, qualname := cd.qualname, hasDict := true, slotNames := cd.slotNames, subclasses := cd.subclasses, abstract := cd.abstract, collection := cd.collection, hasDel := false } := by
      have em : cd.mro = .ref C :: cd.mro.tail := by
        cases q : cd.mro with
        | nil => rw [q] at b3; cases b3
        | cons x r =>
          rw [q] at b3
          cases b3
          rfl
      rw [← em, ← b4, ← b5]
    rw [ec] at e
    exact kc_mk3 (bm := cd.mro.tail) base_VE e b6 (He.eqO_ok a1) (of_decide_eq_true a2) (of_decide_eq_true a3) a4 (He.eqO_ok a5) (of_decide_eq_true a6) (by decide +kernel)
  · cases h
theorem fu_of {K : PySem.W.Frag} {x qual : Str} {st : Stmt} {f : Addr} (h : ∃ fd, FunD K x qual (defArgs st) (defBody st) (defScope st) [] [] f fd) : HasFn K x qual st f := h.elim fun fd F => ⟨fd, He5.fun_of F⟩
def fnL : List He5.DefA := [
  ⟨fun K => (He.ma K (He.ga K "InvalidStretch") "__init__"), "__init__", "MoveError.__init__", defArgs sMI, defBody sMI, defScope sMI, [.str ""], []⟩,
  ⟨fun K => (He.ma K (He.ga K "Stretch") "__init__"), "__init__", "Stretch.__init__", defArgs sSI, defBody sSI, defScope sSI, [.adr (He.dflAt ("Stretch", some "__init__") 0)], []⟩,
  ⟨fun K => (propG K (He.ma K (He.ga K "Stretch") "code")), "code", "Stretch.code", defArgs (inStK 52 1), defBody (inStK 52 1), defScope (inStK 52 1), [], []⟩,
  ⟨fun K => (propG K (He.ma K (He.ga K "Stretch") "keeps")), "keeps", "Stretch.keeps", defArgs (inStK 52 2), defBody (inStK 52 2), defScope (inStK 52 2), [], []⟩,
  ⟨fun K => (He.ma K (He.ga K "Walk") "__init__"), "__init__", "Walk.__init__", defArgs sWIn, defBody sWIn, defScope sWIn, [], []⟩,
  ⟨fun K => (He.ma K (He.ga K "Walk") "go"), "go", "Walk.go", defArgs sGo, defBody sGo, defScope sGo, [], []⟩,
  ⟨fun K => (He.ma K (He.ga K "Walk") "do"), "do", "Walk.do", defArgs sDo, defBody sDo, defScope sDo, [], []⟩,
  ⟨fun K => (He.ma K (He.ga K "Walk") "do_read"), "do_read", "Walk.do_read", defArgs sDoR, defBody sDoR, defScope sDoR, [], []⟩,
  ⟨fun K => (He.ma K (He.ga K "Walk") "do_write"), "do_write", "Walk.do_write", defArgs sDoW, defBody sDoW, defScope sDoW, [], []⟩,
  ⟨fun K => (He.ma K (He.ga K "Walk") "do_get"), "do_get", "Walk.do_get", defArgs sDoG, defBody sDoG, defScope sDoG, [], []⟩,
  ⟨fun K => (He.ma K (He.ga K "Walk") "add_letter"), "add_letter", "Walk.add_letter", defArgs sAddL, defBody sAddL, defScope sAddL, [], []⟩,
  ⟨fun K => (He.ma K (He.ga K "Walk") "next_chain"), "next_chain", "Walk.next_chain", defArgs sNextC, defBody sNextC, defScope sNextC, [], []⟩,
  ⟨fun K => (He.ma K (He.ga K "Walk") "worth"), "worth", "Walk.worth", defArgs sWorth, defBody sWorth, defScope sWorth, [], []⟩,
  ⟨fun K => (He.ma K (He.ga K "Walk") "content"), "content", "Walk.content", defArgs sContent, defBody sContent, defScope sContent, [], []⟩,
  ⟨fun K => (He.ma K (He.ga K "Way") "__init__"), "__init__", "Way.__init__", defArgs sWayIn, defBody sWayIn, defScope sWayIn, [], []⟩,
  ⟨fun K => (propG K (He.ma K (He.ga K "Way") "private")), "private", "Way.private", defArgs (inStK 58 2), defBody (inStK 58 2), defScope (inStK 58 2), [], []⟩,
  ⟨fun K => (propG K (He.ma K (He.ga K "Way") "letters")), "letters", "Way.letters", defArgs (inStK 58 4), defBody (inStK 58 4), defScope (inStK 58 4), [], []⟩,
  ⟨fun K => (propG K (He.ma K (He.ga K "Way") "accesses")), "accesses", "Way.accesses", defArgs (inStK 58 5), defBody (inStK 58 5), defScope (inStK 58 5), [], []⟩,
  ⟨fun K => (He.ga K "is_nested_code"), "is_nested_code", "is_nested_code", defArgs sNested, defBody sNested, defScope sNested, [.bl false], []⟩,
  ⟨fun K => (He.ga K "follow"), "follow", "follow", defArgs sFollow, defBody sFollow, defScope sFollow, [], [("private", .adr (kwAt "follow" "private"))]⟩,
  ⟨fun K => (He.ga K "is_number"), "is_number", "is_number", defArgs (top 15), defBody (top 15), defScope (top 15), [], []⟩,
  ⟨fun K => (He.ga K "is_whole"), "is_whole", "is_whole", defArgs (top 16), defBody (top 16), defScope (top 16), [], []⟩,
  ⟨fun K => (He.ga K "is_name"), "is_name", "is_name", defArgs (top 17), defBody (top 17), defScope (top 17), [], []⟩,
  ⟨fun K => (He.ga K "is_set"), "is_set", "is_set", defArgs (top 18), defBody (top 18), defScope (top 18), [], []⟩,
  ⟨fun K => (He.ga K "is_answers"), "is_answers", "is_answers", defArgs (top 20), defBody (top 20), defScope (top 20), [], []⟩,
  ⟨fun K => (He.ga K "written"), "written", "written", defArgs (top 22), defBody (top 22), defScope (top 22), [], []⟩,
  ⟨fun K => (He.ga K "_is_statement"), "_is_statement", "_is_statement", defArgs (top 34), defBody (top 34), defScope (top 34), [], []⟩,
  ⟨fun K => (He.ga K "_fits"), "_fits", "_fits", defArgs (top 35), defBody (top 35), defScope (top 35), [], []⟩,
  ⟨fun K => (He.ga K "flattened"), "flattened", "flattened", defArgs (top 36), defBody (top 36), defScope (top 36), [], []⟩,
  ⟨fun K => (He.ga K "codes_in"), "codes_in", "codes_in", defArgs (top 37), defBody (top 37), defScope (top 37), [], []⟩,
  ⟨fun K => (He.ga K "names_in"), "names_in", "names_in", defArgs (top 38), defBody (top 38), defScope (top 38), [], []⟩,
  ⟨fun K => (He.ga K "_names_of"), "_names_of", "_names_of", defArgs (top 39), defBody (top 39), defScope (top 39), [], []⟩,
  ⟨fun K => (He.ga K "most_on_path"), "most_on_path", "most_on_path", defArgs (top 40), defBody (top 40), defScope (top 40), [], []⟩,
  ⟨fun K => (He.ga K "_most_at"), "_most_at", "_most_at", defArgs (top 41), defBody (top 41), defScope (top 41), [], []⟩,
  ⟨fun K => (He.ga K "_path_kind"), "_path_kind", "_path_kind", defArgs (top 42), defBody (top 42), defScope (top 42), [], []⟩,
  ⟨fun K => (He.ga K "is_code"), "is_code", "is_code", defArgs (top 51), defBody (top 51), defScope (top 51), [], []⟩,
  ⟨fun K => (He.ga K "is_bounded"), "is_bounded", "is_bounded", defArgs (top 54), defBody (top 54), defScope (top 54), [], []⟩,
  ⟨fun K => (He.ga K "is_kept"), "is_kept", "is_kept", defArgs (top 55), defBody (top 55), defScope (top 55), [], []⟩,
  ⟨fun K => (He.ga K "check_stretch"), "check_stretch", "check_stretch", defArgs (top 60), defBody (top 60), defScope (top 60), [], []⟩,
  ⟨fun K => (He.ga K "check_private"), "check_private", "check_private", defArgs (top 61), defBody (top 61), defScope (top 61), [], []⟩,
  ⟨fun K => (He.ga K "can_come_between"), "can_come_between", "can_come_between", defArgs (top 62), defBody (top 62), defScope (top 62), [], []⟩,
  ⟨fun K => (He.ga K "chained"), "chained", "chained", defArgs (top 63), defBody (top 63), defScope (top 63), [], []⟩,
  ⟨fun K => (He.ga K "_left_by"), "_left_by", "_left_by", defArgs (top 64), defBody (top 64), defScope (top 64), [], []⟩,
  ⟨fun K => (He.ga K "_left_in"), "_left_in", "_left_in", defArgs (top 65), defBody (top 65), defScope (top 65), [], []⟩,
  ⟨fun K => (He.ga K "_next_put"), "_next_put", "_next_put", defArgs (top 66), defBody (top 66), defScope (top 66), [], []⟩,
  ⟨fun K => (He.ga K "covering"), "covering", "covering", defArgs (top 69), defBody (top 69), defScope (top 69), [], []⟩,
  ⟨fun K => (He.ga K "is_covered"), "is_covered", "is_covered", defArgs (top 70), defBody (top 70), defScope (top 70), [], []⟩,
  ⟨fun K => (He.ga K "covered_places"), "covered_places", "covered_places", defArgs (top 71), defBody (top 71), defScope (top 71), [], []⟩,
  ⟨fun K => (He.ga K "_indices"), "_indices", "_indices", defArgs (top 72), defBody (top 72), defScope (top 72), [], []⟩,
  ⟨fun K => (He.ga K "_is_near"), "_is_near", "_is_near", defArgs (top 73), defBody (top 73), defScope (top 73), [], []⟩,
  ⟨fun K => (He.ga K "_check_way"), "_check_way", "_check_way", defArgs (top 74), defBody (top 74), defScope (top 74), [], []⟩,
  ⟨fun K => (He.ga K "_check_kind"), "_check_kind", "_check_kind", defArgs (top 75), defBody (top 75), defScope (top 75), [], []⟩,
  ⟨fun K => (He.ga K "_check_cell"), "_check_cell", "_check_cell", defArgs (top 76), defBody (top 76), defScope (top 76), [], []⟩,
  ⟨fun K => (He.ga K "_check_place"), "_check_place", "_check_place", defArgs (top 77), defBody (top 77), defScope (top 77), [], []⟩,
  ⟨fun K => (He.ga K "_law_dice"), "_law_dice", "_law_dice", defArgs (top 79), defBody (top 79), defScope (top 79), [], []⟩,
  ⟨fun K => (He.ga K "_law_roll"), "_law_roll", "_law_roll", defArgs (top 80), defBody (top 80), defScope (top 80), [], []⟩,
  ⟨fun K => (He.ga K "_law_one_of"), "_law_one_of", "_law_one_of", defArgs (top 81), defBody (top 81), defScope (top 81), [], []⟩,
  ⟨fun K => (He.ga K "_law_mixed"), "_law_mixed", "_law_mixed", defArgs (top 82), defBody (top 82), defScope (top 82), [], []⟩,
  ⟨fun K => (He.ga K "_law_statement"), "_law_statement", "_law_statement", defArgs (top 83), defBody (top 83), defScope (top 83), [], []⟩,
  ⟨fun K => (He.ga K "_law_code"), "_law_code", "_law_code", defArgs (top 84), defBody (top 84), defScope (top 84), [], []⟩,
  ⟨fun K => (He.ga K "_law_stretch"), "_law_stretch", "_law_stretch", defArgs (top 85), defBody (top 85), defScope (top 85), [], []⟩,
  ⟨fun K => (He.ga K "_law_made"), "_law_made", "_law_made", defArgs (top 86), defBody (top 86), defScope (top 86), [], []⟩,
  ⟨fun K => (He.ga K "_law_is_ordered"), "_law_is_ordered", "_law_is_ordered", defArgs (top 87), defBody (top 87), defScope (top 87), [], []⟩,
  ⟨fun K => (He.ga K "_law_touches"), "_law_touches", "_law_touches", defArgs (top 88), defBody (top 88), defScope (top 88), [], []⟩,
  ⟨fun K => (He.ga K "_law_right"), "_law_right", "_law_right", defArgs (top 89), defBody (top 89), defScope (top 89), [], []⟩,
  ⟨fun K => (He.ga K "law"), "law", "law", defArgs (top 90), defBody (top 90), defScope (top 90), [], []⟩]
def tabL : List He.Tab := [(fun K => (He.ga K "FORMS"), names8), (fun K => (He.ga K "COVERING"), names2)]
def exL (K : PySem.W.Frag) : List Bool := [
  He.eqO (PySem.W.nsIn K mainGlobals "InvalidStretch") (some (some (.ref (He.ga K "InvalidStretch")))),
  intB K "MAX_LETTERS" 8,
  intB K "MAX_REGISTERS" 2,
  intB K "MAX_DEPTH" 3,
  intB K "MAX_KEPT" 4,
  intB K "MAX_STATEMENTS" 24,
  intB K "MAX_CELLS" 4,
  intB K "MAX_LETTERS_SENT" 6,
  intB K "MAX_SETS" 6,
  intB K "MAX_TESTS" 3,
  strG K "LETTERS" alphabet,
  He.eqO (PySem.W.nsIn K mainGlobals "WORDS") (some (some (.ref (He.ga K "WORDS")))),
  tupB K (He.ga K "WORDS") words6,
  He.eqO (PySem.W.nsIn K mainGlobals "FORMS") (some (some (.ref (He.ga K "FORMS")))),
  keysB K (He.ga K "FORMS"),
  formsB K (He.ga K "FORMS"),
  He.eqO (PySem.W.nsIn K mainGlobals "COVERING") (some (some (.ref (He.ga K "COVERING")))),
  covgB K (He.ga K "COVERING"),
  He.eqO (PySem.W.nsIn K mainGlobals "Stretch") (some (some (.ref (He.ga K "Stretch")))),
  He.eqO (PySem.W.findIn K (.ref (He.ga K "Stretch")) "__init__") (some (some (.ref (He.ma K (He.ga K "Stretch") "__init__")))),
  excB K (He.ga K "InvalidStretch"),
  excC K (He.ga K "InvalidStretch") (He.ma K (He.ga K "InvalidStretch") "__init__"),
  empB K (He.dflAt ("Stretch", some "__init__") 0 K),
  strB K (He.ga K "Stretch") (He.ma K (He.ga K "Stretch") "__init__"),
  strC K (He.ga K "Stretch"),
  propB K (He.ga K "Stretch") "code",
  propB K (He.ga K "Stretch") "keeps",
  He.eqO (PySem.W.nsIn K mainGlobals "Walk") (some (some (.ref (He.ga K "Walk")))),
  He.eqO (PySem.W.findIn K (.ref (He.ga K "Walk")) "__init__") (some (some (.ref (He.ma K (He.ga K "Walk") "__init__")))),
  clsB K (He.ga K "Walk") (He.ma K (He.ga K "Walk") "__init__") ["told", "hidden", "asked", "lacking", "is_over", "worths", "contents", "latest", "sent", "taken", "done"],
  He.eqO (PySem.W.findIn K (.ref (He.ga K "Walk")) "go") (some (some (.ref (He.ma K (He.ga K "Walk") "go")))),
  methB K (He.ma K (He.ga K "Walk") "go"),
  He.eqO (PySem.W.findIn K (.ref (He.ga K "Walk")) "do") (some (some (.ref (He.ma K (He.ga K "Walk") "do")))),
  methB K (He.ma K (He.ga K "Walk") "do"),
  He.eqO (PySem.W.findIn K (.ref (He.ga K "Walk")) "do_read") (some (some (.ref (He.ma K (He.ga K "Walk") "do_read")))),
  methB K (He.ma K (He.ga K "Walk") "do_read"),
  He.eqO (PySem.W.findIn K (.ref (He.ga K "Walk")) "do_write") (some (some (.ref (He.ma K (He.ga K "Walk") "do_write")))),
  methB K (He.ma K (He.ga K "Walk") "do_write"),
  He.eqO (PySem.W.findIn K (.ref (He.ga K "Walk")) "do_get") (some (some (.ref (He.ma K (He.ga K "Walk") "do_get")))),
  methB K (He.ma K (He.ga K "Walk") "do_get"),
  He.eqO (PySem.W.findIn K (.ref (He.ga K "Walk")) "add_letter") (some (some (.ref (He.ma K (He.ga K "Walk") "add_letter")))),
  methB K (He.ma K (He.ga K "Walk") "add_letter"),
  He.eqO (PySem.W.findIn K (.ref (He.ga K "Walk")) "next_chain") (some (some (.ref (He.ma K (He.ga K "Walk") "next_chain")))),
  methB K (He.ma K (He.ga K "Walk") "next_chain"),
  He.eqO (PySem.W.findIn K (.ref (He.ga K "Walk")) "worth") (some (some (.ref (He.ma K (He.ga K "Walk") "worth")))),
  methB K (He.ma K (He.ga K "Walk") "worth"),
  He.eqO (PySem.W.findIn K (.ref (He.ga K "Walk")) "content") (some (some (.ref (He.ma K (He.ga K "Walk") "content")))),
  methB K (He.ma K (He.ga K "Walk") "content"),
  He.eqO (PySem.W.nsIn K mainGlobals "Way") (some (some (.ref (He.ga K "Way")))),
  He.eqO (PySem.W.findIn K (.ref (He.ga K "Way")) "__init__") (some (some (.ref (He.ma K (He.ga K "Way") "__init__")))),
  clsB K (He.ga K "Way") (He.ma K (He.ga K "Way") "__init__") ["_stretch", "_private", "_answers", "_letters", "_accesses", "_kept", "_left"],
  strC K (He.ga K "Way"),
  propB K (He.ga K "Way") "private",
  propB K (He.ga K "Way") "letters",
  propB K (He.ga K "Way") "accesses",
  freeB K,
  He.eqO (PySem.W.nsIn K mainGlobals "is_nested_code") (some (some (.ref (He.ga K "is_nested_code")))),
  He.eqO (PySem.W.nsIn K mainGlobals "follow") (some (some (.ref (He.ga K "follow")))),
  empB K (kwAt "follow" "private" K),
  He.eqO (PySem.W.nsIn K mainGlobals "is_number") (some (some (.ref (He.ga K "is_number")))),
  He.eqO (PySem.W.nsIn K mainGlobals "is_whole") (some (some (.ref (He.ga K "is_whole")))),
  He.eqO (PySem.W.nsIn K mainGlobals "is_name") (some (some (.ref (He.ga K "is_name")))),
  He.eqO (PySem.W.nsIn K mainGlobals "is_set") (some (some (.ref (He.ga K "is_set")))),
  He.eqO (PySem.W.nsIn K mainGlobals "is_answers") (some (some (.ref (He.ga K "is_answers")))),
  He.eqO (PySem.W.nsIn K mainGlobals "written") (some (some (.ref (He.ga K "written")))),
  He.eqO (PySem.W.nsIn K mainGlobals "_is_statement") (some (some (.ref (He.ga K "_is_statement")))),
  He.eqO (PySem.W.nsIn K mainGlobals "_fits") (some (some (.ref (He.ga K "_fits")))),
  He.eqO (PySem.W.nsIn K mainGlobals "flattened") (some (some (.ref (He.ga K "flattened")))),
  He.eqO (PySem.W.nsIn K mainGlobals "codes_in") (some (some (.ref (He.ga K "codes_in")))),
  He.eqO (PySem.W.nsIn K mainGlobals "names_in") (some (some (.ref (He.ga K "names_in")))),
  He.eqO (PySem.W.nsIn K mainGlobals "_names_of") (some (some (.ref (He.ga K "_names_of")))),
  He.eqO (PySem.W.nsIn K mainGlobals "most_on_path") (some (some (.ref (He.ga K "most_on_path")))),
  He.eqO (PySem.W.nsIn K mainGlobals "_most_at") (some (some (.ref (He.ga K "_most_at")))),
  He.eqO (PySem.W.nsIn K mainGlobals "_path_kind") (some (some (.ref (He.ga K "_path_kind")))),
  He.eqO (PySem.W.nsIn K mainGlobals "is_code") (some (some (.ref (He.ga K "is_code")))),
  He.eqO (PySem.W.nsIn K mainGlobals "is_bounded") (some (some (.ref (He.ga K "is_bounded")))),
  He.eqO (PySem.W.nsIn K mainGlobals "is_kept") (some (some (.ref (He.ga K "is_kept")))),
  He.eqO (PySem.W.nsIn K mainGlobals "check_stretch") (some (some (.ref (He.ga K "check_stretch")))),
  He.eqO (PySem.W.nsIn K mainGlobals "check_private") (some (some (.ref (He.ga K "check_private")))),
  He.eqO (PySem.W.nsIn K mainGlobals "can_come_between") (some (some (.ref (He.ga K "can_come_between")))),
  He.eqO (PySem.W.nsIn K mainGlobals "chained") (some (some (.ref (He.ga K "chained")))),
  He.eqO (PySem.W.nsIn K mainGlobals "_left_by") (some (some (.ref (He.ga K "_left_by")))),
  He.eqO (PySem.W.nsIn K mainGlobals "_left_in") (some (some (.ref (He.ga K "_left_in")))),
  He.eqO (PySem.W.nsIn K mainGlobals "_next_put") (some (some (.ref (He.ga K "_next_put")))),
  He.eqO (PySem.W.nsIn K mainGlobals "covering") (some (some (.ref (He.ga K "covering")))),
  He.eqO (PySem.W.nsIn K mainGlobals "is_covered") (some (some (.ref (He.ga K "is_covered")))),
  He.eqO (PySem.W.nsIn K mainGlobals "covered_places") (some (some (.ref (He.ga K "covered_places")))),
  He.eqO (PySem.W.nsIn K mainGlobals "_indices") (some (some (.ref (He.ga K "_indices")))),
  He.eqO (PySem.W.nsIn K mainGlobals "_is_near") (some (some (.ref (He.ga K "_is_near")))),
  He.eqO (PySem.W.nsIn K mainGlobals "_check_way") (some (some (.ref (He.ga K "_check_way")))),
  He.eqO (PySem.W.nsIn K mainGlobals "_check_kind") (some (some (.ref (He.ga K "_check_kind")))),
  He.eqO (PySem.W.nsIn K mainGlobals "_check_cell") (some (some (.ref (He.ga K "_check_cell")))),
  He.eqO (PySem.W.nsIn K mainGlobals "_check_place") (some (some (.ref (He.ga K "_check_place")))),
  He.eqO (PySem.W.nsIn K mainGlobals "_law_dice") (some (some (.ref (He.ga K "_law_dice")))),
  He.eqO (PySem.W.nsIn K mainGlobals "_law_roll") (some (some (.ref (He.ga K "_law_roll")))),
  He.eqO (PySem.W.nsIn K mainGlobals "_law_one_of") (some (some (.ref (He.ga K "_law_one_of")))),
  He.eqO (PySem.W.nsIn K mainGlobals "_law_mixed") (some (some (.ref (He.ga K "_law_mixed")))),
  He.eqO (PySem.W.nsIn K mainGlobals "_law_statement") (some (some (.ref (He.ga K "_law_statement")))),
  He.eqO (PySem.W.nsIn K mainGlobals "_law_code") (some (some (.ref (He.ga K "_law_code")))),
  He.eqO (PySem.W.nsIn K mainGlobals "_law_stretch") (some (some (.ref (He.ga K "_law_stretch")))),
  He.eqO (PySem.W.nsIn K mainGlobals "_law_made") (some (some (.ref (He.ga K "_law_made")))),
  He.eqO (PySem.W.nsIn K mainGlobals "_law_is_ordered") (some (some (.ref (He.ga K "_law_is_ordered")))),
  He.eqO (PySem.W.nsIn K mainGlobals "_law_touches") (some (some (.ref (He.ga K "_law_touches")))),
  He.eqO (PySem.W.nsIn K mainGlobals "_law_right") (some (some (.ref (He.ga K "_law_right")))),
  He.eqO (PySem.W.nsIn K mainGlobals "law") (some (some (.ref (He.ga K "law"))))]
/-! ### which objects the facts look at -/
def refsAt (g : Addr → Option Obj) (a : Addr) : List Addr := match g a with
  | some o => He.refsD o
  | none => []
def needF (g : Addr → Option Obj) (a : Addr) : List Addr := a :: (match g a with
  | some ⟨_, _, .func fd, _⟩ => He.refV fd.code ++ ((He.refV fd.defaults ++ He.refV fd.kwdefaults).flatMap fun T => T :: refsAt g T)
  | some ⟨_, _, .fields vs, _⟩ => (vs.toList.flatMap He.refV).flatMap fun f => f :: (match g f with
    | some ⟨_, _, .func fd, _⟩ => He.refV fd.code
    | _ => [])
  | _ => [])
def needC (g : Addr → Option Obj) (C : Addr) (ms : List Str) : List Addr := C :: (match g C with
  | some ⟨_, _, .cls cd, _⟩ => cd.ns :: ms.flatMap fun m => (match PySem.W.nsIn (He.frG g [cd.ns]) cd.ns m with
    | some (some (.ref f)) => needF g f
    | _ => [])
  | _ => [])
def nmFx : List Str := (["is_number", "is_whole", "is_name", "is_set", "is_answers", "written", "is_nested_code", "_is_statement", "_fits", "flattened", "codes_in", "names_in", "_names_of", "most_on_path", "_most_at", "_path_kind", "is_code", "is_bounded", "is_kept", "follow"] : List Str) ++ (["check_stretch", "check_private", "can_come_between", "chained", "_left_by", "_left_in", "_next_put", "covering", "is_covered", "covered_places", "_indices", "_is_near", "_check_way", "_check_kind", "_check_cell", "_check_place", "_law_dice", "_law_roll", "_law_one_of", "_law_mixed"] : List Str) ++ (["_law_statement", "_law_code", "_law_stretch", "_law_made", "_law_is_ordered", "_law_touches", "_law_right", "law"] : List Str)
def nmCx : List (Str × List Str) := [("Stretch", ["__init__", "code", "keeps"]), ("Walk", ["__init__", "go", "do", "do_read", "do_write", "do_get", "add_letter", "next_chain", "worth", "content"]), ("Way", ["__init__", "private", "letters", "accesses"]), ("InvalidStretch", ["__init__"]), ("MoveError", ["__init__"])]
def nmDx : List Str := ["FORMS", "COVERING", "WORDS"]
def needL (g : Addr → Option Obj) : List Addr := mainGlobals :: ((nmFx.flatMap fun x => needF g (He.ga (He.frG g [mainGlobals]) x)) ++ ((nmCx.flatMap fun p => needC g (He.ga (He.frG g [mainGlobals]) p.1) p.2) ++ (nmDx.flatMap fun x => He.ga (He.frG g [mainGlobals]) x :: refsAt g (He.ga (He.frG g [mainGlobals]) x))))
def gTab : List Str := (["", "", "", "", "", "", "", "", "", "", "", "", "", "", "", "is_number", "is_whole", "is_name", "is_set", ""] : List Str) ++ (["is_answers", "", "written", "", "", "", "", "", "", "", "", "", "", "is_nested_code", "_is_statement", "_fits", "flattened", "codes_in", "names_in", "_names_of"] : List Str) ++ (["most_on_path", "_most_at", "_path_kind", "", "", "", "", "", "", "", "", "is_code", "", "", "is_bounded", "is_kept", "", "follow", "", ""] : List Str) ++ (["check_stretch", "check_private", "can_come_between", "chained", "_left_by", "_left_in", "_next_put", "", "", "covering", "is_covered", "covered_places", "_indices", "_is_near", "_check_way", "_check_kind", "_check_cell", "_check_place", "", "_law_dice"] : List Str) ++ (["_law_roll", "_law_one_of", "_law_mixed", "_law_statement", "_law_code", "_law_stretch", "_law_made", "_law_is_ordered", "_law_touches", "_law_right", "law"] : List Str)
theorem top_x {K : PySem.W.Frag} {w : World} (c : obsM fnL tabL exL K = valM fnL tabL w) : Top14 K w (fun i => He.ga K (gTab.getD i "")) (He.ga K "InvalidStretch") (He.ma K (He.ga K "InvalidStretch") "__init__") (He.ma K (He.ga K "Stretch") "__init__") (He.dflAt ("Stretch", some "__init__") 0 K) (kwAt "follow" "private" K) (He.ga K "Stretch") (He.ma K (He.ga K "Stretch") "code") (propG K (He.ma K (He.ga K "Stretch") "code")) (He.ma K (He.ga K "Stretch") "keeps") (propG K (He.ma K (He.ga K "Stretch") "keeps")) (He.ga K "FORMS") (He.ga K "COVERING") (He.ga K "WORDS") (He.ga K "Walk") (He.ma K (He.ga K "Walk") "__init__") (He.ma K (He.ga K "Walk") "go") (He.ma K (He.ga K "Walk") "do") (He.ma K (He.ga K "Walk") "do_read") (He.ma K (He.ga K "Walk") "do_write") (He.ma K (He.ga K "Walk") "do_get") (He.ma K (He.ga K "Walk") "add_letter") (He.ma K (He.ga K "Walk") "next_chain") (He.ma K (He.ga K "Walk") "worth") (He.ma K (He.ga K "Walk") "content") (He.ga K "Way") (He.ma K (He.ga K "Way") "__init__") (He.ma K (He.ga K "Way") "private") (propG K (He.ma K (He.ga K "Way") "private")) (He.ma K (He.ga K "Way") "letters") (propG K (He.ma K (He.ga K "Way") "letters")) (He.ma K (He.ga K "Way") "accesses") (propG K (He.ma K (He.ga K "Way") "accesses")) := by
  have X := says_ex c
  have FF := says_fn c
  have TB := says_tab c
  exact {
    kc1 := He.eqO_ok (X 0 _ rfl)
    iMAX_LETTERS := intB_ok (X 1 _ rfl)
    iMAX_REGISTERS := intB_ok (X 2 _ rfl)
    iMAX_DEPTH := intB_ok (X 3 _ rfl)
    iMAX_KEPT := intB_ok (X 4 _ rfl)
    iMAX_STATEMENTS := intB_ok (X 5 _ rfl)
    iMAX_CELLS := intB_ok (X 6 _ rfl)
    iMAX_LETTERS_SENT := intB_ok (X 7 _ rfl)
    iMAX_SETS := intB_ok (X 8 _ rfl)
    iMAX_TESTS := intB_ok (X 9 _ rfl)
    lets := strG_ok (X 10 _ rfl)
    words := He.eqO_ok (X 11 _ rfl)
    wordsT := (X 12 _ rfl)
    forms := He.eqO_ok (X 13 _ rfl)
    formsD := TB 0 _ rfl
    formsK := (X 14 _ rfl)
    formsV := (X 15 _ rfl)
    covg := He.eqO_ok (X 16 _ rfl)
    covgD := TB 1 _ rfl
    covgV := (X 17 _ rfl)
    stretch := He.eqO_ok (X 18 _ rfl)
    inS := He.eqO_ok (X 19 _ rfl)
    k1 := exc_kc (X 20 _ rfl) (X 21 _ rfl)
    m0 := FF 0 _ rfl
    mS := FF 1 _ rfl
    emp := empB_ok (X 22 _ rfl)
    strOk := (X 23 _ rfl)
    strCk := (X 24 _ rfl)
    pcP := propB_ok (X 25 _ rfl)
    pcF := fu_of (FF 2 _ rfl)
    pkP := propB_ok (X 26 _ rfl)
    pkF := fu_of (FF 3 _ rfl)
    bV := by rfl
    rg := He.eqO_ok (X 27 _ rfl)
    ri := He.eqO_ok (X 28 _ rfl)
    rB := (X 29 _ rfl)
    rf0 := fu_of (FF 4 _ rfl)
    re1 := He.eqO_ok (X 30 _ rfl)
    rb1 := (X 31 _ rfl)
    rf1 := fu_of (FF 5 _ rfl)
    re2 := He.eqO_ok (X 32 _ rfl)
    rb2 := (X 33 _ rfl)
    rf2 := fu_of (FF 6 _ rfl)
    re3 := He.eqO_ok (X 34 _ rfl)
    rb3 := (X 35 _ rfl)
    rf3 := fu_of (FF 7 _ rfl)
    re4 := He.eqO_ok (X 36 _ rfl)
    rb4 := (X 37 _ rfl)
    rf4 := fu_of (FF 8 _ rfl)
    re5 := He.eqO_ok (X 38 _ rfl)
    rb5 := (X 39 _ rfl)
    rf5 := fu_of (FF 9 _ rfl)
    re6 := He.eqO_ok (X 40 _ rfl)
    rb6 := (X 41 _ rfl)
    rf6 := fu_of (FF 10 _ rfl)
    re7 := He.eqO_ok (X 42 _ rfl)
    rb7 := (X 43 _ rfl)
    rf7 := fu_of (FF 11 _ rfl)
    re8 := He.eqO_ok (X 44 _ rfl)
    rb8 := (X 45 _ rfl)
    rf8 := fu_of (FF 12 _ rfl)
    re9 := He.eqO_ok (X 46 _ rfl)
    rb9 := (X 47 _ rfl)
    rf9 := fu_of (FF 13 _ rfl)
    sg := He.eqO_ok (X 48 _ rfl)
    si := He.eqO_ok (X 49 _ rfl)
    sB := (X 50 _ rfl)
    sf0 := fu_of (FF 14 _ rfl)
    wyC := (X 51 _ rfl)
    wpP := propB_ok (X 52 _ rfl)
    wpF := fu_of (FF 15 _ rfl)
    wlP := propB_ok (X 53 _ rfl)
    wlF := fu_of (FF 16 _ rfl)
    waP := propB_ok (X 54 _ rfl)
    waF := fu_of (FF 17 _ rfl)
    nn := (X 55 _ rfl)
    n33 := He.eqO_ok (X 56 _ rfl)
    h33 := FF 18 _ rfl
    n57 := He.eqO_ok (X 57 _ rfl)
    h57 := FF 19 _ rfl
    empP := empB_ok (X 58 _ rfl)
    n15 := He.eqO_ok (X 59 _ rfl)
    h15 := fu_of (FF 20 _ rfl)
    n16 := He.eqO_ok (X 60 _ rfl)
    h16 := fu_of (FF 21 _ rfl)
    n17 := He.eqO_ok (X 61 _ rfl)
    h17 := fu_of (FF 22 _ rfl)
    n18 := He.eqO_ok (X 62 _ rfl)
    h18 := fu_of (FF 23 _ rfl)
    n20 := He.eqO_ok (X 63 _ rfl)
    h20 := fu_of (FF 24 _ rfl)
    n22 := He.eqO_ok (X 64 _ rfl)
    h22 := fu_of (FF 25 _ rfl)
    n34 := He.eqO_ok (X 65 _ rfl)
    h34 := fu_of (FF 26 _ rfl)
    n35 := He.eqO_ok (X 66 _ rfl)
    h35 := fu_of (FF 27 _ rfl)
    n36 := He.eqO_ok (X 67 _ rfl)
    h36 := fu_of (FF 28 _ rfl)
    n37 := He.eqO_ok (X 68 _ rfl)
    h37 := fu_of (FF 29 _ rfl)
    n38 := He.eqO_ok (X 69 _ rfl)
    h38 := fu_of (FF 30 _ rfl)
    n39 := He.eqO_ok (X 70 _ rfl)
    h39 := fu_of (FF 31 _ rfl)
    n40 := He.eqO_ok (X 71 _ rfl)
    h40 := fu_of (FF 32 _ rfl)
    n41 := He.eqO_ok (X 72 _ rfl)
    h41 := fu_of (FF 33 _ rfl)
    n42 := He.eqO_ok (X 73 _ rfl)
    h42 := fu_of (FF 34 _ rfl)
    n51 := He.eqO_ok (X 74 _ rfl)
    h51 := fu_of (FF 35 _ rfl)
    n54 := He.eqO_ok (X 75 _ rfl)
    h54 := fu_of (FF 36 _ rfl)
    n55 := He.eqO_ok (X 76 _ rfl)
    h55 := fu_of (FF 37 _ rfl)
    n60 := He.eqO_ok (X 77 _ rfl)
    h60 := fu_of (FF 38 _ rfl)
    n61 := He.eqO_ok (X 78 _ rfl)
    h61 := fu_of (FF 39 _ rfl)
    n62 := He.eqO_ok (X 79 _ rfl)
    h62 := fu_of (FF 40 _ rfl)
    n63 := He.eqO_ok (X 80 _ rfl)
    h63 := fu_of (FF 41 _ rfl)
    n64 := He.eqO_ok (X 81 _ rfl)
    h64 := fu_of (FF 42 _ rfl)
    n65 := He.eqO_ok (X 82 _ rfl)
    h65 := fu_of (FF 43 _ rfl)
    n66 := He.eqO_ok (X 83 _ rfl)
    h66 := fu_of (FF 44 _ rfl)
    n69 := He.eqO_ok (X 84 _ rfl)
    h69 := fu_of (FF 45 _ rfl)
    n70 := He.eqO_ok (X 85 _ rfl)
    h70 := fu_of (FF 46 _ rfl)
    n71 := He.eqO_ok (X 86 _ rfl)
    h71 := fu_of (FF 47 _ rfl)
    n72 := He.eqO_ok (X 87 _ rfl)
    h72 := fu_of (FF 48 _ rfl)
    n73 := He.eqO_ok (X 88 _ rfl)
    h73 := fu_of (FF 49 _ rfl)
    n74 := He.eqO_ok (X 89 _ rfl)
    h74 := fu_of (FF 50 _ rfl)
    n75 := He.eqO_ok (X 90 _ rfl)
    h75 := fu_of (FF 51 _ rfl)
    n76 := He.eqO_ok (X 91 _ rfl)
    h76 := fu_of (FF 52 _ rfl)
    n77 := He.eqO_ok (X 92 _ rfl)
    h77 := fu_of (FF 53 _ rfl)
    n79 := He.eqO_ok (X 93 _ rfl)
    h79 := fu_of (FF 54 _ rfl)
    n80 := He.eqO_ok (X 94 _ rfl)
    h80 := fu_of (FF 55 _ rfl)
    n81 := He.eqO_ok (X 95 _ rfl)
    h81 := fu_of (FF 56 _ rfl)
    n82 := He.eqO_ok (X 96 _ rfl)
    h82 := fu_of (FF 57 _ rfl)
    n83 := He.eqO_ok (X 97 _ rfl)
    h83 := fu_of (FF 58 _ rfl)
    n84 := He.eqO_ok (X 98 _ rfl)
    h84 := fu_of (FF 59 _ rfl)
    n85 := He.eqO_ok (X 99 _ rfl)
    h85 := fu_of (FF 60 _ rfl)
    n86 := He.eqO_ok (X 100 _ rfl)
    h86 := fu_of (FF 61 _ rfl)
    n87 := He.eqO_ok (X 101 _ rfl)
    h87 := fu_of (FF 62 _ rfl)
    n88 := He.eqO_ok (X 102 _ rfl)
    h88 := fu_of (FF 63 _ rfl)
    n89 := He.eqO_ok (X 103 _ rfl)
    h89 := fu_of (FF 64 _ rfl)
    n90 := He.eqO_ok (X 104 _ rfl)
    h90 := fu_of (FF 65 _ rfl) }
end OM

namespace OM
open PySem PySem.Spec PyProof.Rows L2
/-- the walk of a law whose facts a hook tells -/
theorem walkX {l : PySem.W.OpenLaw} {n k : Nat} {q : Program} {loose : List Str} {XP : (Str → Option Value) → Heap → Prop} {YP : World → Heap → Prop} {d : DefRec} {sp : PySem.W.Frag → Sp} {x : Str} (hn : l.most = some n) (hn2 : n ≤ sizeLine)
    (hdf : d.params.defaults = []) (hi : importsNone q = true) (hr : Room k callerA) 
    (F : ∀ (w : World) (mg : Str → Option Value) (fa : Addr) (h : Heap), YP w h → h.Ns mainGlobals mg → mg d.name = some (.ref fa) → ∃ (K : PySem.W.Frag) (gd : FuncData), K.In h ∧ (∀ (s : Shared) (u : Value), BindsTo s gd ⟨[u], []⟩ [(x, u)]) ∧
      ∀ base : Heap, K.In base → base.Ns mainGlobals mg → (∃ o, base.get? sysModules = some o) → GFn l.prog w K mg base k fa gd [x] (sp K))
    (hsp : ∀ (K : PySem.W.Frag) (H : Hp) (a : Addr) (ns : List Int), ns.length ≤ n → SqL K H a (ns.map V.int) → sp K [.ref a] H (fun v _ => v = .bl true) E0) : PySem.W.WalkO q loose XP YP l.row.toRowW d [] (fun f vs => PySem.call f vs) := by
  refine Att.attach_call hn hdf fun w s₀ z mg mb fa o pm cd doc a vs ns G Y ho hd hcd hmg hobj hints hlen hg => ?_
  obtain ⟨K, gd, Kz, hb, hF⟩ := F w mg fa _ Y G.T.g hmg
  have sm : ∃ mm, z.heap.Ns sysModules mm := by
    obtain ⟨mm, h1, _⟩ := (G.T.seer hi).mods
    exact ⟨mm, h1⟩
  have rv := vals_ints hints
  have hl : (ns.map V.int).length ≤ sizeLine := by
    rw [List.length_map]
    omega
  cases hk : K.lookup a with
  | some o1 =>
    have e := Kz a o1 hk
    rw [hobj] at e
    cases e
    exact run_law (H := fun _ => none) Kz G.T.g G.T.b G.T.builtins G.T.nolimit sm hg hobj hr hF hb (fun b u y => by cases y) (fun b u y => by cases y)
      (hsp _ _ a ns hlen (.inr ⟨_, vs.toArray, _, hk, rfl, rfl, rfl, by rw [List.size_toArray, ← rv.length]; exact hl, by simpa using rv⟩))
  | none =>
    refine run_law (H := fun b => if b = a then some (.frz { cls := .type "list", data := .seq vs.toArray } (.lst (ns.map V.int))) else none) Kz G.T.g G.T.b G.T.builtins G.T.nolimit sm hg hobj hr hF hb (fun b u y => ?_) (fun b u y => ?_)
      (hsp _ _ a ns hlen (.inl (.inr ⟨{ cls := .type "list", data := .seq vs.toArray }, if_pos rfl⟩)))
    · have y1 : (if b = a then some (HO.frz { cls := .type "list", data := .seq vs.toArray } (.lst (ns.map V.int))) else none) = some u := y
      by_cases hb : b = a
      · rw [if_pos hb] at y1
        cases y1
        subst hb
        exact ⟨rfl, hk, _, _, rfl⟩
      · rw [if_neg hb] at y1
        cases y1
    · have y1 : (if b = a then some (HO.frz { cls := .type "list", data := .seq vs.toArray } (.lst (ns.map V.int))) else none) = some u := y
      by_cases hb : b = a
      · rw [if_pos hb] at y1
        cases y1
        subst hb
        exact ⟨hobj, hl, vs, _, rv, hobj⟩
      · rw [if_neg hb] at y1
        cases y1
theorem walk14x {l : PySem.W.OpenLaw} {q : Program} {loose : List Str} {XP : (Str → Option Value) → Heap → Prop} {d : DefRec} (hn : l.most = some 63) (hdf : d.params.defaults = []) (hi : importsNone q = true) (hd : d.name = "law") : PySem.W.WalkO q loose XP (hookM needL fnL tabL exL).says l.row.toRowW d [] (fun f vs => PySem.call f vs) :=
  walkX (n := 63) (k := 19) (x := "_law_script") (sp := spLaw14) hn (by decide) hdf hi ⟨rfl, by decide, by decide⟩ (fun w mg fa h Y G hmg => by
    obtain ⟨K, KX, c⟩ := Y
    rw [hd] at hmg
    obtain ⟨gd, hb, hF⟩ := all_mk14 (l := l) KX G hmg (top_x (w := w) c)
    exact ⟨K, gd, KX, hb, hF⟩) fun K H a ns hl hS => ⟨a, ns, rfl, hl, hS, fun _ => rfl⟩
end OM

namespace OMH
open PySem PySem.W PySem.Calls PyProof.Rows
abbrev R : OpenRow := OpenLaw.row PySem.Challenge.rw_orderlymoves_k14_whole_covered_places_an
abbrev qv : Program := view R.prog [90]
def names : List PySem.Str := (["_wall", "__name__", "MoveError", "InvalidStretch", "InvalidOperation", "Unanswered", "InvalidNumber", "_copied", "MAX_LETTERS", "WORDS", "LETTERS", "DIGITS", "MAX_ARGUMENTS", "FOLLOWERS", "is_number", "is_whole", "is_name", "is_set", "is_value", "is_answers", "_is_asked", "written", "_pieces", "_kinds", "_kind", "_is_atom", "_is_written_number", "_is_in_turn", "_is_nested", "MAX_REGISTERS"] : List PySem.Str) ++ (["FORMS", "is_nested_code", "_is_statement", "_fits", "flattened", "codes_in", "names_in", "_names_of", "most_on_path", "_most_at", "_path_kind", "MAX_STATEMENTS", "MAX_CELLS", "MAX_KEPT", "MAX_LETTERS_SENT", "MAX_SETS", "MAX_TESTS", "MAX_DEPTH", "is_code", "Stretch", "stretch_of", "is_bounded", "is_kept", "follow", "Way", "Walk", "check_stretch", "check_private", "can_come_between", "chained"] : List PySem.Str) ++ (["_left_by", "_left_in", "_next_put", "COVERING", "covering", "is_covered", "covered_places", "_indices", "_is_near", "_check_way", "_check_kind", "_check_cell", "_check_place", "_law_dice", "_law_roll", "_law_one_of", "_law_mixed", "_law_statement", "_law_code", "_law_stretch", "_law_made", "_law_is_ordered", "_law_touches", "_law_right"] : List PySem.Str)
abbrev hk : Hook := OM.hookM OM.needL OM.fnL OM.tabL OM.exL
def ob (s : SharedT) : hk.α := OM.obsM OM.fnL OM.tabL OM.exL (He.frG (HandSHeadRun.getT s) (OM.needL (HandSHeadRun.getT s)))
theorem ob_eq (s : SharedT) : ob s = hk.obs s.abs := by
  have e : HandSHeadRun.getT s = s.abs.heap.get? := funext (HandSHeadRun.getT_eq s)
  unfold ob
  rw [e]
  rfl
set_option maxHeartbeats 0 in
theorem runF (w : World) : HandSHeadRun.RunEq R qv hk ob 7000 names (w.withFollow "special-get-raises" false) := by
  intro os
  kernel_rfl
set_option maxHeartbeats 0 in
theorem runT (w : World) : HandSHeadRun.RunEq R qv hk ob 7000 names (w.withFollow "special-get-raises" true) := by
  intro os
  kernel_rfl
theorem run (w : World) : HandSHeadRun.RunEq R qv hk ob 7000 names w := byRow2 "special-get-raises" runF runT w
end OMH
open PySem PySem.W PyProof.Rows in
set_option maxRecDepth 100000 in
set_option maxHeartbeats 0 in
theorem PySem.Challenge.cw_orderlymoves_k14_whole_covered_places_an_holds : PySem.Challenge.rw_orderlymoves_k14_whole_covered_places_an.Holds := by
  w_on; o_law
  refine HandSHeadRun.head_any (r := OMH.R) (q := OMH.qv) (H := OMH.hk) (ob := OMH.ob) (M := 7000) (loose := OMH.names) (d := HandSHeadRun.topDef OMH.R.prog 90) (kwd := []) OMH.ob_eq (by kernel_rfl) (fun s => by kernel_rfl) OMH.run (by kernel_rfl) (by kernel_rfl) (by kernel_rfl) (by rfl) (by first | assumption | decide +kernel) (by decide +kernel) ⟨rfl, rfl, rfl, rfl, rfl, by decide +kernel⟩ ?hw ?hc
  case hw => w_witness2
  case hc => exact OM.walk14x (l := PySem.Challenge.rw_orderlymoves_k14_whole_covered_places_an) rfl (by kernel_rfl) (by decide +kernel) (by kernel_rfl)
