import PyProof.Rows.All
import Wide.All
import OpenK.AllK
import Wide.FinOn
import HandS.ForMost
import HandS.Exc
import HandS.ExcInit
import HandS.IsInst
import HandS.ExcIs
import HandS.ExcField
import HandS.TryMany
import HandS.Wide
import HandS.Comp
import HandS.DictComp
import HandS.Iter
import HandS.Dict
import HandS.Text
import HandS.Codes
import HandS.Zip
import HandS.TupAny
import HandS.More
import HandS.Defaults
import PyProof.NeKinds
import HandS.Set
import HandS.Base
import HandS.Call
import HandS.List
import HandS.SetBool
import HandS.Sort
import PyProof.Rows.SortShellAny
import HandS.TupSets
import HandS.SetFor
import HandS.Strs
import HandS.SortKw
import KE.DatumOrd
import HandS.Property
import HandS.OwnEq
import HandS.FStr
import PyProof.InstNe
import PyProof.EqKinds
import HandS.Flow
import HandS.MakeKwOnly
import HandS.DictTup
import HandS.Keys
import KE.KDictWalk
import KE.KSortTup
import KE.KEqDict
import PyProof.StrCalls6
import HandS.Walk
import HandS.Conv
import PyProof.P3Eq
import HandS.Star
import HandS.TupMul
import HandS.Ends
import HandS.Replace
import HandS.ReplaceDef
import HandS.HeadHook3
import HandS.HeadNt
import KE.KStateDown
import HandS.Head0
import HandS.Head1
import HandS.Head2
import PySem.Challenge.RW_orderlymoves_k29_runs_between_their_step
set_option Elab.async false
set_option linter.all false
set_option maxRecDepth 100000
set_option maxHeartbeats 4000000
namespace OM
open PySem
/-- what is asked of a built-in class's own __init__ -/
structure InitF (B initId : String) : Prop where
  init : Slot B "__init__" initId
  initEntry : entryFor table initId = some Builtin.«BaseException.__init__»
  initSplit : splitId initId = some (B, "__init__")
  initKind : builtinKind initId = some .slot
  initRow : Manifest.signature? initId = some ⟨.positional, "*", B, .self, [⟨"args", .varPos, false⟩]⟩
  noStar : (B != "*") = true
theorem InitF.of {B n i : String} (F : ExcCallFacts B n i) : InitF B i := ⟨F.init, F.initEntry, F.initSplit, F.initKind, F.initRow, F.noStar⟩
theorem initF_KE : InitF "KeyError" "KeyError.__init__" where
  init := .of (owner := "KeyError") (n := "__init__") (by rw [typeLookup_type, builtinLookup_eq_fast]; kernel_rfl) (by decide +kernel) (by decide +kernel) (by decide +kernel)
    (by first | exact .inl (by decide +kernel) | exact .inr (by decide +kernel)) (by rw [isSubtype_type]; kernel_rfl)
  initEntry := entryFor_alias (id' := "BaseException.__init__") (by rw [fastTable_eq_tree]; kernel_rfl) (by first | rfl | decide +kernel) (by decide +kernel) (by rw [fastTable_eq_tree]; kernel_rfl)
  initSplit := by kernel_rfl
  initKind := by kernel_rfl
  initRow := by kernel_rfl
  noStar := by decide +kernel

/-- own classes, then a built-in chain -/
def refsT (tail : List Value) : List Value → Bool
  | .ref _ :: r => refsT tail r
  | l => l == tail
structure BaseX (B newId initId : String) (tail : List Value) : Prop where
  F : ∃ Bn inN bmN, ExcBaseFacts Bn newId inN bmN ∧ tail.contains (.type Bn) = true
  I : InitF B initId
  hasB : tail.contains (.type B) = true
  noAttr : tail.contains (.type "AttributeError") = false
  noName : tail.contains (.type "NameError") = false
  pass : ∀ self : Value, refuseLoop self "__setattr__" tail = pure ()
  obj : tail.contains (.type "object") = true
  ne : tail.isEmpty = false
  ty : typeOf (.type B) = pure (.type "type")
  stub : Manifest.isStub B = false
theorem base_VE : BaseX "ValueError" "ValueError.__new__" "ValueError.__init__" [.type "ValueError", .type "Exception", .type "BaseException", .type "object"] :=
  ⟨⟨_, _, _, F.excBase_ValueError, by decide +kernel⟩, .of F.excBase_ValueError.toExcCallFacts, by decide +kernel, by decide +kernel, by decide +kernel, fun self => by kernel_rfl, by decide +kernel, rfl, by kernel_rfl, by decide +kernel⟩
theorem base_LE : BaseX "LookupError" "LookupError.__new__" "LookupError.__init__" [.type "LookupError", .type "Exception", .type "BaseException", .type "object"] :=
  ⟨⟨_, _, _, F.excBase_LookupError, by decide +kernel⟩, .of F.excBase_LookupError.toExcCallFacts, by decide +kernel, by decide +kernel, by decide +kernel, fun self => by kernel_rfl, by decide +kernel, rfl, by kernel_rfl, by decide +kernel⟩
theorem base_RE : BaseX "RuntimeError" "RuntimeError.__new__" "RuntimeError.__init__" [.type "RuntimeError", .type "Exception", .type "BaseException", .type "object"] :=
  ⟨⟨_, _, _, F.excBase_RuntimeError, by decide +kernel⟩, .of F.excBase_RuntimeError.toExcCallFacts, by decide +kernel, by decide +kernel, by decide +kernel, fun self => by kernel_rfl, by decide +kernel, rfl, by kernel_rfl, by decide +kernel⟩
theorem base_OE : BaseX "OverflowError" "OverflowError.__new__" "OverflowError.__init__" [.type "OverflowError", .type "ArithmeticError", .type "Exception", .type "BaseException", .type "object"] :=
  ⟨⟨_, _, _, F.excBase_OverflowError, by decide +kernel⟩, .of F.excBase_OverflowError.toExcCallFacts, by decide +kernel, by decide +kernel, by decide +kernel, fun self => by kernel_rfl, by decide +kernel, rfl, by kernel_rfl, by decide +kernel⟩
theorem base_IE : BaseX "IndexError" "IndexError.__new__" "IndexError.__init__" [.type "IndexError", .type "LookupError", .type "Exception", .type "BaseException", .type "object"] :=
  ⟨⟨_, _, _, F.excBase_IndexError, by decide +kernel⟩, .of F.excBase_IndexError.toExcCallFacts, by decide +kernel, by decide +kernel, by decide +kernel, fun self => by kernel_rfl, by decide +kernel, rfl, by kernel_rfl, by decide +kernel⟩
theorem base_AE : BaseX "ArithmeticError" "ArithmeticError.__new__" "ArithmeticError.__init__" [.type "ArithmeticError", .type "Exception", .type "BaseException", .type "object"] :=
  ⟨⟨_, _, _, F.excBase_ArithmeticError, by decide +kernel⟩, .of F.excBase_ArithmeticError.toExcCallFacts, by decide +kernel, by decide +kernel, by decide +kernel, fun self => by kernel_rfl, by decide +kernel, rfl, by kernel_rfl, by decide +kernel⟩
theorem base_KE : BaseX "KeyError" "LookupError.__new__" "KeyError.__init__" [.type "KeyError", .type "LookupError", .type "Exception", .type "BaseException", .type "object"] :=
  ⟨⟨_, _, _, F.excBase_LookupError, by decide +kernel⟩, initF_KE, by decide +kernel, by decide +kernel, by decide +kernel, fun self => by kernel_rfl, by decide +kernel, rfl, by kernel_rfl, by decide +kernel⟩
theorem refsT_cases {tail : List Value} : ∀ l : List Value, refsT tail l = true → (∃ c r, l = .ref c :: r ∧ refsT tail r = true) ∨ l = tail
  | [], e => .inr (beq_iff_eq.mp e)
  | .ref c :: r, e => .inl ⟨c, r, rfl, e⟩
  | .none :: _, e => .inr (beq_iff_eq.mp e)
  | .ellipsis :: _, e => .inr (beq_iff_eq.mp e)
  | .notImplemented :: _, e => .inr (beq_iff_eq.mp e)
  | .bool _ :: _, e => .inr (beq_iff_eq.mp e)
  | .int _ _ :: _, e => .inr (beq_iff_eq.mp e)
  | .float _ _ :: _, e => .inr (beq_iff_eq.mp e)
  | .str _ _ :: _, e => .inr (beq_iff_eq.mp e)
  | .bytes _ _ :: _, e => .inr (beq_iff_eq.mp e)
  | .type _ :: _, e => .inr (beq_iff_eq.mp e)
  | .builtin _ :: _, e => .inr (beq_iff_eq.mp e)
theorem refsT_pass {tail : List Value} {self : Value} (hp : refuseLoop self "__setattr__" tail = pure ()) : ∀ l : List Value, refsT tail l = true → refuseLoop self "__setattr__" l = pure () := by
  intro l
  induction l with
  | nil =>
    intro e
    rcases refsT_cases [] e with ⟨c, r', q, h⟩ | q
    · cases q
    · rw [q]; exact hp
  | cons a r ih =>
    intro e
    rcases refsT_cases (a :: r) e with ⟨c, r', q, h⟩ | q
    · obtain ⟨rfl, rfl⟩ := List.cons.inj q
      rw [refuseLoop_ref]; exact ih h
    · rw [q]; exact hp
theorem refsT_contains {tail : List Value} (X : String) : ∀ l : List Value, refsT tail l = true → l.contains (.type X) = tail.contains (.type X) := by
  intro l
  induction l with
  | nil =>
    intro e
    rcases refsT_cases [] e with ⟨c, r', q, h⟩ | q
    · cases q
    · rw [q]
  | cons a r ih =>
    intro e
    rcases refsT_cases (a :: r) e with ⟨c, r', q, h⟩ | q
    · obtain ⟨rfl, rfl⟩ := List.cons.inj q
      rw [List.contains_cons, ih h]; rfl
    · rw [q]
theorem refsT_ne {tail : List Value} (hn : tail.isEmpty = false) {l : List Value} (e : refsT tail l = true) : l.isEmpty = false := by
  rcases refsT_cases l e with ⟨c, r', q, h⟩ | q
  · rw [q]; rfl
  · rw [q]; exact hn

open PySem.HandSPX Builtin Builtin.ObjectAttr
section
variable {M : Model} {A : Around} {E : Value → Shared → Prop} {h : Heap} {g : Array GenState} {d : Drawn} {t : Nat} {os : OsState}
variable {nm q : Str} {C N : Addr} {bs bm bmB tail : List Value} {hdct : Bool} {sn : List Str} {sub : List Value} {ab : Bool} {col : Option Bool} {dd : Option Addr} {k0 k1 k2 k3 k5 : Option Value} {B newId initId : String}
theorem check_newX {Bn inN : String} {bmN : List Value} (F : ExcBaseFacts Bn newId inN bmN) (hB : bm.contains (.type Bn) = true) {rest : List Value} {Q : Unit → Shared → Prop}
    (hC : h.get? C = some (excClassObj nm q C N bs bm hdct sn sub ab col dd k0 k1 k2 k3 k5 newId)) (hq : Q () ⟨h, g, d, t, os⟩) : wpAny M A (checkBuiltinCall newId ⟨.ref C :: rest, []⟩) Q E ⟨h, g, d, t, os⟩ := by
  have hcont : (Value.ref C :: bm).contains (.type Bn) = true := by rw [List.contains_cons, hB, Bool.or_true]
  have hstar := F.noStar
  simp only [checkBuiltinCall, F.newKind, F.newSplit, F.newRow]
  repeat (first | refine wpAny_loadPart_at hC ?_ | (refine wpAny_isSubtype_exc hC ?_; rw [hcont]) | refine wpAny_staticBase_exc hC ?_ | refine wpAny_madeBy_exc hC ?_ | simp only [bne_self_eq_false, Bool.false_eq_true, if_false] | wp_step)
  exact hq
theorem check_initX (F : InitF B initId) (hB : bm.contains (.type B) = true) {e : Addr} {oe : Obj} {rest : List Value} {Q : Unit → Shared → Prop}
    (hC : h.get? C = some (excClassObj nm q C N bs bm hdct sn sub ab col dd k0 k1 k2 k3 k5 newId)) (he : h.get? e = some oe) (hcls : oe.cls = .ref C) (hq : Q () ⟨h, g, d, t, os⟩) :
    wpAny M A (checkBuiltinCall initId ⟨.ref e :: rest, []⟩) Q E ⟨h, g, d, t, os⟩ := by
  have hcB : (Value.ref C :: bm).contains (.type B) = true := by rw [List.contains_cons, hB, Bool.or_true]
  have hshort := F.noStar
  simp only [checkBuiltinCall, F.initKind, F.initSplit, F.initRow]
  repeat (first | (with_reducible refine wpAny_loadPart_at he ?_; rw [hcls]) | with_reducible refine wpAny_loadPart_at hC ?_ | (with_reducible refine wpAny_isSubtype_exc hC ?_; rw [hcB]) | wp_step)
  refine wpAny_onRaise ?_
  rw [show ∀ (a b : String) (n : Nat), Bind.check ⟨.positional, "*", B, .self, [⟨"args", .varPos, false⟩]⟩ a b n (List.map (fun x => x.fst) ({ pos := Value.ref e :: rest } : Args).kw) = pure () from
    fun a b n => check_star_args _ _ _ _ _ _]
  exact wpAny_pure hq
end
section
variable {prog : Program} {w : World} {A : Around} {E : Value → Shared → Prop} {R : Result → Shared → Prop} {h : Heap} {g : Array GenState} {d : Drawn} {t : Nat} {os : OsState}
variable {nm q : Str} {C N : Addr} {bs bm tail : List Value} {hdct : Bool} {sn : List Str} {sub : List Value} {ab : Bool} {col : Option Bool} {dd : Option Addr} {k0 k1 k2 k3 k5 : Option Value} {B newId initId : String}
theorem newX (X : BaseX B newId initId tail) (hm : refsT tail bm = true) {rest : List Value}
    (hC : h.get? C = some (excClassObj nm q C N bs bm hdct sn sub ab col dd k0 k1 k2 k3 k5 newId))
    (hq : R (.ok (.ret (.ref (h.objs.size + 1)))) ⟨(h.push { cls := .type "tuple", data := .seq rest.toArray }).push
      { cls := .ref C, data := .fields #[.ref h.objs.size, .none, .none, .none, .bool false, .none] }, g, d, t, os⟩) (hrest : rest.length ≤ sizeLine) :
    codeAny (model prog w) A (.builtin newId ⟨.ref C :: rest, []⟩) R ⟨h, g, d, t, os⟩ := by
  obtain ⟨Bn, inN, bmN, F, hBn⟩ := X.F
  have hends := F.ends
  have hcB : (Value.ref C :: bm).contains (.type Bn) = true := by rw [List.contains_cons, refsT_contains _ _ hm, hBn, Bool.or_true]
  have hcA : (Value.ref C :: bm).contains (.type "AttributeError") = false := by rw [List.contains_cons, refsT_contains _ _ hm, X.noAttr]; rfl
  have hcN : (Value.ref C :: bm).contains (.type "NameError") = false := by rw [List.contains_cons, refsT_contains _ _ hm, X.noName]; rfl
  refine codeAny_builtinAt F.entry ?_
  unfold Builtin.«BaseException.__new__»
  refine wpAt_bind ?_
  show wpAt _ _ _ (stack >>= _) _ _ _
  refine wpAt_bind (wpAt_stack fun p below => wpAt_of_wpAny ?_)
  wp_walk
  refine wpAt_of_wpAny ?_
  rw [F.owner]
  repeat (first | with_reducible refine wpAny_madeHere_exc F.canon hC ?_ | with_reducible refine wpAny_loadPart_at hC ?_ | (with_reducible refine wpAny_isSubtype_exc hC ?_; first | rw [hcB] | rw [hcA] | rw [hcN]) | wp_step)
  show R _ _
  rw [Heap.size_push]
  exact hq
theorem type_callX (X : BaseX B newId initId tail) (hm : refsT tail bm = true) {rest : List Value} {fI : Addr} {Q : Fin → Shared → Prop}
    (hC : h.get? C = some (excClassObj nm q C N bs bm hdct sn sub ab col dd k0 k1 k2 k3 k5 newId))
    (hi : W.Looks (model prog w) h (typeLookup (.ref C) "__init__") (some (.ref fI))) (hb : ∀ self, W.Looks (model prog w) h (bindSpecial (.ref fI) self) (.ref fI, [self])) (hrest : rest.length ≤ sizeLine)
    (hq : codeAny (model prog w) A (.call (.ref fI) ⟨.ref (h.objs.size + 1) :: rest, []⟩)
      (fun r s' => match r with | .ok (.ret v) => v = .none ∧ Q (.done (.ret (.ref (h.objs.size + 1)))) s' | .ok _ => False | .error e => E e s')
      ⟨(h.push (W.kdv_tup rest)).push (excO C h.objs.size), g, d, t, os⟩) :
    wpAny (model prog w) A (Builtin.«type.__call__» ⟨.ref C :: rest, []⟩) Q E ⟨h, g, d, t, os⟩ := by
  obtain ⟨Bn, inN, bmN, F, hBn⟩ := X.F
  repeat (first | with_reducible refine wpAny_loadPart_at hC ?_ | with_reducible refine wpAny_madeBy_exc hC ?_ | wp_step)
  refine codeAny_call_builtin_code (Code.quiet_builtin _ F.quiet) (check_newX F (by rw [refsT_contains _ _ hm, hBn]) hC ?_)
  refine newX X hm hC ?_ hrest
  show wpAny _ _ _ _ _ _
  have k : ∀ b o, h.get? b = some o → ((h.push (W.kdv_tup rest)).push (excO C h.objs.size)).get? b = some o := fun b o e => Heap.get?_push_of_some _ (Heap.get?_push_of_some _ e)
  have hC₁ := k _ _ hC
  have hget : ((h.push (W.kdv_tup rest)).push (excO C h.objs.size)).get? (h.objs.size + 1) = some (excO C h.objs.size) := by heap_get
  have hcC : (Value.ref C :: bm).contains (.ref C) = true := by simp
  have i1 := hi.keeps k
  have b1 := (hb (.ref (h.objs.size + 1))).keeps k
  unfold isInstance
  repeat (first | with_reducible refine wpAny_loadPart_at hget ?_ | (with_reducible refine wpAny_isSubtype_exc hC₁ ?_; rw [hcC]) | wp_step)
  show wpAny _ _ (typeLookup (.ref C) _) _ _ _
  refine i1.at ?_
  refine wpAny_holding (wpAny_bind (b1.at ?_))
  refine wpAny_bind (wpAny_call (codeAny_mono hq fun r s' z => ?_))
  rcases r with e | (v | _ | _ | _) <;> first | exact z | exact z.elim | skip
  obtain ⟨rfl, z⟩ := z
  first
    | exact wpAny_pure (wpAny_pure z)
    | (wp_walk; exact z)
theorem callX (X : BaseX B newId initId tail) (hm : refsT tail bm = true) {rest : List Value} {fI : Addr}
    (hC : h.get? C = some (excClassObj nm q C N bs bm hdct sn sub ab col dd k0 k1 k2 k3 k5 newId))
    (hi : W.Looks (model prog w) h (typeLookup (.ref C) "__init__") (some (.ref fI))) (hb : ∀ self, W.Looks (model prog w) h (bindSpecial (.ref fI) self) (.ref fI, [self])) (hrest : rest.length ≤ sizeLine)
    (hq : codeAny (model prog w) (A.under (.builtin "type.__call__" ⟨.ref C :: rest, []⟩)) (.call (.ref fI) ⟨.ref (h.objs.size + 1) :: rest, []⟩) (W.InitBack (h.objs.size + 1) R)
      ⟨(h.push (W.kdv_tup rest)).push (excO C h.objs.size), g, d, t, os⟩) :
    codeAny (model prog w) A (.call (.ref C) ⟨rest, []⟩) R ⟨h, g, d, t, os⟩ := by
  have f1 := tc_lookup
  have f2 := tc_bind (.ref C)
  have hTy : (⟨h, g, d, t, os⟩ : Shared).TypeIs (.ref C) "type" := ⟨_, hC, rfl⟩
  refine codeAny_of_tree ?_
  show wpAny _ _ (callAny (.ref C) _) _ _ _
  repeat (any_goals (first | assumption | with_reducible refine wpAny_loadPart_at hC ?_ | wp_step))
  refine ⟨rfl, ?_⟩
  refine codeAny_call_builtin_at (Code.quiet_builtin _ (by decide +kernel)) entry_typeCall (wpAny_check_type_call_sub hC (type_callX X hm hC hi hb hrest ?_))
  refine codeAny_mono hq fun r s' z => ?_
  rcases r with e | (v | _ | _ | _) <;> exact z
theorem init_baseX (X : BaseX B newId initId tail) {tail' : List Value} {newId' : String} (hm : refsT tail' bm = true) (hB : tail'.contains (.type B) = true) {e t0 : Addr} {rest : List Value}
    (hC : h.get? C = some (excClassObj nm q C N bs bm hdct sn sub ab col dd k0 k1 k2 k3 k5 newId')) (he : h.get? e = some (excO C t0)) (hrest : rest.length ≤ sizeLine)
    (hq : ∀ h' t1, (∀ b o, b ≠ e → h.get? b = some o → h'.get? b = some o) → h'.get? e = some (excO C t1) → R (.ok (.ret .none)) ⟨h', g, d, t, os⟩) :
    codeAny (model prog w) A (.call (.builtin initId) ⟨.ref e :: rest, []⟩) R ⟨h, g, d, t, os⟩ := by
  refine codeAny_call_builtin X.I.init.plain X.I.initEntry (check_initX X.I (by rw [refsT_contains _ _ hm, hB]) hC he rfl ?_)
  wp_walk
  refine hq _ h.objs.size (fun b o hb ho => ?_) ?_
  · rw [Heap.get?_update_other _ _ (Ne.symm hb)]
    exact Heap.get?_push_of_some _ ho
  · rw [Heap.get?_update_self _ (Heap.get?_push_of_some _ he) rfl]
    rfl
end
end OM

namespace OM
open PySem PySem.HandSPX Builtin Builtin.ObjectAttr
section
variable {prog : Program} {w : World} {A : Around} {E : Value → Shared → Prop} {R : Result → Shared → Prop} {hp : Heap} {g : Array GenState} {d : Drawn} {t : Nat} {os : OsState}
variable {B newId initId : String} {tail : List Value}
theorem osaX (Y : BaseX B newId initId tail) {K : W.Frag} {name : Str} {tk : Tok} {v : Value} {x C : Addr} {fv : Array Value} {cd : ClassData}
    (X : K.In hp) (hx : hp.get? x = some { cls := .ref C, data := .fields fv }) (hcd : W.clsIn K C = some cd) (hm : refsT tail cd.mro = true) (hh : cd.hasDict = true) (ha : W.findIn K (.ref C) name = some none)
    (hq : ∀ h' tk' dx, (∀ b o, b ≠ x → hp.get? b = some o → h'.get? b = some o) → hp.objs.size ≤ dx → dx ≠ x → h'.get? x = some { cls := .ref C, dict := some dx, data := .fields fv } →
      h'.Ns1 dx (fun y => if y = name then some v else none) → R (.ok (.ret .none)) ⟨h', g, d, tk', os⟩) :
    codeAny (model prog w) A (.call (.builtin "object.__setattr__") ⟨[.ref x, .str name tk, v], []⟩) R ⟨hp, g, d, t, os⟩ := by
  have I : W.InstAt hp x { cls := .ref C, data := .fields fv } C none := ⟨hx, rfl, rfl, trivial⟩
  have SF := F.store_object
  have ne := refsT_ne Y.ne hm
  have hob : cd.mro.contains (.type "object") = true := (refsT_contains "object" _ hm).trans Y.obj
  have hxs : x ≠ hp.objs.size := Nat.ne_of_lt (Heap.lt_size hx)
  have sub : W.Looks (model prog w) hp (isInstance (.ref x) (.type "object")) true := I.type.andThen (W.looks_mroIn X (by unfold W.mroIn; rw [hcd, Option.bind_some, if_neg (by rw [ne]; decide), hob]))
  refine codeAny_call_builtin SF.slot.plain SF.entry (@W.check_slot (model prog w) _ _ ⟨hp, g, d, t, os⟩ "object.__setattr__" "object" "__setattr__" (.ref x) [.str name tk, v] [] _ SF.kind SF.split sub (SF.args (.ref x) (.str name tk) v) ?_)
  have hmr : W.Looks (model prog w) hp (mroOf (.ref C)) cd.mro := (W.looks_clsIn X hcd).andThen .now
  have L3 : W.Looks (model prog w) hp (storeTaker? none) none := .now
  have hcls : W.Looks (model prog w) hp (classData C) cd := W.looks_clsIn X hcd
  rw [W.osa_eq, refuse_eq]
  refine wpAny_bind (wpAny_bind (I.type.at (wpAny_bind (hmr.at ?_))))
  rw [refsT_pass (Y.pass _) _ hm]
  refine wpAny_pure (wpAny_bind (I.type.at (wpAny_bind ((W.looks_findIn X ha).at (wpAny_bind (L3.at ?_))))))
  show wpAny _ _ (storeInOwnDict (.ref x) (.ref C) (.str name tk) name v false) _ _ _
  obtain ⟨nm, bs, mro, ns, qn, hd, sn, sb, ab, col, del⟩ := cd
  dsimp only at hh
  subst hh
  unfold storeInOwnDict ownDictForStores
  repeat (first | with_reducible refine store_in_new ?_ ?_ | with_reducible refine wpAny_loadPart_at hx ?_ | with_reducible refine hcls.at ?_ | wp_step)
  · exact ⟨_, #[], _, (Heap.get?_update_ne _ _ _ _ hxs.symm).trans (Heap.get?_push_at rfl rfl), rfl, fun e he => absurd he (by simp), fun _ => rfl⟩
  · intro h' tk' hn' hs
    have hx₁ : (hp.push { cls := .type "dict", data := .dict #[] }).get? x = some { cls := .ref C, data := .fields fv } := Heap.get?_push_of_some _ hx
    refine hq h' tk' hp.objs.size (fun b o hb ho => ?_) (Nat.le_refl _) hxs.symm ?_ hn'
    · exact (hs.2 b (Nat.ne_of_lt (Heap.lt_size ho))).trans ((Heap.get?_update_ne _ _ _ _ hb).trans (Heap.get?_push_of_some _ ho))
    · exact (hs.2 x hxs).trans (Heap.get?_update_self _ hx₁ rfl)
theorem osaX_old (Y : BaseX B newId initId tail) {K : W.Frag} {name : Str} {tk : Tok} {v : Value} {x C dx : Addr} {fv : Array Value} {cd : ClassData} {m0 : Str → Option Value} {nl : List Str}
    (X : K.In hp) (hx : hp.get? x = some { cls := .ref C, dict := some dx, data := .fields fv }) (hns : hp.Ns1 dx m0) (hw : Within m0 nl) (hz : nl.length ≤ 1000) (hcd : W.clsIn K C = some cd) (hm : refsT tail cd.mro = true) (hh : cd.hasDict = true)
    (ha : W.findIn K (.ref C) name = some none)
    (hq : ∀ h' tk', (∀ b o, b ≠ dx → hp.get? b = some o → h'.get? b = some o) → h'.Ns1 dx (fun y => if y = name then some v else m0 y) → R (.ok (.ret .none)) ⟨h', g, d, tk', os⟩) :
    codeAny (model prog w) A (.call (.builtin "object.__setattr__") ⟨[.ref x, .str name tk, v], []⟩) R ⟨hp, g, d, t, os⟩ := by
  obtain ⟨oD, esD, epD, hoD, hdD, _⟩ := hns.count hw
  have I : W.InstAt hp x { cls := .ref C, dict := some dx, data := .fields fv } C (some oD) := ⟨hx, rfl, rfl, hoD⟩
  have SF := F.store_object
  have ne := refsT_ne Y.ne hm
  have hob : cd.mro.contains (.type "object") = true := (refsT_contains "object" _ hm).trans Y.obj
  have sub : W.Looks (model prog w) hp (isInstance (.ref x) (.type "object")) true := I.type.andThen (W.looks_mroIn X (by unfold W.mroIn; rw [hcd, Option.bind_some, if_neg (by rw [ne]; decide), hob]))
  refine codeAny_call_builtin SF.slot.plain SF.entry (@W.check_slot (model prog w) _ _ ⟨hp, g, d, t, os⟩ "object.__setattr__" "object" "__setattr__" (.ref x) [.str name tk, v] [] _ SF.kind SF.split sub (SF.args (.ref x) (.str name tk) v) ?_)
  have hmr : W.Looks (model prog w) hp (mroOf (.ref C)) cd.mro := (W.looks_clsIn X hcd).andThen .now
  have L3 : W.Looks (model prog w) hp (storeTaker? none) none := .now
  have hcls : W.Looks (model prog w) hp (classData C) cd := W.looks_clsIn X hcd
  rw [W.osa_eq, refuse_eq]
  refine wpAny_bind (wpAny_bind (I.type.at (wpAny_bind (hmr.at ?_))))
  rw [refsT_pass (Y.pass _) _ hm]
  refine wpAny_pure (wpAny_bind (I.type.at (wpAny_bind ((W.looks_findIn X ha).at (wpAny_bind (L3.at ?_))))))
  show wpAny _ _ (storeInOwnDict (.ref x) (.ref C) (.str name tk) name v false) _ _ _
  obtain ⟨nm, bs, mro, ns, qn, hd, sn, sb, ab, col, del⟩ := cd
  dsimp only at hh
  subst hh
  unfold storeInOwnDict ownDictForStores
  repeat (first | with_reducible refine PySem.OEX.store_in_old hns hw hz ?_ | with_reducible refine wpAny_loadPart_at hx ?_ | with_reducible refine hcls.at ?_ | wp_step)
  intro h' tk' hn' hs
  exact hq h' tk' (fun b o hb ho => (hs.2 b hb).trans ho) hn'
end
end OM

namespace PySem.W
open PySem PySem.Calls PyProof.Rows
/-- a function read off its class: itself -/
theorem om_fn_get_none {prog : Program} {w : World} {A : Around} {R : Result → Shared → Prop} {s : Shared} {K : Frag} {p C : Addr} (X : K.In s.heap) (hp : typeIn K (.ref p) = some (.type "function"))
    (h : R (.ok (.ret (.ref p))) s) : codeAny (model prog w) A (.call (.builtin "function.__get__") ⟨[.ref p, .none, .ref C], []⟩) R s := by
  obtain ⟨o, ho, hc⟩ := Option.map_eq_some_iff.mp hp
  obtain ⟨hh, g, dr, t, os⟩ := s
  refine codeAny_call_builtin KF.slot_fn.plain KF.entry_fn (KF.slot_fn.check _ _ _ _ _ _ _ _ ⟨_, X _ _ ho, hc⟩ (KF.args_fn _ _ _) ?_)
  unfold Builtin.«function.__get__»
  refine wpAny_bind (wpAny_of_eq (a := ((.ref p : Value), (none : Option Value), some (.ref C : Value))) (by first | rfl | kernel_rfl) ?_)
  exact wpAny_pure h
end PySem.W

namespace OM
open PySem PySem.Spec PyProof.Rows L2
/-- what the written part says of an own exception class -/
structure OexB (K : PySem.W.Frag) (C : Addr) (tail : List Value) : Prop where
  cls : ∃ B newId initId nm q N bs bm sn sub ab col dd k0 k1 k2 k3 k5, BaseX B newId initId tail ∧ K.lookup C = some (excClassObj nm q C N bs bm true sn sub ab col dd k0 k1 k2 k3 k5 newId) ∧ refsT tail bm = true
  sa : PySem.W.findIn K (.ref C) "__setattr__" = some (some (.builtin "object.__setattr__"))
  exC : PySem.W.subIn K (.ref C) (.type "BaseException") = some true
  tyC : PySem.W.typeIn K (.ref C) = some (.type "type")
  kC : PySem.W.keepIn K (.ref C) = true
section
variable {X : Cx} {pins : List (Addr × Obj)} {σ : L2.St} {H : Hp} {s : Shared} {a C dx : Addr} {f : Str} {y : V} {u : Value} {fs : List (Str × V)} {Q : Unit → Shared → Prop} {E : Value → Shared → Prop} {A : Around} {tail : List Value}
theorem ostB_new (T : OexB X.K C tail) (I : Inv X pins σ H s) (e : H a = some (exo a C none)) (hno : PySem.W.findIn X.K (.ref C) f = some none) (ry : RelV y u)
    (h : ∀ dx s', H dx = none → dx ≠ a → Inv X pins σ (upd (upd H dx (exd dx [(f, y)])) a (exo a C (some dx))) s' → Q () s') : wpAny (model X.prog X.w) A (setAttr (.ref a) f u) Q E s := by
  obtain ⟨B, newId, initId, nm, q, N, bs, bm, sn, sub, ab, col, dd, k0, k1, k2, k3, k5, Y, hC, hbm⟩ := T.cls
  have hcl : PySem.W.clsIn X.K C = some { name := nm, bases := bs, mro := .ref C :: bm, ns := N, qualname := q, hasDict := true, slotNames := sn, subclasses := sub, abstract := ab, collection := col, hasDel := false } := by unfold PySem.W.clsIn; rw [hC] <;> rfl
  obtain ⟨t1, ho⟩ := exo_at I.hok e
  obtain ⟨hp, g, d, t, os⟩ := s
  refine PySem.W.set_plain I.kIn (ox := { cls := .ref C, dict := none, data := .fields #[.ref t1, .none, .none, .none, .bool false, .none] }) (od := none) ⟨ho, rfl, rfl, trivial⟩ T.sa ?_
  refine osaX Y I.kIn ho hcl (show refsT tail (.ref C :: bm) = true from hbm) rfl hno (fun h' tk' dx k dn dne hx hn => ?_)
  have hnd : H dx = none := I.hok.fresh dn
  have nd : ∀ {b : Addr} {o : Obj}, hp.get? b = some o → b ≠ dx := fun {b o} q => Nat.ne_of_lt (Nat.lt_of_lt_of_le (Heap.lt_size q) dn)
  have na : ∀ {b : Addr}, H b = none → b ≠ a := fun {b} n z => by
    rw [z, e] at n
    cases n
  have Un1 : Un X.fs [] H (upd (upd H dx (exd dx [(f, y)])) a (exo a C (some dx))) hp h' := {
    keep := fun b o q n _ _ => k b o (na n) q
    slot := fun b o q n _ _ => ⟨o.slots, k b o (na n) q⟩
    free := fun b o q n _ => by rw [upd_ne (na n), upd_ne (nd q)]; exact n
    there := fun b o q _ => by
      by_cases hb : b = a
      · exact ⟨_, by rw [hb]; exact hx⟩
      · exact ⟨o, k b o hb q⟩
    tups := fun b xs q => by rw [upd_ne (at_ne e q exo_tup), upd_ne (ne_of_none q hnd)]; exact q
    frzs := fun b o v q => by rw [upd_ne (at_ne e q exo_frz), upd_ne (ne_of_none q hnd)]; exact q
    tbls := fun b ps q => ⟨#[], by rw [upd_ne (at_ne e q exo_tbl), upd_ne (ne_of_none q hnd), q]; simp⟩ }
  refine h dx _ hnd dne (I.un (t' := tk') Un1 fun b o q => ?_)
  by_cases hb : b = a
  · subst hb
    rw [upd_same] at q
    cases q
    exact exo_ok hx
  · rw [upd_ne hb] at q
    by_cases hd : b = dx
    · subst hd
      rw [upd_same] at q
      cases q
      exact exd_ok hn (relO_put (fs := []) ry fun g => True.intro)
    · rw [upd_ne hd] at q
      exact (I.hok b o q).stay (fun c v hc z => k c v (by
          rcases hc with hc | hc
          · rw [hc]
            exact hb
          · exact at_ne e hc exo_own) z)
        (fun c hc => by rw [upd_ne (at_ne e hc exo_own), upd_ne (ne_of_none hc hnd)]; exact hc) (fun c xs hc => by rw [upd_ne (at_ne e hc exo_tup), upd_ne (ne_of_none hc hnd)]; exact hc)
theorem ostB_old (T : OexB X.K C tail) (I : Inv X pins σ H s) (e : H a = some (exo a C (some dx))) (ed : H dx = some (exd dx fs)) (hl : fs.length ≤ 900) (hno : PySem.W.findIn X.K (.ref C) f = some none) (ry : RelV y u)
    (h : ∀ s', Inv X pins σ (upd H dx (exd dx ((f, y) :: fs))) s' → Q () s') : wpAny (model X.prog X.w) A (setAttr (.ref a) f u) Q E s := by
  obtain ⟨B, newId, initId, nm, q, N, bs, bm, sn, sub, ab, col, dd, k0, k1, k2, k3, k5, Y, hC, hbm⟩ := T.cls
  have hcl : PySem.W.clsIn X.K C = some { name := nm, bases := bs, mro := .ref C :: bm, ns := N, qualname := q, hasDict := true, slotNames := sn, subclasses := sub, abstract := ab, collection := col, hasDel := false } := by unfold PySem.W.clsIn; rw [hC] <;> rfl
  obtain ⟨t1, ho⟩ := exo_at I.hok e
  obtain ⟨mA, hns, rel⟩ := exd_at I.hok ed
  have hw := within_of rel
  obtain ⟨hp, g, d, t, os⟩ := s
  obtain ⟨oD, _, _, hoD, _, _⟩ := hns.count hw
  refine PySem.W.set_plain I.kIn (ox := { cls := .ref C, dict := some dx, data := .fields #[.ref t1, .none, .none, .none, .bool false, .none] }) (od := some oD) ⟨ho, rfl, rfl, hoD⟩ T.sa ?_
  refine osaX_old Y I.kIn ho hns hw (by rw [List.length_map]; omega) hcl (show refsT tail (.ref C :: bm) = true from hbm) rfl hno (fun h' tk' k hn => ?_)
  have hd : ∃ o, h'.get? dx = some o := by
    obtain ⟨o, _, _, e', _⟩ := hn
    exact ⟨o, e'⟩
  exact h _ (I.write (t' := tk') (x := dx) (e := dx) (o := exd dx ((f, y) :: fs)) (by rw [ed]; exact True.intro) (.inl rfl) k hd (exd_ok hn (relO_put ry rel)))
/-- B.__init__(self, ..): nothing of it is told -/
theorem binit_ok {B nI initId : String} {tB : List Value} {us : List Value} {Q : Value → Shared → Prop} (Y : BaseX B nI initId tB) (T : OexB X.K C tail) (hB : tail.contains (.type B) = true) (I : Inv X pins σ H s) (e : H a = some (exo a C none)) (hl : us.length ≤ sizeLine)
    (h : ∀ s', Inv X pins σ H s' → Q .none s') : wpAny (model X.prog X.w) A (call (.builtin initId) (.ref a :: us)) Q E s := by
  obtain ⟨B', newId, initId', nm, q, N, bs, bm, sn, sub, ab, col, dd, k0, k1, k2, k3, k5, Y', hC, hbm⟩ := T.cls
  obtain ⟨t1, ho⟩ := exo_at I.hok e
  obtain ⟨hp, g, d, t, os⟩ := s
  refine wpAny_call (init_baseX Y hbm hB (I.kIn _ _ hC) ho hl fun h' t2 k hx => ?_)
  have J := I.write (t' := t) (x := a) (e := a) (o := exo a C none) (by rw [e]; exact True.intro) (.inl rfl) k ⟨_, hx⟩ (exo_ok hx)
  have eu : upd H a (exo a C none) = H := by
    funext b
    by_cases hb : b = a
    · rw [hb, upd_same, e]
    · rw [upd_ne hb]
  rw [eu] at J
  exact h _ J
end
/-- B.__init__(self, ..) -/
def tBin (K : PySem.W.Frag) (B : String) (ta : TA) : TE := fun σ H Q => ta σ H fun vs H1 => ∃ (a C : Addr) (tail : List Value) (ws : List V), vs = .ref a :: ws ∧ ws.length ≤ 1000 ∧ OexB K C tail ∧ tail.contains (.type B) = true ∧ H1 a = some (exo a C none) ∧ Q .non H1
/-- self.f = e -/
def tOsB (K : PySem.W.Frag) (f : Str) (to te : TE) : TS := fun D σ H => te σ H fun y H1 => to σ H1 fun x H2 => ∃ (a C : Addr) (tail : List Value), x = .ref a ∧ OexB K C tail ∧ PySem.W.findIn K (.ref C) f = some none ∧
  ((H2 a = some (exo a C none) ∧ ∀ dx, H2 dx = none → dx ≠ a → D.nx σ (upd (upd H2 dx (exd dx [(f, y)])) a (exo a C (some dx)))) ∨
    ∃ (dx : Addr) (fs : List (Str × V)), H2 a = some (exo a C (some dx)) ∧ H2 dx = some (exd dx fs) ∧ fs.length ≤ 900 ∧ D.nx σ (upd H2 dx (exd dx ((f, y) :: fs))))
/-- C.m(e, ..): a function of the class at C, called unbound -/
structure UMeth (K : PySem.W.Frag) (C : Addr) (m : Str) (f : Addr) : Prop where
  ga : PySem.W.specialIn K (.ref C) "__getattribute__" = some (some (.builtin "type.__getattribute__"))
  rd : PySem.W.readsIn K C (.type "type") = true
  at_ : PySem.W.findCls K (.ref C) (.type "type") m = some (.val (.ref f))
  ty : PySem.W.typeIn K (.ref f) = some (.type "function")
  kp : PySem.W.keepIn K (.ref f) = true
section
variable {X : Cx} {o e : Expr} {es : List Expr} {to te : TE} {ta : TA} {f : Str} {p p' p1 p2 pos apos : Pos} {x : Str}
theorem pe_binit {B nI initId : String} {tB : List Value} {pl : Sem Bool} (Y : BaseX B nI initId tB) (hg : Gl X x) (hm : X.mg x = none) (hv : bootBuiltins x = some (.type B)) (vV : PySem.W.findCls X.K (.type B) (.type "type") "__init__" = some (.val (.builtin initId))) (hi : PySem.W.handedIn (.builtin initId) = true) (ha : PA X (e :: es) ta)
    (hn : x ≠ "__name__" := by decide) (hd : (x == ("__debug__" : Str)) = false := by decide)
    (hc : eval (.Call (.Attribute (.Name x p1) "__init__" p2) (e :: es) [] pos) X.env = (do
      let ov ← eval (.Name x p1) X.env
      standAt p2.atName
      let (f, first) ← holding [ov] (getMethod ov "__init__" pl)
      callWith pos f first (backTo pos (starEach (e :: es) X.env)) (backToKw pos (keywordEach [] X.env))) := by rfl)
    (he : starEach (e :: es) X.env = (false, eval e X.env) :: starEach es X.env := by rfl) (hpl : (backTo pos (starEach es X.env)).any (·.1) = false := by rfl) :
    PE X (.Call (.Attribute (.Name x p1) "__init__" p2) (e :: es) [] pos) (tBin X.K B ta) := by
  refine ⟨fun pins s σ H Q I h => ?_⟩
  refine PySem.W.methodCall_KW (ld_blt I hg hm hv ?_ hn hd) hc
  obtain ⟨m, fr⟩ := I.fr
  refine PySem.W.method_type fr I.ok.mod.kin Y.ty Y.stub vV hi ?_
  show wpAny _ _ (callWith pos (Value.builtin initId) [] (backTo pos (starEach (e :: es) X.env)) []) _ _ _
  refine PyProof.Rows.callWith_method1 (thn (ha.run pos pins _ σ H _ (I.tok _) h) fun us s1 ⟨vs, H1, I1, r1, a, C, tail, ws, ev, hl, T, hB, ea, q⟩ => ?_) he hpl
  subst ev
  cases r1 with
  | @cons _ u0 _ ur ra rw' =>
    obtain rfl : u0 = Value.ref a := ra
    have hlen : ur.length ≤ sizeLine := by
      rw [← Paired.length rw', sizeLine_eq]
      omega
    exact binit_ok Y T hB I1 ea hlen fun s' J => ⟨.non, H1, J, rfl, q⟩
theorem ps_ostB (ho : PE X o to) (he : PE X e te) (hs : swapsWith e (some (.Attribute o f p')) pos.line X.env = pure false := by rfl) : PS X (.Assign [.Attribute o f p'] e pos) (tOsB X.K f to te) := by
  refine ⟨fun pins s σ H D I h => ?_⟩
  refine plainObj_wpAny_Assign_Attribute (thn (he.run pins s σ H _ I h) fun v s1 ⟨y, H1, I1, r1, q1⟩ => thn (ho.run pins s1 σ H1 _ I1 q1) fun u s2 ⟨x, H2, I2, r2, a, C, tail, ex, T, hno, q⟩ => ?_) hs
  subst ex
  obtain rfl : u = Value.ref a := r2
  rcases q with ⟨ea, q⟩ | ⟨dx, fs, ea, ed, hl, q⟩
  · exact ostB_new T I2 ea hno r1 fun dx s' n ne J => ⟨σ, _, J, q dx n ne⟩
  · exact ostB_old T I2 ea ed hl hno r1 fun s' J => ⟨σ, _, J, q⟩
def tUMe (C : Addr) (sp : Sp) (E : XK) (to : TE) (t : TA) : TE := fun σ H Q => to σ H fun x H1 => x = .ref C ∧ t σ H1 fun vs H2 => sp vs H2 Q E
theorem pe_umeth {CX : CXT} {k : Nat} {C fn : Addr} {m : Str} {fd : FuncData} {ps : List Str} {sp : Sp} {E : XK} {pl : Sem Bool} (ho : PE X o to) (U : UMeth X.K C m fn) (F : FnOk X.prog X.w X.K X.mg X.base CX k fn fd ps sp) (hr : Room k X.A) (hb : Binds X.K fd ps []) (hx : Passes CX X E) (ha : PA X (e :: es) ta)
    (hst : starEach (e :: es) X.env = (false, eval e X.env) :: starEach es X.env := by rfl) (hpl : (backTo pos (starEach es X.env)).any (·.1) = false := by rfl)
    (ht : eval (.Call (.Attribute o m apos) (e :: es) [] pos) X.env = (do
      let ov ← eval o X.env
      standAt apos.atName
      let (f, first) ← holding [ov] (getMethod ov m pl)
      callWith pos f first (backTo pos (starEach (e :: es) X.env)) (backToKw pos (keywordEach [] X.env))) := by rfl) :
    PE X (.Call (.Attribute o m apos) (e :: es) [] pos) (tUMe C sp E to ta) := by
  refine ⟨fun pins s σ H Q I h => ?_⟩
  refine PySem.W.methodCall_KW (pl := pl) (thn (ho.run pins s σ H _ I h) fun u s1 ⟨x, H1, I1, rx, ex, q⟩ => ?_) ht
  subst ex
  obtain rfl : u = Value.ref C := rx
  refine PySem.W.method_cls I1.kIn U.ga (PySem.W.cls_value I1.kIn U.rd U.at_ rfl ?_)
  have I2 : Inv X pins σ H1 { s1 with toks := s1.toks + 1 } := I1.tok _
  refine PySem.W.callWith_K (first := []) (h₀ := X.base) I.ok.mod.kin U.kp (thn (ha.run pos pins _ σ H1 _ I2 q) fun us s3 ⟨vs, H2, I3, rv, q2⟩ => ⟨I3.kIn, ?_⟩) hst hpl
  have q3 : sp (vs ++ []) H2 Q E := by rw [List.append_nil]; exact q2
  exact run_fn F hr hb (dvs := []) (ds := []) .nil hx I3 rv q3
end
end OM

namespace PySem.W
open PySem PySem.Spec PySem.Calls PyProof.Rows
theorem om_forIn_pass {M : Model} {A : Around} {β : Type} {f : Value → β → Sem (ForInStep β)} {b : β} {E : Value → Shared → Prop} {s : Shared} : ∀ {l : List Value} {Q : β → Shared → Prop},
    (∀ c ∈ l, ∀ (Q : ForInStep β → Shared → Prop), Q (.yield b) s → wpAny M A (f c b) Q E s) → Q b s → wpAny M A (forIn l b f) Q E s
  | [], Q, _, q => by
    rw [List.forIn_nil]
    exact wpAny_pure q
  | c :: l, Q, h, q => by
    rw [List.forIn_cons]
    refine wpAny_bind (h c List.mem_cons_self _ ?_)
    exact om_forIn_pass (fun c hc => h c (List.mem_cons_of_mem _ hc)) q
theorem om_forIn_any {M : Model} {A : Around} {β : Type} {f : Value → β → Sem (ForInStep β)} {b x : β} {E : Value → Shared → Prop} {s : Shared} (g : Value → Bool) : ∀ {l : List Value} {Q : β → Shared → Prop},
    (∀ c ∈ l, ∀ (Q : ForInStep β → Shared → Prop), Q (if g c = true then .done x else .yield b) s → wpAny M A (f c b) Q E s) → Q (if l.any g = true then x else b) s → wpAny M A (forIn l b f) Q E s
  | [], Q, _, q => by
    rw [List.forIn_nil]
    exact wpAny_pure q
  | c :: l, Q, h, q => by
    rw [List.forIn_cons]
    refine wpAny_bind (h c List.mem_cons_self _ ?_)
    rw [List.any_cons] at q
    cases e : g c with
    | true =>
      rw [e, Bool.true_or, if_pos rfl] at q
      rw [if_pos rfl]
      exact wpAny_pure q
    | false =>
      rw [e, Bool.false_or] at q
      rw [if_neg Bool.false_ne_true]
      exact om_forIn_any g (fun c hc => h c (List.mem_cons_of_mem _ hc)) q
theorem om_exmAny_all {K : Frag} {cls : Value} : ∀ {l : List Value} {b : Bool}, exmAny K cls l = some b → (∀ c ∈ l, exmOne K cls c = some (exmOne K cls c == some true)) ∧ b = l.any fun c => exmOne K cls c == some true
  | [], b, h => by
    have e : some false = some b := h
    cases e
    exact ⟨fun c hc => (nomatch hc), rfl⟩
  | c :: l, b, h => by
    obtain ⟨b1, d1, h1, h2, rfl⟩ := exmAny_cons h
    obtain ⟨i1, i2⟩ := om_exmAny_all h2
    refine ⟨fun x hx => ?_, ?_⟩
    · rcases List.mem_cons.mp hx with rfl | hx
      · rw [h1]
        cases b1 <;> rfl
      · exact i1 x hx
    · rw [List.any_cons, h1, ← i2]
      cases b1 <;> rfl
theorem om_exm_tup {M : Model} {K : Frag} {cs : List Value} {cls : Value} {tp e : Addr} {b : Bool} {h : Heap} {ot : Obj} {nt : Nat} (X : K.In h) (LT : Looks M h (typeOf (.ref e)) cls) (hp : h.get? tp = some ot) (hoc : ot.cls = .type "tuple") (hod : ot.data = .seq cs.toArray nt) (hx : exmAny K cls cs = some b) :
    Looks M h (excMatches (.ref e) (.ref tp)) b := by
  intro A Q E s k₀ q
  obtain ⟨hh, g, d, tk, os⟩ := s
  have k : ∀ b o, h.get? b = some o → hh.get? b = some o := k₀
  obtain ⟨oc, odd, odt, osl⟩ := ot
  dsimp only at hoc hod
  subst hoc hod
  have LT0 : Looks M h (isInstance (.ref tp) (.type "tuple")) true := ((Looks.ld hp).andThen .now).andThen (Looks.of_pure isSubtype_tuple_tuple)
  obtain ⟨hall, hb⟩ := om_exmAny_all hx
  have LT := LT.keeps k
  have LT0 := LT0.keeps k
  have hp' := k _ _ hp
  unfold excMatches
  refine wpAny_bind (LT0.at ?_)
  dsimp only
  rw [if_pos rfl]
  first
    | refine wpAny_bind (wpAny_seqItems hp' rfl ?_)
    | refine wpAny_bind (wpAny_bind (wpAny_seqItems hp' rfl (wpAny_pure ?_)))
  dsimp only [Option.getD_some, Option.getD]
  refine wpAny_bind (wpAny_pure ?_)
  refine wpAny_bind (om_forIn_pass (fun c hc Q q => ?_) ?_)
  · refine wpAny_bind (((exm_cls (M := M) X (hall c hc)).1.keeps k).at ?_)
    simp only [Bool.not_true, Bool.false_eq_true, if_false]
    exact wpAny_pure q
  · refine wpAny_bind (LT.at ?_)
    refine wpAny_bind (om_forIn_any (fun c => exmOne K cls c == some true) (x := (some true, ())) (fun c hc Q q => ?_) ?_)
    · refine wpAny_bind (((exm_cls (M := M) X (hall c hc)).2.keeps k).at ?_)
      cases e : (exmOne K cls c == some true) with
      | true =>
        rw [e, if_pos rfl] at q
        rw [if_pos rfl]
        exact wpAny_pure q
      | false =>
        rw [e, if_neg Bool.false_ne_true] at q
        rw [if_neg Bool.false_ne_true]
        exact wpAny_pure q
    · rw [← hb]
      cases b with
      | true =>
        rw [if_pos rfl]
        exact wpAny_pure q
      | false =>
        rw [if_neg Bool.false_ne_true]
        exact wpAny_pure q
end PySem.W

namespace PySem.W
open PySem PySem.Spec PySem.Calls PyProof.Rows
section
variable {prog : Program} {w : World} {A : Around} {E : Value → Shared → Prop} {s : Shared} {K : Frag} {x D : Addr} {ox : Obj}
theorem om_findObj_data {C : Addr} {od : Option Obj} {name : Str} {a g : Value} (hc : (clsIn K C).isSome = true) (ha : findIn K (.ref C) name = some (some a)) (hg : specialIn K a "__get__" = some (some g)) (ht : takesIn K a = some true) : findObj K C od name = some (.bind g a) := by
  obtain ⟨cd, hc⟩ := Option.isSome_iff_exists.mp hc
  unfold findObj
  rw [hc, Option.bind_some, ha, Option.bind_some]
  simp [hg, ht]
theorem om_classE {od : Option Obj} {Q : Option Value → Shared → Prop} (hga : findIn K (.ref D) "__getattribute__" = some (some (.builtin "BaseException.__getattribute__"))) (hgt : findIn K (.ref D) "__getattr__" = some none) (hsub : subIn K (.ref D) (.type "BaseException") = some true)
    (hdct : hasDictIn K D = true) (ha : findIn K (.ref D) "__class__" = some (some (.builtin "object.__class__")))
    (hn : specialIn K (.builtin "object.__class__") "__get__" = some (some (.builtin "getset_descriptor.__get__"))) (htk : takesIn K (.builtin "object.__class__") = some true) (hm : mroIn K D (.type "object") = some true)
    (X : K.In s.heap) (I : InstAt s.heap x ox D od) (h : Q (some (.ref D)) { s with toks := s.toks + 1 }) : wpAny (model prog w) A (getAttr? (.ref x) "__class__") Q E s := by
  have hf : findObj K D od "__class__" = some (.bind (.builtin "getset_descriptor.__get__") (.builtin "object.__class__")) := om_findObj_data (by obtain ⟨cd, hc, _⟩ := any_some hdct; rw [hc]; rfl) ha hn htk
  obtain ⟨hp, g, d, t, os⟩ := s
  have L0 := I.type (M := model prog w)
  have L1 := looks_findIn (M := model prog w) X hga
  have L2 := looks_findIn (M := model prog w) X hgt
  have L3 := looks_find (M := model prog w) X I hf
  have sub : Looks (model prog w) hp (isInstance (.ref x) (.type "BaseException")) true := L0.andThen (looks_subIn X hsub)
  have hx0 : (false && onTheHeap (Value.builtin "BaseException.__getattribute__")) = false := rfl
  have hx2 : (Value.builtin "BaseException.__getattribute__" == Value.builtin "object.__getattribute__") = false := by decide +kernel
  have hx1 : (onTheHeap (Value.ref D) && Value.builtin "BaseException.__getattribute__" == Value.builtin "object.__getattribute__") = false := by rw [hx2]; rfl
  unfold getAttr? getAttrBy? getAttrBy
  refine wpAny_bind (wpAny_mkText (wpAny_bind (wpAny_attempt (wpAny_holding (wpAny_bind (L0.at (wpAny_bind (L1.at ?_))))))))
  show wpAny _ _ (if (onTheHeap (Value.ref D) && Value.builtin "BaseException.__getattribute__" == Value.builtin "object.__getattribute__") = true then _ else _) _ _ _
  rw [hx1, if_neg Bool.false_ne_true]
  unfold getAttrByItsOwn hookBefore
  refine wpAny_bind ?_
  rw [if_pos (show onTheHeap (Value.ref D) = true from rfl)]
  refine L2.at ?_
  refine wpAny_bind (wpAny_attempt (wpAny_holding ?_))
  unfold callGetattribute
  rw [hx0, if_neg Bool.false_ne_true]
  unfold boundAndCalled
  rw [PySem.F.excAttr_ValueError.ga.bind (.ref x)]
  refine wpAny_bind (wpAny_pure ?_)
  show wpAny _ _ (call (.builtin "BaseException.__getattribute__") [.ref x, .str "__class__" t]) _ _ _
  refine wpAny_call (codeAny_call_builtin PySem.F.excAttr_ValueError.ga.plain PySem.F.entry_bexc_ga ?_)
  refine @check_slot (model prog w) _ _ ⟨hp, g, d, t + 1, os⟩ "BaseException.__getattribute__" "BaseException" "__getattribute__" (.ref x) [.str "__class__" t] [] _ (by decide +kernel) (by decide +kernel) sub (PySem.F.args_bexc_ga (.ref x) (.str "__class__" t)) ?_
  unfold Builtin.«object.__getattribute__»
  refine wpAny_bind (wpAny_of_eq (a := ((Value.ref x : Value), [Value.str "__class__" t])) (by first | rfl | (simp only [slotArgs]; rfl)) ?_)
  refine wpAny_bind (wpAny_pure (wpAny_bind (L0.at (wpAny_bind (L3.at ?_)))))
  show wpAny _ _ (holding [Value.builtin "object.__class__"] (call (.builtin "getset_descriptor.__get__") [.builtin "object.__class__", .ref x, .ref D]) >>= ret) _ _ _
  refine wpAny_bind (wpAny_holding (wpAny_call (class_get (s := ⟨hp, g, d, t + 1, os⟩) (ox := ox) (od := od) X I hm ?_)))
  refine wpAny_pure ?_
  show wpAny _ _ (handedOut (.ref D)) _ _ _
  rw [handedOut_of (v := .ref D) rfl]
  first
    | exact wpAny_pure (wpAny_pure h)
    | exact wpAny_pure h
    | exact wpAny_pure (wpAny_bind (wpAny_pure (wpAny_pure h)))
theorem om_kitx_exc {od : Option Obj} (hga : findIn K (.ref D) "__getattribute__" = some (some (.builtin "BaseException.__getattribute__"))) (hgt : findIn K (.ref D) "__getattr__" = some none) (hsub : subIn K (.ref D) (.type "BaseException") = some true) (hdct : hasDictIn K D = true) (ha : findIn K (.ref D) "__class__" = some (some (.builtin "object.__class__")))
    (hn : specialIn K (.builtin "object.__class__") "__get__" = some (some (.builtin "getset_descriptor.__get__"))) (htk : takesIn K (.builtin "object.__class__") = some true) (hm : mroIn K D (.type "object") = some true) :
    KitX K (.ref x) (.ref D) (fun h => InstAt h x ox D od) where
  ty := fun _ _ _ I => I.type
  it := fun _ _ X _ => by
    obtain ⟨cdD, hcD, _⟩ := any_some hdct
    unfold clsIn at hcD
    split at hcD
    · rename_i c' d' cd' sl' ho
      intro A' Q' E' s' k q
      unfold isType loadHead
      exact wpAny_bind (wpAny_loadPart (k _ _ (X _ _ ho)) (wpAny_pure q))
    · cases hcD
  ne := fun h tp dd its n sl X htp => by
    obtain ⟨cdD, hcD, _⟩ := any_some hdct
    refine Bool.eq_false_iff.mpr fun q => ?_
    have e : D = tp := Value.ref.inj (beq_iff_eq.mp q)
    subst e
    unfold clsIn at hcD
    split at hcD
    · rename_i c' d' cd' sl' ho
      have z := (X _ _ ho).symm.trans htp
      cases z
    · cases hcD
  ca := fun X I k => om_classE hga hgt hsub hdct ha hn htk hm X I k
end
end PySem.W

namespace OM
open PySem PySem.Spec PyProof.Rows L2
/-- the type of an exception that is tracked, or of None -/
inductive TyE (K : PySem.W.Frag) (H : Hp) : V → Value → Prop where
  | base {x : V} {t : Value} (h : TyX K H x t) : TyE K H x t
  | exc {a C : Addr} : ExcC K C → H a = some (exo a C none) → TyE K H (.ref a) (.ref C)
  | excD {a C dx : Addr} {fs : List (Str × V)} : ExcC K C → H a = some (exo a C (some dx)) → H dx = some (exd dx fs) → TyE K H (.ref a) (.ref C)
def rIsB (K : PySem.W.Frag) : List V → Hp → VK → Prop := fun xs H Q => ∃ (x c : V) (t u : Value) (b : Bool), xs = [x, c] ∧ ClsV c u ∧ TyE K H x t ∧ PySem.W.kitOne K t u = some b ∧ Q (.bl b) H
section
variable {X : Cx}
theorem exo_inst {P : Program} {w : World} {H : Hp} {h : Heap} {a C : Addr} (hok : HOk P w H h) (e : H a = some (exo a C none)) : ∃ ox, PySem.W.InstAt h a ox C none := by
  obtain ⟨t1, ho⟩ := exo_at hok e
  exact ⟨_, ho, rfl, rfl, trivial⟩
theorem exo_instD {P : Program} {w : World} {H : Hp} {h : Heap} {a C dx : Addr} {fs : List (Str × V)} (hok : HOk P w H h) (e : H a = some (exo a C (some dx))) (ed : H dx = some (exd dx fs)) : ∃ ox od, PySem.W.InstAt h a ox C (some od) ∧ ∀ f v, fs.lookup f = some v → ∃ u, RelV v u ∧ PySem.W.lookIn f od = some (some u) := by
  obtain ⟨t1, ho⟩ := exo_at hok e
  obtain ⟨mA, hns, rel⟩ := exd_at hok ed
  obtain ⟨od, hod, hl⟩ := lookIn_ns hns
  refine ⟨_, od, ⟨ho, rfl, rfl, hod⟩, fun f v e => ?_⟩
  obtain ⟨u, hu, ru⟩ := RelO.some_of (v := v) (o := mA f) (by rw [← e]; exact rel f)
  exact ⟨u, ru, by rw [hl, hu]⟩
theorem call_isB : CallR X (.builtin "isinstance") (rIsB X.K) := by
  intro pins s σ H xs us Q I r h
  obtain ⟨x, c, t, u, b, rfl, k, ty, e, q⟩ := h
  obtain ⟨u1, u2, rfl, r1, r2⟩ := vals2 r
  have e2 := k.eq r2
  subst e2
  cases ty with
  | base h0 =>
    obtain ⟨P, Z, p, hx⟩ := kit_of I r1 h0
    exact PySem.W.kia_one Z I.kIn p e hx fun tk => ⟨.bl b, H, I.tok tk, rfl, q⟩
  | @exc a C T ea =>
    obtain rfl : u1 = Value.ref a := r1
    obtain ⟨ox, J⟩ := exo_inst I.hok ea
    exact PySem.W.kia_one (PySem.W.om_kitx_exc T.hg T.hk T.hs T.hd T.ha T.hn T.ht T.hm) I.kIn J e (fun z => nomatch z) fun tk => ⟨.bl b, H, I.tok tk, rfl, q⟩
  | @excD a C dx fs T ea ed =>
    obtain rfl : u1 = Value.ref a := r1
    obtain ⟨ox, od, J, _⟩ := exo_instD I.hok ea ed
    exact PySem.W.kia_one (PySem.W.om_kitx_exc T.hg T.hk T.hs T.hd T.ha T.hn T.ht T.hm) I.kIn J e (fun z => nomatch z) fun tk => ⟨.bl b, H, I.tok tk, rfl, q⟩
/-- e.f, e an exception that is tracked -/
def tXfB (K : PySem.W.Frag) (f : Str) (te : TE) : TE := fun σ H Q => te σ H fun x H1 => ∃ (a C dx : Addr) (fs : List (Str × V)) (v : V), x = .ref a ∧ XfC K C ∧ PySem.W.findIn K (.ref C) f = some none ∧ H1 a = some (exo a C (some dx)) ∧ H1 dx = some (exd dx fs) ∧ fs.lookup f = some v ∧ Q v H1
theorem pe_xfB {e : Expr} {te : TE} {pos : Pos} {n : Str} (he : PE X e te) (hb : attributeBase e n X.env (eval e X.env) = eval e X.env := by rfl) : PE X (.Attribute e n pos) (tXfB X.K n te) := by
  refine ⟨fun pins s σ H Q I h => ?_⟩
  refine attr_of hb (thn (he.run pins s σ H _ I h) fun u s1 hh => ?_)
  obtain ⟨x, H1, I1, rx, a, C, dx, fs, v, ex, T, hno, ea, ed, l, q⟩ := hh
  subst ex
  obtain rfl : u = Value.ref a := rx
  obtain ⟨ox, od, J, hl⟩ := exo_instD I1.hok ea ed
  obtain ⟨u, ru, hu⟩ := hl n v l
  exact HandSPX.exc_get I1.kIn J T.ga T.gg T.exC (PySem.W.findObj_own T.hdC hno rfl hu) (handed_of ru) ⟨v, H1, I1.tok _, ru, q⟩
end

/-! ### making -/
structure MkB (K : PySem.W.Frag) (C fI : Addr) (tail : List Value) : Prop where
  T : OexB K C tail
  iC : PySem.W.findIn K (.ref C) "__init__" = some (some (.ref fI))
  tI : PySem.W.typeIn K (.ref fI) = some (.type "function")
section
variable {X : Cx} {CX : CXT} {k : Nat} {fI C : Addr} {fd : FuncData} {ps : List Str} {sp : Sp} {dvs : List V} {ds : List Value} {x : Str} {p pos : Pos} {e : Expr} {es : List Expr} {ta : TA} {tail : List Value}
theorem run_mkB {pins : List (Addr × Obj)} {σ : L2.St} {H : Hp} {s : Shared} {R : Value → Shared → Prop} {us : List Value} {vs : List V} {RR : Addr → Hp → Prop} (M : MkB X.K C fI tail) (F : FnOk X.prog X.w X.K X.mg X.base CX k fI fd ps sp) (hr : Room (k + 1) X.A) (hb : Binds X.K fd ps ds) (hd : Vals dvs ds)
    (hx : Passes CX X E0) (I : Inv X pins σ H s) (r : Vals vs us) (hz : vs.length ≤ 1000)
    (h : ∀ a, H a = none → sp (.ref a :: (vs ++ dvs)) (upd H a (exo a C none)) (fun v H2 => v = .non ∧ RR a H2) E0)
    (hR : ∀ s2 H2 hp2, s.heap.objs.size ≤ s.heap.objs.size + 1 → (∀ b o, s.heap.get? b = some o → hp2.get? b = some o) → Un (frs X.stack) [] (upd H (s.heap.objs.size + 1) (exo (s.heap.objs.size + 1) C none)) H2 hp2 s2.heap → HOk X.prog X.w H2 s2.heap → s2.os = s.os → AllBare s2.gens →
      Inv X pins σ H2 s2 → RR (s.heap.objs.size + 1) H2 → R (.ref (s.heap.objs.size + 1)) s2) :
    wpAny (model X.prog X.w) X.A (call (.ref C) us) R X.xe s := by
  obtain ⟨B, newId, initId, nm, q, N, bs, bm, sn, sub, ab, col, dd, k0, k1, k2, k3, k5, Y, hC, hbm⟩ := M.T.cls
  obtain ⟨hp, g, dr, tk, os⟩ := s
  have hsz : hp.objs.size ≤ hp.objs.size + 1 := Nat.le_succ _
  have hn : H (hp.objs.size + 1) = none := I.hok.fresh hsz
  have hq := h (hp.objs.size + 1) hn
  have kk : ∀ b o, hp.get? b = some o → ((hp.push (PySem.W.kdv_tup us)).push (PySem.HandSPX.excO C hp.objs.size)).get? b = some o := fun b o e => Heap.get?_push_of_some _ (Heap.get?_push_of_some _ e)
  have hget : ((hp.push (PySem.W.kdv_tup us)).push (PySem.HandSPX.excO C hp.objs.size)).get? (hp.objs.size + 1) = some (PySem.HandSPX.excO C hp.objs.size) := by heap_get
  have I2 : Inv X pins σ (upd H (hp.objs.size + 1) (exo (hp.objs.size + 1) C none)) ⟨(hp.push (PySem.W.kdv_tup us)).push (PySem.HandSPX.excO C hp.objs.size), g, dr, tk, os⟩ :=
    I.laid (t' := tk) (a := hp.objs.size + 1) (o := exo (hp.objs.size + 1) C none) (h' := (hp.push (PySem.W.kdv_tup us)).push (PySem.HandSPX.excO C hp.objs.size)) kk hsz (exo_ok hget)
  have r2 : Vals (V.ref (hp.objs.size + 1) :: (vs ++ dvs)) (Value.ref (hp.objs.size + 1) :: (us ++ ds)) := .cons rfl (r.append hd)
  have hl : (Value.ref (hp.objs.size + 1) :: us ++ ds).length = ps.length := by
    have e := r2.length
    rw [F.len _ _ _ _ hq] at e
    exact e.symm
  have hus : us.length ≤ sizeLine := by
    rw [← Paired.length r, sizeLine_eq]
    omega
  refine wpAny_call (callX Y hbm (I.kIn _ _ hC) (PySem.W.looks_findIn I.kIn M.iC) (fun self => PySem.W.bind_fn I.kIn self M.tI) hus
    (codeAny_mono (F.run _ X.stack _ _ ⟨Value.ref (hp.objs.size + 1) :: us, []⟩ (Value.ref (hp.objs.size + 1) :: (us ++ ds)) _ _ E0 (hr.make C us []) (I2.env0.make C us []) (hb _ (Value.ref (hp.objs.size + 1) :: us) I2.kIn hl) r2 hq) fun r s' hq' => ?_))
  cases r with
  | error er => exact hx pins σ _ _ er s' I2 hq'
  | ok fl =>
    cases fl with
    | ret u =>
      have hq2 := hq'
      obtain ⟨v, H2, os2, bare2, un2, hok2, rv, ev, rr⟩ := hq2
      subst ev
      obtain ⟨_, _, I3, _, _⟩ := I2.after (Q := fun _ _ => True) ⟨.non, H2, os2, bare2, un2, hok2, rv, trivial⟩
      have I3' : Inv X pins σ H2 s' := I2.call' (ch := []) os2 un2 hok2 bare2 (fun b z => absurd z (by simp))
      exact ⟨rv, hR s' H2 _ hsz kk un2 hok2 os2 bare2 I3' rr⟩
    | next => exact False.elim hq'
    | brk => exact False.elim hq'
    | cont => exact False.elim hq'
/-- C(e, ..) as a value: a new exception, tracked -/
def tMkV (C : Addr) (sp : Sp) (dvs : List V) (ta : TA) : TE := fun σ H Q => ta σ H fun vs H1 => vs.length ≤ 1000 ∧ ∀ a, H1 a = none → sp (.ref a :: (vs ++ dvs)) (upd H1 a (exo a C none)) (fun v H2 => v = .non ∧ Q (.ref a) H2) E0
theorem pe_mkV (M : MkB X.K C fI tail) (F : FnOk X.prog X.w X.K X.mg X.base CX k fI fd ps sp) (hr : Room (k + 1) X.A) (hg : Gl X x) (hm : X.mg x = some (.ref C)) (hb : Binds X.K fd ps ds) (hd : Vals dvs ds) (hx : Passes CX X E0)
    (ha : PA X (e :: es) ta) (hdb : (x == ("__debug__" : Str)) = false := by decide) (he : starEach (e :: es) X.env = (false, eval e X.env) :: starEach es X.env := by rfl) (hpl : (backTo pos (starEach es X.env)).any (·.1) = false := by rfl) :
    PE X (.Call (.Name x p) (e :: es) [] pos) (tMkV C sp dvs ta) := by
  refine ⟨fun pins s σ H Q I h => ?_⟩
  refine wpAny_Call_Name_kw (ld_glob I hg hm ?_ hdb)
  refine PySem.W.callWith_K (h₀ := X.base) I.ok.mod.kin M.T.kC (thn (ha.run pos pins s σ H _ I h) fun us s1 ⟨vs, H1, I1, r, hz, q⟩ => ⟨I1.kIn, ?_⟩) he hpl
  exact run_mkB (RR := fun a H2 => Q (.ref a) H2) M F hr hb hd hx I1 r hz q fun s2 H2 hp2 _ _ _ _ _ _ I2 rr => ⟨.ref _, H2, I2, rfl, rr⟩
theorem pe_mkV0 (M : MkB X.K C fI tail) (F : FnOk X.prog X.w X.K X.mg X.base CX k fI fd ps sp) (hr : Room (k + 1) X.A) (hg : Gl X x) (hm : X.mg x = some (.ref C)) (hb : Binds X.K fd ps ds) (hd : Vals dvs ds) (hx : Passes CX X E0)
    (hdb : (x == ("__debug__" : Str)) = false := by decide) : PE X (.Call (.Name x p) [] [] pos) (tMkV C sp dvs tNil) := by
  refine ⟨fun pins s σ H Q I h => ?_⟩
  refine wpAny_Call_Name_kw (ld_glob I hg hm ?_ hdb)
  refine PySem.W.callWith_K0 I.kIn M.T.kC ?_
  obtain ⟨hz, q⟩ := (show ([] : List V).length ≤ 1000 ∧ _ from h)
  exact run_mkB (us := []) (vs := []) (RR := fun a H2 => Q (.ref a) H2) M F hr hb hd hx I .nil hz q fun s2 H2 hp2 _ _ _ _ _ _ I2 rr => ⟨.ref _, H2, I2, rfl, rr⟩
/-- a made exception without a dict is let go -/
theorem mk_endN {pins : List (Addr × Obj)} {σ : L2.St} {H1 H2 : Hp} {hp hp2 h2 : Heap} {g1 g2 : Array GenState} {d1 d2 : Drawn} {t1 t2 : Nat} {os1 os2 : OsState} {a C : Addr} (I1 : Inv X pins σ H1 ⟨hp, g1, d1, t1, os1⟩)
    (ha : hp.objs.size ≤ a) (k : ∀ b o, hp.get? b = some o → hp2.get? b = some o) (un : Un (frs X.stack) [] (upd H1 a (exo a C none)) H2 hp2 h2) (hok : HOk X.prog X.w H2 h2) (ho : os2 = os1) (hb : AllBare g2)
    (ea : H2 a = some (exo a C none)) :
    ∃ (t0 : Addr) (G : Heap), Inv X pins σ (del H2 a) ⟨G, g2, d2, t2, os2⟩ ∧ (∀ b o, G.get? b = some o → h2.get? b = some o) ∧ G.get? a = none ∧
      h2.get? a = some ({ cls := .ref C, dict := none, data := .fields #[.ref t0, .none, .none, .none, .bool false, .none] } : Obj) ∧ (del H2 a) a = none := by
  obtain ⟨t0, hoe⟩ := exo_at hok ea
  have hn : H1 a = none := I1.hok.fresh ha
  obtain ⟨G, g1', g2'⟩ := restrict h2 fun b => decide (b ≠ a)
  have gk : ∀ b, b ≠ a → G.get? b = h2.get? b := fun b hb => g1' b (decide_eq_true hb)
  have ge : G.get? a = none := g2' a (by simp)
  have nha : ∀ {b : Addr} {o : Obj}, hp.get? b = some o → b ≠ a := fun {b o} z => Nat.ne_of_lt (Nat.lt_of_lt_of_le (Heap.lt_size z) ha)
  have up : ∀ {b : Addr}, b ≠ a → H1 b = none → upd H1 a (exo a C none) b = none := fun {b} hb n => by rw [upd_ne hb]; exact n
  have U : Un (frs X.stack) [] H1 (del H2 a) hp G := {
    keep := fun b o z n hf hx => by
      rw [gk b (nha z)]
      exact un.keep b o (k b o z) (up (nha z) n) hf hx
    slot := fun b o z n hf hx => by
      rw [gk b (nha z)]
      exact un.slot b o (k b o z) (up (nha z) n) hf hx
    free := fun b o z n hx => by
      rw [del_ne (nha z)]
      exact un.free b o (k b o z) (up (nha z) n) hx
    there := fun b o z hx => by
      rw [gk b (nha z)]
      exact un.there b o (k b o z) hx
    tups := fun b xs z => by
      rw [del_ne (ne_of_none z hn)]
      exact un.tups b xs (by rw [upd_ne (ne_of_none z hn)]; exact z)
    frzs := fun b o v z => by
      rw [del_ne (ne_of_none z hn)]
      exact un.frzs b o v (by rw [upd_ne (ne_of_none z hn)]; exact z)
    tbls := fun b ps z => by
      rw [del_ne (ne_of_none z hn)]
      exact un.tbls b ps (by rw [upd_ne (ne_of_none z hn)]; exact z) }
  have hok3 : HOk X.prog X.w (del H2 a) G := fun b o z => by
    have hba : b ≠ a := fun e => by
      rw [e, del_same] at z
      cases z
    rw [del_ne hba] at z
    have noa : ∀ {c : Addr}, H2 c = some (.own b) → c ≠ a := fun {c} hc => at_ne ea hc exo_own
    exact (hok b o z).stay (fun c v hc y => by
        have hca : c ≠ a := by
          rcases hc with hc | hc
          · rw [hc]
            exact hba
          · exact noa hc
        rw [gk c hca]
        exact y)
      (fun c hc => by rw [del_ne (noa hc)]; exact hc) (fun c xs hc => by rw [del_ne (at_ne ea hc exo_tup)]; exact hc)
  have J : Inv X pins σ (del H2 a) ⟨G, g2, d2, t2, os2⟩ := I1.call' (ch := []) ho U hok3 hb (fun b z => absurd z (by simp))
  refine ⟨t0, G, J, fun b o z => ?_, ge, hoe, del_same⟩
  by_cases hba : b = a
  · rw [hba, ge] at z
    cases z
  · exact (gk b hba).symm.trans z
/-- raise C(e, ..) -/
def MkR (C : Addr) (H1 : Hp) (Q : XK) (a : Addr) (H2 : Hp) : Prop := (H2 a = some (exo a C none) ∧ Q (.ref C) none (del H2 a)) ∨
  ∃ (d : Addr) (fs : List (Str × V)), H2 a = some (exo a C (some d)) ∧ H2 d = some (exd d fs) ∧ H1 d = none ∧ Q (.ref C) (some d) (upd (del H2 a) d (.xd fs))
def tMkR (C : Addr) (sp : Sp) (dvs : List V) (ta : TA) : L2.St → Hp → XK → Prop := fun σ H Q => ta σ H fun vs H1 => vs.length ≤ 1000 ∧ ∀ a, H1 a = none → sp (.ref a :: (vs ++ dvs)) (upd H1 a (exo a C none)) (fun v H2 => v = .non ∧ MkR C H1 Q a H2) E0
theorem pmk_B (M : MkB X.K C fI tail) (F : FnOk X.prog X.w X.K X.mg X.base CX k fI fd ps sp) (hr : Room (k + 1) X.A) (hg : Gl X x) (hm : X.mg x = some (.ref C)) (hb : Binds X.K fd ps ds) (hd : Vals dvs ds) (hx : Passes CX X E0)
    (ha : PA X (e :: es) ta) (hdb : (x == ("__debug__" : Str)) = false := by decide) (he : starEach (e :: es) X.env = (false, eval e X.env) :: starEach es X.env := by rfl) (hpl : (backTo pos (starEach es X.env)).any (·.1) = false := by rfl) :
    PMk X (.Call (.Name x p) (e :: es) [] pos) (tMkR C sp dvs ta) := by
  intro pins s σ H Q I h
  refine wpAny_Call_Name_kw (ld_glob I hg hm ?_ hdb)
  refine PySem.W.callWith_K (h₀ := X.base) I.ok.mod.kin M.T.kC (thn (ha.run pos pins s σ H _ I h) fun us s1 ⟨vs, H1, I1, r, hz, q⟩ => ⟨I1.kIn, ?_⟩) he hpl
  refine run_mkB (RR := MkR C H1 Q) M F hr hb hd hx I1 r hz q fun s2 H2 hp2 hsz kk un2 hok2 os2 bare2 _ rr => ?_
  obtain ⟨hp, g, dr, tk, os⟩ := s1
  obtain ⟨h2, g2, d2, t2, os'⟩ := s2
  rcases rr with ⟨ea, q2⟩ | ⟨d, fs, ea, ed, hd1, q2⟩
  · obtain ⟨t0, G, J, kG, ge, hoe, na⟩ := mk_endN (d2 := d2) (t2 := t2) I1 hsz kk un2 hok2 os2 bare2 ea
    exact ⟨_, _, _, ⟨G, g2, d2, t2, os'⟩, _, .ref C, none, rfl, J, kG, ge, hoe, ⟨rfl, rfl⟩, rfl, rfl, na, rfl, bare2, raises_own M.T.exC M.T.tyC, q2⟩
  · exact mk_end (raises_own M.T.exC M.T.tyC) I1 hsz kk un2 hok2 os2 bare2 ea ed hd1 q2
end
end OM

namespace OM
open PySem PySem.Spec PyProof.Rows L2
theorem flying_more {base h h' : Heap} {l : List Env} {e : Addr} {Z : Obj → Prop} (x : HandSPX.FlyingZ base l e Z h) (k : ∀ b o, h.get? b = some o → h'.get? b = some o) : HandSPX.FlyingZ base l e Z h' := by
  obtain ⟨k1, k2, k3, oe, vs, T, oT, ts, he, hz, hd, h1, hn, hne, hT, hdT, h3⟩ := x
  exact ⟨fun b o q => k b o (k1 b o q), k2, Heap.FunFrames.of_keeps (fun b o e _ => ⟨o, k b o e, rfl⟩) k3, oe, vs, T, oT, ts, k _ _ he, hz, hd, h1, hn, hne, k _ _ hT, hdT, h3⟩
/-- the test of a clause: ok cls b: it answers b for an exception of the class cls -/
structure TstR (X : Cx) (t : Expr) (ok : Value → Bool → Prop) : Prop where
  run : ∀ (a : Addr) (oe : Obj) (pn : List (Addr × Obj)) (σ : L2.St) (H : Hp) (s : Shared) (cls : Value) (b : Bool) (Q : Bool → Shared → Prop) (E E' : Value → Shared → Prop), Inv (X.suite a ((a, oe) :: pn)) [] σ H s → s.heap.get? a = some oe → oe.cls = cls → ok cls b →
    (∀ h', (∀ q o, s.heap.get? q = some o → h'.get? q = some o) → Q b { s with heap := h' }) →
    wpAny (model X.prog X.w) (X.A.mark (some (.ref a))) (eval t X.env) (fun c s₁ => wpAny (model X.prog X.w) (X.A.mark (some (.ref a))) (excMatches (.ref a) c) Q E' s₁) E s
section
variable {X : Cx} {x : Str} {c : Value} {np tpos : Pos} {tk : Nat}
theorem ld_names {a : Addr} {oe : Obj} {pn pins : List (Addr × Obj)} {σ : L2.St} {H : Hp} {s : Shared} {Q : Value → Shared → Prop} {E : Value → Shared → Prop} (hc : Names X x c) (S : Inv (X.suite a ((a, oe) :: pn)) pins σ H s) (q : Q c s) :
    wpAny (model X.prog X.w) (X.A.mark (some (.ref a))) (eval (.Name x np) X.env) Q E s := by
  obtain ⟨hg, hdbg, hm | ⟨hm, hv, hnn⟩⟩ := hc
  · exact ld_glob (X := X.suite a ((a, oe) :: pn)) S hg hm q hdbg
  · exact ld_blt (X := X.suite a ((a, oe) :: pn)) S hg hm hv q hnn hdbg
theorem tst_one (hc : Names X x c) : TstR X (.Name x np) (fun cls b => PySem.W.exmOne X.K cls c = some b) := by
  refine ⟨fun a oe pn σ H s cls b Q E E' S ha hcls hok q => ?_⟩
  refine ld_names hc S ?_
  have LT : PySem.W.Looks (model X.prog X.w) s.heap (typeOf (.ref a)) cls := fun A Q E s k q => wpAny_typeOf_ref (k _ _ ha) (by rw [hcls]; exact q)
  exact (PySem.W.exm_one (M := model X.prog X.w) S.kIn LT hok).here (q s.heap fun _ _ z => z)
/-- names of classes, one behind the other -/
inductive NamesT (X : Cx) : List Expr → List Value → Prop
  | nil : NamesT X [] []
  | cons {x : Str} {c : Value} {np : Pos} {es : List Expr} {cs : List Value} (hc : Names X x c) (r : NamesT X es cs) (he : starEach (.Name x np :: es) X.env = (false, eval (.Name x np) X.env) :: starEach es X.env := by rfl) : NamesT X (.Name x np :: es) (c :: cs)
theorem items_names {a : Addr} {oe : Obj} {pn : List (Addr × Obj)} {σ : L2.St} {H : Hp} {s : Shared} {E : Value → Shared → Prop} {pos : Pos} (S : Inv (X.suite a ((a, oe) :: pn)) [] σ H s) : ∀ {es : List Expr} {cs : List Value} {Q : List Value → Shared → Prop}, NamesT X es cs → Q cs s →
    wpAny (model X.prog X.w) (X.A.mark (some (.ref a))) (spliced (backTo pos (starEach es X.env))) Q E s
  | _, _, _, .nil, q => wpAny_items_nil q
  | _, _, Q, .cons hc r he, q => wpAny_items_cons (ld_names hc S (items_names (Q := fun vs s => Q (_ :: vs) s) S r q)) he
theorem tst_tup {es : List Expr} {cs : List Value} (hc : NamesT X es cs) (hz : cs.length ≤ sizeLine) : TstR X (.Tuple es tk tpos) (fun cls b => PySem.W.exmAny X.K cls cs = some b) := by
  refine ⟨fun a oe pn σ H s cls b Q E E' S ha hcls hok q => ?_⟩
  refine wpAny_Tuple (items_names S hc ⟨hz, ?_⟩)
  have kp : ∀ q o, s.heap.get? q = some o → (s.heap.push { cls := .type "tuple", data := .seq cs.toArray }).get? q = some o := fun _ _ z => Heap.get?_push_of_some _ z
  have LT : PySem.W.Looks (model X.prog X.w) (s.heap.push { cls := .type "tuple", data := .seq cs.toArray }) (typeOf (.ref a)) cls := fun A Q E s k q => wpAny_typeOf_ref (k _ _ (kp _ _ ha)) (by rw [hcls]; exact q)
  exact (PySem.W.om_exm_tup (M := model X.prog X.w) (S.kIn.keeps kp) LT (Heap.get?_push_size s.heap rfl) rfl rfl hok).here (q _ kp)
end
/-- a clause: its test, the slot of its name, its suite -/
abbrev Cl := (Value → Bool → Prop) × Option Nat × (Addr → Value → Option Addr → TS)
def offD (D : Ends) (i : Nat) : Ends := { nx := fun σ' H' => D.nx (σ'.set i none) H', rt := D.rt, bk := fun σ' H' => D.bk (σ'.set i none) H', ct := fun σ' H' => D.ct (σ'.set i none) H' }
def wTry (Wout : WX) (D : Ends) : List Cl → WX
  | [] => Wout
  | (ok, none, ts) :: r => fun cls d σ H => ∃ b, ok cls b ∧ (b = true → ∀ a, H a = none → ts a cls d D σ H) ∧ (b = false → wTry Wout D r cls d σ H)
  | (ok, some i, ts) :: r => fun cls d σ H => ∃ b, ok cls b ∧ (b = true → ∀ a, H a = none → ts a cls d (offD D i) (σ.set i (some (.ref a))) H) ∧ (b = false → wTry Wout D r cls d σ H)
inductive ClsOk (X : Cx) : List ExceptHandler → List Cl → Prop
  | nil : ClsOk X [] []
  | cons {t : Expr} {ok : Value → Bool → Prop} {ts : Addr → Value → Option Addr → TS} {b₀ : Stmt} {suite : List Stmt} {pos' : Pos} {hds : List ExceptHandler} {l : List Cl} (ht : TstR X t ok)
      (hsu : ∀ (a : Addr) (oe : Obj) (cls : Value) (d : Option Addr) (pn : List (Addr × Obj)), Zc cls d oe → (∃ vs, oe.data = .fields vs) → PSs (X.suite a ((a, oe) :: pn)) (b₀ :: suite) (ts a cls d)) (r : ClsOk X hds l) :
      ClsOk X (.ExceptHandler (some t) none (b₀ :: suite) pos' :: hds) ((ok, none, ts) :: l)
  | as {n : Str} {i : Nat} {t : Expr} {ok : Value → Bool → Prop} {ts : Addr → Value → Option Addr → TS} {b₀ : Stmt} {suite : List Stmt} {pos' : Pos} {hds : List ExceptHandler} {l : List Cl} (hN : X.N.Nodup) (hi : X.N[i]? = some n) (hln : X.env.kindOf n = some .local) (ht : TstR X t ok)
      (hsu : ∀ (a : Addr) (oe : Obj) (cls : Value) (d : Option Addr) (pn : List (Addr × Obj)), Zc cls d oe → (∃ vs, oe.data = .fields vs) → PSs (X.suite a ((a, oe) :: pn)) (b₀ :: suite) (ts a cls d)) (r : ClsOk X hds l) :
      ClsOk X (.ExceptHandler (some t) (some n) (b₀ :: suite) pos' :: hds) ((ok, some i, ts) :: l)
section
variable {X : Cx} {body : List Stmt} {h₀ : ExceptHandler} {hds : List ExceptHandler} {l : List Cl} {pos : Pos} {tb : WX → TS} {Wout : WX}
theorem ps_try_gen (hs : X.stack = X.env :: X.outer) (hf : X.env.frame = some X.env.locals) (tk : Takes X Wout)
    (hb : ∀ (W : WX) (pn : List (Addr × Obj)) (xe : Value → Shared → Prop), Takes (X.tr pn xe) W → PassesOwn (model X.prog X.w) X.A X.env xe → PSs (X.tr pn xe) body (tb W))
    (hh : ClsOk X (h₀ :: hds) l) : PS X (.Try body (h₀ :: hds) [] [] pos) (fun D σ H => tb (wTry Wout D l) D σ H) := by
  refine ⟨fun pins s σ H D I h => ?_⟩
  have ok := I.ok
  have hfr : X.A.frames = some (X.env :: X.outer) := by rw [ok.frames, hs]
  refine wpAny_Try_except ?_
  refine wpAny_mono ((hb (wTry Wout D l) (X.pn ++ pins) (fun e s₁ => wpAny (model X.prog X.w) X.A (noteFrame e X.env) (fun _ s₂ => wpAny (model X.prog X.w) X.A (setFlight e none) (fun _ s₃ =>
    wpAny (model X.prog X.w) X.A (handleBy e X.env (h₀ :: hds)) (SP X pins D) X.xe s₃) X.xe s₂) X.xe s₁) (fun u s' xx => ?_) PassesOwn.looking).run [] s σ H D (I.toTry _) h) (fun f s1 hsp => ?_) (fun e s1 he => he)
  · -- the catch
    obtain ⟨a, B, sI, pins', σ', H', cls, d, rfl, J', nb, up, sky, na, os, ag, w⟩ := xx
    have J : Inv X pins σ' H' sI := J'.ofTry ok
    have sky' : Sky B (X.env :: X.outer) a (Zc cls d) X.env.locals s'.heap := by rw [← hs]; exact sky
    show wpAny (model X.prog X.w) X.A (noteFrame (.ref a) X.env) _ _ _
    refine Sky.land Zc.steady hfr hf sky' fun h3 fl3 up3 => ?_
    have notFr : ∀ {h : Heap} {o : Obj} {vs : Array Value}, h.FunFrames B (X.env :: X.outer) → h.get? a = some o → o.data = .fields vs → a ∉ frs (X.env :: X.outer) := fun {h o vs} ff e dd hm => by
      obtain ⟨_, o', e', hnf⟩ := ff.mem hm
      rw [e] at e'; cases e'
      exact hnf _ dd
    have nfr : a ∉ frs (X.env :: X.outer) := by
      obtain ⟨oe3, vs3, he3, hz3, hd3⟩ := fl3.there
      exact notFr fl3.2.2.1 he3 hd3
    have nL : a ≠ X.env.locals := fun z => nfr (List.mem_filterMap.mpr ⟨X.env, List.mem_cons_self, by rw [hf, z]⟩)
    have nF : a ∉ X.fs := fun hm => by
      obtain ⟨e, he, q⟩ := List.mem_filterMap.mp hm
      exact nfr (List.mem_filterMap.mpr ⟨e, List.mem_cons_of_mem _ he, q⟩)
    have go : ∀ {hds' : List ExceptHandler} {l' : List Cl}, ClsOk X hds' l' → ∀ h5, HandSPX.FlyingZ B (X.env :: X.outer) a (Zc cls d) h5 → s'.heap.UpToSlots h5 → wTry Wout D l' cls d σ' H' →
        wpAny (model X.prog X.w) X.A (handleBy (.ref a) X.env hds') (SP X pins D) X.xe { s' with heap := h5 } := by
      intro hds' l' hk
      induction hk with
      | nil =>
        intro h3 fl3 up3 w
        refine wpAny_handleBy_nil ?_
        obtain ⟨k1, k2, k3, oe, vs, T, oT, ts', he, hz, hd, h1, hr⟩ := id fl3
        unfold PySem.passOn
        refine wpAny_bind (wpAny_field he hd h1 ?_)
        rw [if_neg (show ¬ ((Value.ref T == Value.none) = true) from by simp)]
        have fin : wpAny (model X.prog X.w) X.A (setFlight (.ref a) X.env.frame) (fun _ s4 => wpAny (model X.prog X.w) X.A (throw (.ref a) : Sem Flow) (SP X pins D) X.xe s4) X.xe { s' with heap := h3 } := by
          rw [hf]
          refine HandSPX.setFlight_upZ fl3 fun h4 hh4 up4 => wpAny_throw (tk _ _ ?_)
          exact ⟨a, B, sI, pins, σ', H', cls, d, rfl, J, nb, (up.trans up3).trans up4, .inr (.inr (by rw [hs]; exact hh4)), na, os, ag, w⟩
        first
          | exact wpAny_bind (wpAny_pure (wpAny_bind fin))
          | exact wpAny_bind fin
      | @cons t okp ts b₀ suite pos' hds2 l2 ht hsu r ih =>
        intro h3 fl3 up3 w
        obtain ⟨b, hb1, hyes, hno⟩ := w
        have J3 : Inv X pins σ' H' { s' with heap := h3 } := J.landed nb fl3.1 (up.trans up3) os ag
        obtain ⟨oe3, vs3, he3, hz3, hd3⟩ := fl3.there
        have S3 := J3.suite he3 hd3 na nL nF
        refine wpAny_handleBy_cons (codeAny_handlers_test ?_) (by intro q; cases q)
        refine ht.run a oe3 (X.pn ++ pins) σ' H' _ cls b _ _ _ S3 he3 hz3.1 hb1 (fun h6 k6 => ?_)
        have fl6 := flying_more fl3 k6
        have up6 : s'.heap.UpToSlots h6 := up3.trans (Heap.UpToSlots.of_keeps k6)
        cases b with
        | true =>
          refine codeAny_handlers_suite ?_
          refine HandSPX.lands_againZ fl6 fun h4 fl4 up4 => ?_
          have J4 : Inv X pins σ' H' { s' with heap := h4 } := J.landed nb fl4.1 ((up.trans up6).trans up4) os ag
          obtain ⟨oe4, vs4, he4, hz4, hd4⟩ := fl4.there
          have S4 := J4.suite he4 hd4 na nL nF
          refine wpAny_mono ((hsu a oe4 cls d (X.pn ++ pins) hz4 ⟨_, hd4⟩).run [] _ _ H' _ S4 (hyes rfl a na)) (fun f s6 hsp => ?_) (fun _ _ z => False.elim z)
          cases f with
          | next =>
            obtain ⟨σ6, H6, S6, q6⟩ := hsp
            exact ⟨_, _, S6.unsuite ok, q6⟩
          | brk =>
            obtain ⟨σ6, H6, S6, q6⟩ := hsp
            exact ⟨_, _, S6.unsuite ok, q6⟩
          | cont =>
            obtain ⟨σ6, H6, S6, q6⟩ := hsp
            exact ⟨_, _, S6.unsuite ok, q6⟩
          | ret u =>
            obtain ⟨v6, σ6, H6, S6, r6, q6⟩ := hsp
            exact ⟨_, _, _, S6.unsuite ok, r6, q6⟩
        | false =>
          show wpAny _ X.A (handleBy (.ref a) X.env hds2) _ _ _
          exact ih h6 fl6 up6 (hno rfl)
      | @as n i t okp ts b₀ suite pos' hds2 l2 hN hi hln ht hsu r ih =>
        intro h3 fl3 up3 w
        obtain ⟨b, hb1, hyes, hno⟩ := w
        have J3 : Inv X pins σ' H' { s' with heap := h3 } := J.landed nb fl3.1 (up.trans up3) os ag
        obtain ⟨oe3, vs3, he3, hz3, hd3⟩ := fl3.there
        have S3 := J3.suite he3 hd3 na nL nF
        refine wpAny_handleBy_cons (codeAny_handlers_test ?_) (by intro q; cases q)
        refine ht.run a oe3 (X.pn ++ pins) σ' H' _ cls b _ _ _ S3 he3 hz3.1 hb1 (fun h6 k6 => ?_)
        have fl6 := flying_more fl3 k6
        have up6 : s'.heap.UpToSlots h6 := up3.trans (Heap.UpToSlots.of_keeps k6)
        cases b with
        | true =>
          have hloc : Loc X.env.scope n := .inl hln
          refine codeAny_handlers_suite_as ?_
          refine HandSPX.lands_againZ fl6 fun h4 fl4 up4 => ?_
          have J4 : Inv X pins σ' H' { s' with heap := h4 } := J.landed nb fl4.1 ((up.trans up6).trans up4) os ag
          obtain ⟨oe4, vs4, he4, hz4, hd4⟩ := fl4.there
          have S4 := J4.suite he4 hd4 na nL nF
          refine store_ok (X := X.suite a ((a, oe4) :: (X.pn ++ pins))) (v := .ref a) S4 hN hi hloc rfl (fun s5 S5 => ?_) (.inr hln)
          refine wpAny_mono ((hsu a oe4 cls d (X.pn ++ pins) hz4 ⟨_, hd4⟩).run [] s5 _ H' _ S5 (hyes rfl a na)) (fun f s6 hsp => ?_) (fun _ _ z => False.elim z)
          have end_ : ∀ {σ6 : L2.St} {H6 : Hp} {Q : Shared → Prop}, Inv (X.suite a ((a, oe4) :: (X.pn ++ pins))) [] σ6 H6 s6 → (∀ s7, Inv X pins (σ6.set i none) H6 s7 → Q s7) →
              wpAny (model X.prog X.w) X.A (do bindName X.env n .none; unbindBehindTheSuite X.env n pos') (fun _ s7 => Q s7) X.xe s6 := fun {σ6 H6 Q} S6 hq => gone_ok (S6.unsuite ok) hN hi hln hq
          cases f with
          | next =>
            obtain ⟨σ6, H6, S6, q6⟩ := hsp
            exact end_ S6 fun s7 J7 => ⟨_, _, J7, q6⟩
          | brk =>
            obtain ⟨σ6, H6, S6, q6⟩ := hsp
            exact end_ S6 fun s7 J7 => ⟨_, _, J7, q6⟩
          | cont =>
            obtain ⟨σ6, H6, S6, q6⟩ := hsp
            exact end_ S6 fun s7 J7 => ⟨_, _, J7, q6⟩
          | ret u =>
            obtain ⟨v6, σ6, H6, S6, r6, q6⟩ := hsp
            exact end_ S6 fun s7 J7 => ⟨_, _, _, J7, r6, q6⟩
        | false =>
          show wpAny _ X.A (handleBy (.ref a) X.env hds2) _ _ _
          exact ih h6 fl6 up6 (hno rfl)
    exact go hh h3 fl3 up3 w
  · cases f with
    | next =>
      obtain ⟨σ', H', J', q⟩ := hsp
      exact wpAny_execs_nil ⟨σ', H', J'.ofTry ok, q⟩
    | brk =>
      obtain ⟨σ', H', J', q⟩ := hsp
      exact ⟨σ', H', J'.ofTry ok, q⟩
    | cont =>
      obtain ⟨σ', H', J', q⟩ := hsp
      exact ⟨σ', H', J'.ofTry ok, q⟩
    | ret u =>
      obtain ⟨v, σ', H', J', r, q⟩ := hsp
      exact ⟨v, σ', H', J'.ofTry ok, r, q⟩
end
end OM

namespace OM
open PySem L2
def top (i : Nat) : Stmt := PySem.Challenge.pw_orderlymoves_k29_runs_between_their_step.main.body.getD i (.Pass ⟨0, 0, 0, 0⟩)
abbrev sDice : Stmt := top 63
abbrev sRoll : Stmt := top 64
abbrev sOneOf : Stmt := top 65

/-- all but a is as it was -/
def But (a : Addr) (H H' : Hp) : Prop := ∀ b o, b ≠ a → H b = some o → H' b = some o
/-- a dice: a list of three ints -/
def Dice (H : Hp) (a : Addr) : Prop := ∃ l m c : Int, H a = some (.lst [.int l, .int m, .int c])

structure TxtD (mg : Str → Option Value) : Prop where
  len : mg "len" = none
  int : mg "int" = none
  abs : mg "abs" = none

def spDice (K : PySem.W.Frag) : Sp := fun vs H Q _ => ∃ (a : Addr) (ns : List Int) (k : Nat), vs = [.ref a, .int (k : Int)] ∧ SqL K H a (ns.map V.int) ∧
  ∀ H' p, Same H H' → H p = none → Dice H' p → Q (.ref p) H'
def spRoll : Sp := fun vs H Q _ => ∃ (d : Addr) (n : Int), vs = [.ref d, .int n] ∧ Dice H d ∧ 0 < n ∧ n < 1073741824 ∧
  ∀ H' (r : Int), 0 ≤ r → r < n → But d H H' → Dice H' d → Q (.int r) H'
def spOneOf (K : PySem.W.Frag) : Sp := fun vs H Q _ => ∃ (d a : Addr) (xs : List V), vs = [.ref d, .ref a] ∧ Dice H d ∧ SqL K H a xs ∧ (H d ≠ none → a ≠ d) ∧ 0 < xs.length ∧ xs.length < 1073741824 ∧
  ∀ H' (i : Nat) v, xs[i]? = some v → But d H H' → Dice H' d → Q v H'

section
variable {P : Program} {w : World} {K : PySem.W.Frag} {mg : Str → Option Value} {base : Heap}
theorem scR : FnScope ["_law_dice_here", "_law_total", "_law_number", "_law_drawn", "_law_one", "_law_two"] ["_law_dice_here", "_law_total"] (defScope sRoll) := ⟨rfl, rfl, rfl, by decide +kernel, rfl, by decide +kernel, by decide +kernel⟩
theorem ok_roll {f : Addr} {fd : FuncData} (F : Fun K "_law_roll" "_law_roll" sRoll f fd) (T : TxtD mg) : FnOk P w K mg base CX0 1 f fd ["_law_dice_here", "_law_total"] spRoll := by
  refine F.ok scR (fun vs H Q E h => ?_) (fun cdv A outer s H vs Q E hr h => ?_)
  · obtain ⟨d, n, rfl, _⟩ := h
    rfl
  · obtain ⟨d, n, rfl, ⟨l, m, c, hd⟩, n0, n1, k⟩ := h
    have big : ∀ {x : Int}, 0 ≤ x → x < 2305843009213693952 → (-(2 ^ 64) < x ∧ x < 2 ^ 64) := fun h1 h2 => ⟨by omega, by omega⟩
    refine ⟨_, pss_cons (ps_set (i := 2) scR.nd rfl (Or.inl rfl) (pe_callTy call_int1 (by rfl) T.int (by decide +kernel) (pa_cons (pv 1) pa_nil)))
      (pss_cons (ps_if (pt_cmpR op_gt (pe_ix ix_list (pv 0) pe_int (fun _ _ => rfl)) pe_int (nomark _))
        (pss_cons (ps_set (i := 3) scR.nd rfl (Or.inl rfl) (pe_op op_mod (pe_ix ix_list (pv 0) pe_int (fun _ _ => rfl)) (pv 2)))
        (pss_cons (ps_asg (pe_op op_fdiv (pe_ix ix_list (pv 0) pe_int (fun _ _ => rfl)) (pv 2)) (pg_sub (pv 0) pe_int set_list))
        (pss_one (ps_ret (pe_callTy call_int1 (by rfl) T.int (by decide +kernel) (pa_cons (pv 3) pa_nil))))))
        pss_nil)
      (pss_cons (ps_asg (pe_op op_add (pe_ix ix_list (pv 0) pe_int (fun _ _ => rfl)) pe_int) (pg_sub (pv 0) pe_int set_list))
      (pss_cons (ps_set (i := 4) scR.nd rfl (Or.inl rfl) (pe_op op_mod (pe_op op_add (pe_ix ix_list (pv 0) pe_int (fun _ _ => rfl)) (pe_op op_mul pe_int (pe_ix ix_list (pv 0) pe_int (fun _ _ => rfl)))) pe_int))
      (pss_cons (ps_set (i := 5) scR.nd rfl (Or.inl rfl) (pe_op op_add (pe_op op_mul (pe_op op_mod (pe_op op_mul (pv 4) (pv 4)) pe_int) (pv 4)) (pe_op op_mul pe_int (pe_ix ix_list (pv 0) pe_int (fun _ _ => rfl)))))
      (pss_cons (ps_set (i := 5) scR.nd rfl (Or.inl rfl) (pe_op op_mod (pv 5) pe_int))
      (pss_one (ps_ret (pe_callTy call_int1 (by rfl) T.int (by decide +kernel) (pa_cons (pe_op op_mod (pe_op op_fdiv (pv 5) pe_int) (pv 2)) pa_nil))))))))), ?_⟩
    refine ⟨_, rfl, .inl ⟨_, rfl, ?_⟩⟩
    refine ⟨_, rfl, d, _, _, _, rfl, rfl, SqL.of hd, rfl, _, _, rfl, rfl, _, rfl, ite2 (fun h0 => ?_) (fun h0 => ?_)⟩
    · refine ⟨_, rfl, d, _, _, _, rfl, rfl, SqL.of hd, rfl, _, rfl, _, _, rfl, rfl, n0, ?_⟩
      refine ⟨_, rfl, d, _, _, _, rfl, rfl, SqL.of hd, rfl, _, rfl, _, _, rfl, rfl, ⟨n0, n1⟩, _, rfl, d, _, _, 0, rfl, rfl, hd, rfl, ?_⟩
      refine ⟨_, rfl, .inl ⟨_, rfl, ?_⟩⟩
      refine k _ _ (Int.emod_nonneg _ (by omega)) (Int.emod_lt_of_pos _ n0) (fun b o nb e => by rw [upd_ne nb]; exact e) ⟨_, _, _, upd_same⟩
    · refine ⟨_, rfl, d, _, _, _, rfl, rfl, SqL.of hd, rfl, _, _, rfl, rfl, _, rfl, d, _, _, 2, rfl, rfl, hd, rfl, ?_⟩
      have hd2 : upd H d (.lst [.int l, .int m, .int (c + 1)]) d = some (.lst [.int l, .int m, .int (c + 1)]) := upd_same
      refine ⟨_, rfl, d, _, _, _, rfl, rfl, SqL.of hd2, rfl, _, rfl, d, _, _, _, rfl, rfl, SqL.of hd2, rfl, _, _, rfl, rfl, .inl (by decide), _, _, rfl, rfl, _, _, rfl, rfl, (by show (0 : Int) < 2305843009213693951; decide), ?_⟩
      have o0 : 0 ≤ (m + 1000099 * (c + 1)) % 2305843009213693951 := Int.emod_nonneg _ (by decide)
      have o1 : (m + 1000099 * (c + 1)) % 2305843009213693951 < 2305843009213693951 := Int.emod_lt_of_pos _ (by decide)
      refine ⟨_, rfl, _, rfl, _, _, rfl, rfl, .inl (big o0 (by omega)), _, _, rfl, rfl, (by show (0 : Int) < 2305843009213693921; decide), _, rfl, _, _, rfl, rfl, .inr (big o0 (by omega)), _, rfl, d, _, _, _, rfl, rfl, SqL.of hd2, rfl, _, _, rfl, rfl, .inl (by decide), _, _, rfl, rfl, ?_⟩
      refine ⟨_, rfl, _, _, rfl, rfl, (by show (0 : Int) < 2305843009213693907; decide), ?_⟩
      refine ⟨_, rfl, _, _, rfl, rfl, ⟨by decide, by decide⟩, _, rfl, _, _, rfl, rfl, n0, .inl ⟨_, rfl, ?_⟩⟩
      exact k _ _ (Int.emod_nonneg _ (by omega)) (Int.emod_lt_of_pos _ n0) (fun b o nb e => by rw [upd_ne nb]; exact e) ⟨_, _, _, upd_same⟩
theorem scO : FnScope ["_law_dice_here", "_law_items"] ["_law_dice_here", "_law_items"] (defScope sOneOf) := ⟨rfl, rfl, rfl, by decide +kernel, rfl, by decide +kernel, by decide +kernel⟩
theorem But.seq {K : PySem.W.Frag} {H H' : Hp} {d a : Addr} {xs : List V} (e : But d H H') (n : H d ≠ none → a ≠ d) (dn : H d ≠ none) (h : SqL K H a xs) : SqL K H' a xs := by
  rcases h with (h | ⟨o, h⟩) | h
  · exact .inl (.inl (e _ _ (n dn) h))
  · exact .inl (.inr ⟨o, e _ _ (n dn) h⟩)
  · exact .inr h
theorem Dice.ne {H : Hp} {d : Addr} (h : Dice H d) : H d ≠ none := by
  obtain ⟨_, _, _, e⟩ := h
  rw [e]
  exact fun z => nomatch z
theorem ok_oneof {f fR : Addr} {fd fdR : FuncData} (F : Fun K "_law_one_of" "_law_one_of" sOneOf f fd) (T : TxtD mg) (FR : Fun K "_law_roll" "_law_roll" sRoll fR fdR) (gR : mg "_law_roll" = some (.ref fR)) (bR : Binds K fdR ["_law_dice_here", "_law_total"] []) :
    FnOk P w K mg base CX0 2 f fd ["_law_dice_here", "_law_items"] (spOneOf K) := by
  have GR : FnOk P w K mg base CX0 1 fR fdR ["_law_dice_here", "_law_total"] spRoll := ok_roll FR T
  refine F.ok scO (fun vs H Q E h => ?_) (fun cdv A outer s H vs Q E hr h => ?_)
  · obtain ⟨d, a, xs, rfl, _⟩ := h
    rfl
  · obtain ⟨d, a, xs, rfl, hd, hx, ne, l0, l1, k⟩ := h
    refine ⟨_, pss_one (ps_ret (pe_ix ix_list (pv 1) (pe_call GR hr rfl gR FR.kp bR .nil pass0 (pa_cons (pv 0) (pa_cons (pe_callB call_len_seq (by rfl) T.len PySem.boot_len (pa_cons (pv 1) pa_nil)) pa_nil))) (fun _ _ => rfl))), ?_⟩
    refine ⟨_, rfl, _, rfl, _, rfl, a, _, rfl, .inl hx, d, _, rfl, hd, by omega, by omega, fun H' r r0 r1 hb hd' => ?_⟩
    obtain ⟨i, rfl⟩ : ∃ i : Nat, r = (i : Int) := ⟨r.toNat, by omega⟩
    have hi : i < xs.length := by omega
    have hv : xs[i]? = some xs[i] := List.getElem?_eq_getElem hi
    exact ⟨a, xs, _, _, rfl, rfl, hb.seq ne hd.ne hx, atI_nat hv, k _ i _ hv hb hd'⟩
theorem scD : FnScope ["_law_script", "_law_at", "_law_cell", "_law_great", "_law_left", "_law_mixed"] ["_law_script", "_law_at"] (defScope sDice) := ⟨rfl, rfl, rfl, by decide +kernel, rfl, by decide +kernel, by decide +kernel⟩
/-- a power of a greater base -/
theorem op_powB {X : Cx} : OpR X (binaryOp .Pow) (rI (fun i j => 0 ≤ j ∧ (PySem.Builtin.Int.intBits i : Int) * j ≤ 2 ^ 27) fun i j => .int (i ^ j.toNat)) := opI fun _ _ _ _ _ _ _ hc q => PyProof.Rows.pow_int hc.1 hc.2 q
theorem ok_dice {f : Addr} {fd : FuncData} (F : Fun K "_law_dice" "_law_dice" sDice f fd) (T : TxtD mg) : FnOk P w K mg base CX0 1 f fd ["_law_script", "_law_at"] (spDice K) := by
  refine F.ok scD (fun vs H Q E h => ?_) (fun cdv A outer s H vs Q E hr h => ?_)
  · obtain ⟨a, ns, k, rfl, _⟩ := h
    rfl
  · obtain ⟨a, ns, k, rfl, hS, q⟩ := h
    refine ⟨_, pss_cons (ps_set (i := 2) scD.nd rfl (Or.inl rfl) (pe_op op_add (pe_op op_mul pe_int (pv 1)) pe_int))
      (pss_cons (ps_if (pt_cmpR op_lt (pv 1) (pe_callB call_len_seq (by rfl) T.len PySem.boot_len (pa_cons (pv 0) pa_nil)) (nomark _))
        (pss_one (ps_set (i := 2) scD.nd rfl (Or.inl rfl) (pe_ix ix_list (pv 0) (pv 1) (fun _ _ => rfl)))) pss_nil)
      (pss_cons (ps_set (i := 3) scD.nd rfl (Or.inl rfl) (pe_op op_mod (pe_callTy call_int1 (by rfl) T.int (by decide +kernel) (pa_cons (pe_callB call_abs (by rfl) T.abs (by decide +kernel) (pa_cons (pv 2) pa_nil)) pa_nil)) (pe_op op_powB (pe_op op_pow pe_int pe_int) pe_int)))
      (pss_cons (ps_set (i := 4) scD.nd rfl (Or.inl rfl) (pe_op op_fdivW (pv 3) (pe_op op_pow pe_int pe_int)))
      (pss_cons (ps_set (i := 5) scD.nd rfl (Or.inl rfl) (pe_op op_add (pe_op op_add (pe_op op_add (pe_op op_mul (pe_op op_mod (pv 3) pe_int) pe_int) (pe_op op_mul pe_int (pv 1))) (pe_op op_mul pe_int (pe_callTy call_int1 (by rfl) T.int (by decide +kernel) (pa_cons (pe_cmpR op_lt (pv 2) pe_int (nomark _)) pa_nil)))) pe_int))
      (pss_one (ps_ret (pe_lst (pa_cons (pv 4) (pa_cons (pe_op op_mod (pv 5) pe_int) (pa_cons pe_int pa_nil)))))))))), ?_⟩
    refine ⟨_, rfl, _, _, rfl, rfl, .inl (by decide), _, _, rfl, rfl, ?_⟩
    refine ⟨_, rfl, _, rfl, a, _, rfl, .inl hS, _, _, rfl, rfl, _, rfl, ite2 (fun h0 => ?_) (fun h0 => ?_)⟩
    · have h1 : k < ns.length := by
        rw [List.length_map] at h0
        have h2 := of_decide_eq_true h0
        omega
      have hv : (ns.map V.int)[k]? = some (V.int ns[k]) := by
        rw [List.getElem?_map, List.getElem?_eq_getElem h1]
        rfl
      refine ⟨_, rfl, _, rfl, a, _, _, _, rfl, rfl, hS, atI_nat hv, ?_⟩
      refine ⟨_, rfl, _, rfl, .inl ⟨_, rfl, ?_⟩⟩
      refine ⟨_, _, rfl, rfl, ⟨by decide, by decide, by decide⟩, _, _, rfl, rfl, ⟨by decide, by decide +kernel⟩, _, _, rfl, rfl, (by show (0 : Int) < (10 ^ (60 : Int).toNat) ^ (10 : Int).toNat; decide +kernel), ?_⟩
      refine ⟨_, rfl, _, _, rfl, rfl, ⟨by decide, by decide, by decide⟩, _, _, rfl, rfl, wide_div (b := 64) (by show (0 : Int) < 10 ^ (18 : Int).toNat; decide +kernel) (by show (10 ^ (18 : Int).toNat : Int).natAbs < 2 ^ 64; decide +kernel) (by decide) (by decide), ?_⟩
      refine ⟨_, rfl, _, _, rfl, rfl, (by show (0 : Int) < 2147483423; decide), _, _, rfl, rfl, .inr (by decide), _, rfl, _, _, rfl, rfl, .inl (by decide), _, _, rfl, rfl, _, rfl, _, _, rfl, rfl, .inr ⟨_, rfl, ?_⟩⟩
      refine ⟨_, _, rfl, rfl, .inl (by decide), _, _, rfl, rfl, _, _, rfl, rfl, ?_⟩
      refine ⟨_, rfl, _, rfl, _, _, rfl, rfl, (by show (0 : Int) < 2147483399; decide), (by show 3 ≤ sizeLine; decide), fun p hp => ?_⟩
      exact q _ p (fun b o e => by rw [upd_ne (ne_of_none e hp)]; exact e) hp ⟨_, _, _, upd_same⟩
    · refine ⟨_, rfl, _, rfl, .inl ⟨_, rfl, ?_⟩⟩
      refine ⟨_, _, rfl, rfl, ⟨by decide, by decide, by decide⟩, _, _, rfl, rfl, ⟨by decide, by decide +kernel⟩, _, _, rfl, rfl, (by show (0 : Int) < (10 ^ (60 : Int).toNat) ^ (10 : Int).toNat; decide +kernel), ?_⟩
      refine ⟨_, rfl, _, _, rfl, rfl, ⟨by decide, by decide, by decide⟩, _, _, rfl, rfl, wide_div (b := 64) (by show (0 : Int) < 10 ^ (18 : Int).toNat; decide +kernel) (by show (10 ^ (18 : Int).toNat : Int).natAbs < 2 ^ 64; decide +kernel) (by decide) (by decide), ?_⟩
      refine ⟨_, rfl, _, _, rfl, rfl, (by show (0 : Int) < 2147483423; decide), _, _, rfl, rfl, .inr (by decide), _, rfl, _, _, rfl, rfl, .inl (by decide), _, _, rfl, rfl, _, rfl, _, _, rfl, rfl, .inr ⟨_, rfl, ?_⟩⟩
      refine ⟨_, _, rfl, rfl, .inl (by decide), _, _, rfl, rfl, _, _, rfl, rfl, ?_⟩
      refine ⟨_, rfl, _, rfl, _, _, rfl, rfl, (by show (0 : Int) < 2147483399; decide), (by show 3 ≤ sizeLine; decide), fun p hp => ?_⟩
      exact q _ p (fun b o e => by rw [upd_ne (ne_of_none e hp)]; exact e) hp ⟨_, _, _, upd_same⟩
end
end OM

namespace OM
open PySem PySem.Spec PyProof.Rows L2
abbrev sCop : Stmt := top 6
/-- a key as a datum -/
def kD : Key → PyData
  | .inl i => .int i
  | .inr x => .str x
/-- values that are no objects -/
inductive At : V → PyData → Prop where
  | non : At .non .none
  | bl (b : Bool) : At (.bl b) (.bool b)
  | int (i : Int) : At (.int i) (.int i)
  | str (x : Str) : At (.str x) (.str x)
mutual
/-- v stands for the datum d, by objects of S alone -/
inductive Dt (S : Addr → Prop) (H : Hp) : V → PyData → Prop where
  | at {v : V} {d : PyData} (h : At v d) : Dt S H v d
  | lst {a : Addr} {xs : List V} {ds : List PyData} (s : S a) (e : H a = some (.lst xs)) (hl : xs.length ≤ 1000) (h : DtAll S H xs ds) : Dt S H (.ref a) (.list ds)
  | tup {a : Addr} {xs : List V} {ds : List PyData} (s : S a) (e : H a = some (.tup xs)) (hl : xs.length ≤ 1000) (h : DtAll S H xs ds) : Dt S H (.ref a) (.tuple ds)
  | dic0 {a : Addr} (s : S a) (e : H a = some (.dK [])) : Dt S H (.ref a) (.dict [])
  | dic1 {a : Addr} {k : Key} {v : V} {d : PyData} (s : S a) (e : H a = some (.dK [(k, v)])) (h : At v d) : Dt S H (.ref a) (.dict [(kD k, d)])
inductive DtAll (S : Addr → Prop) (H : Hp) : List V → List PyData → Prop where
  | nil : DtAll S H [] []
  | cons {v : V} {d : PyData} {vs : List V} {ds : List PyData} (h : Dt S H v d) (r : DtAll S H vs ds) : DtAll S H (v :: vs) (d :: ds)
end
section
variable {S S' : Addr → Prop} {H H' : Hp}
mutual
theorem Dt.mv (hS : ∀ a, S a → S' a) (hH : ∀ a o, S a → H a = some o → H' a = some o) : ∀ {v : V} {d : PyData}, Dt S H v d → Dt S' H' v d
  | _, _, .at h => .at h
  | _, _, .lst s e hl h => .lst (hS _ s) (hH _ _ s e) hl (DtAll.mv hS hH h)
  | _, _, .tup s e hl h => .tup (hS _ s) (hH _ _ s e) hl (DtAll.mv hS hH h)
  | _, _, .dic0 s e => .dic0 (hS _ s) (hH _ _ s e)
  | _, _, .dic1 s e h => .dic1 (hS _ s) (hH _ _ s e) h
theorem DtAll.mv (hS : ∀ a, S a → S' a) (hH : ∀ a o, S a → H a = some o → H' a = some o) : ∀ {vs : List V} {ds : List PyData}, DtAll S H vs ds → DtAll S' H' vs ds
  | _, _, .nil => .nil
  | _, _, .cons h r => .cons (Dt.mv hS hH h) (DtAll.mv hS hH r)
end
mutual
theorem Dt.strong (hS : ∀ a o, S a → H a = some o → S' a ∧ H' a = some o) : ∀ {v : V} {d : PyData}, Dt S H v d → Dt S' H' v d
  | _, _, .at h => .at h
  | _, _, .lst s e hl h => .lst (hS _ _ s e).1 (hS _ _ s e).2 hl (DtAll.strong hS h)
  | _, _, .tup s e hl h => .tup (hS _ _ s e).1 (hS _ _ s e).2 hl (DtAll.strong hS h)
  | _, _, .dic0 s e => .dic0 (hS _ _ s e).1 (hS _ _ s e).2
  | _, _, .dic1 s e h => .dic1 (hS _ _ s e).1 (hS _ _ s e).2 h
theorem DtAll.strong (hS : ∀ a o, S a → H a = some o → S' a ∧ H' a = some o) : ∀ {vs : List V} {ds : List PyData}, DtAll S H vs ds → DtAll S' H' vs ds
  | _, _, .nil => .nil
  | _, _, .cons h r => .cons (Dt.strong hS h) (DtAll.strong hS r)
end
theorem DtAll.snoc : ∀ {vs : List V} {ds : List PyData} {v : V} {d : PyData}, DtAll S H vs ds → Dt S H v d → DtAll S H (vs ++ [v]) (ds ++ [d])
  | _, _, _, _, .nil, h => .cons h .nil
  | _, _, _, _, .cons a r, h => .cons a (DtAll.snoc r h)
theorem DtAll.length : ∀ {vs : List V} {ds : List PyData}, DtAll S H vs ds → vs.length = ds.length
  | _, _, .nil => rfl
  | _, _, .cons _ r => congrArg (· + 1) (DtAll.length r)
theorem DtAll.get : ∀ {vs : List V} {ds : List PyData} {i : Nat} {v : V}, DtAll S H vs ds → vs[i]? = some v → ∃ d, ds[i]? = some d ∧ Dt S H v d
  | _, _, _, _, .nil, e => by simp at e
  | _, _, 0, _, .cons h _, e => by
    simp at e
    subst e
    exact ⟨_, rfl, h⟩
  | _, _, i + 1, _, .cons _ r, e => by
    obtain ⟨d, e2, h⟩ := DtAll.get (i := i) r (by simpa using e)
    exact ⟨d, by simpa using e2, h⟩
theorem depth_get : ∀ {ds : List PyData} {i : Nat} {d : PyData}, ds[i]? = some d → d.depth ≤ PyData.depthAll ds
  | [], _, _, e => by simp at e
  | x :: r, 0, d, e => by
    simp at e
    subst e
    unfold PyData.depthAll
    omega
  | x :: r, i + 1, d, e => by
    have q := depth_get (ds := r) (i := i) (d := d) (by simpa using e)
    unfold PyData.depthAll
    omega
/-- the type that isinstance sees -/
theorem At.ty {K : PySem.W.Frag} {v : V} {d : PyData} (h : At v d) : ∃ n, (n = "NoneType" ∨ n = "bool" ∨ n = "int" ∨ n = "str") ∧ TyX K H v (.type n) := by
  cases h with
  | non => exact ⟨_, .inl rfl, .base .non⟩
  | bl b => exact ⟨_, .inr (.inl rfl), .base (.bl b)⟩
  | int i => exact ⟨_, .inr (.inr (.inl rfl)), .base (.int i)⟩
  | str x => exact ⟨_, .inr (.inr (.inr rfl)), .base (.str x)⟩
end
/-- what _copied answers: the same datum, of objects that were not there -/
def spCop : Nat → Sp
  | 0 => fun _ _ _ _ => False
  | n + 1 => fun vs H Q _ => ∃ (S : Addr → Prop) (v : V) (d : PyData), vs = [v] ∧ Dt S H v d ∧ d.depth ≤ n ∧ ∀ H' v', Same H H' → Dt (fun a => H a = none) H' v' d → Q v' H'
structure TxtC (mg : Str → Option Value) : Prop where
  isi : mg "isinstance" = none
  lst : mg "list" = none
  tup : mg "tuple" = none
  dct : mg "dict" = none
/-- over the keys of a dict that is held -/
theorem dc_keys {d : Addr} {o : Obj} {kws : List (Key × V)} {g : TG} {tt : TT} {tk tv : TE} {vs : List Nat} {σ : L2.St} {H1 : Hp} {D : Addr} {Qd : Hp → Prop} (Pv : Nat → Hp → Prop) (h0 : Pv 0 (upd H1 D (.dK []))) (hl : ∀ i H, Pv i H → H d = some (.frz o (.dK kws)))
    (hs : ∀ i k v H, kws[i]? = some (k, v) → Pv i H → g (kV k) (wipe σ vs) H fun σ2 H2 => wipe σ2 vs = wipe σ vs ∧ tt σ2 H2 fun b H3 =>
      if b = true then tk σ2 H3 fun y H4 => tv σ2 H4 fun z H5 => ∃ kvs k, y = kV k ∧ H5 D = some (.dK kvs) ∧ kvs.length < sizeLine ∧ Pv (i + 1) (upd H5 D (.dK (putK kvs k z))) else Pv (i + 1) H3) (hd : ∀ H, Pv kws.length H → Qd H) :
    ∃ W : Nat → Nat → Hp → Prop, (∃ m, W 0 m (upd H1 D (.dK []))) ∧ ∀ i m H, W i m H →
      ((Itk d o kws).stop i H ∧ Qd H) ∨ ((Itk d o kws).go i H ∧ ∃ Nx : Hp → Prop, (∀ H', Nx H' → ∃ m', m' < m ∧ W (i + 1) m' H') ∧ ∀ x H', (Itk d o kws).yld i H x H' → g x (wipe σ vs) H' fun σ2 H2 => wipe σ2 vs = wipe σ vs ∧ tt σ2 H2 fun b H3 =>
        if b = true then tk σ2 H3 fun y H4 => tv σ2 H4 fun z H5 => ∃ kvs k, y = kV k ∧ H5 D = some (.dK kvs) ∧ kvs.length < sizeLine ∧ Nx (upd H5 D (.dK (putK kvs k z))) else Nx H3) := by
  refine ⟨fun i m H => i ≤ kws.length ∧ m = kws.length - i ∧ Pv i H, ⟨_, Nat.zero_le _, rfl, h0⟩, ?_⟩
  rintro i m H ⟨hi, rfl, p⟩
  have q := hl i H p
  rcases Nat.lt_or_ge i kws.length with hlt | hge
  · refine .inr ⟨⟨q, hlt⟩, Pv (i + 1), fun H' p' => ⟨kws.length - (i + 1), by omega, hlt, rfl, p'⟩, fun x H' y => ?_⟩
    obtain ⟨rfl, k, v, e, rfl⟩ := y
    exact hs i k v _ e p
  · obtain rfl : i = kws.length := by omega
    exact .inl ⟨⟨q, hge⟩, hd H p⟩
section
variable {P : Program} {w : World} {K : PySem.W.Frag} {mg : Str → Option Value} {base : Heap}
theorem scC : FnScope ["value", "part", "key"] ["value"] (defScope sCop) := ⟨rfl, rfl, rfl, by decide +kernel, rfl, by decide +kernel, by decide +kernel⟩
theorem isi_b {H : Hp} {x : V} {n m : String} {r : Bool} {Q : VK} (ty : TyX K H x (.type n)) (h : kitB n m = some r) (q : Q (.bl r) H) : rIsi K [x, .ty m] H Q := ⟨x, .ty m, _, _, r, rfl, .ty m, ty, kit_ty h, q⟩
/-- if isinstance(x, T): , x the name in the i-th slot -/
theorem isi_if {σ : L2.St} {i : Nat} {H : Hp} {x : V} {n m : String} {r : Bool} {Q : Bool → Hp → Prop} (hv : σ[i]? = some (some x)) (ty : TyX K H x (.type n)) (h : kitB n m = some r) (q : Q r H) : tB (tCB (rIsi K) (tCons (tVar i) (tCons (tC (.ty m)) tNil))) σ H Q :=
  ⟨x, hv, isi_b (Q := fun y H1 => ∃ c, y = V.bl c ∧ Q c H1) ty h ⟨r, rfl, q⟩⟩
end
end OM

namespace OM
open PySem PySem.Spec PyProof.Rows L2
section
variable {P : Program} {w : World} {K : PySem.W.Frag} {mg : Str → Option Value} {base : Heap}
theorem same_upd {H : Hp} {D : Addr} {o : HO} (h : H D = none) : Same H (upd H D o) := fun b u e => by rw [upd_ne (ne_of_none e h)]; exact e
theorem same_put {H H' : Hp} {D : Addr} {o : HO} (h : H D = none) (s : Same H H') : Same H (upd H' D o) := fun b u e => by rw [upd_ne (ne_of_none e h)]; exact s b u e
/-- what holds of the parts that were copied so far -/
def PvC (H : Hp) (D : Addr) (ds : List PyData) (i : Nat) (H' : Hp) : Prop := Same H H' ∧ ∃ acc : List V, H' D = some (.lst acc) ∧ DtAll (fun a => H a = none ∧ a ≠ D) H' acc (ds.take i)
theorem PvC.one {S : Addr → Prop} {H H3 : Hp} {D : Addr} {xs : List V} {ds : List PyData} {i m : Nat} {x : V} (hD : H D = none) (hl : xs.length ≤ 1000) (h : DtAll S H xs ds) (hdep : PyData.depthAll ds ≤ m) (hx : xs[i]? = some x) (p : PvC H D ds i H3) :
    spCop (m + 1) [x] H3 (fun y H4 => ∃ acc, H4 D = some (.lst acc) ∧ acc.length < sizeLine ∧ PvC H D ds (i + 1) (upd H4 D (.lst (acc ++ [y])))) E0 := by
  obtain ⟨sm, acc, hD3, da⟩ := p
  obtain ⟨d, hdi, hdt⟩ := h.get hx
  refine ⟨S, x, d, rfl, hdt.mv (fun _ z => z) (fun a o _ e => sm a o e), Nat.le_trans (depth_get hdi) hdep, fun H4 v' sm4 dt4 => ⟨acc, sm4 _ _ hD3, ?_, ?_⟩⟩
  · have e1 := da.length
    rw [List.length_take] at e1
    have e2 : (1000 : Nat) < sizeLine := by decide
    have e3 := h.length
    omega
  · refine ⟨same_put hD (sm.trans sm4), acc ++ [v'], upd_same, ?_⟩
    have et : ds.take (i + 1) = ds.take i ++ [d] := by
      rw [List.take_add_one, hdi] <;> rfl
    rw [et]
    refine DtAll.snoc (da.mv (fun _ z => z) fun a o s e => by rw [upd_ne s.2]; exact sm4 _ _ e) (dt4.mv (fun a (s : H3 a = none) => ⟨sm.free s, fun z => by rw [z, hD3] at s; cases s⟩) fun a o s e => ?_)
    have s' : H3 a = none := s
    rw [upd_ne (fun z => by rw [z, hD3] at s'; cases s')]
    exact e
theorem PvC.all {S : Addr → Prop} {H H5 : Hp} {D : Addr} {xs : List V} {ds : List PyData} (h : DtAll S H xs ds) (p : PvC H D ds xs.length H5) : Same H H5 ∧ ∃ acc : List V, H5 D = some (.lst acc) ∧ acc.length = xs.length ∧ DtAll (fun a => H a = none ∧ a ≠ D) H5 acc ds := by
  obtain ⟨sm, acc, hD5, da⟩ := p
  rw [h.length, List.take_length] at da
  exact ⟨sm, acc, hD5, da.length.trans h.length.symm, da⟩
theorem PvC.zero {H : Hp} {D : Addr} {ds : List PyData} (hD : H D = none) : PvC H D ds 0 (upd H D (.lst [])) := ⟨same_upd hD, [], upd_same, .nil⟩
theorem unlock_same {H H' : Hp} {a : Addr} {od : Obj} {u : HO} (e : H a = some u) (sm : Same (upd H a (.frz od u)) H') : Same H (upd H' a u) := fun b o z => by
  by_cases hb : b = a
  · rw [hb] at z ⊢
    rw [upd_same, ← z, e]
  · rw [upd_ne hb]
    exact sm b o (by rw [upd_ne hb]; exact z)
theorem At.of {S : Addr → Prop} {H : Hp} {v v' : V} {d : PyData} (h : At v d) (x : Dt S H v' d) : At v' d := by
  cases h <;> (cases x; assumption)
theorem cop_step {f : Addr} {fd : FuncData} {n : Nat} (F : Fun K "_copied" "_copied" sCop f fd) (T : TxtC mg) (gC : mg "_copied" = some (.ref f)) (bC : Binds K fd ["value"] []) (G : FnOk P w K mg base CX0 n f fd ["value"] (spCop n)) :
    FnOk P w K mg base CX0 (n + 1) f fd ["value"] (spCop (n + 1)) := by
  refine F.ok scC (fun vs H Q E h => ?_) (fun cdv A outer s H vs Q E hr h => ?_)
  · obtain ⟨S, v, d, rfl, _⟩ := h
    rfl
  · obtain ⟨S, v, d, rfl, hd, hdep, q⟩ := h
    have un : (A.deeper (envOfC "_copied" (defScope sCop) s.heap.objs.size f cdv)).units + 1 < cLine := by
      have := hr.un
      omega
    refine ⟨_, pss_cons (ps_if (pt_val (pe_callB call_isi (by rfl) T.isi (by decide +kernel) (pa_cons (pv 0) (pa_cons (pe_bltn (v := .ty "list") (u := .type "list") (by rfl) T.lst (by decide +kernel) rfl) pa_nil))))
        (pss_one (ps_ret (pe_lc (own := [("part", 1)]) rfl scC.nd (pi_list (pv 0)) (blkOk_by (N := ["value", "part", "key"]) (sc := defScope sCop) (by decide +kernel)) (fun _ _ _ _ _ => pg_name (i := 1) scC.nd rfl (Or.inl rfl)) (fun _ _ _ _ _ => pts_nil)
          (fun _ _ _ _ _ => pe_call G hr rfl gC F.kp bC .nil pass0 (pa_cons (pv 1) pa_nil))))) pss_nil)
      (pss_cons (ps_if (pt_val (pe_callB call_isi (by rfl) T.isi (by decide +kernel) (pa_cons (pv 0) (pa_cons (pe_bltn (v := .ty "tuple") (u := .type "tuple") (by rfl) T.tup (by decide +kernel) rfl) pa_nil))))
        (pss_one (ps_ret (pe_callTy call_tuple_of (by rfl) T.tup (by decide +kernel) (pa_cons (pe_lc (own := [("part", 1)]) rfl scC.nd (pi_tup (pv 0)) (blkOk_by (N := ["value", "part", "key"]) (sc := defScope sCop) (by decide +kernel)) (fun _ _ _ _ _ => pg_name (i := 1) scC.nd rfl (Or.inl rfl)) (fun _ _ _ _ _ => pts_nil)
          (fun _ _ _ _ _ => pe_call G hr rfl gC F.kp bC .nil pass0 (pa_cons (pv 1) pa_nil))) pa_nil)))) pss_nil)
      (pss_cons (ps_if (pt_val (pe_callB call_isi (by rfl) T.isi (by decide +kernel) (pa_cons (pv 0) (pa_cons (pe_bltn (v := .ty "dict") (u := .type "dict") (by rfl) T.dct (by decide +kernel) rfl) pa_nil))))
        (pss_one (ps_ret (pe_lock (pe_dc (own := [("key", 2)]) rfl scC.nd (pi_keys (pv 0)) (blkOk_by (N := ["value", "part", "key"]) (sc := defScope sCop) (by decide +kernel)) (fun _ _ _ _ _ => pg_name (i := 2) scC.nd rfl (Or.inl rfl)) (fun _ _ _ _ _ => pts_nil)
          (fun _ _ _ _ _ => pv 2) (fun _ _ _ _ _ => pe_call G hr rfl gC F.kp bC .nil pass0 (pa_cons (pe_dget un (pv 0) (pv 2) (fun _ _ => rfl)) pa_nil)))))) pss_nil)
      (pss_one (ps_ret (pv 0))))), ?_⟩
    cases hd with
    | «at» h =>
      obtain ⟨t, ht, ty⟩ := h.ty (K := K) (H := H)
      have k1 : kitB t "list" = some false := by rcases ht with rfl | rfl | rfl | rfl <;> decide +kernel
      have k2 : kitB t "tuple" = some false := by rcases ht with rfl | rfl | rfl | rfl <;> decide +kernel
      have k3 : kitB t "dict" = some false := by rcases ht with rfl | rfl | rfl | rfl <;> decide +kernel
      refine isi_if (x := v) rfl ty k1 (iteF ?_)
      refine isi_if (x := v) rfl ty k2 (iteF ?_)
      refine isi_if (x := v) rfl ty k3 (iteF ?_)
      exact ⟨_, rfl, q _ _ (Same.refl _) (.at h)⟩
    | @lst a xs ds sa e hl h =>
      unfold PyData.depth at hdep
      obtain ⟨m, rfl⟩ : ∃ m, n = m + 1 := ⟨n - 1, by omega⟩
      refine isi_if (x := .ref a) (n := "list") (r := true) rfl (.base (.lst e)) (by decide +kernel) (iteT ?_)
      refine ⟨_, rfl, a, rfl, ⟨xs, SqL.of e⟩, fun D hD => lc_list (PvC H D ds) (PvC.zero hD) (fun i H' _ p => SqL.of (p.1 _ _ e)) (fun i x H3 hx p => ?_) (fun H5 p => ?_)⟩
      · exact ⟨rfl, _, rfl, PvC.one hD hl h (by omega) hx p⟩
      · obtain ⟨sm, acc, hD5, hlen, da⟩ := p.all h
        exact q _ _ sm (.lst hD hD5 (by omega) (da.mv (fun _ z => z.1) fun _ _ _ z => z))
    | @tup a xs ds sa e hl h =>
      unfold PyData.depth at hdep
      obtain ⟨m, rfl⟩ : ∃ m, n = m + 1 := ⟨n - 1, by omega⟩
      refine isi_if (x := .ref a) (n := "tuple") (r := false) rfl (.base (.tup e)) (by decide +kernel) (iteF ?_)
      refine isi_if (x := .ref a) (n := "tuple") (r := true) rfl (.base (.tup e)) (by decide +kernel) (iteT ?_)
      refine ⟨_, rfl, a, rfl, ⟨xs, SqT.of e⟩, fun D hD => lc_tup (PvC H D ds) (PvC.zero hD) (fun i H' _ p => SqT.of (p.1 _ _ e)) (fun i x H3 hx p => ?_) (fun H5 p => ?_)⟩
      · exact ⟨rfl, _, rfl, PvC.one hD hl h (by omega) hx p⟩
      · obtain ⟨sm, acc, hD5, hlen, da⟩ := p.all h
        refine ⟨D, acc, rfl, .inl ⟨SqL.of hD5, fun l hn => q _ _ (same_put (sm.free hn) sm) (.tup (sm.free hn) upd_same (by omega) (da.mv (fun _ z => z.1) fun b o s z => ?_))⟩⟩
        rw [upd_ne (ne_of_none z hn)]
        exact z
    | @dic0 a sa e =>
      refine isi_if (x := .ref a) (n := "dict") (r := false) rfl (.base (.dK e)) (by decide +kernel) (iteF ?_)
      refine isi_if (x := .ref a) (n := "dict") (r := false) rfl (.base (.dK e)) (by decide +kernel) (iteF ?_)
      refine isi_if (x := .ref a) (n := "dict") (r := true) rfl (.base (.dK e)) (by decide +kernel) (iteT ?_)
      refine ⟨a, .dK [], e, True.intro, fun od => ⟨_, rfl, a, od, rfl, .inl ⟨[], upd_same, fun D hD => dc_keys (fun _ H' => Same (upd H a (.frz od (.dK []))) H' ∧ H' D = some (.dK [])) ⟨same_upd hD, upd_same⟩ (fun i H' p => p.1 _ _ upd_same) (fun i k v H3 hx p => by simp at hx) (fun H5 p => ?_)⟩⟩⟩
      have hDa : D ≠ a := fun z => by rw [z, upd_same] at hD; cases hD
      rw [upd_ne hDa] at hD
      exact ⟨p.1 _ _ upd_same, q _ _ (unlock_same e p.1) (.dic0 hD (by rw [upd_ne hDa]; exact p.2))⟩
    | @dic1 a k v d sa e h =>
      have hdk : At v d → d.depth = 0 := fun z => by cases z <;> rfl
      obtain ⟨m, rfl⟩ : ∃ m, n = m + 1 := ⟨n - 1, by
        have z : 1 ≤ PyData.depth (.dict [(kD k, d)]) := by
          unfold PyData.depth
          omega
        omega⟩
      refine isi_if (x := .ref a) (n := "dict") (r := false) rfl (.base (.dK e)) (by decide +kernel) (iteF ?_)
      refine isi_if (x := .ref a) (n := "dict") (r := false) rfl (.base (.dK e)) (by decide +kernel) (iteF ?_)
      refine isi_if (x := .ref a) (n := "dict") (r := true) rfl (.base (.dK e)) (by decide +kernel) (iteT ?_)
      refine ⟨a, .dK [(k, v)], e, True.intro, fun od => ⟨_, rfl, a, od, rfl, .inl ⟨[(k, v)], upd_same, fun D hD => dc_keys (fun i H' => Same (upd H a (.frz od (.dK [(k, v)]))) H' ∧ ((i = 0 ∧ H' D = some (.dK [])) ∨ (i = 1 ∧ ∃ v', H' D = some (.dK [(k, v')]) ∧ At v' d)))
        ⟨same_upd hD, .inl ⟨rfl, upd_same⟩⟩ (fun i H' p => p.1 _ _ upd_same) (fun i k' v0 H3 hx p => ?_) (fun H5 p => ?_)⟩⟩⟩
      · cases i with
        | succ i => simp at hx
        | zero =>
          obtain ⟨rfl, rfl⟩ : k = k' ∧ v = v0 := by simpa using hx
          obtain ⟨sm, ⟨_, hD3⟩ | ⟨z, _⟩⟩ := p
          · refine ⟨rfl, _, rfl, _, rfl, _, rfl, a, v, rfl, .inl ⟨[(k, v)], k, .inr ⟨od, sm _ _ upd_same⟩, rfl, ?_⟩, fun _ => True, v, d, rfl, .at h, by rw [hdk h]; exact Nat.zero_le _, fun H4 v' sm4 dt4 => ⟨[], k, rfl, sm4 _ _ hD3, by decide, same_put hD (sm.trans sm4), .inr ⟨rfl, v', ?_, h.of dt4⟩⟩⟩
            · unfold valV
              simp
            · exact upd_same
          · cases z
      · have hDa : D ≠ a := fun z => by rw [z, upd_same] at hD; cases hD
        rw [upd_ne hDa] at hD
        obtain ⟨sm, ⟨z, _⟩ | ⟨_, v', hD5, h5⟩⟩ := p
        · cases z
        · exact ⟨sm _ _ upd_same, q _ _ (unlock_same e sm) (.dic1 hD (by rw [upd_ne hDa]; exact hD5) h5)⟩
end
end OM

namespace OM
open PySem PySem.Spec PyProof.Rows L2
/-- the type of a datum, by name -/
def tyN : PyData → String
  | .none => "NoneType"
  | .bool _ => "bool"
  | .int _ => "int"
  | .str _ => "str"
  | .list _ => "list"
  | .tuple _ => "tuple"
  | .dict _ => "dict"
theorem Dt.tyx {K : PySem.W.Frag} {S : Addr → Prop} {H : Hp} {v : V} {d : PyData} (h : Dt S H v d) : TyX K H v (.type (tyN d)) := by
  cases h with
  | «at» a =>
    cases a with
    | non => exact .base .non
    | bl b => exact .base (.bl b)
    | int i => exact .base (.int i)
    | str x => exact .base (.str x)
  | lst s e hl h => exact .base (.lst e)
  | tup s e hl h => exact .base (.tup e)
  | dic0 s e => exact .base (.dK e)
  | dic1 s e h => exact .base (.dK e)
def isStrD : PyData → Bool
  | .str _ => true
  | _ => false
def isTupD : PyData → Bool
  | .tuple _ => true
  | _ => false
theorem kit_str (d : PyData) : kitB (tyN d) "str" = some (isStrD d) := by
  have k0 : kitB "NoneType" "str" = some false := by decide +kernel
  have k1 : kitB "bool" "str" = some false := by decide +kernel
  have k2 : kitB "int" "str" = some false := by decide +kernel
  have k3 : kitB "str" "str" = some true := by decide +kernel
  have k4 : kitB "list" "str" = some false := by decide +kernel
  have k5 : kitB "tuple" "str" = some false := by decide +kernel
  have k6 : kitB "dict" "str" = some false := by decide +kernel
  cases d <;> assumption
theorem kit_tup (d : PyData) : kitB (tyN d) "tuple" = some (isTupD d) := by
  have k0 : kitB "NoneType" "tuple" = some false := by decide +kernel
  have k1 : kitB "bool" "tuple" = some false := by decide +kernel
  have k2 : kitB "int" "tuple" = some false := by decide +kernel
  have k3 : kitB "str" "tuple" = some false := by decide +kernel
  have k4 : kitB "list" "tuple" = some false := by decide +kernel
  have k5 : kitB "tuple" "tuple" = some true := by decide +kernel
  have k6 : kitB "dict" "tuple" = some false := by decide +kernel
  cases d <;> assumption
/-- if isinstance(x, T): .. as a value -/
theorem isi_te {K : PySem.W.Frag} {σ : L2.St} {i : Nat} {H : Hp} {x : V} {n m : String} {r : Bool} {Q : VK} (hv : σ[i]? = some (some x)) (ty : TyX K H x (.type n)) (h : kitB n m = some r) (q : Q (.bl r) H) : tCB (rIsi K) (tCons (tVar i) (tCons (tC (.ty m)) tNil)) σ H Q := by
  refine ⟨x, hv, ?_⟩
  exact (show rIsi K [x, .ty m] H Q from isi_b ty h q)
/-! ### names -/
def letS (x : Str) : Bool := x.cps.toList.all fun c => decide (97 ≤ c) && decide (c ≤ 122)
def words6 : List Str := ["else", "end", "get", "if", "put", "show"]
def nameS (x : Str) : Bool := decide (1 ≤ x.length) && (decide (x.length ≤ 8) && (letS x && !words6.contains x))
def isNameD : PyData → Bool
  | .str x => nameS x
  | _ => false

mutual
def smlD : PyData → Bool
  | .str x => decide (x.length ≤ 1000) && PyData.strOk x
  | .list xs => smlAll xs
  | .tuple xs => smlAll xs
  | _ => true
def smlAll : List PyData → Bool
  | [] => true
  | x :: r => smlD x && smlAll r
end
theorem sml_get : ∀ {ds : List PyData} {i : Nat} {d : PyData}, smlAll ds = true → ds[i]? = some d → smlD d = true
  | [], _, _, _, e => by simp at e
  | x :: r, 0, d, h, e => by
    simp at e
    subst e
    unfold smlAll at h
    exact (Bool.and_eq_true_iff.mp h).1
  | x :: r, i + 1, d, h, e => by
    unfold smlAll at h
    exact sml_get (Bool.and_eq_true_iff.mp h).2 (by simpa using e)
/-- over a text's signs -/
theorem lc_its {x : Str} {g : TG} {tt : TT} {te : TE} {vs : List Nat} {σ : L2.St} {H1 : Hp} {D : Addr} {Qd : Hp → Prop} (Pv : Nat → Hp → Prop) (h0 : Pv 0 (upd H1 D (.lst [])))
    (hs : ∀ i c H, x.cps.toList[i]? = some c → Pv i H → g (.str ⟨#[c]⟩) (wipe σ vs) H fun σ2 H2 => wipe σ2 vs = wipe σ vs ∧ tt σ2 H2 fun b H3 =>
      if b = true then te σ2 H3 fun y H4 => ∃ acc, H4 D = some (.lst acc) ∧ acc.length < sizeLine ∧ Pv (i + 1) (upd H4 D (.lst (acc ++ [y]))) else Pv (i + 1) H3) (hd : ∀ H, Pv x.cps.toList.length H → Qd H) :
    ∃ W : Nat → Nat → Hp → Prop, (∃ m, W 0 m (upd H1 D (.lst []))) ∧ ∀ i m H, W i m H →
      ((Its x).stop i H ∧ Qd H) ∨ ((Its x).go i H ∧ ∃ Nx : Hp → Prop, (∀ H', Nx H' → ∃ m', m' < m ∧ W (i + 1) m' H') ∧ ∀ v H', (Its x).yld i H v H' → g v (wipe σ vs) H' fun σ2 H2 => wipe σ2 vs = wipe σ vs ∧ tt σ2 H2 fun b H3 =>
        if b = true then te σ2 H3 fun y H4 => ∃ acc, H4 D = some (.lst acc) ∧ acc.length < sizeLine ∧ Nx (upd H4 D (.lst (acc ++ [y]))) else Nx H3) := by
  have hsz : x.cps.toList.length = x.cps.size := Array.length_toList
  refine ⟨fun i m H => i ≤ x.cps.size ∧ m = x.cps.size - i ∧ Pv i H, ⟨_, Nat.zero_le _, rfl, h0⟩, ?_⟩
  rintro i m H ⟨hi, rfl, p⟩
  rcases Nat.lt_or_ge i x.cps.size with hlt | hge
  · refine .inr ⟨hlt, Pv (i + 1), fun H' p' => ⟨x.cps.size - (i + 1), by omega, hlt, rfl, p'⟩, ?_⟩
    rintro v H' ⟨rfl, c, hc, rfl⟩
    exact hs i c _ (by rw [Array.getElem?_toList]; exact hc) p
  · obtain rfl : i = x.cps.size := by omega
    exact .inl ⟨Nat.le_refl _, hd H (by rw [hsz]; exact p)⟩
end OM

namespace OM
open PySem PySem.Spec PyProof.Rows L2
abbrev sIsName : Stmt := top 16
def alphabet : Str := "abcdefghijklmnopqrstuvwxyz"
theorem alpha_tl : alphabet.cps.toList = [97, 98, 99, 100, 101, 102, 103, 104, 105, 106, 107, 108, 109, 110, 111, 112, 113, 114, 115, 116, 117, 118, 119, 120, 121, 122] := by decide +kernel
theorem in_alpha (c : Nat) : (!(Builtin.Str.occurrences alphabet ⟨#[c]⟩ 0 alphabet.length 1).isEmpty) = (decide (97 ≤ c) && decide (c ≤ 122)) := by
  rw [StrLaws.found_one, alpha_tl, Bool.eq_iff_iff]
  simp only [decide_eq_true_eq, Bool.and_eq_true, List.mem_cons, List.not_mem_nil, or_false]
  omega
/-- a word among the six -/
theorem inV_words (x : Str) : inV (.str x) (words6.map V.str) = words6.contains x := by
  have h : ∀ y : Str, (y == x) = (x == y) := fun y => by rw [Bool.eq_iff_iff, beq_iff_eq, beq_iff_eq, eq_comm]
  unfold inV words6
  simp only [List.map_cons, List.map_nil, List.any_cons, List.any_nil, List.contains_cons, List.contains_nil, eqV, h]
/-- constants of the module, as values -/
structure TxtN (K : PySem.W.Frag) (mg : Str → Option Value) : Prop where
  isi : mg "isinstance" = none
  str : mg "str" = none
  len : mg "len" = none
  all : mg "all" = none
  most : ∃ t, mg "MAX_LETTERS" = some (.int 8 t)
  lets : ∃ t, mg "LETTERS" = some (.str alphabet t)
  words : ∃ a, mg "WORDS" = some (.ref a) ∧ ∀ H, SqT K H a (words6.map V.str)
def spName : Sp := fun vs H Q _ => ∃ (S : Addr → Prop) (v : V) (d : PyData), vs = [v] ∧ Dt S H v d ∧ smlD d = true ∧ ∀ H', Same H H' → Q (.bl (isNameD d)) H'
def let1 (c : Nat) : Bool := decide (97 ≤ c) && decide (c ≤ 122)
theorem letS_map (x : Str) : ((x.cps.toList.map let1).all id) = letS x := by
  unfold letS
  rw [List.all_map]
  rfl
theorem name_yes {x : Str} (h1 : decide ((1 : Int) ≤ (x.length : Int)) = true) (h2 : decide ((x.length : Int) ≤ 8) = true) (h3 : (x.cps.toList.map let1).all id = true) : isNameD (.str x) = !inV (.str x) (words6.map V.str) := by
  have e1 := of_decide_eq_true h1
  have e2 := of_decide_eq_true h2
  rw [letS_map] at h3
  show nameS x = _
  unfold nameS
  rw [h3, decide_eq_true (show 1 ≤ x.length by omega), decide_eq_true (show x.length ≤ 8 by omega), inV_words]
  rfl
theorem name_no {x : Str} (h : ¬ decide ((1 : Int) ≤ (x.length : Int)) = true ∨ ¬ decide ((x.length : Int) ≤ 8) = true ∨ ¬ (x.cps.toList.map let1).all id = true) : isNameD (.str x) = false := by
  show nameS x = _
  unfold nameS
  rcases h with h | h | h
  · have : ¬ 1 ≤ x.length := fun z => h (decide_eq_true (by omega))
    rw [decide_eq_false this]
    rfl
  · have : ¬ x.length ≤ 8 := fun z => h (decide_eq_true (by omega))
    rw [decide_eq_false this, Bool.false_and, Bool.and_false]
  · rw [letS_map] at h
    have : letS x = false := by
      cases y : letS x with
      | false => rfl
      | true => exact absurd y h
    rw [this, Bool.false_and, Bool.and_false, Bool.and_false]
def PvN (H : Hp) (D : Addr) (x : Str) (i : Nat) (H' : Hp) : Prop := Same H H' ∧ H' D = some (.lst (((x.cps.toList.take i).map let1).map V.bl))
theorem PvN.step {H H4 : Hp} {D : Addr} {x : Str} {i c : Nat} {b : Bool} (hD : H D = none) (hl : x.length ≤ 1000) (hc : x.cps.toList[i]? = some c) (p : PvN H D x i H4) (hb : b = let1 c) : ∃ acc, H4 D = some (.lst acc) ∧ acc.length < sizeLine ∧ PvN H D x (i + 1) (upd H4 D (.lst (acc ++ [V.bl b]))) := by
  refine ⟨_, p.2, ?_, same_put hD p.1, ?_⟩
  · have hz : x.cps.toList.length = x.length := Array.length_toList
    rw [List.length_map, List.length_map, List.length_take]
    have : (1000 : Nat) < sizeLine := by decide
    omega
  · rw [upd_same, hb, List.take_add_one, hc, List.map_append, List.map_append]
    rfl
theorem PvN.all {H H5 : Hp} {D : Addr} {x : Str} (p : PvN H D x x.cps.toList.length H5) : Same H H5 ∧ H5 D = some (.lst ((x.cps.toList.map let1).map V.bl)) := by
  have e := p.2
  rw [List.take_length] at e
  exact ⟨p.1, e⟩
section
variable {P : Program} {w : World} {K : PySem.W.Frag} {mg : Str → Option Value} {base : Heap} {f : Addr} {fd : FuncData}
theorem scN : FnScope ["value", "letter"] ["value"] (defScope sIsName) := ⟨rfl, rfl, rfl, by decide +kernel, rfl, by decide +kernel, by decide +kernel⟩
theorem ok_isname (F : Fun K "is_name" "is_name" sIsName f fd) (T : TxtN K mg) : FnOk P w K mg base CX0 1 f fd ["value"] spName := by
  refine F.ok scN (fun vs H Q E h => ?_) (fun cdv A outer s H vs Q E hr h => ?_)
  · obtain ⟨S, v, d, rfl, _⟩ := h
    rfl
  · obtain ⟨S, v, d, rfl, hd, sm, q⟩ := h
    obtain ⟨t1, g1⟩ := T.most
    obtain ⟨t2, g2⟩ := T.lets
    obtain ⟨aw, g3, hw⟩ := T.words
    refine ⟨_, pss_one (ps_ret (pe_and (pe_callB call_isi (by rfl) T.isi (by decide +kernel) (pa_cons (pv 0) (pa_cons (pe_bltn (v := .ty "str") (u := .type "str") (by rfl) T.str (by decide +kernel) rfl) pa_nil)))
      (pe_and (pe_chain op_le op_le pe_int (pe_callB call_len_str (by rfl) T.len PySem.boot_len (pa_cons (pv 0) pa_nil)) (pe_glob (v := .int 8) (by rfl) g1 ⟨t1, rfl⟩))
      (pe_and (pe_callB (cr_all rfl) (by rfl) T.all (by decide +kernel) (pa_cons (pe_lc (own := [("letter", 1)]) rfl scN.nd (pi_str (pv 0)) (blkOk_by (N := ["value", "letter"]) (sc := defScope sIsName) (by decide +kernel))
          (fun _ _ _ _ _ => pg_name (i := 1) scN.nd rfl (Or.inl rfl)) (fun _ _ _ _ _ => pts_nil) (fun _ _ _ _ _ => pe_cmpR op_in_str (pv 1) (pe_glob (v := .str alphabet) (by rfl) g2 ⟨t2, rfl⟩) (by rfl))) pa_nil))
      (pe_one (pe_cmpR op_notIn_seq (pv 0) (pe_glob (v := .ref aw) (by rfl) g3 rfl) (by rfl))))))), ?_⟩
    cases hs : isStrD d with
    | false =>
      have e : isNameD d = false := by cases d <;> first | rfl | cases hs
      refine isi_te (x := v) rfl hd.tyx ((kit_str d).trans (congrArg some hs)) ⟨_, rfl, iteF ?_⟩
      have z := q H (Same.refl _)
      rw [e] at z
      exact z
    | true =>
      cases d with
      | str x =>
        have ev : v = .str x := by
          cases hd with
          | «at» a => cases a <;> rfl
        subst ev
        have hl : x.length ≤ 1000 := of_decide_eq_true (Bool.and_eq_true_iff.mp (show (decide (x.length ≤ 1000) && PyData.strOk x) = true by unfold smlD at sm; exact sm)).1
        refine isi_te (x := .str x) rfl hd.tyx ((kit_str (.str x)).trans rfl) ⟨_, rfl, iteT ?_⟩
        refine ⟨_, rfl, x, rfl, Nat.le_trans hl (by decide), 1, (x.length : Int), rfl, rfl, _, rfl, ite2 (fun h1 => ?_) (fun h1 => ?_)⟩
        · refine ⟨(x.length : Int), 8, rfl, rfl, _, rfl, ite2 (fun h2 => ?_) (fun h2 => ?_)⟩
          · refine ⟨_, rfl, x, rfl, fun Dl hD => lc_its (PvN H Dl x) ⟨same_upd hD, upd_same⟩ (fun i c H3 hc p => ?_) (fun H5 p => ?_)⟩
            · refine ⟨rfl, _, rfl, ⟨#[c]⟩, alphabet, rfl, rfl, p.step hD hl hc (in_alpha c)⟩
            · obtain ⟨s5, e5⟩ := p.all
              refine ⟨Dl, _, rfl, SqL.of e5, _, rfl, ite2 (fun h3 => ?_) (fun h3 => ?_)⟩
              · refine ⟨_, rfl, aw, _, rfl, .inr (hw _), rfl, by decide, ?_⟩
                have z := q _ s5
                rw [show isNameD (.str x) = !inV (.str x) (words6.map V.str) from name_yes h1 h2 h3] at z
                exact z
              · have z := q _ s5
                rw [show isNameD (.str x) = false from name_no (.inr (.inr h3))] at z
                exact z
          · have z := q H (Same.refl _)
            rw [show isNameD (.str x) = false from name_no (.inr (.inl h2))] at z
            exact z
        · refine ⟨_, rfl, iteF ?_⟩
          have z := q H (Same.refl _)
          rw [show isNameD (.str x) = false from name_no (.inl h1)] at z
          exact z
      | _ => cases hs
end
end OM

namespace OM
open PySem PySem.Spec PyProof.Rows L2
def chS (c : Nat) : V := .str ⟨#[c]⟩
def chD (c : Nat) : PyData := .str ⟨#[c]⟩
theorem chs_all {K : PySem.W.Frag} {H : Hp} : ∀ l : List Nat, DpAll K H (l.map chS) (l.map chD)
  | [] => .nil
  | c :: r => .cons (.str _) (chs_all r)
theorem ch_ok {c : Nat} (h : c < 0x110000) : PyData.canLay0 (.str ⟨#[c]⟩) = true := by
  unfold PyData.canLay0
  show (#[c] : Array Nat).all (fun c => decide (c < 0x110000)) = true
  simp [h]
theorem chs_lay : ∀ l : List Nat, (∀ c ∈ l, c < 0x110000) → PyData.canLayAll0 (l.map chD) = true
  | [], _ => rfl
  | c :: r, h => by
    show (PyData.canLay0 (.str ⟨#[c]⟩) && PyData.canLayAll0 (r.map chD)) = true
    rw [chs_lay r fun x hx => h x (List.mem_cons_of_mem _ hx), ch_ok (h c (List.mem_cons_self ..))]
    rfl
theorem chs_dep : ∀ l : List Nat, PyData.depthAll (l.map chD) = 0
  | [] => rfl
  | c :: r => by
    show max (PyData.depth (.str ⟨#[c]⟩)) (PyData.depthAll (r.map chD)) = 0
    rw [chs_dep r]
    rfl
theorem chs_sh (l : List Nat) (hc : ∀ c ∈ l, c < 0x110000) : SeqAt.shaped (.list (l.map chD)) = true := by
  show (PyData.canLay0 (.list (l.map chD)) && decide (PyData.depth (.list (l.map chD)) ≤ 64)) = true
  have h1 : PyData.canLay0 (.list (l.map chD)) = true := by
    unfold PyData.canLay0
    exact chs_lay l hc
  have h2 : PyData.depth (.list (l.map chD)) ≤ 64 := by
    unfold PyData.depth
    rw [chs_dep]
    decide
  rw [h1, decide_eq_true h2]
  rfl
theorem nil_sh : SeqAt.shaped (.list []) = true := by decide +kernel
theorem eqv_nil (l : List Nat) : PyData.eqv (.list (l.map chD)) (.list []) = l.isEmpty := by
  cases l with
  | nil => decide +kernel
  | cons c r =>
    show PyData.eqv (.list (chD c :: r.map chD)) (.list []) = false
    unfold PyData.eqv PyData.eqvAll
    rfl
theorem le_a (c : Nat) : (!decide ((⟨#[c]⟩ : Str).cps.toList < ("a" : Str).cps.toList)) = decide (97 ≤ c) := by
  have e : ("a" : Str).cps.toList = [97] := by decide +kernel
  rw [e, Bool.eq_iff_iff]
  have z : ([c] < [97]) ↔ c < 97 := by
    refine ⟨fun h => ?_, fun h => List.Lex.rel h⟩
    cases h with
    | rel h => exact h
    | cons h => cases h
  rw [Bool.not_eq_true', decide_eq_false_iff_not, decide_eq_true_iff, z]
  omega
theorem le_z (c : Nat) : (!decide (("z" : Str).cps.toList < (⟨#[c]⟩ : Str).cps.toList)) = decide (c ≤ 122) := by
  have e : ("z" : Str).cps.toList = [122] := by decide +kernel
  rw [e, Bool.eq_iff_iff]
  have z : ([122] < [c]) ↔ 122 < c := by
    refine ⟨fun h => ?_, fun h => List.Lex.rel h⟩
    cases h with
    | rel h => exact h
    | cons h => cases h
  show ((!decide ([122] < [c])) = true) ↔ _
  rw [Bool.not_eq_true', decide_eq_false_iff_not, decide_eq_true_iff, z]
  omega
theorem bad_none (l : List Nat) : (l.filter fun c => !let1 c).isEmpty = l.all let1 := by
  induction l with
  | nil => rfl
  | cons c r ih =>
    rw [List.filter_cons, List.all_cons]
    cases h : let1 c with
    | true => simpa using ih
    | false => simp
def PvB (H : Hp) (D : Addr) (x : Str) (i : Nat) (H' : Hp) : Prop := Same H H' ∧ H' D = some (.lst (((x.cps.toList.take i).filter fun c => !let1 c).map chS))
theorem PvB.no {H H4 : Hp} {D : Addr} {x : Str} {i c : Nat} (hc : x.cps.toList[i]? = some c) (p : PvB H D x i H4) (h : let1 c = true) : PvB H D x (i + 1) H4 := by
  refine ⟨p.1, ?_⟩
  rw [p.2, List.take_add_one, hc, List.filter_append]
  simp [h]
theorem PvB.step {H H4 : Hp} {D : Addr} {x : Str} {i c : Nat} (hD : H D = none) (hl : x.length ≤ 1000) (hc : x.cps.toList[i]? = some c) (p : PvB H D x i H4) (h : let1 c = false) : ∃ acc, H4 D = some (.lst acc) ∧ acc.length < sizeLine ∧ PvB H D x (i + 1) (upd H4 D (.lst (acc ++ [V.str ⟨#[c]⟩]))) := by
  refine ⟨_, p.2, ?_, same_put hD p.1, ?_⟩
  · have hz : x.cps.toList.length = x.length := Array.length_toList
    rw [List.length_map]
    have h1 := List.length_filter_le (fun c => !let1 c) (x.cps.toList.take i)
    rw [List.length_take] at h1
    have : (1000 : Nat) < sizeLine := by decide
    omega
  · rw [upd_same, List.take_add_one, hc, List.filter_append, List.map_append]
    simp [h, chS]
theorem lname_yes {x : Str} (hw : words6.contains x = false) (h1 : decide ((0 : Int) < (x.length : Int)) = true) (h2 : decide ((x.length : Int) < 9) = true) : isNameD (.str x) = (x.cps.toList.all let1) := by
  have e1 := of_decide_eq_true h1
  have e2 := of_decide_eq_true h2
  show nameS x = _
  unfold nameS
  rw [hw, decide_eq_true (show 1 ≤ x.length by omega), decide_eq_true (show x.length ≤ 8 by omega)]
  simp [letS]
  rfl
theorem lname_no {x : Str} (h : words6.contains x = true ∨ ¬ decide ((0 : Int) < (x.length : Int)) = true ∨ ¬ decide ((x.length : Int) < 9) = true) : isNameD (.str x) = false := by
  show nameS x = _
  unfold nameS
  rcases h with h | h | h
  · rw [h, Bool.not_true, Bool.and_false, Bool.and_false, Bool.and_false]
  · have : ¬ 1 ≤ x.length := fun z => h (decide_eq_true (by omega))
    rw [decide_eq_false this]
    rfl
  · have : ¬ x.length ≤ 8 := fun z => h (decide_eq_true (by omega))
    rw [decide_eq_false this, Bool.false_and, Bool.and_false]
section
variable {P : Program} {w : World} {K : PySem.W.Frag} {mg : Str → Option Value} {base : Heap} {f : Addr} {fd : FuncData}
end
end OM

namespace OM
open PySem PySem.Spec PyProof.Rows L2
/-- a tuple of anything == () -/
theorem op_eqT0 {X : Cx} (hu : X.A.units < cLine) : OpR X (compareOp .Eq) (fun x y H Q => ∃ a b xs, x = .ref a ∧ y = .ref b ∧ SqT X.K H a xs ∧ SqT X.K H b [] ∧ Q (.bl xs.isEmpty) H) := by
  intro pins s σ H x y v u Q I rx ry h
  obtain ⟨a, b, xs, rfl, rfl, ha, hb, q⟩ := h
  obtain rfl : v = Value.ref a := rx
  obtain rfl : u = Value.ref b := ry
  obtain ⟨us, r1, p1, _⟩ := I.tuple ha
  obtain ⟨ws, r2, p2, _⟩ := I.tuple hb
  cases r2
  refine SeqAt.eq_tupleAt (e := fun _ => true) p1 p2 hu (fun j h1 h2 => absurd h2 (by simp)) ⟨.bl _, H, I, rfl, ?_⟩
  have e : ((List.range (min us.toArray.size (([] : List Value).toArray).size)).all (fun _ => true) && us.toArray.size == (([] : List Value).toArray).size) = xs.isEmpty := by
    have l := r1.length
    cases xs with
    | nil =>
      have : us = [] := List.length_eq_zero_iff.mp l.symm
      subst this
      rfl
    | cons x r =>
      cases us with
      | nil => simp at l
      | cons u us => simp
  rw [e]
  exact q
/-- over two tuples side by side -/
theorem lc_zipT {K : PySem.W.Frag} {a b : Addr} {xs ys : List V} {g : TG} {tt : TT} {te : TE} {vs : List Nat} {σ : L2.St} {H1 : Hp} {D : Addr} {Qd : Hp → Prop} (hlen : xs.length = ys.length) (Pv : Nat → Hp → Prop) (h0 : Pv 0 (upd H1 D (.lst []))) (hl : ∀ i H, Pv i H → SqT K H a xs ∧ SqT K H b ys)
    (hs : ∀ i x y T H, xs[i]? = some x → ys[i]? = some y → Pv i H → H T = none → g (.ref T) (wipe σ vs) (upd H T (.tup [x, y])) fun σ2 H2 => wipe σ2 vs = wipe σ vs ∧ tt σ2 H2 fun b H3 =>
      if b = true then te σ2 H3 fun y H4 => ∃ acc, H4 D = some (.lst acc) ∧ acc.length < sizeLine ∧ Pv (i + 1) (upd H4 D (.lst (acc ++ [y]))) else Pv (i + 1) H3) (hd : ∀ H, Pv xs.length H → Qd H) :
    ∃ W : Nat → Nat → Hp → Prop, (∃ m, W 0 m (upd H1 D (.lst []))) ∧ ∀ i m H, W i m H →
      ((RZ.ItzT K a b).stop i H ∧ Qd H) ∨ ((RZ.ItzT K a b).go i H ∧ ∃ Nx : Hp → Prop, (∀ H', Nx H' → ∃ m', m' < m ∧ W (i + 1) m' H') ∧ ∀ v H', (RZ.ItzT K a b).yld i H v H' → g v (wipe σ vs) H' fun σ2 H2 => wipe σ2 vs = wipe σ vs ∧ tt σ2 H2 fun b H3 =>
        if b = true then te σ2 H3 fun y H4 => ∃ acc, H4 D = some (.lst acc) ∧ acc.length < sizeLine ∧ Nx (upd H4 D (.lst (acc ++ [y]))) else Nx H3) := by
  refine ⟨fun i m H => i ≤ xs.length ∧ m = xs.length - i ∧ Pv i H, ⟨_, Nat.zero_le _, rfl, h0⟩, ?_⟩
  rintro i m H ⟨hi, rfl, p⟩
  obtain ⟨qx, qy⟩ := hl i H p
  rcases Nat.lt_or_ge i xs.length with hlt | hge
  · have hx : xs[i]? = some xs[i] := List.getElem?_eq_getElem hlt
    have hy : ys[i]? = some (ys[i]'(by omega)) := List.getElem?_eq_getElem (by omega)
    refine .inr ⟨⟨xs, ys, _, _, qx, qy, hx, hy⟩, Pv (i + 1), fun H' p' => ⟨xs.length - (i + 1), by omega, hlt, rfl, p'⟩, ?_⟩
    rintro v H' ⟨T, x', y', rfl, hT, rfl, f1, f2⟩
    exact hs i x' y' T H (f1 xs qx) (f2 ys qy) p hT
  · obtain rfl : i = xs.length := by omega
    exact .inl ⟨⟨xs, ys, qx, qy, .inl (Nat.le_refl _)⟩, hd H p⟩
/-! ### code, as a datum -/
def formOf (w : Str) : Option (List Str) :=
  if w = "read" then some ["register", "cell"] else if w = "write" then some ["cell", "register"] else if w = "set" then some ["register", "function", "registers"] else if w = "copy" then some ["register", "register"]
  else if w = "get" then some ["register"] else if w = "put" then some ["register"] else if w = "if" then some ["test", "register", "code", "code"] else if w = "show" then some ["register"] else none
mutual
/-- no `show` stands in a datum -/
def nsD : PyData → Bool
  | .str x => decide (x ≠ "show")
  | .tuple ds => nsAll ds
  | _ => true
def nsAll : List PyData → Bool
  | [] => true
  | d :: r => nsD d && nsAll r
end
theorem nsAll_all : ∀ {ds : List PyData}, nsAll ds = ds.all nsD
  | [] => by
    unfold nsAll
    rfl
  | d :: r => by
    unfold nsAll
    rw [nsAll_all, List.all_cons]
theorem nsD_tup {ds : List PyData} : nsD (.tuple ds) = nsAll ds := by rw [nsD]
/-- the flag that lets `show`, or none there -/
def ShO (b : Bool) (d : PyData) : Prop := b = true ∨ nsD d = true
theorem ShO.get {b : Bool} {ds : List PyData} {d : PyData} {i : Nat} (h : ShO b (.tuple ds)) (hd : ds[i]? = some d) : ShO b d := h.imp id fun z => by
  rw [nsD_tup, nsAll_all] at z
  exact List.all_eq_true.mp z d (List.mem_of_getElem? hd)
def argsD : PyData → Bool
  | .tuple ds => decide (ds.length ≤ 2) && ds.all isNameD
  | _ => false
def fitD (cd : PyData → Bool) (d : PyData) (role : Str) : Bool := if role = "code" then cd d else if role = "registers" then argsD d else isNameD d
def rowD (cd : PyData → Bool) : PyData → Bool
  | .tuple (.str w :: rest) => match formOf w with
    | some rs => decide (rest.length = rs.length) && (List.zipWith (fitD cd) rest rs).all id
    | none => false
  | _ => false
def codeD : Nat → PyData → Bool
  | 0, .tuple ds => ds.all (rowD fun _ => false)
  | n + 1, .tuple ds => ds.all (rowD (codeD n))
  | _, _ => false
def cdOf : Nat → PyData → Bool
  | 0 => fun _ => false
  | n + 1 => codeD n
theorem codeD_tup (n : Nat) (ds : List PyData) : codeD n (.tuple ds) = ds.all (rowD (cdOf n)) := by
  cases n <;> rfl
abbrev sNested : Stmt := top 32
abbrev sStmt : Stmt := top 33
abbrev sFits : Stmt := top 34
def spNested : Sp := fun vs H Q _ => ∃ (S : Addr → Prop) (v : V) (d : PyData) (n : Nat), vs = [v, .int n] ∧ Dt S H v d ∧ smlD d = true ∧ ∀ H', Same H H' → Q (.bl (codeD n d)) H'
/-- the contract at one depth -/
def spNestedAt : Nat → Sp
  | 0 => fun _ _ _ _ => False
  | n + 1 => fun vs H Q _ => ∃ (S : Addr → Prop) (v : V) (d : PyData), vs = [v, .int n] ∧ Dt S H v d ∧ smlD d = true ∧ ∀ H', Same H H' → Q (.bl (codeD n d)) H'
def spStmt (n : Nat) : Sp := fun vs H Q _ => ∃ (S : Addr → Prop) (v : V) (d : PyData), vs = [v, .int n] ∧ Dt S H v d ∧ smlD d = true ∧ ∀ H', Same H H' → Q (.bl (rowD (cdOf n) d)) H'
def spFits (n : Nat) : Sp := fun vs H Q _ => ∃ (S : Addr → Prop) (v : V) (d : PyData) (r : Str), vs = [v, .str r, .int n] ∧ Dt S H v d ∧ smlD d = true ∧ ∀ H', Same H H' → Q (.bl (fitD (cdOf n) d r)) H'
/-! the same with the third argument -/
def spNestedAtS : Nat → Sp
  | 0 => fun _ _ _ _ => False
  | n + 1 => fun vs H Q _ => ∃ (S : Addr → Prop) (v : V) (d : PyData) (b : Bool), vs = [v, .int n, .bl b] ∧ ShO b d ∧ Dt S H v d ∧ smlD d = true ∧ ∀ H', Same H H' → Q (.bl (codeD n d)) H'
def spStmtS (n : Nat) : Sp := fun vs H Q _ => ∃ (S : Addr → Prop) (v : V) (d : PyData) (b : Bool), vs = [v, .int n, .bl b] ∧ ShO b d ∧ Dt S H v d ∧ smlD d = true ∧ ∀ H', Same H H' → Q (.bl (rowD (cdOf n) d)) H'
def spFitsS (n : Nat) : Sp := fun vs H Q _ => ∃ (S : Addr → Prop) (v : V) (d : PyData) (r : Str) (b : Bool), vs = [v, .str r, .int n, .bl b] ∧ ShO b d ∧ Dt S H v d ∧ smlD d = true ∧ ∀ H', Same H H' → Q (.bl (fitD (cdOf n) d r)) H'
/-- the modules' constants about statements -/
structure TxtF (K : PySem.W.Frag) (w : World) (mg : Str → Option Value) : Prop where
  tup : mg "tuple" = none
  zip : mg "zip" = none
  most : ∃ t, mg "MAX_REGISTERS" = some (.int 2 t)
  forms : ∃ d es n, mg "FORMS" = some (.ref d) ∧ KDict K w d es n ∧ (∀ z, formOf z = none → PySem.W.nsIn K d z = some none) ∧ ∀ z rs, formOf z = some rs → ∃ a, PySem.W.nsIn K d z = some (some (.ref a)) ∧ ∀ H, SqT K H a (rs.map V.str)
/-- a list of truths that grows -/
def PvM (H : Hp) (D : Addr) (bs : List Bool) (i : Nat) (H' : Hp) : Prop := Same H H' ∧ H' D = some (.lst ((bs.take i).map V.bl))
theorem PvM.zero {H : Hp} {D : Addr} {bs : List Bool} (hD : H D = none) : PvM H D bs 0 (upd H D (.lst [])) := ⟨same_upd hD, upd_same⟩
theorem PvM.step {H H3 H4 : Hp} {D : Addr} {bs : List Bool} {i : Nat} {b : Bool} (hD : H D = none) (hl : bs.length ≤ 1000) (hb : bs[i]? = some b) (p : PvM H D bs i H3) (s : Same H3 H4) : ∃ acc, H4 D = some (.lst acc) ∧ acc.length < sizeLine ∧ PvM H D bs (i + 1) (upd H4 D (.lst (acc ++ [V.bl b]))) := by
  refine ⟨_, s _ _ p.2, ?_, same_put hD (p.1.trans s), ?_⟩
  · rw [List.length_map, List.length_take]
    have : (1000 : Nat) < sizeLine := by decide
    omega
  · rw [upd_same, List.take_add_one, hb, List.map_append]
    rfl
theorem PvM.all {H H5 : Hp} {D : Addr} {bs : List Bool} {n : Nat} (p : PvM H D bs n H5) (hn : n = bs.length) : Same H H5 ∧ H5 D = some (.lst (bs.map V.bl)) := by
  have e := p.2
  rw [hn, List.take_length] at e
  exact ⟨p.1, e⟩
theorem all_map_id {α : Type} (f : α → Bool) (l : List α) : (l.map f).all id = l.all f := by
  rw [List.all_map]
  rfl
theorem Dt.tup_of {S : Addr → Prop} {H : Hp} {v : V} {ds : List PyData} (h : Dt S H v (.tuple ds)) : ∃ a xs, v = .ref a ∧ H a = some (.tup xs) ∧ xs.length ≤ 1000 ∧ DtAll S H xs ds := by
  cases h with
  | «at» a => cases a
  | @tup a xs _ s e hl h => exact ⟨a, xs, rfl, e, hl, h⟩
section
variable {P : Program} {w : World} {K : PySem.W.Frag} {mg : Str → Option Value} {base : Heap} {f fS fF fN fI : Addr} {fd dS dF dN dI : FuncData}
theorem scF : FnScope ["part", "role", "depth", "shows", "name"] ["part", "role", "depth", "shows"] (defScope sFits) := ⟨rfl, rfl, rfl, by decide +kernel, rfl, by decide +kernel, by decide +kernel⟩
theorem ok_fits {n k : Nat} (F : Fun K "_fits" "_fits" sFits f fd) (T : TxtN K mg) (TF : TxtF K w mg) (gN : mg "is_nested_code" = some (.ref fN)) (kN : PySem.W.keepIn K (.ref fN) = true) (bN : Binds K dN ["value", "depth", "shows"] []) (GN : FnOk P w K mg base CX0 (k + 1) fN dN ["value", "depth", "shows"] (spNestedAtS n))
    (gI : mg "is_name" = some (.ref fI)) (kI : PySem.W.keepIn K (.ref fI) = true) (bI : Binds K dI ["value"] []) (GI : FnOk P w K mg base CX0 1 fI dI ["value"] spName) : FnOk P w K mg base CX0 (k + 2) f fd ["part", "role", "depth", "shows"] (spFitsS n) := by
  refine F.ok scF (fun vs H Q E h => ?_) (fun cdv A outer s H vs Q E hr h => ?_)
  · obtain ⟨S, v, d, r, b, rfl, _⟩ := h
    rfl
  · obtain ⟨S, v, d, r, b, rfl, sho, hd, sm, q⟩ := h
    obtain ⟨t1, g1⟩ := TF.most
    refine ⟨_, pss_cons (ps_if (pt_cmpR op_eq (pv 1) pe_str (nomark _)) (pss_one (ps_ret (pe_and (pe_cmpR op_gt (pv 2) pe_int (nomark _)) (pe_one (pe_call GN hr (by rfl) gN kN bN .nil pass0 (pa_cons (pv 0) (pa_cons (pe_op op_sub (pv 2) pe_int) (pa_cons (pv 3) pa_nil)))))))) pss_nil)
      (pss_cons (ps_if (pt_cmpR op_eq (pv 1) pe_str (nomark _)) (pss_one (ps_ret (pe_and (pe_callB call_isi (by rfl) T.isi (by decide +kernel) (pa_cons (pv 0) (pa_cons (pe_bltn (v := .ty "tuple") (u := .type "tuple") (by rfl) TF.tup (by decide +kernel) rfl) pa_nil)))
          (pe_and (pe_cmpR op_le (pe_callB call_len_seq (by rfl) T.len PySem.boot_len (pa_cons (pv 0) pa_nil)) (pe_glob (v := .int 2) (by rfl) g1 ⟨t1, rfl⟩) (nomark _))
          (pe_one (pe_callB (cr_all rfl) (by rfl) T.all (by decide +kernel) (pa_cons (pe_lc (own := [("name", 4)]) rfl scF.nd (pi_tup (pv 0)) (blkOk_by (N := ["part", "role", "depth", "shows", "name"]) (sc := defScope sFits) (by decide +kernel))
            (fun _ _ _ _ _ => pg_name (i := 4) scF.nd rfl (Or.inl rfl)) (fun _ _ _ _ _ => pts_nil) (fun _ _ _ _ _ => pe_call GI (hr.mono (by omega)) (by rfl) gI kI bI .nil pass0 (pa_cons (pv 4) pa_nil))) pa_nil))))))) pss_nil)
      (pss_one (ps_ret (pe_call GI (hr.mono (by omega)) (by rfl) gI kI bI .nil pass0 (pa_cons (pv 0) pa_nil))))), ?_⟩
    refine ⟨_, rfl, rfl, _, rfl, ite2 (fun h1 => ?_) (fun h1 => ?_)⟩
    · obtain rfl : r = "code" := V.str.inj (of_decide_eq_true h1)
      refine ⟨_, rfl, (n : Int), 0, rfl, rfl, _, rfl, ite2 (fun k => ?_) (fun k => ?_)⟩
      · have k' : (0 : Int) < (n : Int) := of_decide_eq_true k
        obtain ⟨m, rfl⟩ : ∃ m, n = m + 1 := ⟨n - 1, by omega⟩
        refine ⟨_, rfl, _, rfl, ((m + 1 : Nat) : Int), 1, rfl, rfl, _, rfl, S, v, d, b, ?_, sho, hd, sm, fun H' s' => q H' s'⟩
        show [v, V.int (((m + 1 : Nat) : Int) - 1), V.bl b] = [v, V.int (m : Int), V.bl b]
        rw [show (((m + 1 : Nat) : Int) - 1) = (m : Int) by omega]
      · obtain rfl : n = 0 := by
          have : ¬ (0 : Int) < (n : Int) := fun z => k (decide_eq_true z)
          omega
        exact q H (Same.refl _)
    · have hc : r ≠ "code" := fun z => h1 (decide_eq_true (congrArg V.str z))
      refine ⟨_, rfl, rfl, _, rfl, ite2 (fun h2 => ?_) (fun h2 => ?_)⟩
      · obtain rfl : r = "registers" := V.str.inj (of_decide_eq_true h2)
        have q : ∀ H', Same H H' → Q (.bl (argsD d)) H' := fun H' s' => q H' s'
        cases ht : isTupD d with
        | false =>
          have e : argsD d = false := by cases d <;> first | rfl | cases ht
          refine isi_te (x := v) rfl hd.tyx ((kit_tup d).trans (congrArg some ht)) ⟨_, rfl, iteF ?_⟩
          have z := q H (Same.refl _)
          rw [e] at z
          exact z
        | true =>
          cases d with
          | tuple ds =>
            obtain ⟨a, xs, rfl, ea, hl, hx⟩ := hd.tup_of
            have sa : smlAll ds = true := by
              unfold smlD at sm
              exact sm
            refine isi_te (x := .ref a) rfl (.base (.tup ea)) (kit_tup (.tuple ds)) ⟨_, rfl, iteT ?_⟩
            refine ⟨_, rfl, a, xs, rfl, .inr (SqT.of ea), (xs.length : Int), 2, rfl, rfl, _, rfl, ite2 (fun k => ?_) (fun k => ?_)⟩
            · have k' : ds.length ≤ 2 := by
                have := of_decide_eq_true k
                rw [← hx.length]
                omega
              refine ⟨_, rfl, a, rfl, ⟨xs, SqT.of ea⟩, fun Dl hD => lc_tup (PvM H Dl (ds.map isNameD)) (PvM.zero hD) (fun i H' _ p => SqT.of (p.1 _ _ ea)) (fun i x H3 hi p => ?_) (fun H5 p => ?_)⟩
              · obtain ⟨e, he, hde⟩ := hx.get hi
                exact ⟨rfl, _, rfl, S, x, e, rfl, hde.mv (fun _ z => z) (fun b o _ eb => p.1 b o eb), sml_get sa he, fun H4 s4 => p.step hD (by rw [List.length_map]; omega) (by rw [List.getElem?_map, he]; rfl) s4⟩
              · obtain ⟨s5, e5⟩ := p.all (by rw [List.length_map]; exact hx.length)
                refine ⟨Dl, _, rfl, SqL.of e5, ?_⟩
                have z := q _ s5
                rw [show argsD (.tuple ds) = (decide (ds.length ≤ 2) && ds.all isNameD) from rfl, decide_eq_true k', Bool.true_and, ← all_map_id] at z
                exact z
            · have k' : ¬ ds.length ≤ 2 := fun z => k (decide_eq_true (by rw [hx.length]; omega))
              have z := q H (Same.refl _)
              rw [show argsD (.tuple ds) = (decide (ds.length ≤ 2) && ds.all isNameD) from rfl, decide_eq_false k', Bool.false_and] at z
              exact z
          | _ => cases ht
      · have hg : r ≠ "registers" := fun z => h2 (decide_eq_true (congrArg V.str z))
        refine ⟨_, rfl, S, v, d, rfl, hd, sm, fun H' s' => ?_⟩
        have z := q H' s'
        unfold fitD at z
        rw [if_neg hc, if_neg hg] at z
        exact z
end
end OM

namespace OM
open PySem PySem.Spec PyProof.Rows L2
theorem cutHs {A C : Prop} (f : C → A) (b : C) : A := f b
theorem sml_tail {d : PyData} {ds : List PyData} (h : smlAll (d :: ds) = true) : smlD d = true ∧ smlAll ds = true := by
  unfold smlAll at h
  exact Bool.and_eq_true_iff.mp h
theorem at0 {x : V} {r : List V} : atI (x :: r) 0 = some x := by
  show atI (x :: r) ((0 : Nat) : Int) = some x
  exact atI_nat rfl
theorem cut_tail {x : V} {r : List V} : cutV (x :: r) (some 1) none = r := by
  unfold cutV
  rw [show HT.sIx (x :: r).length 0 (some 1) = 1 from by
    rw [show (some (1 : Int)) = some ((1 : Nat) : Int) from rfl, HT.sIx_nat]
    show min 1 (r.length + 1) = 1
    omega, HT.sIx_none]
  show (r.take (r.length + 1 - 1)) = r
  rw [Nat.add_sub_cancel, List.take_length]
theorem cut_part {x : V} {r : List V} : ¬ (HT.sIx (x :: r).length 0 (some 1) = 0 ∧ HT.sIx (x :: r).length (x :: r).length none = (x :: r).length) := fun h => by
  have e : HT.sIx (x :: r).length 0 (some 1) = 1 := by
    rw [show (some (1 : Int)) = some ((1 : Nat) : Int) from rfl, HT.sIx_nat]
    show min 1 (r.length + 1) = 1
    omega
  rw [e] at h
  exact absurd h.1 (by decide)
theorem rowD_no {cd : PyData → Bool} {w : Str} {rest : List PyData} (h : formOf w = none) : rowD cd (.tuple (.str w :: rest)) = false := by
  show (match formOf w with | some rs => decide (rest.length = rs.length) && (List.zipWith (fitD cd) rest rs).all id | none => false) = false
  rw [h]
theorem rowD_yes {cd : PyData → Bool} {w : Str} {rest : List PyData} {rs : List Str} (h : formOf w = some rs) : rowD cd (.tuple (.str w :: rest)) = (decide (rest.length = rs.length) && (List.zipWith (fitD cd) rest rs).all id) := by
  show (match formOf w with | some rs => decide (rest.length = rs.length) && (List.zipWith (fitD cd) rest rs).all id | none => false) = _
  rw [h]
theorem form_len {w : Str} {rs : List Str} (h : formOf w = some rs) : rs.length ≤ 4 := by
  unfold formOf at h
  repeat (first | (split at h) | (cases h; decide) | cases h)
section
variable {P : Program} {w : World} {K : PySem.W.Frag} {mg : Str → Option Value} {base : Heap} {f fF : Addr} {fd dF : FuncData}
theorem scSt : FnScope ["value", "depth", "shows", "form", "part", "role"] ["value", "depth", "shows"] (defScope sStmt) := ⟨rfl, rfl, rfl, by decide +kernel, rfl, by decide +kernel, by decide +kernel⟩
theorem ok_stmt {n k : Nat} (F : Fun K "_is_statement" "_is_statement" sStmt f fd) (T : TxtN K mg) (TF : TxtF K w mg) (gF : mg "_fits" = some (.ref fF)) (kF : PySem.W.keepIn K (.ref fF) = true) (bF : Binds K dF ["part", "role", "depth", "shows"] []) (GF : FnOk P w K mg base CX0 k fF dF ["part", "role", "depth", "shows"] (spFitsS n)) :
    FnOk P w K mg base CX0 (k + 1) f fd ["value", "depth", "shows"] (spStmtS n) := by
  refine F.ok scSt (fun vs H Q E h => ?_) (fun cdv A outer s H vs Q E hr h => ?_)
  · obtain ⟨S, v, d, b, rfl, _⟩ := h
    rfl
  · obtain ⟨S, v, d, b, rfl, sho, hd, sm, q⟩ := h
    obtain ⟨fa, es, nn, gM, KD, hno, hyes⟩ := TF.forms
    have hu : (A.deeper (envOfC "_is_statement" (defScope sStmt) s.heap.objs.size f cdv)).units < cLine := by
      have := hr.un
      omega
    refine ⟨_, pss_cons (ps_if (PW.pt (pw_or (pt_not (pt_val (pe_callB call_isi (by rfl) T.isi (by decide +kernel) (pa_cons (pv 0) (pa_cons (pe_bltn (v := .ty "tuple") (u := .type "tuple") (by rfl) TF.tup (by decide +kernel) rfl) pa_nil)))))
        (pw_or (pt_cmpR (op_eqT0 hu) (pv 0) (pe_tup pa_nil) (by rfl))
        (pw_or1 (pt_not (pt_val (pe_callB call_isi (by rfl) T.isi (by decide +kernel) (pa_cons (pe_ix ix_tup (pv 0) pe_int (fun _ _ => rfl)) (pa_cons (pe_bltn (v := .ty "str") (u := .type "str") (by rfl) T.str (by decide +kernel) rfl) pa_nil)))))))))
        (pss_one (ps_ret pe_bl)) pss_nil)
      (pss_cons (ps_if (PW.pt (pw_or (pt_cmpR (op_notIn_kd KD) (pe_ix ix_tup (pv 0) pe_int (fun _ _ => rfl)) (pe_glob (v := .ref fa) (by rfl) gM rfl) (by rfl)) (pw_or1 (PW.pt (pw_and (pt_cmpR op_eq (pe_ix ix_tup (pv 0) pe_int (fun _ _ => rfl)) pe_str (nomark _)) (pw_and1 (pt_not (pt_val (pv 2))))))))) (pss_one (ps_ret pe_bl)) pss_nil)
      (pss_cons (ps_set (i := 3) scSt.nd rfl (Or.inl rfl) (pe_ix ix_kdict (pe_glob (v := .ref fa) (by rfl) gM rfl) (pe_ix ix_tup (pv 0) pe_int (fun _ _ => rfl)) (fun _ _ => rfl)))
      (pss_one (ps_ret (pe_and (pe_cmpR op_eq (pe_callB call_len_seq (by rfl) T.len PySem.boot_len (pa_cons (pv 0) pa_nil)) (pe_op op_add (pe_callB call_len_seq (by rfl) T.len PySem.boot_len (pa_cons (pv 3) pa_nil)) pe_int) (nomark _))
        (pe_one (pe_callB (cr_all rfl) (by rfl) T.all (by decide +kernel) (pa_cons (pe_lc (g := gTup K 2 (gCons (gName 4) (gCons (gName 5) gNil))) (own := [("part", 4), ("role", 5)]) rfl scSt.nd (RZ.pi_zipA (by rfl) TF.zip (pa_cons (pe_slice sl_tupA (pv 0) (po_some pe_int) po_none) (pa_cons (pv 3) pa_nil)))
            (blkOk_by (N := ["value", "depth", "shows", "form", "part", "role"]) (sc := defScope sStmt) (by decide +kernel)) (fun _ _ _ _ _ => pg_tup rfl (pgs_cons (pg_name (i := 4) scSt.nd rfl (Or.inl rfl)) (pgs_cons (pg_name (i := 5) scSt.nd rfl (Or.inl rfl)) pgs_nil))) (fun _ _ _ _ _ => pts_nil)
            (fun _ _ _ _ _ => pe_call GF hr (by rfl) gF kF bF .nil pass0 (pa_cons (pv 4) (pa_cons (pv 5) (pa_cons (pv 1) (pa_cons (pv 2) pa_nil)))))) pa_nil)))))))), ?_⟩
    have z0 : ∀ {b : Bool}, b = rowD (cdOf n) d → ∀ H', Same H H' → Q (.bl b) H' := fun {b} e H' s' => by
      rw [e]
      exact q H' s'
    cases ht : isTupD d with
    | false =>
      have e : false = rowD (cdOf n) d := by cases d <;> first | rfl | cases ht
      exact isi_te (x := v) rfl hd.tyx ((kit_tup d).trans (congrArg some ht)) ⟨_, rfl, iteT (iteT (z0 e H (Same.refl _)))⟩
    | true =>
      cases d with
      | tuple ds =>
        obtain ⟨a, xs, rfl, ea, hl, hx⟩ := hd.tup_of
        have sa : smlAll ds = true := by
          unfold smlD at sm
          exact sm
        refine isi_te (x := .ref a) rfl (.base (.tup ea)) (kit_tup (.tuple ds)) ⟨_, rfl, iteF ?_⟩
        refine ⟨_, rfl, (by show 0 ≤ sizeLine; decide), fun p0 hp0 => ?_⟩
        have s0 := same_upd (o := .tup []) hp0
        have ea0 := s0 _ _ ea
        cases hx with
        | nil => exact ⟨a, p0, [], rfl, rfl, SqT.of ea0, SqT.of upd_same, _, rfl, iteT (iteT (z0 rfl _ s0))⟩
        | @cons x0 d0 xr dr hx0 hxr =>
          refine ⟨a, p0, _, rfl, rfl, SqT.of ea0, SqT.of upd_same, _, rfl, iteF ?_⟩
          have hx1 : Dt S (upd H p0 (.tup [])) x0 d0 := hx0.mv (fun _ z => z) fun b o _ e => s0 b o e
          obtain ⟨sm0, smr⟩ := sml_tail sa
          refine ⟨_, rfl, a, _, 0, x0, rfl, rfl, SqT.of ea0, at0, x0, .ty "str", _, _, isStrD d0, rfl, .ty _, hx1.tyx, kit_ty (kit_str d0), _, rfl, ?_⟩
          cases hs : isStrD d0 with
          | false =>
            have e : false = rowD (cdOf n) (.tuple (d0 :: dr)) := by cases d0 <;> first | rfl | cases hs
            exact iteT (z0 e _ s0)
          | true =>
            cases d0 with
            | str w0 =>
              have ev : x0 = .str w0 := by
                cases hx0 with
                | «at» a => cases a <;> rfl
              subst ev
              refine iteF ?_
              cases hf : formOf w0 with
              | none =>
                exact ⟨_, rfl, a, _, 0, _, rfl, rfl, SqT.of ea0, at0, w0, none, rfl, rfl, hno w0 hf, _, rfl, iteT (z0 (rowD_no hf).symm _ s0)⟩
              | some rs =>
                obtain ⟨pf, hnf, hsf⟩ := hyes w0 rs hf
                refine ⟨_, rfl, a, _, 0, _, rfl, rfl, SqT.of ea0, at0, w0, _, rfl, rfl, hnf, _, rfl, iteF ?_⟩
                refine cutHs (fun c => ⟨_, rfl, a, _, 0, _, rfl, rfl, SqT.of ea0, at0, rfl, _, rfl, ite2 (fun k => ?_) (fun _ => iteF c)⟩) ?_
                · have b1 : b = true := sho.resolve_right fun z => by
                    have e : w0 = "show" := V.str.inj (of_decide_eq_true k)
                    rw [nsD_tup, e] at z
                    unfold nsAll nsD at z
                    rw [decide_eq_false (by simp), Bool.false_and] at z
                    cases z
                  subst b1
                  exact ⟨_, rfl, _, rfl, iteF c⟩
                refine ⟨_, rfl, a, _, 0, _, rfl, rfl, SqT.of ea0, at0, fa, w0, .ref pf, rfl, rfl, ⟨es, nn, _, KD.at_, KD.lit, hnf, rfl⟩, ?_⟩
                refine ⟨_, rfl, a, _, rfl, .inr (SqT.of ea0), _, rfl, pf, _, rfl, .inr (hsf _), _, _, rfl, rfl, rfl, _, rfl, ite2 (fun k1 => ?_) (fun k1 => ?_)⟩
                · have k2 := V.int.inj (of_decide_eq_true k1)
                  have e1 : dr.length = rs.length := by
                    rw [List.length_map, List.length_cons, hxr.length] at k2
                    omega
                  have e0 : xr.length = rs.length := hxr.length.trans e1
                  refine ⟨_, rfl, 1, rfl, a, _, rfl, SqT.of ea0, fun hw => absurd hw cut_part, fun _ pc hpc => ?_⟩
                  rw [cut_tail]
                  have s1 := s0.trans (same_upd (o := .tup xr) hpc)
                  refine ⟨_, rfl, pc, pf, xr, rs.map V.str, rfl, .inr ⟨SqT.of upd_same, hsf _, fun Dl hD => lc_zipT (by rw [List.length_map]; exact e0) (PvM _ Dl (List.zipWith (fitD (cdOf n)) dr rs)) (PvM.zero hD)
                    (fun i H' p => ⟨SqT.of (p.1 _ _ upd_same), hsf _⟩) (fun i x y T H3 hxi hyi p hT => ?_) (fun H5 p => ?_)⟩⟩
                  · obtain ⟨e, he, hde⟩ := hxr.get hxi
                    rw [List.getElem?_map] at hyi
                    obtain ⟨r0, hr0, rfl⟩ := Option.map_eq_some_iff.mp hyi
                    have sT := (s1.trans p.1).trans (same_upd (o := .tup [x, .str r0]) hT)
                    refine ⟨T, _, rfl, SqT.of upd_same, rfl, _, _, rfl, _, _, rfl, rfl, rfl, ?_⟩
                    refine ⟨_, rfl, _, rfl, _, rfl, _, rfl, S, x, e, r0, b, rfl, ShO.get (i := i + 1) sho (by simpa using he), hde.mv (fun _ z => z) (fun b o _ eb => sT b o eb), sml_get smr he, fun H4 s4 => ?_⟩
                    refine p.step hD ?_ ?_ ((same_upd hT).trans s4)
                    · have := form_len hf
                      rw [List.length_zipWith]
                      omega
                    · rw [List.getElem?_zipWith, he, hr0]
                  · obtain ⟨s5, e5⟩ := p.all (by rw [List.length_zipWith, e0, e1]; omega)
                    refine ⟨Dl, _, rfl, SqL.of e5, ?_⟩
                    refine z0 ?_ _ (s1.trans s5)
                    rw [rowD_yes hf, decide_eq_true e1, Bool.true_and]
                · have e1 : ¬ dr.length = rs.length := fun z => k1 (decide_eq_true (by
                    rw [List.length_map, List.length_cons, hxr.length, z]
                    rfl))
                  refine z0 ?_ _ s0
                  rw [rowD_yes hf, decide_eq_false e1, Bool.false_and]
            | _ => cases hs
      | _ => cases ht
end
end OM

namespace OM
open PySem PySem.Spec PyProof.Rows L2
section
variable {P : Program} {w : World} {K : PySem.W.Frag} {mg : Str → Option Value} {base : Heap} {f fS fF fN fI : Addr} {fd dS dF dN dI : FuncData}
theorem scNe : FnScope ["value", "depth", "shows", "part"] ["value", "depth", "shows"] (defScope sNested) := ⟨rfl, rfl, rfl, by decide +kernel, rfl, by decide +kernel, by decide +kernel⟩
theorem nested_step {n k : Nat} {dvs : List V} (F : FunD K "is_nested_code" "is_nested_code" (defArgs sNested) (defBody sNested) (defScope sNested) dvs [] f fd) (T : TxtN K mg) (TF : TxtF K w mg) (gS : mg "_is_statement" = some (.ref fS)) (kS : PySem.W.keepIn K (.ref fS) = true) (bS : Binds K dS ["value", "depth", "shows"] []) (GS : FnOk P w K mg base CX0 k fS dS ["value", "depth", "shows"] (spStmtS n)) :
    FnOk P w K mg base CX0 (k + 1) f fd ["value", "depth", "shows"] (spNestedAtS (n + 1)) := by
  refine F.ok scNe (fun vs H Q E h => ?_) (fun cdv A outer s H vs Q E hr h => ?_)
  · obtain ⟨S, v, d, b, rfl, _⟩ := h
    rfl
  · obtain ⟨S, v, d, b, rfl, sho, hd, sm, q⟩ := h
    refine ⟨_, pss_one (ps_ret (pe_and (pe_callB call_isi (by rfl) T.isi (by decide +kernel) (pa_cons (pv 0) (pa_cons (pe_bltn (v := .ty "tuple") (u := .type "tuple") (by rfl) TF.tup (by decide +kernel) rfl) pa_nil)))
      (pe_one (pe_callB (cr_all rfl) (by rfl) T.all (by decide +kernel) (pa_cons (pe_lc (own := [("part", 3)]) rfl scNe.nd (pi_tup (pv 0)) (blkOk_by (N := ["value", "depth", "shows", "part"]) (sc := defScope sNested) (by decide +kernel))
          (fun _ _ _ _ _ => pg_name (i := 3) scNe.nd rfl (Or.inl rfl)) (fun _ _ _ _ _ => pts_nil) (fun _ _ _ _ _ => pe_call GS hr (by rfl) gS kS bS .nil pass0 (pa_cons (pv 3) (pa_cons (pv 1) (pa_cons (pv 2) pa_nil))))) pa_nil))))), ?_⟩
    cases ht : isTupD d with
    | false =>
      have e : codeD n d = false := by cases d <;> cases n <;> first | rfl | cases ht
      refine isi_te (x := v) rfl hd.tyx ((kit_tup d).trans (congrArg some ht)) ⟨_, rfl, iteF ?_⟩
      have z := q H (Same.refl _)
      rw [e] at z
      exact z
    | true =>
      cases d with
      | tuple ds =>
        obtain ⟨a, xs, rfl, ea, hl, hx⟩ := hd.tup_of
        have sa : smlAll ds = true := by
          unfold smlD at sm
          exact sm
        refine isi_te (x := .ref a) rfl (.base (.tup ea)) (kit_tup (.tuple ds)) ⟨_, rfl, iteT ?_⟩
        refine ⟨_, rfl, a, rfl, ⟨xs, SqT.of ea⟩, fun Dl hD => lc_tup (PvM H Dl (ds.map (rowD (cdOf n)))) (PvM.zero hD) (fun i H' _ p => SqT.of (p.1 _ _ ea)) (fun i x H3 hi p => ?_) (fun H5 p => ?_)⟩
        · obtain ⟨e, he, hde⟩ := hx.get hi
          have := hx.length
          exact ⟨rfl, _, rfl, _, rfl, _, rfl, S, x, e, b, rfl, sho.get he, hde.mv (fun _ z => z) (fun b o _ eb => p.1 b o eb), sml_get sa he, fun H4 s4 => p.step hD (by rw [List.length_map]; omega) (by rw [List.getElem?_map, he]; rfl) s4⟩
        · obtain ⟨s5, e5⟩ := p.all (by rw [List.length_map]; exact hx.length)
          refine ⟨Dl, _, rfl, SqL.of e5, ?_⟩
          have z := q _ s5
          rw [codeD_tup, ← all_map_id] at z
          exact z
      | _ => cases ht
/-- the three that call one another -/
structure CodeF (K : PySem.W.Frag) (mg : Str → Option Value) (fN fS fF fI : Addr) (dN dS dF dI : FuncData) : Prop where
  FN : FunD K "is_nested_code" "is_nested_code" (defArgs sNested) (defBody sNested) (defScope sNested) [.bl false] [] fN dN
  FS : Fun K "_is_statement" "_is_statement" sStmt fS dS
  FF : Fun K "_fits" "_fits" sFits fF dF
  FI : Fun K "is_name" "is_name" sIsName fI dI
  gN : mg "is_nested_code" = some (.ref fN)
  gS : mg "_is_statement" = some (.ref fS)
  gF : mg "_fits" = some (.ref fF)
  gI : mg "is_name" = some (.ref fI)
  bN : Binds K dN ["value", "depth", "shows"] []
  bN1 : ∃ ds, Vals [V.bl false] ds ∧ Binds K dN ["value", "depth", "shows"] ds
  bS : Binds K dS ["value", "depth", "shows"] []
  bF : Binds K dF ["part", "role", "depth", "shows"] []
  bI : Binds K dI ["value"] []
  T : TxtN K mg
theorem ok_nested (C : CodeF K mg fN fS fF fI dN dS dF dI) (TF : TxtF K w mg) : ∀ n, FnOk P w K mg base CX0 (3 * n + 1) fN dN ["value", "depth", "shows"] (spNestedAtS n)
  | 0 => ⟨fun _ _ _ _ h => h.elim, fun _ _ _ _ _ _ _ _ _ _ _ _ _ h => h.elim⟩
  | n + 1 => nested_step C.FN C.T TF C.gS C.FS.kp C.bS (ok_stmt C.FS C.T TF C.gF C.FF.kp C.bF (ok_fits C.FF C.T TF C.gN C.FN.kp C.bN (ok_nested C TF n) C.gI C.FI.kp C.bI (ok_isname C.FI C.T)))
end
end OM

namespace OM
open PySem PySem.Spec PyProof.Rows L2
theorem all_true (n : Nat) : ((List.range n).all fun _ => true) = true := List.all_eq_true.mpr fun _ _ => rfl
def rL0 (K : PySem.W.Frag) (neg : Bool) : R2 := fun x y H Q => ∃ a b xs, x = .ref a ∧ y = .ref b ∧ SqL K H a xs ∧ SqL K H b [] ∧ Q (.bl (if neg then !xs.isEmpty else xs.isEmpty)) H
/-- a list of anything == [] -/
theorem op_eqL0 {X : Cx} (hu : X.A.units < cLine) : OpR X (compareOp .Eq) (rL0 X.K false) := by
  intro pins s σ H x y v u Q I rx ry h
  obtain ⟨a, b, xs, rfl, rfl, ha, hb, q⟩ := h
  obtain rfl : v = Value.ref a := rx
  obtain rfl : u = Value.ref b := ry
  obtain ⟨us, r1, p1, _⟩ := I.list ha
  obtain ⟨ws, r2, p2, _⟩ := I.list hb
  cases r2
  have l := r1.length
  cases xs with
  | nil =>
    obtain rfl : us = [] := List.length_eq_zero_iff.mp l.symm
    refine SeqAt.eq_listAt (e := fun _ => true) p1.isList p2.isList rfl hu (fun j h1 h2 => absurd h2 (by simp)) ⟨.bl _, H, I, rfl, ?_⟩
    rw [all_true]
    exact q
  | cons x0 xr =>
    refine SeqAt.eq_list_lengthsAt p1.isList p2.isList ?_ hu ⟨.bl false, H, I, rfl, q⟩
    cases us with
    | nil => simp at l
    | cons u us => simp
theorem op_neL0 {X : Cx} (hu : X.A.units < cLine) : OpR X (compareOp .NotEq) (rL0 X.K true) := by
  intro pins s σ H x y v u Q I rx ry h
  obtain ⟨a, b, xs, rfl, rfl, ha, hb, q⟩ := h
  obtain rfl : v = Value.ref a := rx
  obtain rfl : u = Value.ref b := ry
  obtain ⟨us, r1, p1, _⟩ := I.list ha
  obtain ⟨ws, r2, p2, _⟩ := I.list hb
  cases r2
  have l := r1.length
  cases xs with
  | nil =>
    obtain rfl : us = [] := List.length_eq_zero_iff.mp l.symm
    refine SeqAt.RcNeAt.lists (e := fun _ => true) p1.isList p2.isList rfl hu (fun j h1 h2 => absurd h2 (by simp)) X.prog X.w X.xe _ ⟨.bl _, H, I, rfl, ?_⟩
    rw [all_true]
    exact q
  | cons x0 xr =>
    refine SeqAt.RcNeAt.lists_lengths p1.isList p2.isList ?_ hu X.prog X.w X.xe _ ⟨.bl true, H, I, rfl, q⟩
    cases us with
    | nil => simp at l
    | cons u us => simp
/-- a list of what is none of a kind: empty, if all are -/
def PvF (H : Hp) (D : Addr) (bs : List Bool) (i : Nat) (H' : Hp) : Prop := Same H H' ∧ ∃ acc : List V, H' D = some (.lst acc) ∧ acc.length ≤ i ∧ acc.isEmpty = (bs.take i).all id
theorem PvF.zero {H : Hp} {D : Addr} {bs : List Bool} (hD : H D = none) : PvF H D bs 0 (upd H D (.lst [])) := ⟨same_upd hD, [], upd_same, Nat.le_refl _, rfl⟩
theorem PvF.yes {H H3 H4 : Hp} {D : Addr} {bs : List Bool} {i : Nat} (hb : bs[i]? = some true) (p : PvF H D bs i H3) (s : Same H3 H4) : PvF H D bs (i + 1) H4 := by
  obtain ⟨sm, acc, e, l, z⟩ := p
  refine ⟨sm.trans s, acc, s _ _ e, by omega, ?_⟩
  rw [List.take_add_one, hb, List.all_append, z]
  simp
theorem PvF.no {H H3 H4 : Hp} {D : Addr} {bs : List Bool} {i : Nat} {y : V} (hD : H D = none) (hl : bs.length ≤ 1000) (hb : bs[i]? = some false) (p : PvF H D bs i H3) (s : Same H3 H4) : ∃ acc, H4 D = some (.lst acc) ∧ acc.length < sizeLine ∧ PvF H D bs (i + 1) (upd H4 D (.lst (acc ++ [y]))) := by
  obtain ⟨sm, acc, e, l, z⟩ := p
  have hi : i < bs.length := (List.getElem?_eq_some_iff.mp hb).1
  refine ⟨acc, s _ _ e, Nat.lt_of_le_of_lt (show acc.length ≤ 1000 by omega) (by decide), same_put hD (sm.trans s), acc ++ [y], upd_same, by rw [List.length_append]; show acc.length + 1 ≤ _; omega, ?_⟩
  rw [List.take_add_one, hb, List.all_append]
  simp
theorem PvF.all {H H5 : Hp} {D : Addr} {bs : List Bool} {n : Nat} (p : PvF H D bs n H5) (hn : n = bs.length) : Same H H5 ∧ ∃ acc : List V, H5 D = some (.lst acc) ∧ acc.isEmpty = bs.all id := by
  obtain ⟨sm, acc, e, l, z⟩ := p
  rw [hn, List.take_length] at z
  exact ⟨sm, acc, e, z⟩
def spLCodeAt : Nat → Sp
  | 0 => fun _ _ _ _ => False
  | n + 1 => fun vs H Q _ => ∃ (S : Addr → Prop) (v : V) (d : PyData), vs = [v, .int n] ∧ Dt S H v d ∧ smlD d = true ∧ ∀ H', Same H H' → Q (.bl (codeD n d)) H'
section
variable {P : Program} {w : World} {K : PySem.W.Frag} {mg : Str → Option Value} {base : Heap} {f fR : Addr} {fd dR : FuncData}
end
end OM

namespace OM
open PySem PySem.Spec PyProof.Rows L2
def lenI (w : Str) : Int := match formOf w with
  | some rs => (rs.length : Int)
  | none => -1
theorem row_if (cd : PyData → Bool) (d1 d2 d3 d4 : PyData) : rowD cd (.tuple [.str "if", d1, d2, d3, d4]) = (isNameD d1 && (isNameD d2 && (cd d3 && (cd d4 && true)))) := by
  rw [rowD_yes (rs := ["test", "register", "code", "code"]) (by decide +kernel)]
  rfl
theorem row_if_len {cd : PyData → Bool} {r : List PyData} (h : ¬ r.length = 4) : rowD cd (.tuple (.str "if" :: r)) = false := by
  rw [rowD_yes (rs := ["test", "register", "code", "code"]) (by decide +kernel)]
  show (decide (r.length = 4) && _) = false
  rw [decide_eq_false h, Bool.false_and]
theorem row_if0 {r : List PyData} : rowD (cdOf 0) (.tuple (.str "if" :: r)) = false := by
  by_cases h : r.length = 4
  · match r, h with
    | [d1, d2, d3, d4], _ =>
      rw [row_if]
      show (isNameD d1 && (isNameD d2 && (false && _))) = false
      rw [Bool.false_and, Bool.and_false, Bool.and_false]
  · exact row_if_len h
theorem row_set (cd : PyData → Bool) (d1 d2 d3 : PyData) : rowD cd (.tuple [.str "set", d1, d2, d3]) = (isNameD d1 && (isNameD d2 && (argsD d3 && true))) := by
  rw [rowD_yes (rs := ["register", "function", "registers"]) (by decide +kernel)]
  rfl
theorem row_set_len {cd : PyData → Bool} {r : List PyData} (h : ¬ r.length = 3) : rowD cd (.tuple (.str "set" :: r)) = false := by
  rw [rowD_yes (rs := ["register", "function", "registers"]) (by decide +kernel)]
  show (decide (r.length = 3) && _) = false
  rw [decide_eq_false h, Bool.false_and]
/-- the other statements have names alone -/
theorem row_plain {cd : PyData → Bool} {w : Str} {r : List PyData} (h1 : w ≠ "if") (h2 : w ≠ "set") : rowD cd (.tuple (.str w :: r)) = (decide ((r.length : Int) = lenI w) && r.all isNameD) := by
  cases hf : formOf w with
  | none =>
    rw [rowD_no hf]
    have : ¬ ((r.length : Int) = lenI w) := fun z => by
      unfold lenI at z
      rw [hf] at z
      have z' : (r.length : Int) = -1 := z
      omega
    rw [decide_eq_false this, Bool.false_and]
  | some rs =>
    rw [rowD_yes hf]
    have el : ((r.length : Int) = lenI w) ↔ r.length = rs.length := by
      unfold lenI
      rw [hf]
      show ((r.length : Int) = (rs.length : Int)) ↔ _
      omega
    have pl : rs = (["register", "cell"] : List Str) ∨ rs = (["cell", "register"] : List Str) ∨ rs = (["register", "register"] : List Str) ∨ rs = (["register"] : List Str) := by
      unfold formOf at hf
      by_cases a : w = "read"
      · rw [if_pos a] at hf; exact .inl (Option.some.inj hf).symm
      rw [if_neg a] at hf
      by_cases b : w = "write"
      · rw [if_pos b] at hf; exact .inr (.inl (Option.some.inj hf).symm)
      rw [if_neg b, if_neg h2] at hf
      by_cases c : w = "copy"
      · rw [if_pos c] at hf; exact .inr (.inr (.inl (Option.some.inj hf).symm))
      rw [if_neg c] at hf
      by_cases d : w = "get"
      · rw [if_pos d] at hf; exact .inr (.inr (.inr (Option.some.inj hf).symm))
      rw [if_neg d] at hf
      by_cases e : w = "put"
      · rw [if_pos e] at hf; exact .inr (.inr (.inr (Option.some.inj hf).symm))
      rw [if_neg e, if_neg h1] at hf
      by_cases g : w = "show"
      · rw [if_pos g] at hf; exact .inr (.inr (.inr (Option.some.inj hf).symm))
      rw [if_neg g] at hf
      cases hf
    by_cases hl : r.length = rs.length
    · rw [decide_eq_true hl, decide_eq_true (el.mpr hl), Bool.true_and, Bool.true_and]
      rcases pl with rfl | rfl | rfl | rfl
      · match r, hl with
        | [d1, d2], _ => rfl
      · match r, hl with
        | [d1, d2], _ => rfl
      · match r, hl with
        | [d1, d2], _ => rfl
      · match r, hl with
        | [d1], _ => rfl
    · rw [decide_eq_false hl, decide_eq_false (fun z => hl (el.mp z)), Bool.false_and, Bool.false_and]
end OM

namespace OM
open PySem PySem.Spec PyProof.Rows L2
theorem names_hs {S : Addr → Prop} {Hb : Hp} {xs : List V} {ds : List PyData} {Dl : Addr} {s0 s1 s2 s3 s4 : Option V} (hD : Hb Dl = none) (hx : DtAll S Hb xs ds) (sm : smlAll ds = true) (hl : ds.length ≤ 1000) : ∀ i x H3, xs[i]? = some x → PvF Hb Dl (ds.map isNameD) i H3 →
    gName 4 x (wipe [s0, s1, s2, s3, s4] [4]) H3 fun σ2 H2 => wipe σ2 [4] = wipe [s0, s1, s2, s3, s4] [4] ∧ tNot (tB (tCall spName [] E0 (tCons (tVar 4) tNil))) σ2 H2 fun b H3 =>
      if b = true then tVar 4 σ2 H3 fun y H4 => ∃ acc, H4 Dl = some (.lst acc) ∧ acc.length < sizeLine ∧ PvF Hb Dl (ds.map isNameD) (i + 1) (upd H4 Dl (.lst (acc ++ [y]))) else PvF Hb Dl (ds.map isNameD) (i + 1) H3 := by
  intro i x H3 hi p
  obtain ⟨e, he, hde⟩ := hx.get hi
  have hb : (ds.map isNameD)[i]? = some (isNameD e) := by
    rw [List.getElem?_map, he]
    rfl
  refine ⟨rfl, _, rfl, S, x, e, rfl, hde.mv (fun _ z => z) (fun b o _ eb => p.1 b o eb), sml_get sm he, fun H4 s4 => ⟨_, rfl, ?_⟩⟩
  cases hv : isNameD e with
  | true =>
    rw [hv] at hb
    exact iteF (p.yes hb s4)
  | false =>
    rw [hv] at hb
    exact iteT ⟨_, rfl, p.no hD (by rw [List.length_map]; exact hl) hb s4⟩
theorem DtAll.four {S : Addr → Prop} {H : Hp} {xs : List V} {ds : List PyData} (h : DtAll S H xs ds) (l : ds.length = 4) : ∃ x1 x2 x3 x4 d1 d2 d3 d4, xs = [x1, x2, x3, x4] ∧ ds = [d1, d2, d3, d4] ∧ Dt S H x1 d1 ∧ Dt S H x2 d2 ∧ Dt S H x3 d3 ∧ Dt S H x4 d4 := by
  match ds, l with
  | [d1, d2, d3, d4], _ =>
    cases h with
    | cons h1 h =>
      cases h with
      | cons h2 h =>
        cases h with
        | cons h3 h =>
          cases h with
          | cons h4 h =>
            cases h
            exact ⟨_, _, _, _, _, _, _, _, rfl, rfl, h1, h2, h3, h4⟩
theorem DtAll.three {S : Addr → Prop} {H : Hp} {xs : List V} {ds : List PyData} (h : DtAll S H xs ds) (l : ds.length = 3) : ∃ x1 x2 x3 d1 d2 d3, xs = [x1, x2, x3] ∧ ds = [d1, d2, d3] ∧ Dt S H x1 d1 ∧ Dt S H x2 d2 ∧ Dt S H x3 d3 := by
  match ds, l with
  | [d1, d2, d3], _ =>
    cases h with
    | cons h1 h =>
      cases h with
      | cons h2 h =>
        cases h with
        | cons h3 h =>
          cases h
          exact ⟨_, _, _, _, _, _, rfl, rfl, h1, h2, h3⟩
theorem cut4 {x1 x2 x3 x4 : V} : cutV [x1, x2, x3, x4] none (some 2) = [x1, x2] := rfl
theorem cut3 {x1 x2 x3 : V} : cutV [x1, x2, x3] none (some 2) = [x1, x2] := rfl
theorem part4 {x1 x2 x3 x4 : V} : ¬ (HT.sIx [x1, x2, x3, x4].length 0 none = 0 ∧ HT.sIx [x1, x2, x3, x4].length [x1, x2, x3, x4].length (some 2) = [x1, x2, x3, x4].length) := fun h => by
  have z : (2 : Nat) = 4 := h.2
  cases z
theorem part3 {x1 x2 x3 : V} : ¬ (HT.sIx [x1, x2, x3].length 0 none = 0 ∧ HT.sIx [x1, x2, x3].length [x1, x2, x3].length (some 2) = [x1, x2, x3].length) := fun h => by
  have z : (2 : Nat) = 3 := h.2
  cases z
theorem DtAll.same {S : Addr → Prop} {H H' : Hp} {xs : List V} {ds : List PyData} (h : DtAll S H xs ds) (s : Same H H') : DtAll S H' xs ds := h.mv (fun _ z => z) fun b o _ e => s b o e
theorem Dt.sameS {S : Addr → Prop} {H H' : Hp} {v : V} {d : PyData} (h : Dt S H v d) (s : Same H H') : Dt S H' v d := h.mv (fun _ z => z) fun b o _ e => s b o e
theorem smlAll_len {ds : List PyData} {xs : List V} {S : Addr → Prop} {H : Hp} (h : DtAll S H xs ds) (l : xs.length ≤ 1000) : ds.length ≤ 1000 := by
  rw [← h.length]
  exact l
section
variable {P : Program} {w : World} {K : PySem.W.Frag} {mg : Str → Option Value} {base : Heap} {f fC fL : Addr} {fd dC dL : FuncData}
end
end OM

namespace OM
open PySem PySem.Spec PyProof.Rows L2
section
variable {P : Program} {w : World} {K : PySem.W.Frag} {mg : Str → Option Value} {base : Heap} {fC fR fL : Addr} {dC dR dL : FuncData}
end
end OM

namespace OM
open PySem PySem.Spec PyProof.Rows L2
def regs4 : List Str := ["a", "b", "r", "x"]
def cells3 : List Str := ["x", "y", "zz"]
/-- all but two is as it was -/
def But2 (a b : Addr) (H H' : Hp) : Prop := ∀ c o, c ≠ a → c ≠ b → H c = some o → H' c = some o
theorem But2.trans {a b : Addr} {H H1 H2 : Hp} (x : But2 a b H H1) (y : But2 a b H1 H2) : But2 a b H H2 := fun c o h1 h2 e => y c o h1 h2 (x c o h1 h2 e)
theorem But.two {a b : Addr} {H H' : Hp} (x : But a H H') : But2 a b H H' := fun c o h1 _ e => x c o h1 e
theorem Same.two {a b : Addr} {H H' : Hp} (x : Same H H') : But2 a b H H' := fun c o _ _ e => x c o e
/-- the room that is left -/
def RoomL (H : Hp) (q : Addr) (l s t : Nat) : Prop := H q = some (.lst [.int l, .int s, .int t])
section
variable {P : Program} {w : World} {K : PySem.W.Frag} {mg : Str → Option Value} {base : Heap} {f fR fO fC fS : Addr} {fd fdR fdO dC dS : FuncData}
/-- the functions of the dice -/
structure DiceF (K : PySem.W.Frag) (mg : Str → Option Value) (fR fO : Addr) (fdR fdO : FuncData) : Prop where
  FR : Fun K "_law_roll" "_law_roll" sRoll fR fdR
  FO : Fun K "_law_one_of" "_law_one_of" sOneOf fO fdO
  gR : mg "_law_roll" = some (.ref fR)
  gO : mg "_law_one_of" = some (.ref fO)
  bR : Binds K fdR ["_law_dice_here", "_law_total"] []
  bO : Binds K fdO ["_law_dice_here", "_law_items"] []
  T : TxtD mg
end
end OM

namespace OM
open PySem PySem.Spec PyProof.Rows L2
/-- one of some texts, in a list just made -/
theorem one_str {K : PySem.W.Frag} {G : Hp} {d p : Addr} {ws : List Str} {Q : VK} {E : XK} (hd : Dice G d) (hp : G p = none) (h0 : 0 < ws.length) (hl : ws.length ≤ 1000) (q : ∀ G' x, x ∈ ws → But d G G' → Dice G' d → Q (.str x) G') :
    spOneOf K [.ref d, .ref p] (upd G p (.lst (ws.map V.str))) Q E := by
  have s := same_upd (o := .lst (ws.map V.str)) hp
  have pd : p ≠ d := fun z => hd.ne (by rw [← z]; exact hp)
  refine ⟨d, p, ws.map V.str, rfl, ?_, SqL.of upd_same, fun _ => pd, by rw [List.length_map]; exact h0, by rw [List.length_map]; omega, fun G' i v hv b hd' => ?_⟩
  · obtain ⟨a1, a2, a3, e⟩ := hd
    exact ⟨a1, a2, a3, s _ _ e⟩
  · rw [List.getElem?_map] at hv
    obtain ⟨x, hx, rfl⟩ := Option.map_eq_some_iff.mp hv
    exact q G' x (List.mem_of_getElem? hx) (fun c o h e => b c o h (s c o e)) hd'
theorem But.trans' {a : Addr} {H H1 H2 : Hp} (x : But a H H1) (y : But a H1 H2) : But a H H2 := fun c o h1 e => y c o h1 (x c o h1 e)
theorem Same.but' {a : Addr} {H H' : Hp} (x : Same H H') : But a H H' := fun c o _ e => x c o e
theorem cutP {A B : Prop} (f : B → A) (b : B) : A := f b
theorem dt_strs {S : Addr → Prop} {G : Hp} : ∀ as : List Str, DtAll S G (as.map V.str) (as.map PyData.str)
  | [] => .nil
  | a :: as => .cons (.at (.str _)) (dt_strs as)
theorem two_of {x a b : Str} (h : x ∈ [a, b]) : x = a ∨ x = b := by
  rcases List.mem_cons.mp h with h | h
  · exact .inl h
  · exact .inr (List.mem_singleton.mp h)
section
variable {P : Program} {w : World} {K : PySem.W.Frag} {mg : Str → Option Value} {base : Heap} {f fR fO fC : Addr} {fd fdR fdO dC : FuncData}
end
end OM

/-! sets of texts: their members as a list without repeats -/
namespace OM
open PySem PySem.Spec PyProof.Rows L2
/-- the text of an entry -/
def keyT : Int × Value → Str
  | (_, .str x _) => x
  | _ => ""
/-- an entry that is a text -/
def IsTx (w : World) (e : Int × Value) : Prop := ∃ x tk, e = (hashStr w x, Value.str x tk)
structure TabX (w : World) (es : Array (Int × Value)) (t : SetTable) (L : List Str) : Prop where
  tx : ∀ e ∈ es.toList, IsTx w e
  pm : (es.toList.map keyT).Perm L
  nd : L.Nodup
  few : L.length < scanBound
  fit : t.fits es.size = true
  ris : Ris t.place.toList
  led : w.params.followText "set-order" = true ∨ t.led = true
def SetTx (w : World) (h : Heap) (a : Addr) (L : List Str) : Prop := ∃ o es ep t, h.get? a = some o ∧ o.ExactSet ∧ o.data = .set es ep t ∧ TabX w es t L
def addX (L : List Str) (x : Str) : List Str := if x ∈ L then L else x :: L
section
variable {P : Program} {w : World} {h h' : Heap} {a : Addr} {L : List Str} {es : Array (Int × Value)} {t : SetTable}
theorem TabX.size (T : TabX w es t L) : es.size = L.length := by
  have e := T.pm.length_eq
  rw [List.length_map, Array.length_toList] at e
  exact e
theorem TabX.bound (T : TabX w es t L) : es.size < scanBound := by
  rw [T.size]
  exact T.few
theorem SetTx.mv (R : SetTx w h a L) (k : ∀ o, h.get? a = some o → h'.get? a = some o) : SetTx w h' a L :=
  let ⟨o, es, ep, t, ho, r⟩ := R
  ⟨o, es, ep, t, k o ho, r⟩
theorem tx_elems {l : List (Int × Value)} (g : ∀ e ∈ l, IsTx w e) : ElemsOf (strKind P w) l := by
  intro e he
  obtain ⟨x, tk, rfl⟩ := g e he
  exact ⟨⟨x, beq_self_eq_true x, rfl⟩, rfl⟩
theorem tx_is {e : Int × Value} (g : IsTx w e) (x : Str) : (strKind P w).is x e.2 = true ↔ keyT e = x := by
  obtain ⟨y, tk, rfl⟩ := g
  exact beq_iff_eq (a := y) (b := x)
theorem tx_mem {l : List (Int × Value)} (g : ∀ e ∈ l, IsTx w e) (x : Str) : x ∈ l.map keyT ↔ ∃ e ∈ l, (strKind P w).is x e.2 = true := by
  rw [List.mem_map]
  exact ⟨fun ⟨e, he, q⟩ => ⟨e, he, (tx_is (g e he) x).mpr q⟩, fun ⟨e, he, q⟩ => ⟨e, he, (tx_is (g e he) x).mp q⟩⟩
theorem SetTx.of (R : SetTx w h a L) : h.SetOf (strKind P w) a (fun x => decide (x ∈ L)) L.length := by
  obtain ⟨o, es, ep, t, ho, hx, hd, T⟩ := R
  exact ⟨o, es, ep, t, ho, hx, hd, tx_elems T.tx, fun x => by rw [decide_eq_true_iff, ← T.pm.mem_iff, tx_mem T.tx], T.bound, T.fit, T.size⟩
end
section
variable {P : Program} {w : World} {A : Around} {E : Value → Shared → Prop} {s : Shared} {a : Addr} {L : List Str}
/-- a table that is put in, and laid anew where it is too full -/
theorem tx_stored {g : Bool → Sem Unit} (quiet : ∀ b s1 (Z : Unit → Shared → Prop), Z () s1 → wpAny (model P w) A (g b) Z E s1) {o : Obj} {es : Array (Int × Value)} {ep : Nat} {t : SetTable} (at_ : s.heap.get? a = some o) (hex : o.ExactSet) (hd : o.data = .set es ep t)
    {es1 : Array (Int × Value)} {t2 : SetTable} {L' : List Str} (T : TabX w es1 t2 L') {wasDummy : Bool} {R : Option Bool → Shared → Prop} (fin : ∀ h', Heap.SameBut a s.heap h' → SetTx w h' a L' → R (some true) { s with heap := h' }) :
    wpAny (model P w) A (storeSet a es1 t2 >>= fun _ => if (!wasDummy && t2.tooFull) = true then (g (relayAll t2 es1 (SetTable.grown es1.size)).2.2 >>= fun _ => storeSet a (relayAll t2 es1 (SetTable.grown es1.size)).1 (relayAll t2 es1 (SetTable.grown es1.size)).2.1 >>= fun _ => pure (some true)) else pure (some true)) R E s := by
  have one := store_at (es' := es1) (t' := t2) at_ hd
  have b1 := Heap.SameBut.update s.heap a (Obj.putSet es1 t2)
  refine wpAny_bind (wpAny_storeSet_of at_ hd ?_ (fits_of_scanBound T.bound))
  by_cases full : (!wasDummy && t2.tooFull) = true
  · rw [if_pos full]
    have q1 := relayAll_perm t2 es1 (SetTable.grown es1.size)
    have q2 := relayAll_fits t2 es1 (SetTable.grown es1.size)
    have q3 := relayAll_ris t2 es1 (SetTable.grown es1.size)
    have q4 := relayAll_led t2 es1 (SetTable.grown es1.size)
    revert q1 q2 q3 q4
    rcases relayAll t2 es1 (SetTable.grown es1.size) with ⟨es2, t3, gave⟩
    intro q1 q2 q3 q4
    have T3 : TabX w es2 t3 L' := ⟨fun e he => T.tx e (q1.mem_iff.mp he), (q1.map keyT).trans T.pm, T.nd, T.few, q2, q3, T.led.imp id fun z => q4.trans z⟩
    refine wpAny_bind (quiet _ _ _ (wpAny_bind (wpAny_storeSet_of one rfl ?_ (fits_of_scanBound T3.bound))))
    exact wpAny_pure (fin _ (b1.trans (Heap.SameBut.update _ a _)) ⟨_, es2, _, t3, store_at (es' := es2) (t' := t3) one rfl, hex, rfl, T3⟩)
  · rw [if_neg full]
    exact wpAny_pure (fin _ b1 ⟨_, es1, _, t2, one, hex, rfl, T⟩)
theorem TabX.more {es es1 : Array (Int × Value)} {t t1 : SetTable} {x : Str} {tk : Tok} (T : TabX w es t L) (new : x ∉ L) (room : L.length + 1 < scanBound) (pm : es1.toList.Perm (es.push (hashStr w x, Value.str x tk)).toList) (f : t1.fits es1.size = true) (r : Ris t1.place.toList) (l : t1.led = t.led) : TabX w es1 t1 (x :: L) := by
  rw [Array.toList_push] at pm
  have pc := pm.trans (List.perm_append_singleton _ _)
  refine ⟨fun e he => ?_, (pc.map keyT).trans (T.pm.cons x), List.nodup_cons.mpr ⟨new, T.nd⟩, room, f, r, T.led.imp id fun z => l.trans z⟩
  rcases List.mem_cons.mp (pc.mem_iff.mp he) with z | z
  · exact ⟨x, tk, z⟩
  · exact T.tx e z
theorem tx_hashed {x : Str} {tk : Tok} {Q : Bool → Shared → Prop} (R : SetTx w s.heap a L) (room : L.length + 1 < scanBound) (fin : ∀ b h', Heap.SameBut a s.heap h' → SetTx w h' a (addX L x) → Q b { s with heap := h' }) :
    wpAny (model P w) A (setAddHashed a (.str x tk) (hashStr w x)) Q E s := by
  have R0 := R
  obtain ⟨o, es, ep, t, at_, hex, hd, T⟩ := R
  have own : (strKind P w).is x (.str x tk) = true := beq_self_eq_true x
  have scan : (Value.str x tk).scannable = true := rfl
  have els : ElemsOf (strKind P w) es.toList := tx_elems T.tx
  unfold setAddHashed setAddHashedIn
  refine wpAny_holding <| wpAny_bind <| wpAny_setState_of at_ hd T.fit ?_
  dsimp only
  rw [byScan_of scan T.bound els]
  simp only [↓reduceIte]
  unfold setAddByScan
  refine wpAny_bind <| wpAny_bind <| wpAny_rule <| wpAny_bind <| wpAny_setScan_of own at_ hd T.fit els ?_
  cases look : List.findIdx? (fun e => (strKind P w).is x e.2) es.toList with
  | some j =>
    obtain ⟨hj, pj, _⟩ := List.findIdx?_eq_some_iff_getElem.mp look
    have old : x ∈ L := T.pm.mem_iff.mp ((tx_mem (P := P) T.tx x).mpr ⟨_, List.getElem_mem hj, pj⟩)
    dsimp only
    refine wpAny_pure <| wpAny_pure <| fin _ s.heap (Heap.SameBut.refl a s.heap) ?_
    unfold addX
    rw [if_pos old]
    exact R0
  | none =>
    have new : x ∉ L := fun z => by
      obtain ⟨e, he, q⟩ := (tx_mem (P := P) T.tx x).mp (T.pm.mem_iff.mpr z)
      exact absurd q (by rw [List.findIdx?_eq_none_iff.mp look e he]; exact Bool.false_ne_true)
    have ea : addX L x = x :: L := if_neg new
    rw [ea] at fin
    dsimp only
    have q1 := layNew_perm t es (hashStr w x) (.str x tk)
    have q2 := layNew_fits t es (hashStr w x) (.str x tk)
    have q3 := layNew_ris t es (hashStr w x) (.str x tk) T.ris
    have q4 := layNew_led t es (hashStr w x) (.str x tk)
    revert q1 q2 q3 q4
    rcases layNew t es (hashStr w x) (.str x tk) with ⟨es1, t1, wd, gave⟩
    intro q1 q2 q3 q4
    have T1 : TabX w es1 t1 (x :: L) := T.more new room q1 q2 q3 q4
    have quiet : ∀ (b : Bool) (s1 : Shared) (Z : Unit → Shared → Prop), Z () s1 → wpAny (model P w) A (match b with | true => rule "set.scan.the-table-gave-way" | false => pure ()) Z E s1 := fun b s1 Z z => by
      cases b
      · exact wpAny_pure z
      · exact wpAny_rule z
    dsimp only
    refine wpAny_bind (quiet _ _ _ ?_)
    split
    · refine wpAny_bind ?_
      rw [hashByValue_scannable 8 scan]
      refine wpAny_pure ?_
      refine tx_stored (L' := x :: L) quiet at_ hex hd ?_ fun h' sb r => by dsimp only; exact wpAny_pure (fin _ h' sb r)
      refine ⟨T1.tx, T1.pm, T1.nd, T1.few, ?_, ?_, ?_⟩
      · split
        · exact T1.fit
        · exact SetTable.fits_plain_off T1.fit
      · split <;> exact T1.ris
      · split <;> exact T1.led
    · refine wpAny_bind (wpAny_pure ?_)
      simp only [↓reduceIte]
      exact tx_stored quiet at_ hex hd T1 fun h' sb r => by dsimp only; exact wpAny_pure (fin _ h' sb r)
/-- a.add(x) -/
theorem tx_add {x : Str} {tk : Tok} {Q : Value → Shared → Prop} (R : SetTx w s.heap a L) (room : L.length + 1 < scanBound) (fin : ∀ h', Heap.SameBut a s.heap h' → SetTx w h' a (addX L x) → Q .none { s with heap := h', toks := s.toks + 1 }) : wpAny (model P w) A (call (.builtin "set.add") [.ref a, .str x tk]) Q E s := by
  have R0 : s.heap.SetOf (strKind P w) a _ _ := R.of
  refine wpAny_call_entry F.slot_set_add R0.typeIs F.entry_set_add ?_ (F.args_set_add_2 _ _)
  unfold Builtin.«set.add» Builtin.Frozenset.oneOther
  simp only [List.isEmpty_nil, bind_assoc]
  unfold Builtin.Frozenset.addrOf setAdd
  refine wpAny_bind <| wpAny_pure ?_
  try dsimp only
  refine wpAny_bind <| wpAny_pure ?_
  try dsimp only
  refine wpAny_bind <| wpAny_holding <| wpAny_bind <| (strKind P w).pyHash (k := x) (beq_self_eq_true x) ?_
  refine tx_hashed (s := { s with toks := s.toks + 1 }) R room fun b h' sb r => ?_
  show wpAny _ _ (ret Value.none) _ _ _
  exact wpAny_pure ⟨_, rfl, fin h' sb r⟩
theorem tx_fresh {h : Heap} (w : World) : SetTx w (h.push { cls := .type "set", dict := none, data := .set #[] 0 (.fresh 0 0 (!w.params.followText "set-order")) }) h.objs.size [] := by
  refine ⟨_, #[], 0, _, Heap.get?_push_size _ rfl, ⟨rfl, rfl, rfl⟩, rfl, ⟨(fun e he => by simp at he), .refl _, .nil, by decide, rfl, .nil, ?_⟩⟩
  show _ ∨ (!w.params.followText "set-order") = true
  cases w.params.followText "set-order"
  · exact .inr rfl
  · exact .inl rfl
end
/-! ### as tracked things -/
def SetTO (w : World) (a : Addr) (L : List Str) : HO := .ext fun h => SetTx w h a L
theorem txo_new {w : World} {P : Program} {H : Hp} {h : Heap} {a : Addr} {L : List Str} (R : SetTx w h a L) : ObjOk P w H h a (SetTO w a L) := by
  have ⟨o, _, _, _, ho, _⟩ := R
  exact ⟨R, ⟨o, ho⟩, fun h1 h2 p k => SetTx.mv p k⟩
section
variable {X : Cx} {pins : List (Addr × Obj)} {σ : L2.St} {H : Hp} {s : Shared} {D : Addr} {L : List Str}
theorem txo_get (I : Inv X pins σ H s) (ha : H D = some (SetTO X.w D L)) : SetTx X.w s.heap D L := (I.hok D _ ha).1
theorem tx_add_ok {E : Value → Shared → Prop} {x : Str} {tk : Tok} {Q : Value → Shared → Prop} (I : Inv X pins σ H s) (hD : H D = some (SetTO X.w D L)) (room : L.length + 1 < scanBound) (h : ∀ s', Inv X pins σ (upd H D (SetTO X.w D (addX L x))) s' → Q .none s') :
    wpAny (model X.prog X.w) X.A (call (.builtin "set.add") [.ref D, .str x tk]) Q E s := by
  refine tx_add (txo_get I hD) room fun h' sb new => ?_
  have he : ∃ u, h'.get? D = some u := by
    have ⟨o, _, _, _, ho, _⟩ := new
    exact ⟨o, ho⟩
  exact h _ (I.write (e := D) (t' := s.toks + 1) (by rw [hD]; trivial) (.inl rfl) (fun b u hb hu => (sb.2 b hb).trans hu) he (txo_new new))
end
end OM

/-! comprehensions that make a set of texts, with one for or two -/
namespace OM
open PySem PySem.Spec PyProof.Rows L2
section
variable {prog : Program} {w : World} {A : Around} {R : Result → Shared → Prop} {s : Shared} {env : Env}
/-- the tests of a clause -/
def testsOf (ifs : List Expr) (env : Env) : Sem Bool := forIn ifs true fun c r => if r = true then do let ok ← isTrue c env (eval c env); pure (ForInStep.yield ok) else pure (ForInStep.yield r)
/-- a turn of any comprehension, by what its emission does -/
def turnOf (e : Expr) (d : Nat) (it acc : Value) (env : Env) (ip : Pos) (tgt : Expr) (ifs : List Expr) (emit : Sem Fin → Sem Fin) : Sem Fin := do
  standAt ip
  match ← pyNext it with
  | none => pure (.done .next)
  | some v =>
    letOwnedTupleGo tgt it v
    assign tgt env v
    let ok ← testsOf ifs env
    if ok then emit (again (.compLoop e d it acc env)) else again (.compLoop e d it acc env)
theorem loop_any {elt : Expr} {gens : List Comprehension} {scope : Scope} {pos : Pos} {d : Nat} {it acc : Value} {ip : Pos} {tgt : Expr} {ifs : List Expr} {emit : Sem Fin → Sem Fin} {em : (Shared → Prop) → Shared → Prop} (hem : ∀ (k : Sem Fin) (Z : Fin → Shared → Prop) (s : Shared) (Y : Shared → Prop), em Y s → (∀ s', Y s' → wpAny (model prog w) A k Z (notedBy (model prog w) A env fun e s' => R (.error e) s') s') → wpAny (model prog w) A (emit k) Z (notedBy (model prog w) A env fun e s' => R (.error e) s') s) (ht : compTurn (.SetComp elt gens scope pos) d it acc env = turnOf (.SetComp elt gens scope pos) d it acc env ip tgt ifs emit) (I : Nat → Shared → Prop)
    (turn : ∀ n s, I n s → wpAny (model prog w) A (pyNext it) (fun r s1 => match r with
      | none => R (.ok .next) s1
      | some v => wpAny (model prog w) A (letOwnedTupleGo tgt it v) (fun _ s2 => wpAny (model prog w) A (assign tgt env v) (fun _ s3 => wpAny (model prog w) A (testsOf ifs env) (fun ok s4 => if ok = true then em (fun s5 => ∃ m, m < n ∧ I m s5) s4 else ∃ m, m < n ∧ I m s4)
          (notedBy (model prog w) A env fun e s' => R (.error e) s') s3) (notedBy (model prog w) A env fun e s' => R (.error e) s') s2) (notedBy (model prog w) A env fun e s' => R (.error e) s') s1) (notedBy (model prog w) A env fun e s' => R (.error e) s') s)
    (n : Nat) (h : I n s) : codeAny (model prog w) A (.compLoop (.SetComp elt gens scope pos) d it acc env) R s := by
  have up : ∀ {x : Value} {s' : Shared}, notedBy (model prog w) A env (fun e s' => R (.error e) s') x s' → notedBy (model prog w) A env (fun e s' => R (.error e) s') x s' := id
  refine codeAny_loop rfl I (fun n s hI => ?_) n h
  show wpAny _ A ((compTurn (.SetComp elt gens scope pos) d it acc env).onRaise fun x => do noteFrame x env; theTreesLotGoes x) _ _ s
  refine wpAny_noted ?_
  rw [ht]
  refine wpAny_bind <| wpAny_standAt <| wpAny_bind <| wpAny_mono (turn n s hI) (fun r s1 h1 => ?_) fun _ _ => up
  cases r with
  | none => exact wpAny_pure h1
  | some v =>
    refine wpAny_bind <| wpAny_mono h1 (fun _ s2 h2 => ?_) fun _ _ => up
    refine wpAny_bind <| wpAny_mono h2 (fun _ s3 h3 => wpAny_bind <| wpAny_mono h3 (fun ok s4 h4 => ?_) fun _ _ => up) fun _ _ => up
    cases ok with
    | false => exact wpAny_pure ⟨rfl, h4⟩
    | true => exact hem _ _ _ _ h4 fun s5 h5 => wpAny_pure ⟨rfl, h5⟩
theorem start_any {elt : Expr} {gens : List Comprehension} {scope : Scope} {pos : Pos} {d : Nat} {it acc : Value} {g : Comprehension} (hg : gens[d]? = some g) (na : (g.is_async != 0) = false) (h0 : codeAny (model prog w) A (.compLoop (.SetComp elt gens scope pos) d it acc env) R s)
    (h : wpAny (model prog w) A (pyIter it) (fun it' s' => codeAny (model prog w) A (.compLoop (.SetComp elt gens scope pos) d it' acc env) R s') (notedBy (model prog w) A env fun x s' => R (.error x) s') s) : codeAny (model prog w) A (.compStart (.SetComp elt gens scope pos) d it acc env) R s := by
  refine codeAny_of_tree ?_
  show wpAny _ _ ((compStart (.SetComp elt gens scope pos) d it acc env).onRaise fun x => do noteFrame x env; standAt theWindowsPlace) _ _ s
  refine wpAny_notedAt ?_
  unfold compStart
  show wpAny _ _ (do if (gens[d]?).elim false (·.is_async != 0) then _ else _) _ _ s
  rw [hg]
  simp only [Option.elim, na, Bool.false_eq_true, if_false]
  refine wpAny_bind <| wpAny_askSetting <| ?_
  have hg' : (clausesOf (.SetComp elt gens scope pos))[d]? = some g := hg
  rw [hg']
  split
  · exact wpAny_pure ⟨rfl, h0⟩
  · refine wpAny_bind <| wpAny_rule ?_
    exact wpAny_bind <| wpAny_standAt <| wpAny_bind <| wpAny_mono h (fun it' s' h' => wpAny_pure ⟨rfl, h'⟩) fun _ _ z => z
end
end OM

namespace OM
open PySem PySem.Spec PyProof.Rows L2
section
variable {elt t0 i0 t1 i1 : Expr} {c0 c1 : List Expr} {scope : Scope} {pos : Pos}
def addS (elt : Expr) (acc : Value) (env : Env) (k : Sem Fin) : Sem Fin := do
  (do let v ← eval elt env; standAt elt.pos; let _ ← call (.builtin "set.add") [acc, v])
  k
def intoS (e : Expr) (i1 : Expr) (acc : Value) (env : Env) (k : Sem Fin) : Sem Fin := do
  let x ← eval i1 env
  standAt i1.pos
  let x ← foldedSetIterable i1 env x
  let _ ← runOwn (.compStart e 1 (← holding [x] (pyIter x)) acc env) env
  k
theorem turn_s1 (it acc : Value) (env : Env) : compTurn (.SetComp elt [⟨t0, i0, c0, 0⟩] scope pos) 0 it acc env = turnOf (.SetComp elt [⟨t0, i0, c0, 0⟩] scope pos) 0 it acc env i0.pos t0 c0 (addS elt acc env) := by rfl
theorem turn_s2 (it acc : Value) (env : Env) : compTurn (.SetComp elt [⟨t0, i0, c0, 0⟩, ⟨t1, i1, c1, 0⟩] scope pos) 0 it acc env = turnOf (.SetComp elt [⟨t0, i0, c0, 0⟩, ⟨t1, i1, c1, 0⟩] scope pos) 0 it acc env i0.pos t0 c0 (intoS (.SetComp elt [⟨t0, i0, c0, 0⟩, ⟨t1, i1, c1, 0⟩] scope pos) i1 acc env) := by rfl
theorem turn_s2in (it acc : Value) (env : Env) : compTurn (.SetComp elt [⟨t0, i0, c0, 0⟩, ⟨t1, i1, c1, 0⟩] scope pos) 1 it acc env = turnOf (.SetComp elt [⟨t0, i0, c0, 0⟩, ⟨t1, i1, c1, 0⟩] scope pos) 1 it acc env i1.pos t1 c1 (addS elt acc env) := by rfl
end
/-- what an emission asks -/
def emS (P : Program) (w : World) (A : Around) (E : Value → Shared → Prop) (elt : Expr) (acc : Value) (env : Env) (Y : Shared → Prop) (s : Shared) : Prop := wpAny (model P w) A (eval elt env) (fun x s1 => wpAny (model P w) A (call (.builtin "set.add") [acc, x]) (fun _ s2 => Y s2) E s1) E s
def emI (P : Program) (w : World) (A : Around) (E : Value → Shared → Prop) (e i1 : Expr) (acc : Value) (env : Env) (Y : Shared → Prop) (s : Shared) : Prop := wpAny (model P w) A (eval i1 env) (fun x s1 => wpAny (model P w) A (pyIter x) (fun it s2 => codeAny (model P w) A (.compStart e 1 it acc env) (fun r s3 => match r with
  | .ok _ => Y s3
  | .error _ => False) s2) E s1) E s
section
variable {prog : Program} {w : World} {A : Around} {env : Env} {E : Value → Shared → Prop}
theorem emS_ok {elt : Expr} {acc : Value} (k : Sem Fin) (Z : Fin → Shared → Prop) (s : Shared) (Y : Shared → Prop) (h : emS prog w A E elt acc env Y s) (hk : ∀ s', Y s' → wpAny (model prog w) A k Z E s') : wpAny (model prog w) A (addS elt acc env k) Z E s :=
  wpAny_bind <| wpAny_bind <| wpAny_mono h (fun x s1 h1 => wpAny_bind <| wpAny_standAt <| wpAny_bind <| wpAny_mono h1 (fun _ s2 h2 => wpAny_pure (hk s2 h2)) fun _ _ z => z) fun _ _ z => z
theorem emI_ok {e i1 : Expr} {acc : Value} (hs : ∀ x, foldedSetIterable i1 env x = pure x) (k : Sem Fin) (Z : Fin → Shared → Prop) (s : Shared) (Y : Shared → Prop) (h : emI prog w A E e i1 acc env Y s) (hk : ∀ s', Y s' → wpAny (model prog w) A k Z E s') : wpAny (model prog w) A (intoS e i1 acc env k) Z E s := by
  refine wpAny_bind <| wpAny_mono h (fun x s1 h1 => ?_) fun _ _ z => z
  refine wpAny_bind <| wpAny_standAt <| wpAny_bind <| wpAny_of_eq (hs x) <| wpAny_bind <| wpAny_holding <| wpAny_mono h1 (fun it s2 h2 => ?_) fun _ _ z => z
  refine wpAny_bind <| wpAny_runOwn ?_
  rw [Around.mark_none]
  refine codeAny_mono h2 fun r s3 hr => ?_
  cases r with
  | ok f => exact hk s3 hr
  | error x => exact hr.elim
end
section
variable {X : Cx}
/-- σ' knows what σ knows -/
def Knows (σ σ' : L2.St) : Prop := σ.length = σ'.length ∧ ∀ (j : Nat) v, σ[j]? = some (some v) → σ'[j]? = some (some v)
/-- a loop of a block over what T walks -/
theorem blk_loop {s3 : Shared} {H3 : Hp} {scope : Scope} {ce : Env} {fp0 : List Addr} {pins : List (Addr × Obj)} {σ0 : L2.St} {elt tgt : Expr} {gens : List Comprehension} {pos ip : Pos} {d : Nat} {ifs : List Expr} {it : Addr} {acc : Value} {emit : Sem Fin → Sem Fin} {em : (Shared → Prop) → Shared → Prop} {R : Result → Shared → Prop} {fp : List Addr} {tn : Nat → Heap → Prop} {J : It} {g : TG} {tt : TT} {emH : L2.St → Hp → (Hp → Prop) → Prop} {kn : L2.St → Prop} (hkn : ∀ σ2, kn σ2 → Knows σ0 σ2)
    (hc : X.calm = true) (T : Turn X.prog X.w X.K tgt J fp it tn) (stat : ∀ {H' : Hp}, (∀ b ∈ fp, H' b = none) → ∀ b ∈ fp, FpOk (X.blk s3 H3 scope ce fp0) pins H' b) (pg : PG (X.blk s3 H3 scope ce fp0) tgt g) (pt : PTs (X.blk s3 H3 scope ce fp0) ifs tt)
    (hem : ∀ (k : Sem Fin) (Z : Fin → Shared → Prop) (s : Shared) (Y : Shared → Prop), em Y s → (∀ s', Y s' → wpAny (model X.prog X.w) X.A k Z (notedBy (model X.prog X.w) X.A ce fun e s' => R (.error e) s') s') → wpAny (model X.prog X.w) X.A (emit k) Z (notedBy (model X.prog X.w) X.A ce fun e s' => R (.error e) s') s)
    (ht : compTurn (.SetComp elt gens scope pos) d (.ref it) acc ce = turnOf (.SetComp elt gens scope pos) d (.ref it) acc ce ip tgt ifs emit) {W : Nat → Nat → Hp → Prop} {Z : Hp → Prop}
    (turn : ∀ i m H, W i m H → (J.stop i H ∧ Z H) ∨ (J.go i H ∧ ∃ Nx : Hp → Prop, (∀ H', Nx H' → ∃ m', m' < m ∧ W (i + 1) m' H') ∧ ∀ x H', J.yld i H x H' → g x σ0 H' fun σ2 H2 => kn σ2 ∧ tt σ2 H2 fun b H4 => if b = true then emH σ2 H4 Nx else Nx H4))
    (emM : ∀ {Y Y' : Shared → Prop} {s : Shared}, em Y s → (∀ s', Y s' → Y' s') → em Y' s) (emR : ∀ (σ2 : L2.St) (H4 : Hp) (Nx : Hp → Prop) (s : Shared) (pl : List (Addr × Obj)), Inv (X.blk s3 H3 scope ce fp0) (pins ++ pl) σ2 H4 s → Knows σ0 σ2 → emH σ2 H4 Nx → em (fun s' => ∃ σ' H', Inv (X.blk s3 H3 scope ce fp0) (pins ++ pl) σ' H' s' ∧ Knows σ0 σ' ∧ Nx H') s)
    (fin : ∀ s' H', Inv (X.blk s3 H3 scope ce fp0) pins σ0 H' s' → Z H' → R (.ok .next) s') {m0 : Nat} {H0 : Hp} {s : Shared} (I0 : Inv (X.blk s3 H3 scope ce fp0) pins σ0 H0 s) (st0 : tn 0 s.heap) (n0 : ∀ b ∈ fp, H0 b = none) (w0 : W 0 m0 H0) :
    codeAny (model X.prog X.w) X.A (.compLoop (.SetComp elt gens scope pos) d (.ref it) acc ce) R s := by
  refine loop_any hem ht (fun m s' => ∃ i H', Inv (X.blk s3 H3 scope ce fp0) pins σ0 H' s' ∧ tn i s'.heap ∧ (∀ b ∈ fp, H' b = none) ∧ W i m H') ?_ m0 ⟨0, H0, I0, st0, n0, w0⟩
  rintro m s5 ⟨i, H5, I5, st5, n5, w5⟩
  rcases turn i m H5 w5 with ⟨stop, z⟩ | ⟨go, Nx, hNx, step⟩
  · refine thnF (T.done (X.blk s3 H3 scope ce fp0) rfl rfl rfl hc i pins s5 σ0 H5 (fun _ _ => False) I5 (stat n5) st5 stop) fun r s6 ⟨hr, I6⟩ => ?_
    subst hr
    exact fin s6 H5 I6 z
  · refine thnF (T.item (X.blk s3 H3 scope ce fp0) rfl rfl rfl hc i pins s5 σ0 H5 (fun _ _ => False) I5 (stat n5) st5 go) fun r s6 ⟨u, hr, h6⟩ => ?_
    subst hr
    refine thnF h6 fun _ s7 ⟨x, H7, I7, r7, y7, st7, n7⟩ => ?_
    refine thnF (pg.run _ s7 σ0 H7 x u _ (I7.pinned (stat n7) (T.obj _ _ st7)) r7 (step x H7 y7)) fun _ s8 ⟨σ8, H8, I8, kn8, q8⟩ => ?_
    have hk8 := hkn σ8 kn8
    refine thnF (pt.run _ s8 σ8 H8 _ I8 q8) fun b s9 ⟨H9, I9, q9⟩ => ?_
    have back : ∀ {s' : Shared} {σ' : L2.St} {H' : Hp}, Inv (X.blk s3 H3 scope ce fp0) (pins ++ pinsAt fp s7.heap) σ' H' s' → σ0.length = σ'.length → (∀ (j : Nat) v, σ0[j]? = some (some v) → σ'[j]? = some (some v)) → Nx H' → ∃ m', m' < m ∧ ∃ i H', Inv (X.blk s3 H3 scope ce fp0) pins σ0 H' s' ∧ tn i s'.heap ∧ (∀ b ∈ fp, H' b = none) ∧ W i m' H' := by
      intro s' σ' H' I' hl hk nx
      obtain ⟨m', hm, w'⟩ := hNx H' nx
      have held : ∀ b ∈ fp, ∀ o, s7.heap.get? b = some o → s'.heap.get? b = some o ∧ H' b = none := fun b hb o e =>
        have z := I'.pin (b, o) (List.mem_append_right _ (List.mem_append_right _ (mem_pinsAt hb e)))
        ⟨z.1, z.2.1⟩
      exact ⟨m', hm, i + 1, H', I'.unpinned.weak hl hk, T.keep _ _ _ st7 fun b hb o e => (held b hb o e).1, fun b hb => let ⟨o, e, _⟩ := T.obj _ _ st7 b hb; (held b hb o e).2, w'⟩
    cases b with
    | false => exact back I9 hk8.1 hk8.2 q9
    | true =>
      exact emM (emR σ8 H9 Nx s9 _ I9 hk8 q9) fun s' ⟨σ', H', I', hk, nx⟩ => back I' hk.1 hk.2 nx
end
end OM

namespace OM
open PySem PySem.Spec PyProof.Rows L2
def goes (J : It) (W : Nat → Nat → Hp → Prop) (Z : Hp → Prop) (step : V → Hp → (Hp → Prop) → Prop) : Prop := ∀ i m H, W i m H → (J.stop i H ∧ Z H) ∨ (J.go i H ∧ ∃ Nx : Hp → Prop, (∀ H', Nx H' → ∃ m', m' < m ∧ W (i + 1) m' H') ∧ ∀ x H', J.yld i H x H' → step x H' Nx)
/-- a text comes into the set at D -/
def tInto (w : World) (D : Addr) (Nx : Hp → Prop) : VK := fun y H => ∃ x L, y = .str x ∧ H D = some (SetTO w D L) ∧ L.length + 1 < scanBound ∧ Nx (upd H D (SetTO w D (addX L x)))
/-- {elt for tg in iter if ..}, texts -/
def tSx (w : World) (wi : TI) (g : TG) (tt : TT) (te : TE) (vs : List Nat) : TE := fun σ H Q => wi σ H fun J H1 => ∀ D, H1 D = none → ∃ W : Nat → Nat → Hp → Prop, (∃ m, W 0 m (upd H1 D (SetTO w D []))) ∧ goes J W (fun H => Q (.ref D) H) fun x H' Nx => g x (wipe σ vs) H' fun σ2 H2 => wipe σ2 vs = wipe σ vs ∧ tt σ2 H2 fun b H3 => if b = true then te σ2 H3 (tInto w D Nx) else Nx H3
/-- .. with a second for, its names vs1 -/
def tSx2 (w : World) (wi : TI) (g : TG) (tt : TT) (wi1 : TI) (g1 : TG) (tt1 : TT) (te : TE) (vs vs1 : List Nat) : TE := fun σ H Q => wi σ H fun J H1 => ∀ D, H1 D = none → ∃ W : Nat → Nat → Hp → Prop, (∃ m, W 0 m (upd H1 D (SetTO w D []))) ∧ goes J W (fun H => Q (.ref D) H) fun x H' Nx => g x (wipe σ vs) H' fun σ2 H2 => wipe σ2 vs = wipe σ vs ∧ tt σ2 H2 fun b H3 => if b = true then
  wi1 σ2 H3 (fun J1 H4 => ∃ W1 : Nat → Nat → Hp → Prop, (∃ m, W1 0 m H4) ∧ goes J1 W1 Nx fun x H' Nx1 => g1 x (wipe σ2 vs1) H' fun σ3 H5 => wipe σ3 vs1 = wipe σ2 vs1 ∧ tt1 σ3 H5 fun b H6 => if b = true then te σ3 H6 (tInto w D Nx1) else Nx1 H6) else Nx H3
theorem wiped {σ σ2 : L2.St} {vs : List Nat} (h : wipe σ2 vs = wipe σ vs) : Knows (wipe σ vs) σ2 := by
  rw [← h]
  exact ⟨wipe_length _ _, fun j v e => (wipe_some e).1⟩
theorem Knows.tr {a b c : L2.St} (h : Knows a b) (k : Knows b c) : Knows a c := ⟨h.1.trans k.1, fun j v e => k.2 j v (h.2 j v e)⟩
section
variable {X : Cx} {elt tg iter tg1 iter1 : Expr} {ifs ifs1 : List Expr} {scope : Scope} {own : List (Str × Nat)} {vs1 : List Nat} {pos : Pos} {wi wi1 : TI} {g g1 : TG} {tt tt1 : TT} {te : TE}
/-- the innermost emission, within a block -/
theorem into_ok {s3 : Shared} {H3 : Hp} {ce : Env} {fp0 : List Addr} {pins : List (Addr × Obj)} {σ2 σ0 : L2.St} {H4 : Hp} {Nx : Hp → Prop} {s : Shared} {D : Addr} {E : Value → Shared → Prop} (pe : PE (X.blk s3 H3 scope ce fp0) elt te) (I : Inv (X.blk s3 H3 scope ce fp0) pins σ2 H4 s) (hk : Knows σ0 σ2) (h : te σ2 H4 (tInto X.w D Nx)) :
    emS X.prog X.w X.A E elt (.ref D) ce (fun s' => ∃ σ' H', Inv (X.blk s3 H3 scope ce fp0) pins σ' H' s' ∧ Knows σ0 σ' ∧ Nx H') s := by
  refine thnF (pe.run _ s σ2 H4 _ I h) fun z s1 ⟨y, H5, I5, r5, x, L, ey, hD, room, nx⟩ => ?_
  subst ey
  obtain ⟨tk, rfl⟩ := r5
  exact tx_add_ok (X := X.blk s3 H3 scope ce fp0) I5 hD room fun s6 I6 => ⟨σ2, _, I6, hk, nx⟩
theorem sx2_core {pins : List (Addr × Obj)} {s : Shared} {σ : L2.St} {H : Hp} {Q : VK} {pos' : Pos} {use : Option (Value → Sem Unit)} {Qf : Value → Shared → Prop} (hc : X.calm = true) (hN : X.N.Nodup) (I : Inv X pins σ H s) (hi : PI X tg iter wi) (ok : BlkOk X.N X.env.scope scope own) (hv : ∀ i ∈ vs1, i ∈ own.map (·.2))
    (hg : ∀ (s : Shared) (H : Hp) (C : Addr) (cl : List (Str × Addr)) (fp : List Addr), PG (X.blk s H scope (compEnvC scope cl C X.env) fp) tg g) (ht : ∀ (s : Shared) (H : Hp) (C : Addr) (cl : List (Str × Addr)) (fp : List Addr), PTs (X.blk s H scope (compEnvC scope cl C X.env) fp) ifs tt)
    (hi1 : ∀ (s : Shared) (H : Hp) (C : Addr) (cl : List (Str × Addr)) (fp : List Addr), PI (X.blk s H scope (compEnvC scope cl C X.env) fp) tg1 iter1 wi1) (hg1 : ∀ (s : Shared) (H : Hp) (C : Addr) (cl : List (Str × Addr)) (fp : List Addr), PG (X.blk s H scope (compEnvC scope cl C X.env) fp) tg1 g1)
    (ht1 : ∀ (s : Shared) (H : Hp) (C : Addr) (cl : List (Str × Addr)) (fp : List Addr), PTs (X.blk s H scope (compEnvC scope cl C X.env) fp) ifs1 tt1) (he : ∀ (s : Shared) (H : Hp) (C : Addr) (cl : List (Str × Addr)) (fp : List Addr), PE (X.blk s H scope (compEnvC scope cl C X.env) fp) elt te)
    (hs : ∀ x, foldedSetIterable iter X.env x = pure x) (hs1 : ∀ env x, foldedSetIterable iter1 env x = pure x) (h : tSx2 X.w wi g tt wi1 g1 tt1 te (own.map (·.2)) vs1 σ H Q)
    (hRR : ∀ D C s' m H', Inv X pins σ H' s' → Q (.ref D) H' → s'.heap.Ns C m → FpOk X pins H' C → compPost (model X.prog X.w) X.A X.xe use Qf (.ref D) C (.ok .next) s') :
    wpAny (model X.prog X.w) X.A (comprehension (.SetComp elt [⟨tg, iter, ifs, 0⟩, ⟨tg1, iter1, ifs1, 0⟩] scope pos) scope X.env pos' (newSet (.type "set")) false (eval iter X.env) use) Qf X.xe s := by
  have cells : ∀ y ∈ scope.names, y.2 = .free → ∃ c, X.env.cells.lookup y.1 = some c := fun y hy e => (ok.free y hy e).elim (fun k => I.ok.has _ (.inl k)) fun k => I.ok.has _ (.inr k)
  refine wpAny_comprehension_free (use := use) rfl hs (closure_ok cells) ok.kind (fun y hy e => by rw [ok.uniq y hy, e]) (thn (hi.run pins s σ H _ I h) fun xv s1 hx => thn hx fun itv s2 h2 => ?_)
  obtain ⟨it, fp, tn, J, H2, rfl, I2, T, st2, f2, q⟩ := h2
  refine PpSet.newSet_ok (newEnv_comp ?_)
  obtain ⟨D, hD⟩ : ∃ D, s2.heap.objs.size = D := ⟨_, rfl⟩
  obtain ⟨W, ⟨m0, w0⟩, turn⟩ := q D (I2.hok.fresh (Nat.le_of_eq hD))
  have fresh := tx_fresh (h := s2.heap) X.w
  rw [hD] at fresh ⊢
  obtain ⟨s3, es3⟩ : ∃ s3 : Shared, s3 = { s2 with heap := s2.heap.push { cls := .type "set", dict := none, data := .set #[] 0 (.fresh 0 0 (!X.w.params.followText "set-order")) } } := ⟨_, rfl⟩
  have h3 : s3.heap = s2.heap.push { cls := .type "set", dict := none, data := .set #[] 0 (.fresh 0 0 (!X.w.params.followText "set-order")) } := by rw [es3]
  have I3 : Inv X pins σ (upd H2 D (SetTO X.w D [])) s3 := by
    rw [es3]
    exact I2.laid (t' := s2.toks) (fun b o e => Heap.get?_push_of_some _ e) (Nat.le_of_eq hD) (txo_new fresh)
  rw [← es3]
  have f3 : ∀ b ∈ fp, FpOk X pins (upd H2 D (SetTO X.w D [])) b ∧ b < s3.heap.objs.size := fun b hb => by
    obtain ⟨o, e, _⟩ := T.obj _ _ st2 b hb
    have lt := Heap.lt_size e
    exact ⟨⟨by rw [upd_ne (by rw [← hD]; exact Nat.ne_of_lt lt)]; exact (f2 b hb).1, (f2 b hb).2⟩, by rw [h3, Heap.size_push]; exact Nat.lt_succ_of_lt lt⟩
  have st3 : tn 0 s3.heap := T.keep _ _ _ st2 fun b _ o e => by rw [h3]; exact Heap.get?_push_of_some _ e
  have I4 := block_start I3 ok hN f3
  have pg := hg s3 (upd H2 D (SetTO X.w D [])) s3.heap.objs.size (cellsFrom (s3.heap.objs.size + 1) scope.names (cloFrom X.env.cells scope.names [])) fp
  have pt := ht s3 (upd H2 D (SetTO X.w D [])) s3.heap.objs.size (cellsFrom (s3.heap.objs.size + 1) scope.names (cloFrom X.env.cells scope.names [])) fp
  have pe := he s3 (upd H2 D (SetTO X.w D [])) s3.heap.objs.size (cellsFrom (s3.heap.objs.size + 1) scope.names (cloFrom X.env.cells scope.names [])) fp
  have pi1 := hi1 s3 (upd H2 D (SetTO X.w D [])) s3.heap.objs.size (cellsFrom (s3.heap.objs.size + 1) scope.names (cloFrom X.env.cells scope.names [])) fp
  have pg1 := hg1 s3 (upd H2 D (SetTO X.w D [])) s3.heap.objs.size (cellsFrom (s3.heap.objs.size + 1) scope.names (cloFrom X.env.cells scope.names [])) fp
  have pt1 := ht1 s3 (upd H2 D (SetTO X.w D [])) s3.heap.objs.size (cellsFrom (s3.heap.objs.size + 1) scope.names (cloFrom X.env.cells scope.names [])) fp
  show codeAny _ _ (.compStart (.SetComp elt [⟨tg, iter, ifs, 0⟩, ⟨tg1, iter1, ifs1, 0⟩] scope pos) 0 (.ref it) (.ref D) (compEnvC scope (cellsFrom (s3.heap.objs.size + 1) scope.names (cloFrom X.env.cells scope.names [])) s3.heap.objs.size X.env)) (compPost (model X.prog X.w) X.A X.xe use Qf (.ref D) s3.heap.objs.size) { s3 with heap := pushCells (s3.heap.push { cls := .type "dict", data := .dict #[] }) scope.names }
  obtain ⟨ce, ece⟩ : ∃ ce, ce = compEnvC scope (cellsFrom (s3.heap.objs.size + 1) scope.names (cloFrom X.env.cells scope.names [])) s3.heap.objs.size X.env := ⟨_, rfl⟩
  have cL : ce.locals = s3.heap.objs.size := by rw [ece]; rfl
  obtain ⟨s4, es4⟩ : ∃ s4 : Shared, s4 = { s3 with heap := pushCells (s3.heap.push { cls := .type "dict", data := .dict #[] }) scope.names } := ⟨_, rfl⟩
  rw [← ece] at I4 pg pt pe pi1 pg1 pt1 ⊢
  rw [← es4] at I4 ⊢
  have st4 : tn 0 s4.heap := T.keep _ _ _ st3 fun b _ o e => by rw [es4]; exact pushCells_keeps _ _ _ _ (Heap.get?_push_of_some _ e)
  generalize upd H2 D (SetTO X.w D []) = H3 at w0 I3 f3 I4 pg pt pe pi1 pg1 pt1
  have stat : ∀ {H' : Hp}, (∀ b ∈ fp, H' b = none) → ∀ b ∈ fp, FpOk (X.blk s3 H3 scope ce fp) [] H' b := fun {H'} hn b hb =>
    ⟨hn b hb, (I4.ok.exf b hb).1, I4.ok.exfs b hb, .inl hb, fun x c e => (I4.ok.exf b hb).2 x c e, fun p hp => absurd (show p ∈ ([] : List (Addr × Obj)) ++ [] from hp) (by simp)⟩
  have loop : codeAny (model X.prog X.w) X.A (.compLoop (.SetComp elt [⟨tg, iter, ifs, 0⟩, ⟨tg1, iter1, ifs1, 0⟩] scope pos) 0 (.ref it) (.ref D) ce) (compPost (model X.prog X.w) X.A X.xe use Qf (.ref D) s3.heap.objs.size) s4 := by
    refine blk_loop (kn := fun σ2 => wipe σ2 (own.map (·.2)) = wipe σ (own.map (·.2))) (W := W) (Z := fun H => Q (.ref D) H) (g := g) (tt := tt) (em := emI X.prog X.w X.A (notedBy (model X.prog X.w) X.A ce fun e s' => compPost (model X.prog X.w) X.A X.xe use Qf (.ref D) s3.heap.objs.size (.error e) s') (.SetComp elt [⟨tg, iter, ifs, 0⟩, ⟨tg1, iter1, ifs1, 0⟩] scope pos) iter1 (.ref D) ce)
      (emH := fun σ2 H3 Nx => wi1 σ2 H3 fun J1 H4 => ∃ W1 : Nat → Nat → Hp → Prop, (∃ m, W1 0 m H4) ∧ goes J1 W1 Nx fun x H' Nx1 => g1 x (wipe σ2 vs1) H' fun σ3 H5 => wipe σ3 vs1 = wipe σ2 vs1 ∧ tt1 σ3 H5 fun b H6 => if b = true then te σ3 H6 (tInto X.w D Nx1) else Nx1 H6)
      (fun _ z => wiped z) hc T stat pg pt (emI_ok (hs1 ce)) (turn_s2 _ _ _) ?_ ?_ ?_ ?_ I4 st4 (fun b hb => (f3 b hb).1.1) w0
    · exact turn
    · intro Y Y' s h k
      exact wpAny_mono h (fun x s1 h1 => wpAny_mono h1 (fun it s2 h2 => codeAny_mono h2 fun r s3 z => by cases r with | ok f => exact k _ z | error x => exact z) fun _ _ z => z) fun _ _ z => z
    · intro σ2 H4 Nx s pl I' hk q2
      refine thnF (pi1.run _ s σ2 H4 _ I' q2) fun xv s10 hx => thnF hx fun itv s11 h11 => ?_
      obtain ⟨it1, fp1, tn1, J1, H11, rfl, I11, T1, st11, f11, W1, ⟨m1, w1⟩, turn1⟩ := h11
      have kw : Knows (wipe σ (own.map (·.2))) (wipe σ2 vs1) := ⟨hk.1.trans (wipe_length σ2 vs1).symm, fun j v e => by
        rw [wipe_out fun z => (wipe_some e).2 (hv j z)]
        exact hk.2 j v e⟩
      have loop1 : codeAny (model X.prog X.w) X.A (.compLoop (.SetComp elt [⟨tg, iter, ifs, 0⟩, ⟨tg1, iter1, ifs1, 0⟩] scope pos) 1 (.ref it1) (.ref D) ce) (fun r s' => match r with
          | .ok _ => ∃ σ' H', Inv (X.blk s3 H3 scope ce fp) ([] ++ pl) σ' H' s' ∧ Knows (wipe σ (own.map (·.2))) σ' ∧ Nx H'
          | .error _ => False) s11 := by
        refine blk_loop (kn := fun σ3 => wipe σ3 vs1 = wipe σ2 vs1) (pins := [] ++ pl) (σ0 := wipe σ2 vs1) (W := W1) (Z := Nx) (g := g1) (tt := tt1) (em := emS X.prog X.w X.A (notedBy (model X.prog X.w) X.A ce fun e s' => False) elt (.ref D) ce) (emH := fun σ3 H6 Nx1 => te σ3 H6 (tInto X.w D Nx1))
          (fun _ z => wiped z) hc T1 (fun {H'} hn b hb => ⟨hn b hb, (f11 b hb).2⟩) pg1 pt1 emS_ok (turn_s2in _ _ _) ?_ ?_ ?_ ?_ (I11.weak (wipe_length _ _) fun j v e => (wipe_some e).1) st11 (fun b hb => (f11 b hb).1) w1
        · exact turn1
        · intro Y Y' s h k
          exact wpAny_mono h (fun x s1 h1 => wpAny_mono h1 (fun _ s2 h2 => k _ h2) fun _ _ z => z) fun _ _ z => z
        · intro σ3 H6 Nx1 s pl1 I6 hk6 q6
          exact into_ok pe I6 hk6 q6
        · exact fun s' H' I' z => ⟨_, H', I', kw, z⟩
      exact start_any rfl rfl loop1 (T1.self X.A 0 _ _ _ st11 loop1)
    · intro s6 H5 I6 qq
      have I7 : Inv X pins σ H5 s6 := I3.call' (ch := fp) I6.os I6.base I6.hok I6.bare fun b hb => ⟨(f3 b hb).1.2.2.2.1, (f3 b hb).1.2.1, (f3 b hb).1.2.2.2.2.1, (f3 b hb).1.2.2.2.2.2⟩
      have nC : H5 s3.heap.objs.size = none := by
        rw [← cL]
        exact I6.free
      obtain ⟨m, hn, _⟩ := I6.loc
      have hn : s6.heap.Ns ce.locals m := hn
      rw [cL] at hn
      exact hRR D s3.heap.objs.size s6 m H5 I7 qq hn (I3.fpOk (Nat.le_refl _) nC)
  exact start_any rfl rfl loop (T.self X.A 0 _ _ _ st4 loop)
theorem pe_sx2 (hc : X.calm = true) (hN : X.N.Nodup) (hi : PI X tg iter wi) (ok : BlkOk X.N X.env.scope scope own) (hv : ∀ i ∈ vs1, i ∈ own.map (·.2)) (hg : ∀ (s : Shared) (H : Hp) (C : Addr) (cl : List (Str × Addr)) (fp : List Addr), PG (X.blk s H scope (compEnvC scope cl C X.env) fp) tg g)
    (ht : ∀ (s : Shared) (H : Hp) (C : Addr) (cl : List (Str × Addr)) (fp : List Addr), PTs (X.blk s H scope (compEnvC scope cl C X.env) fp) ifs tt) (hi1 : ∀ (s : Shared) (H : Hp) (C : Addr) (cl : List (Str × Addr)) (fp : List Addr), PI (X.blk s H scope (compEnvC scope cl C X.env) fp) tg1 iter1 wi1)
    (hg1 : ∀ (s : Shared) (H : Hp) (C : Addr) (cl : List (Str × Addr)) (fp : List Addr), PG (X.blk s H scope (compEnvC scope cl C X.env) fp) tg1 g1) (ht1 : ∀ (s : Shared) (H : Hp) (C : Addr) (cl : List (Str × Addr)) (fp : List Addr), PTs (X.blk s H scope (compEnvC scope cl C X.env) fp) ifs1 tt1)
    (he : ∀ (s : Shared) (H : Hp) (C : Addr) (cl : List (Str × Addr)) (fp : List Addr), PE (X.blk s H scope (compEnvC scope cl C X.env) fp) elt te) (hs : ∀ x, foldedSetIterable iter X.env x = pure x := by intro _; rfl) (hs1 : ∀ env x, foldedSetIterable iter1 env x = pure x := by intro _ _; rfl) :
    PE X (.SetComp elt [⟨tg, iter, ifs, 0⟩, ⟨tg1, iter1, ifs1, 0⟩] scope pos) (tSx2 X.w wi g tt wi1 g1 tt1 te (own.map (·.2)) vs1) := by
  refine ⟨fun pins s σ H Q I h => ?_⟩
  rw [PpSet.eval_SetComp]
  refine sx2_core hc hN I hi ok hv hg ht hi1 hg1 ht1 he hs hs1 h fun D C s' m H' I' q hn ⟨f0, f1, f2, f3, f4, f5⟩ => ⟨m, hn, fun h'' sb => ?_⟩
  exact ⟨.ref D, H', I'.turned (t' := s'.toks) (fun b o hb e => (sb.2 b hb).trans e) f0 f1 f3 f4 f5, rfl, q⟩
end
end OM

namespace OM
open PySem PySem.Spec PyProof.Rows L2
/-- the text of a value -/
def txV : Value → Str
  | .str x _ => x
  | _ => ""
theorem strs_txV : ∀ (l : List Value), (∀ v ∈ l, ∃ x tk, v = Value.str x tk) → StrsAre l (l.map txV)
  | [], _ => .nil
  | v :: l, h => by
    obtain ⟨x, tk, rfl⟩ := h v List.mem_cons_self
    exact .cons x tk (strs_txV l fun u hu => h u (List.mem_cons_of_mem _ hu))
section
variable {P : Program} {w : World} {A : Around} {E : Value → Shared → Prop} {s : Shared} {a : Addr} {L : List Str}
theorem sorted_tx {Q : Value → Shared → Prop} (R : SetTx w s.heap a L) (hh : A.handled = none)
    (fin : ∀ s' p (out : Array Value) (c : Nat) (ys : List Str), (∀ b o, s.heap.get? b = some o → s'.heap.get? b = some o) → s'.gens = s.gens → s'.os = s.os → s.heap.objs.size ≤ p → s'.heap.get? p = some (seqObj "list" out c) → StrsAre out.toList ys → ys.Perm L → sortedS ys = true → Q (.ref p) s') :
    wpAny (model P w) A (call (.builtin "sorted") [.ref a]) Q E s := by
  obtain ⟨o, es, ep, t, at_, hex, hd, T⟩ := R
  refine Calls.call_function_entry kind_sorted plain_sorted entry_sorted (args_sorted1 _) ?_
  unfold Builtin.«sorted»
  refine wpAny_bind (m := checkCount "sorted" 1 1 _) (wpAny_pure ?_)
  refine wpAny_bind <| collect_set (A := A.in1) hh ⟨o, at_, hex.1, hd⟩ T.fit T.bound T.ris T.led fun s1 vs k1 hz g1 o1 pm => ?_
  have vl : vs.length = L.length := by rw [pm.length_eq, List.length_map, Array.length_toList, T.size]
  have S : StrsAre vs (vs.map txV) := strs_txV vs fun v hv => by
    obtain ⟨e, he, q⟩ := List.mem_map.mp (pm.mem_iff.mp hv)
    obtain ⟨x, tk, h1⟩ := T.tx e he
    exact ⟨x, tk, by rw [← q, h1]⟩
  have pk : (vs.map txV).Perm L := by
    have q := pm.map txV
    rw [List.map_map] at q
    refine q.trans ?_
    have e : es.toList.map (txV ∘ (·.2)) = es.toList.map keyT := List.map_congr_left fun e he => by
      obtain ⟨x, tk, rfl⟩ := T.tx e he
      rfl
    rw [e]
    exact T.pm
  have line : vs.length ≤ sizeLine := by
    rw [vl]
    exact fits_of_scanBound T.few
  refine wpAny_bind (wpAny_newList ?_ line)
  have new : (s1.heap.push (seqObj "list" vs.toArray 0)).get? s1.heap.objs.size = some (seqObj "list" vs.toArray 0) := Heap.get?_push_size _ rfl
  refine wpAny_bind <| wpAny_holding <| wpAny_call_entry slot_list_sort ⟨_, new, rfl⟩ entry_list_sort (list_sort_treeKAny strKind_oneLt new S.keysOf (fun v₁ v₂ rest e => keyKind_strs (by rw [← e]; exact S)) line fun st' hp hs => ⟨_, rfl, ?_⟩) (args_list_sort _)
  obtain ⟨ys, q1, q2, q3⟩ := sorted_out_str S hp hs
  obtain ⟨c, hc⟩ := sortedHeap_at (vs := vs) (out := (arrOf st').map (·.2)) new
  refine wpAny_pure ⟨_, rfl, fin _ s1.heap.objs.size _ c ys (fun b u e => ?_) g1 o1 hz hc q1 (q2.trans pk) q3⟩
  have z := k1 b u e
  have lt := Heap.lt_size z
  exact (sortedHeap_old (Nat.ne_of_lt lt) (by rw [size_push']; exact Nat.lt_succ_of_lt lt)).trans (Heap.get?_push_of_some _ z)
end
section
variable {X : Cx}
/-- sorted(a set of texts) -/
def rSortX (w : World) : List V → Hp → VK → Prop := fun vs H Q => ∃ (a : Addr) (L : List Str), vs = [V.ref a] ∧ H a = some (SetTO w a L) ∧ ∀ (ys : List Str) (p : Addr), ys.Perm L → sortedS ys = true → H p = none → Q (.ref p) (upd H p (.lst (ys.map V.str)))
theorem cr_sortX (hc : X.calm = true) : CallR X (.builtin "sorted") (rSortX X.w) := by
  intro pins s σ H vs us Q I r h
  obtain ⟨a, L, rfl, ha, q⟩ := h
  have R := txo_get I ha
  have few : L.length < scanBound := by
    obtain ⟨_, _, _, _, _, _, _, T⟩ := R
    exact T.few
  rw [Vals.ref1 r]
  refine sorted_tx R (I.ok.hd hc) fun s' p out c ys k g o hp hg hi pm so => ?_
  have len : (ys.map V.str).length ≤ sizeLine := by
    rw [List.length_map, pm.length_eq]
    exact fits_of_scanBound few
  have hn : H p = none := I.hok.fresh hp
  have J : Inv X pins σ (upd H p (.lst (ys.map V.str))) { s with heap := s'.heap, gens := s'.gens, drawn := s'.drawn, toks := s'.toks } := I.call (ch := []) (Un.laid k hp hn) (I.hok.laid k hp ⟨len, out.toList, c, vals_of_strs hi, hg⟩) (by rw [g]; exact I.bare) (fun _ z => nomatch z)
  have e : s' = { s with heap := s'.heap, gens := s'.gens, drawn := s'.drawn, toks := s'.toks } := by
    cases s'
    cases s
    cases o
    rfl
  rw [e]
  exact ⟨.ref p, _, J, rfl, q ys p pm so hn⟩
end
end OM

namespace OM
open PySem PySem.Spec PyProof.Rows L2
def firsts (L : List Str) (xs : List Str) : List Str := xs.foldl addX L
theorem mem_addX {L : List Str} {x y : Str} : y ∈ addX L x ↔ y ∈ L ∨ y = x := by
  unfold addX
  split
  · rename_i h
    exact ⟨.inl, fun z => z.elim id fun e => e ▸ h⟩
  · rw [List.mem_cons]
    exact Or.comm
theorem len_addX (L : List Str) (x : Str) : (addX L x).length ≤ L.length + 1 := by
  unfold addX
  split
  · exact Nat.le_succ _
  · exact Nat.le_refl _
theorem nodup_addX {L : List Str} (h : L.Nodup) (x : Str) : (addX L x).Nodup := by
  unfold addX
  split
  · exact h
  · exact List.nodup_cons.mpr ⟨by assumption, h⟩
theorem mem_firsts {y : Str} : ∀ {xs L : List Str}, y ∈ firsts L xs ↔ y ∈ L ∨ y ∈ xs
  | [], L => by simp [firsts]
  | x :: r, L => by
    show y ∈ firsts (addX L x) r ↔ _
    rw [mem_firsts, mem_addX, List.mem_cons, or_assoc]
theorem len_firsts : ∀ (xs L : List Str), (firsts L xs).length ≤ L.length + xs.length
  | [], L => Nat.le_refl _
  | x :: r, L => by
    have h1 := len_firsts r (addX L x)
    have h2 := len_addX L x
    show (firsts (addX L x) r).length ≤ L.length + (r.length + 1)
    omega
theorem nodup_firsts : ∀ (xs : List Str) {L : List Str}, L.Nodup → (firsts L xs).Nodup
  | [], _, h => h
  | x :: r, _, h => nodup_firsts r (nodup_addX h x)
section
variable {P : Program} {w : World} {A : Around} {I : Addr} {fp wr : List Addr} {G : Array GenState → Array GenState → Prop} {n : Nat} {Pv : Nat → Value → Prop} {St : Nat → Shared → Prop} {R : Result → Shared → Prop}
/-- the loop of set.update over texts -/
theorem update_tx (W : WalksS P w A.in1 I fp wr G n Pv St) (S : Addr) (apart : S ∉ fp) (xs : List Str) (hn : xs.length = n) (val : ∀ i v, Pv i v → ∃ t, v = .str (xs.getD i Str.empty) t) : ∀ (k i : Nat) (s : Shared) (L : List Str), n - i = k → i ≤ n → St i s → SetTx w s.heap S L → L.length + k < scanBound →
    (∀ s', Moved (S :: wr) G s s' → SetTx w s'.heap S (firsts L (xs.drop i)) → R (.ok (.ret .none)) s') → codeAny (model P w) A (.builtin "set.update.loop" ⟨[.ref S, .ref I], []⟩) R s := by
  have nw : S ∉ wr := fun h => apart (W.sub _ h)
  have wider : ∀ b ∈ wr, b ∈ S :: wr := fun b hb => List.mem_cons_of_mem _ hb
  intro k
  induction k with
  | zero =>
    intro i s L hk hi st hS room fin
    obtain rfl : i = n := by omega
    refine codeAny_builtin F.entry_set_update_loop ?_
    rw [Around.under_plainId F.plain_set_update_loop _]
    show wpAny _ A.in1 (pyNext (.ref I) >>= _) _ _ s
    refine wpAny_bind <| W.done s _ _ st fun s' hm => ?_
    show wpAny _ A.in1 (ret Value.none) _ _ s'
    refine wpAny_pure <| fin s' (hm.mono wider) ?_
    rw [← hn, List.drop_length]
    exact hS.mv fun o e => hm.heap S o nw e
  | succ k ih =>
    intro i s L hk hi st hS room fin
    have lt : i < n := by omega
    refine codeAny_builtin F.entry_set_update_loop ?_
    rw [Around.under_plainId F.plain_set_update_loop _]
    show wpAny _ A.in1 (pyNext (.ref I) >>= _) _ _ s
    refine wpAny_bind <| W.item i s _ _ lt st fun v s' hP st' hm => ?_
    obtain ⟨tk, rfl⟩ := val i v hP
    have hS' : SetTx w s'.heap S L := hS.mv fun o e => hm.heap S o nw e
    have hx : xs.drop i = xs.getD i Str.empty :: xs.drop (i + 1) := by
      have h1 : i < xs.length := by omega
      rw [List.getD_eq_getElem?_getD, List.getElem?_eq_getElem h1]
      exact List.drop_eq_getElem_cons h1
    rw [hx] at fin
    revert fin
    generalize xs.getD i Str.empty = x
    intro fin
    show wpAny _ A.in1 (holding [Value.str x tk] (setAdd S (.str x tk)) >>= _) _ _ s'
    refine wpAny_bind <| wpAny_holding ?_
    unfold setAdd
    refine wpAny_holding <| wpAny_bind <| (strKind P w).pyHash (k := x) (beq_self_eq_true x) ?_
    refine tx_hashed (s := { s' with toks := s'.toks + 1 }) hS' (by omega) fun b h' sb r => ?_
    have la := len_addX L x
    refine wpAny_pure ⟨plainId_quiet F.plain_set_update_loop _, ih (i + 1) _ (addX L x) (by omega) lt (W.frame _ s' _ _ st' (Nat.le_succ _) fun b hb o e => ?_) r (by omega) fun s'' hm'' r'' => fin s'' (Moved.trans W.gtrans ((hm.mono wider).then_heap (Nat.le_succ _) fun b o hb e => ?_) hm'') r''⟩
    · exact (sb.2 b fun z => apart (by rw [← z]; exact hb)).trans e
    · exact (sb.2 b fun z => hb (by rw [z]; exact List.mem_cons_self)).trans e
end
end OM

namespace OM
open PySem PySem.Spec PyProof.Rows L2
abbrev blankSet (w : World) : Obj := { cls := .type "set", dict := none, data := .set #[] 0 (.fresh 0 0 (!w.params.followText "set-order")) }
section
variable {P : Program} {w : World} {A : Around} {E : Value → Shared → Prop} {s : Shared}
/-- set(x), by what its __init__ makes of the blank set -/
theorem set_made {x : Value} {Q : Value → Shared → Prop} {Z : Shared → Prop}
    (hT : codeAny (model P w) A.in1 (.call (.builtin "set.__init__") ⟨[.ref s.heap.objs.size, x], []⟩) (wants (fun r s2 => r = .none ∧ Z s2) E) { s with heap := s.heap.push (blankSet w) })
    (fin : ∀ s2, Z s2 → Q (.ref s.heap.objs.size) s2) : wpAny (model P w) A (call (.type "set") [x]) Q E s := by
  obtain ⟨c, tl, hmro⟩ := F.called_set.mro
  have f1 := F.called_set.made
  have f2 := F.called_set.sub
  refine wpAny_call <| codeAny_of_tree ?_
  show wpAny _ _ (callAny (.type "set") _) _ _ _
  refine wpAny_pure ⟨Code.quiet_builtin _ (by decide +kernel), codeAny_builtin F.entry_type_call ?_⟩
  rw [Around.under_plain (weight_type_call_type "set" [x] []) rfl]
  have f3 := F.called_set.notType
  have f4 := F.called_set.canCreate
  have f5 := F.typeCall_set_1 x
  repeat (any_goals (first | assumption | wp_step))
  refine codeAny_mono (code_set_led1 x (E := E) (Q₁ := fun obj s1 => obj = .ref s.heap.objs.size ∧ s1 = { s with heap := s.heap.push (blankSet w) }) ⟨rfl, rfl⟩) fun r s1 hr => ?_
  cases r with
  | error e => exact hr
  | ok fl =>
    cases fl with
    | ret obj =>
      obtain ⟨rfl, rfl⟩ := hr
      have at_ : (s.heap.push (blankSet w)).get? s.heap.objs.size = some (blankSet w) := Heap.get?_push_size _ rfl
      have ty : Shared.TypeIs { s with heap := s.heap.push (blankSet w) } (.ref s.heap.objs.size) "set" := ⟨_, at_, rfl⟩
      have f6 := F.called_set.init.lookup
      have f7 := F.called_set.init.bind (.ref s.heap.objs.size)
      repeat (any_goals (first | assumption | wp_step))
      refine codeAny_mono hT fun r2 s2 hr2 => ?_
      cases r2 with
      | error e => exact hr2
      | ok fl2 =>
        cases fl2 with
        | ret r =>
          obtain ⟨rfl, z⟩ := hr2
          have q := fin s2 z
          repeat (any_goals (first | assumption | wp_step))
        | _ => exact hr2.elim
    | _ => exact hr.elim
/-- set(xs), xs a list or a tuple of texts -/
theorem set_list {l : Addr} {items : Array Value} {xs : List Str} {Q : Value → Shared → Prop} (hh : A.handled = none) (hl : s.heap.IsList l items) (hi : StrsAre items.toList xs) (few : xs.length < scanBound)
    (fin : ∀ (h' : Heap) (tk : Nat), SetTx w h' s.heap.objs.size (firsts [] xs) → (∀ b o, b < s.heap.objs.size → s.heap.get? b = some o → h'.get? b = some o) → Q (.ref s.heap.objs.size) { s with heap := h', toks := tk }) : wpAny (model P w) A (call (.type "set") [.ref l]) Q E s := by
  refine set_made (Z := fun s2 => ∃ h' tk, s2 = { s with heap := h', toks := tk } ∧ SetTx w h' s.heap.objs.size (firsts [] xs) ∧ ∀ b o, b < s.heap.objs.size → s.heap.get? b = some o → h'.get? b = some o) ?_ fun s2 ⟨h', tk, e, a, b⟩ => by rw [e]; exact fin h' tk a b
  have at_ : (s.heap.push (blankSet w)).get? s.heap.objs.size = some (blankSet w) := Heap.get?_push_size _ rfl
  have ty : Shared.TypeIs { s with heap := s.heap.push (blankSet w) } (.ref s.heap.objs.size) "set" := ⟨_, at_, rfl⟩
  have hl1 : (s.heap.push (blankSet w)).IsList l items := hl.push _
  have size : (s.heap.push (blankSet w)).objs.size = s.heap.objs.size + 1 := Heap.size_push ..
  obtain ⟨ol, hol, hcl, nl, hdl⟩ := hl
  have lt := Heap.lt_size hol
  obtain ⟨ocls, odict, odata, oslots⟩ := ol
  simp only at hcl hdl
  subst hcl
  subst hdl
  have hol' : (s.heap.push (blankSet w)).get? l = some { cls := .type "list", dict := odict, data := .seq items nl, slots := oslots } := Heap.get?_push_of_some _ hol
  have g1 := F.sub_list_set
  have g2 := F.sub_list_frozenset
  have g3 : (Value.type "list" == Value.type "dict") = false := by decide
  refine codeAny_call_builtin F.called_set.init.plain F.entry_set_init (check_set_init_1 ty ?_)
  unfold Builtin.«set.__init__» noKeywords Builtin.Frozenset.updateFrom
  generalize iter : pyIter = it0
  wp_walk
  subst iter
  refine wpAny_pyIter_list hl1 <| wpAny_bind <| wpAny_runValue ?_
  have n1 : l ≠ (s.heap.push (blankSet w)).objs.size := by
    rw [Heap.size_push]
    exact Nat.ne_of_lt (Nat.lt_succ_of_lt lt)
  have n2 : s.heap.objs.size ∉ [(s.heap.push (blankSet w)).objs.size, l] := by
    rw [Heap.size_push]
    simp only [List.mem_cons, List.not_mem_nil, or_false, not_or]
    exact ⟨Nat.ne_of_lt (Nat.lt_succ_self _), Nat.ne_of_gt lt⟩
  have sz : xs.length = items.size := by rw [← StrsAre.len_eq hi, Array.length_toList]
  refine update_tx ((Walks.list (by simp [hh]) _ l n1 items).toS) s.heap.objs.size n2 xs sz (fun i v hv => SS.strs_at hi i v (by rw [Array.getElem?_toList]; exact hv)) (items.size - 0) 0 _ [] (by omega) (Nat.zero_le _) ⟨⟨_, Heap.get?_push_size _ rfl, rfl, rfl⟩, hl1.push _⟩ ?_ (by rw [← sz]; simpa using few) fun s' hm r => ?_
  · exact (tx_fresh (h := s.heap) w).mv fun o e => Heap.get?_push_of_some _ e
  · obtain ⟨h', g', d', tk', os'⟩ := s'
    obtain rfl : g' = s.gens := hm.gens
    obtain rfl : d' = s.drawn := hm.drawn
    obtain rfl : os' = s.os := hm.os
    show wpAny _ _ _ _ _ _
    refine wpAny_pure ?_
    show wpAny _ _ (ret Value.none) _ _ _
    refine wpAny_pure ⟨rfl, h', tk', rfl, r, fun b o hb e => hm.heap b o ?_ (Heap.get?_push_of_some _ (Heap.get?_push_of_some _ e))⟩
    rw [Heap.size_push]
    simp only [List.mem_cons, List.not_mem_nil, or_false, not_or]
    exact ⟨Nat.ne_of_lt hb, Nat.ne_of_lt (Nat.lt_succ_of_lt hb)⟩
theorem set_tuple {l : Addr} {items : Array Value} {xs : List Str} {Q : Value → Shared → Prop} (hh : A.handled = none) (hl : s.heap.IsTuple l items) (hi : StrsAre items.toList xs) (few : xs.length < scanBound)
    (fin : ∀ (h' : Heap) (tk : Nat), SetTx w h' s.heap.objs.size (firsts [] xs) → (∀ b o, b < s.heap.objs.size → s.heap.get? b = some o → h'.get? b = some o) → Q (.ref s.heap.objs.size) { s with heap := h', toks := tk }) : wpAny (model P w) A (call (.type "set") [.ref l]) Q E s := by
  refine set_made (Z := fun s2 => ∃ h' tk, s2 = { s with heap := h', toks := tk } ∧ SetTx w h' s.heap.objs.size (firsts [] xs) ∧ ∀ b o, b < s.heap.objs.size → s.heap.get? b = some o → h'.get? b = some o) ?_ fun s2 ⟨h', tk, e, a, b⟩ => by rw [e]; exact fin h' tk a b
  have at_ : (s.heap.push (blankSet w)).get? s.heap.objs.size = some (blankSet w) := Heap.get?_push_size _ rfl
  have ty : Shared.TypeIs { s with heap := s.heap.push (blankSet w) } (.ref s.heap.objs.size) "set" := ⟨_, at_, rfl⟩
  have hl1 : (s.heap.push (blankSet w)).IsTuple l items := hl.push _
  have size : (s.heap.push (blankSet w)).objs.size = s.heap.objs.size + 1 := Heap.size_push ..
  obtain ⟨ol, hol, hcl, nl, hdl⟩ := hl
  have lt := Heap.lt_size hol
  obtain ⟨ocls, odict, odata, oslots⟩ := ol
  simp only at hcl hdl
  subst hcl
  subst hdl
  have hol' : (s.heap.push (blankSet w)).get? l = some { cls := .type "tuple", dict := odict, data := .seq items nl, slots := oslots } := Heap.get?_push_of_some _ hol
  have g1 := F.sub_tuple_set
  have g2 := F.sub_tuple_frozenset
  have g3 : (Value.type "tuple" == Value.type "dict") = false := by decide
  refine codeAny_call_builtin F.called_set.init.plain F.entry_set_init (check_set_init_1 ty ?_)
  unfold Builtin.«set.__init__» noKeywords Builtin.Frozenset.updateFrom
  generalize iter : pyIter = it0
  wp_walk
  subst iter
  refine wpAny_pyIter_tuple hl1 <| wpAny_bind <| wpAny_runValue ?_
  have n1 : l ≠ (s.heap.push (blankSet w)).objs.size := by
    rw [Heap.size_push]
    exact Nat.ne_of_lt (Nat.lt_succ_of_lt lt)
  have n2 : s.heap.objs.size ∉ [(s.heap.push (blankSet w)).objs.size, l] := by
    rw [Heap.size_push]
    simp only [List.mem_cons, List.not_mem_nil, or_false, not_or]
    exact ⟨Nat.ne_of_lt (Nat.lt_succ_self _), Nat.ne_of_gt lt⟩
  have sz : xs.length = items.size := by rw [← StrsAre.len_eq hi, Array.length_toList]
  refine update_tx ((Walks.tuple (by simp [hh]) _ l n1 items).toS) s.heap.objs.size n2 xs sz (fun i v hv => SS.strs_at hi i v (by rw [Array.getElem?_toList]; exact hv)) (items.size - 0) 0 _ [] (by omega) (Nat.zero_le _) ⟨⟨_, Heap.get?_push_size _ rfl, rfl, rfl⟩, hl1.push _⟩ ?_ (by rw [← sz]; simpa using few) fun s' hm r => ?_
  · exact (tx_fresh (h := s.heap) w).mv fun o e => Heap.get?_push_of_some _ e
  · obtain ⟨h', g', d', tk', os'⟩ := s'
    obtain rfl : g' = s.gens := hm.gens
    obtain rfl : d' = s.drawn := hm.drawn
    obtain rfl : os' = s.os := hm.os
    show wpAny _ _ _ _ _ _
    refine wpAny_pure ?_
    show wpAny _ _ (ret Value.none) _ _ _
    refine wpAny_pure ⟨rfl, h', tk', rfl, r, fun b o hb e => hm.heap b o ?_ (Heap.get?_push_of_some _ (Heap.get?_push_of_some _ e))⟩
    rw [Heap.size_push]
    simp only [List.mem_cons, List.not_mem_nil, or_false, not_or]
    exact ⟨Nat.ne_of_lt hb, Nat.ne_of_lt (Nat.lt_succ_of_lt hb)⟩
end
section
variable {X : Cx}
/-- set(xs), xs a list or a tuple of texts -/
def rSetX (K : PySem.W.Frag) (w : World) : List V → Hp → VK → Prop := fun vs H Q => ∃ (l : Addr) (xs : List Str), vs = [V.ref l] ∧ (SqL K H l (xs.map V.str) ∨ SqT K H l (xs.map V.str)) ∧ xs.length < scanBound ∧ ∀ p, H p = none → Q (.ref p) (upd H p (SetTO w p (firsts [] xs)))
theorem cr_setX (hc : X.calm = true) : CallR X (.type "set") (rSetX X.K X.w) := by
  intro pins s σ H vs us Q I r h
  obtain ⟨l, xs, rfl, hq, few, q⟩ := h
  rw [Vals.ref1 r]
  have hn : H s.heap.objs.size = none := I.hok.fresh (Nat.le_refl _)
  have fin : ∀ (h' : Heap) (tk : Nat), SetTx X.w h' s.heap.objs.size (firsts [] xs) → (∀ b o, b < s.heap.objs.size → s.heap.get? b = some o → h'.get? b = some o) → EP X pins σ Q (.ref s.heap.objs.size) { s with heap := h', toks := tk } := fun h' tk R k =>
    ⟨.ref s.heap.objs.size, upd H s.heap.objs.size (SetTO X.w s.heap.objs.size (firsts [] xs)), I.laid (t' := tk) (fun b o e => k b o (Heap.lt_size e) e) (Nat.le_refl _) (txo_new R), rfl, q _ hn⟩
  rcases hq with hq | hq
  · obtain ⟨its, rv, pl, hz⟩ := I.list hq
    exact set_list (I.ok.hd hc) pl.isList (by simpa using rv.strs) few fin
  · obtain ⟨its, rv, pl, hz⟩ := I.tuple hq
    exact set_tuple (I.ok.hd hc) pl (by simpa using rv.strs) few fin
/-- len of a set of texts -/
def rLenX (w : World) : List V → Hp → VK → Prop := fun vs H Q => ∃ (a : Addr) (L : List Str), vs = [V.ref a] ∧ H a = some (SetTO w a L) ∧ Q (.int L.length) H
theorem cr_lenX : CallR X (.builtin "len") (rLenX X.w) := by
  intro pins s σ H vs us Q I r h
  obtain ⟨a, L, rfl, ha, q⟩ := h
  rw [Vals.ref1 r]
  obtain ⟨o, es, ep, t, ho, hex, hd, T⟩ := txo_get I ha
  have hf : (es.size : Int) < 2 ^ 63 := by
    have h1 := T.bound
    have h2 : scanBound < 2 ^ 62 := by decide
    omega
  refine call_len_set ho hex hd T.fit hf ⟨.int L.length, H, I.tok _, ⟨_, by rw [T.size]⟩, q⟩
end
end OM

namespace OM
open PySem PySem.Spec PyProof.Rows L2
/-- found.extend(t), t a tuple -/
def rExtT (K : PySem.W.Frag) : V → List V → Hp → VK → Prop := fun x vs H Q => ∃ (l b : Addr) (xs zs : List V), x = .ref l ∧ vs = [.ref b] ∧ H l = some (.lst xs) ∧ SqT K H b zs ∧ xs.length + zs.length ≤ sizeLine ∧ Q .non (upd H l (.lst (xs ++ zs)))
theorem mt_extT {X : Cx} : MtM X "list.extend" (rExtT X.K) := by
  intro pins s σ H x vs v us Q I rx rv h
  obtain ⟨l, b, xs, zs, rfl, rfl, hH, hB, hz, q⟩ := h
  cases rx
  obtain ⟨u, rfl, ru⟩ := rv.one
  cases ru
  obtain ⟨z, its, n, r, hl, e⟩ := I.lstM hH
  obtain ⟨its2, r2, ⟨o, ho, hc, n2, hd⟩, z2⟩ := I.tuple hB
  have l1 := r.length
  have l2 := r2.length
  refine wpAny_call_entry F.slot_list_extend ⟨_, e, rfl⟩ F.entry_list_extend ?_ (F.args_list_extend_2 _ _)
  show wpAny _ _ (Builtin.List.listExtendWith (.ref l) (.ref b) .none) _ _ _
  unfold Builtin.List.listExtendWith
  refine wpAny_bind (wpAny_typeOf ⟨o, ho, hc⟩ ?_)
  have t1 : (Builtin.List.listSameRef (.ref l) (.ref b) || Value.type "tuple" == Value.type "list" || Value.type "tuple" == Value.type "tuple") = true := by simp
  simp only [t1, if_true]
  refine wpAny_bind ?_
  unfold Builtin.List.listItems
  refine wpAny_bind (wpAny_seqItems ho hd (wpAny_pure ?_))
  refine wpAny_bind ?_
  refine wpAny_bind (wpAny_seqItems e rfl (wpAny_pure ?_))
  have long : (!its.toArray.isEmpty && Builtin.List.listTooLong (its.toArray.size + its2.toArray.size)) = false := by
    rw [notLongL (by rw [List.size_toArray, List.size_toArray]; omega), Bool.and_false]
  simp only [long, Bool.false_eq_true, if_false]
  show wpAny _ _ (updateSeq l (· ++ its2.toArray) >>= fun _ => ret Value.none) _ _ _
  refine wpAny_bind (wpAny_updateSeq e rfl (wpAny_pure ⟨_, rfl, .non, _, I.lset (its' := its ++ its2) hH e (by simp) (r.append r2) ?_, rfl, q⟩))
  rw [List.length_append]
  omega
theorem maxOf_spec : ∀ (ys : List Int) (y : Int), PySem.W.maxOf y ys ∈ y :: ys ∧ ∀ z ∈ y :: ys, z ≤ PySem.W.maxOf y ys
  | [], y => ⟨List.mem_cons_self, fun z h => by
      rw [List.mem_singleton.mp h]
      exact Int.le_refl _⟩
  | a :: r, y => by
    obtain ⟨h1, h2⟩ := maxOf_spec r (if decide (y < a) = true then a else y)
    have e : PySem.W.maxOf y (a :: r) = PySem.W.maxOf (if decide (y < a) = true then a else y) r := rfl
    rw [e]
    have h3 := h2 _ List.mem_cons_self
    constructor
    · rcases List.mem_cons.mp h1 with z | z
      · rw [z]
        split
        · exact List.mem_cons_of_mem _ List.mem_cons_self
        · exact List.mem_cons_self
      · exact List.mem_cons_of_mem _ (List.mem_cons_of_mem _ z)
    · intro z hz
      have ya : y ≤ (if decide (y < a) = true then a else y) ∧ a ≤ (if decide (y < a) = true then a else y) := by
        split
        · rename_i h
          have := of_decide_eq_true h
          omega
        · rename_i h
          have : ¬ y < a := fun z => h (decide_eq_true z)
          omega
      rcases List.mem_cons.mp hz with q | q
      · rw [q]
        omega
      · rcases List.mem_cons.mp q with q | q
        · rw [q]
          omega
        · exact h2 z (List.mem_cons_of_mem _ q)
theorem hold_ints {h : Heap} : ∀ {vs : List Value} {ns : List Int}, IntsAre vs ns → PySem.W.HoldAll h vs ns
  | _, _, .nil => PySem.W.HoldAll.nil
  | _, _, .cons n t r => PySem.W.HoldAll.cons ⟨_, .int _ _⟩ (hold_ints r)
/-- max(xs, default=d), ints -/
def rMaxDef (K : PySem.W.Frag) : List V → List V → Hp → VK → Prop := fun vs zs H Q => ∃ (a : Addr) (ns : List Int) (d : Int), vs = [.ref a] ∧ zs = [.int d] ∧ SqL K H a (ns.map V.int) ∧ (ns = [] → Q (.int d) H) ∧ ∀ m, m ∈ ns → (∀ y ∈ ns, y ≤ m) → Q (.int m) H
theorem cr_maxDef {X : Cx} (hc : X.calm = true) (hu : X.A.units + 1 < cLine) : CallRK X (.builtin "max") ["default"] (rMaxDef X.K) := by
  intro pins s σ H xs zs us ws Q I rx rz h
  obtain ⟨a, ns, d, rfl, rfl, hs, q0, q1⟩ := h
  obtain ⟨u, rfl, ru⟩ := rz.one
  obtain ⟨tk, rfl⟩ := ru
  rw [Vals.ref1 rx]
  obtain ⟨its, r, pl, _⟩ := I.list hs
  have hi : IntsAre its ns := by simpa using r.ints
  refine PySem.W.max_list_datum_default (α := Int) (xs := ns) (I.ok.hd hc) pl.isList (by simpa using hold_ints hi) hu (fun e h' tk k => ⟨.int d, H, I.kept k, ⟨_, rfl⟩, q0 e⟩) fun y ys i v h' tk e hv hh k => ?_
  subst e
  obtain ⟨m1, m2⟩ := maxOf_spec ys y
  obtain ⟨as, hr⟩ := hh
  refine ⟨.int (PySem.W.maxOf y ys), H, I.kept k, ?_, q1 _ m1 m2⟩
  have hr : Reads h' v (.int (PySem.W.maxOf y ys)) as := hr
  cases hr
  exact ⟨_, rfl⟩
/-! ### statements, one behind the other -/
def inner2 : PyData → List (List PyData)
  | .tuple [.str w, _, _, .tuple ys, .tuple ns] => if w = "if" then [ys, ns] else []
  | _ => []
/-- a statement and those in it -/
def flatS : Nat → PyData → List PyData
  | 0, d => [d]
  | n + 1, d => d :: (inner2 d).flatMap fun c => c.flatMap (flatS n)
def flatN (n : Nat) (ds : List PyData) : List PyData := ds.flatMap (flatS n)
/-- what code at depth n holds of a row -/
theorem rowD_shape {cd : PyData → Bool} {d : PyData} (h : rowD cd d = true) : ∃ (w : Str) (rest : List PyData) (rs : List Str), d = .tuple (.str w :: rest) ∧ formOf w = some rs ∧ rest.length = rs.length ∧ (List.zipWith (fitD cd) rest rs).all id = true := by
  unfold rowD at h
  split at h
  · rename_i w rest
    split at h
    · rename_i rs e
      obtain ⟨h1, h2⟩ := Bool.and_eq_true_iff.mp h
      exact ⟨w, rest, rs, rfl, e, of_decide_eq_true h1, h2⟩
    · cases h
  · cases h
theorem code_tup {n : Nat} {d : PyData} (h : codeD n d = true) : ∃ ds, d = .tuple ds ∧ ds.all (rowD (cdOf n)) = true := by
  cases d with
  | tuple ds => exact ⟨ds, rfl, by rw [← codeD_tup]; exact h⟩
  | _ => cases n <;> cases h
theorem cdOf_tup {n : Nat} {d : PyData} (h : cdOf n d = true) : ∃ m ds, n = m + 1 ∧ d = .tuple ds ∧ ds.all (rowD (cdOf m)) = true := by
  cases n with
  | zero => cases h
  | succ m =>
    obtain ⟨ds, e, q⟩ := code_tup (n := m) h
    exact ⟨m, ds, rfl, e, q⟩
/-- an if: five parts, two of them code; else no inner code -/
theorem row_iff {n : Nat} {d : PyData} (h : rowD (cdOf n) d = true) : (∃ m p r ys ns, n = m + 1 ∧ d = .tuple [.str "if", p, r, .tuple ys, .tuple ns] ∧ ys.all (rowD (cdOf m)) = true ∧ ns.all (rowD (cdOf m)) = true ∧ isNameD p = true ∧ isNameD r = true) ∨ (∃ w rest, d = .tuple (.str w :: rest) ∧ w ≠ "if" ∧ inner2 d = []) := by
  obtain ⟨w, rest, rs, rfl, e, l, z⟩ := rowD_shape h
  by_cases hw : w = "if"
  · subst hw
    have e4 : formOf "if" = some (["test", "register", "code", "code"] : List Str) := by decide +kernel
    rw [e4] at e
    obtain rfl := (Option.some.inj e).symm
    match rest, l with
    | [p, r, y, x], _ =>
      rw [row_if] at h
      simp only [Bool.and_eq_true, and_true] at h
      obtain ⟨h1, h2, h3, h4⟩ := h
      obtain ⟨m, ys, e1, rfl, q1⟩ := cdOf_tup h3
      obtain ⟨m', ns, e2, rfl, q2⟩ := cdOf_tup h4
      obtain rfl : m = m' := by omega
      exact .inl ⟨m, p, r, ys, ns, e1, rfl, q1, q2, h1, h2⟩
  · refine .inr ⟨w, rest, rfl, hw, ?_⟩
    unfold inner2
    split
    · rename_i w' _ _ _ _ e'
      have : w = w' := by
        injection e' with e'
        injection e' with e' _
        injection e'
      subst this
      exact if_neg hw
    · rfl
end OM

namespace OM
open PySem PySem.Spec PyProof.Rows L2
abbrev sFlat : Stmt := top 35
abbrev sCin : Stmt := top 36
/-- a row as objects: its word first -/
theorem Dt.row {S : Addr → Prop} {H : Hp} {v : V} {w : Str} {rest : List PyData} (h : Dt S H v (.tuple (.str w :: rest))) : ∃ a xr, v = .ref a ∧ H a = some (.tup (.str w :: xr)) ∧ xr.length + 1 ≤ 1000 ∧ DtAll S H xr rest := by
  obtain ⟨a, xs, rfl, ea, hl, hx⟩ := h.tup_of
  cases hx with
  | @cons x0 _ xr _ h0 hr =>
    obtain rfl : x0 = .str w := by
      cases h0 with
      | «at» a => cases a <;> rfl
    exact ⟨a, xr, rfl, ea, hl, hr⟩
def spCin : Sp := fun vs H Q _ => ∃ (S : Addr → Prop) (v : V) (d : PyData) (n : Nat), vs = [v] ∧ Dt S H v d ∧ rowD (cdOf n) d = true ∧ ∀ H' p xs, Same H H' → H p = none → H' p = some (.tup xs) → DtAll S H' xs ((inner2 d).map PyData.tuple) → Q (.ref p) H'
def spFlatAt : Nat → Sp
  | 0 => fun _ _ _ _ => False
  | n + 1 => fun vs H Q _ => ∃ (S : Addr → Prop) (v : V) (ds : List PyData), vs = [v] ∧ Dt S H v (.tuple ds) ∧ ds.all (rowD (cdOf n)) = true ∧ (flatN n ds).length ≤ 500 ∧ ∀ H' p xs, Same H H' → H p = none → H' p = some (.lst xs) → DtAll S H' xs (flatN n ds) → Q (.ref p) H'
theorem cut53 {a b c d e : V} : cutV [a, b, c, d, e] (some 3) none = [d, e] := rfl
theorem DtAll.app {S : Addr → Prop} {H : Hp} : ∀ {xs ys : List V} {ds es : List PyData}, DtAll S H xs ds → DtAll S H ys es → DtAll S H (xs ++ ys) (ds ++ es)
  | _, _, _, _, .nil, k => k
  | _, _, _, _, .cons h r, k => .cons h (DtAll.app r k)
/-- objects of H stay, whatever comes beside them -/
theorem DtAll.base {S : Addr → Prop} {H H1 H2 : Hp} (live : ∀ a, S a → H a ≠ none) (s1 : Same H H1) (s2 : Same H H2) {xs : List V} {ds : List PyData} (h : DtAll S H1 xs ds) : DtAll S H2 xs ds := by
  refine h.mv (fun _ z => z) fun a o s e => ?_
  cases y : H a with
  | none => exact absurd y (live a s)
  | some u =>
    have := s1 a u y
    rw [e] at this
    obtain rfl := (Option.some.inj this).symm
    exact s2 a _ y
theorem Dt.base {S : Addr → Prop} {H H1 H2 : Hp} (live : ∀ a, S a → H a ≠ none) (s1 : Same H H1) (s2 : Same H H2) {x : V} {d : PyData} (h : Dt S H1 x d) : Dt S H2 x d := by
  cases DtAll.base live s1 s2 (.cons h .nil) with
  | cons h _ => exact h
theorem Dt.live {S : Addr → Prop} {H : Hp} {x : V} {d : PyData} (h : Dt S H x d) : Dt (fun a => S a ∧ H a ≠ none) H x d := h.strong fun a o s e => ⟨⟨s, by rw [e]; exact fun z => nomatch z⟩, e⟩
theorem flat_take {n i : Nat} {d : PyData} {ds : List PyData} (h : ds[i]? = some d) : flatN n (ds.take (i + 1)) = flatN n (ds.take i) ++ flatS n d := by
  unfold flatN
  rw [List.take_add_one, h, List.flatMap_append]
  simp
theorem flat_le {n i : Nat} {ds : List PyData} : (flatN n (ds.take i)).length ≤ (flatN n ds).length := by
  unfold flatN
  conv => rhs; rw [← List.take_append_drop i ds, List.flatMap_append, List.length_append]
  exact Nat.le_add_right _ _
theorem part_le {α β : Type} {f : α → List β} {l : List α} {x : α} (h : x ∈ l) : (f x).length ≤ (l.flatMap f).length := by
  obtain ⟨s, t, rfl⟩ := List.append_of_mem h
  rw [List.flatMap_append, List.flatMap_cons, List.length_append, List.length_append]
  omega
theorem row_in {n : Nat} {d : PyData} {cd : List PyData} (row : rowD (cdOf n) d = true) (h : cd ∈ inner2 d) : ∃ m, n = m + 1 ∧ cd.all (rowD (cdOf m)) = true ∧ flatS n d = d :: (inner2 d).flatMap (flatN m) := by
  rcases row_iff row with ⟨m, p, r, ys, ns, rfl, rfl, hy, hn, _, _⟩ | ⟨_, _, _, _, e⟩
  · refine ⟨m, rfl, ?_, rfl⟩
    have e : inner2 (.tuple [.str "if", p, r, .tuple ys, .tuple ns]) = [ys, ns] := rfl
    rw [e] at h
    rcases List.mem_cons.mp h with z | z
    · rw [z]; exact hy
    · rw [List.mem_singleton.mp z]; exact hn
  · rw [e] at h
    cases h
theorem flatS_row {n : Nat} {d : PyData} (row : rowD (cdOf n) d = true) : flatS n d = d :: (inner2 d).flatMap (flatN (n - 1)) := by
  cases n with
  | succ m => rfl
  | zero =>
    rcases row_iff row with ⟨m, _, _, _, _, e, _⟩ | ⟨_, _, _, _, e⟩
    · cases e
    · rw [e]
      rfl
section
variable {P : Program} {w : World} {K : PySem.W.Frag} {mg : Str → Option Value} {base : Heap} {f fC : Addr} {fd dC : FuncData}
theorem scCin : FnScope ["statement"] ["statement"] (defScope sCin) := ⟨rfl, rfl, rfl, by decide +kernel, rfl, by decide +kernel, by decide +kernel⟩
theorem ok_cin (F : Fun K "codes_in" "codes_in" sCin f fd) : FnOk P w K mg base CX0 1 f fd ["statement"] spCin := by
  refine F.ok scCin (fun vs H Q E h => ?_) (fun cdv A outer s H vs Q E hr h => ?_)
  · obtain ⟨S, v, d, n, rfl, _⟩ := h
    rfl
  · obtain ⟨S, v, d, n, rfl, hd, row, q⟩ := h
    refine ⟨_, pss_one (ps_ret (pe_ifExp (pt_cmpR op_eq (pe_ix ix_tup (pv 0) pe_int (fun _ _ => rfl)) pe_str (nomark _)) (pe_slice sl_tupA (pv 0) (po_some pe_int) po_none) (pe_tup pa_nil))), ?_⟩
    rcases row_iff row with ⟨m, p, r, ys, ns, _, rfl, hy, hn, _, _⟩ | ⟨wd, rest, rfl, ne, e0⟩
    · obtain ⟨a, xr, rfl, ea, hl, hx⟩ := hd.row
      refine ⟨_, rfl, a, _, 0, _, rfl, rfl, SqT.of ea, at0, rfl, _, rfl, iteT ?_⟩
      cases hx with
      | @cons x1 _ _ _ h1 hx =>
        cases hx with
        | @cons x2 _ _ _ h2 hx =>
          cases hx with
          | @cons x3 _ _ _ h3 hx =>
            cases hx with
            | @cons x4 _ _ _ h4 hx =>
              cases hx
              refine ⟨_, rfl, 3, rfl, a, _, rfl, SqT.of ea, fun hw => absurd hw.1 (by show ¬ (HT.sIx 5 0 (some 3) = 0); decide), fun _ pc hpc => ?_⟩
              rw [cut53]
              have s := same_upd (o := .tup [x3, x4]) hpc
              refine q _ pc _ s hpc upd_same ?_
              exact .cons (h3.mv (fun _ z => z) fun b o _ e => s b o e) (.cons (h4.mv (fun _ z => z) fun b o _ e => s b o e) .nil)
    · obtain ⟨a, xr, rfl, ea, hl, hx⟩ := hd.row
      refine ⟨_, rfl, a, _, 0, _, rfl, rfl, SqT.of ea, at0, rfl, _, rfl, ?_⟩
      have hne : decide (V.str wd = V.str "if") = false := decide_eq_false fun z => ne (V.str.inj z)
      rw [hne]
      refine iteF ⟨(by show 0 ≤ sizeLine; decide), fun p hp => q _ p [] (same_upd hp) hp upd_same ?_⟩
      rw [e0]
      exact .nil
theorem scFl : FnScope ["code", "found", "statement", "inner"] ["code"] (defScope sFlat) := ⟨rfl, rfl, rfl, by decide +kernel, rfl, by decide +kernel, by decide +kernel⟩
theorem flat_step {n : Nat} (F : Fun K "flattened" "flattened" sFlat f fd) (gF : mg "flattened" = some (.ref f)) (bF : Binds K fd ["code"] []) (G : FnOk P w K mg base CX0 (n + 1) f fd ["code"] (spFlatAt n))
    (FC : Fun K "codes_in" "codes_in" sCin fC dC) (gC : mg "codes_in" = some (.ref fC)) (bC : Binds K dC ["statement"] []) : FnOk P w K mg base CX0 (n + 2) f fd ["code"] (spFlatAt (n + 1)) := by
  have GC : FnOk P w K mg base CX0 1 fC dC ["statement"] spCin := ok_cin FC
  refine F.ok scFl (fun vs H Q E h => ?_) (fun cdv A outer s H vs Q E hr h => ?_)
  · obtain ⟨S, v, ds, rfl, _⟩ := h
    rfl
  · obtain ⟨S, v, ds, rfl, hd, rows, size, q⟩ := h
    refine ⟨_, pss_cons (ps_set (i := 1) scFl.nd rfl (Or.inl rfl) (pe_lst pa_nil))
      (pss_cons (ps_for PassesOwn.never rfl (pi_tup (pv 0)) (pg_name (i := 2) scFl.nd rfl (Or.inl rfl))
        (pss_cons (ps_expr (pe_bm PySem.F.plainAttrs_list PySem.F.slot_list_append PySem.F.type_list_append mt_append (pv 1) (pa_cons (pv 2) pa_nil)))
        (pss_one (ps_for PassesOwn.never rfl (pi_tup (pe_call GC (hr.mono (by omega)) (by rfl) gC FC.kp bC .nil pass0 (pa_cons (pv 2) pa_nil))) (pg_name (i := 3) scFl.nd rfl (Or.inl rfl))
          (pss_one (ps_expr (pe_bm PySem.F.plainAttrs_list PySem.F.slot_list_extend PySem.F.type_list_extend mt_extend (pv 1) (pa_cons (pe_call G hr (by rfl) gF F.kp bF .nil pass0 (pa_cons (pv 3) pa_nil)) pa_nil))))))))
      (pss_one (ps_ret (pv 1)))), ?_⟩
    obtain ⟨a, xs, rfl, ea, hl, hx⟩ := hd.live.tup_of
    refine ⟨(by show 0 ≤ sizeLine; decide), fun p hp => ?_⟩
    have s0 := same_upd (o := .lst []) hp
    have live : ∀ b, (S b ∧ H b ≠ none) → H b ≠ none := fun b z => z.2
    refine ⟨_, rfl, a, rfl, ⟨xs, SqT.of (s0 _ _ ea)⟩, for_tup (fun i σ H' => (∃ x2 x3, σ = [some (.ref a), some (.ref p), x2, x3]) ∧ Same H H' ∧ ∃ acc, H' p = some (.lst acc) ∧ DtAll (fun b => S b ∧ H b ≠ none) H' acc (flatN n (ds.take i)))
      ⟨⟨_, _, rfl⟩, s0, [], upd_same, .nil⟩ (fun i σ H' _ h => SqT.of (h.2.1 _ _ ea)) (fun i x σ H' hi h => ?_) (fun σ H' h => ?_)⟩
    · obtain ⟨⟨x2, x3, rfl⟩, s1, acc, ep, da⟩ := h
      obtain ⟨d, hdi, hdt⟩ := hx.get hi
      have row : rowD (cdOf n) d = true := List.all_eq_true.mp rows d (List.mem_of_getElem? hdi)
      have la := da.length
      have le1 : (flatN n (ds.take (i + 1))).length ≤ 500 := Nat.le_trans flat_le size
      rw [flat_take hdi, List.length_append] at le1
      have line : (1000 : Nat) < sizeLine := by decide
      refine ⟨_, rfl, .inl ⟨rfl, acc, SqL.of ep⟩, _, rfl, p, acc, x, rfl, rfl, ep, by omega, ?_⟩
      have s2 : Same H (upd H' p (.lst (acc ++ [x]))) := same_put hp s1
      refine ⟨_, rfl, _, x, d, n, rfl, hdt.base live (Same.refl H) s2, row, fun H3 pc cs s3 hpc epc dc => ⟨pc, rfl, ⟨cs, SqT.of epc⟩, ?_⟩⟩
      have s13 : Same H H3 := s2.trans s3
      have ep3 := s3 _ _ (upd_same (H := H') (a := p))
      rw [flatS_row row, List.length_cons] at le1
      refine for_tup (fun j σ' H4 => (∃ y3, σ' = [some (.ref a), some (.ref p), some x, y3]) ∧ Same H H4 ∧ H4 pc = some (.tup cs) ∧ ∃ acc, H4 p = some (.lst acc) ∧ DtAll (fun b => S b ∧ H b ≠ none) H4 acc (flatN n (ds.take i) ++ d :: ((inner2 d).take j).flatMap (flatN (n - 1))))
        ⟨⟨_, rfl⟩, s13, epc, _, ep3, ?_⟩ (fun j σ' H4 _ h => SqT.of h.2.2.1) (fun j c σ' H4 hj h => ?_) (fun σ' H4 h => ?_)
      · have e : flatN n (ds.take i) ++ d :: ((inner2 d).take 0).flatMap (flatN (n - 1)) = flatN n (ds.take i) ++ [d] := rfl
        rw [e]
        exact (da.base live s1 s13).snoc (hdt.base live (Same.refl H) s13)
      · obtain ⟨⟨y3, rfl⟩, s4, epc4, acc4, ep4, da4⟩ := h
        obtain ⟨cdt, hcd, hct⟩ := dc.get hj
        rw [List.getElem?_map] at hcd
        obtain ⟨cd, hc2, rfl⟩ := Option.map_eq_some_iff.mp hcd
        have hin := List.mem_of_getElem? hc2
        obtain ⟨m, rfl, rows', _⟩ := row_in row hin
        have le2 : (flatN m cd).length ≤ ((inner2 d).flatMap (flatN m)).length := part_le hin
        have le3 : ((inner2 d).take (j + 1)).flatMap (flatN m) = ((inner2 d).take j).flatMap (flatN m) ++ flatN m cd := by
          rw [List.take_add_one, hc2, List.flatMap_append]
          simp
        have le4 : (((inner2 d).take (j + 1)).flatMap (flatN m)).length ≤ ((inner2 d).flatMap (flatN m)).length := by
          conv => rhs; rw [← List.take_append_drop (j + 1) (inner2 d), List.flatMap_append, List.length_append]
          exact Nat.le_add_right _ _
        rw [le3, List.length_append] at le4
        have la4 := da4.length
        have m1 : m + 1 - 1 = m := rfl
        rw [m1] at la4 le1
        rw [List.length_append, List.length_cons] at la4
        refine ⟨_, rfl, .inl ⟨rfl, acc4, SqL.of ep4⟩, _, rfl, _, c, cd, rfl, hct.base live s13 s4, rows', by omega, fun H5 p5 xs5 s5 hp5 e5 d5 => ?_⟩
        have s15 := s4.trans s5
        have ep5 := s5 _ _ ep4
        have la5 := d5.length
        refine ⟨p, p5, acc4, xs5, rfl, rfl, ep5, e5, by omega, ⟨_, rfl⟩, same_put hp s15, ?_, acc4 ++ xs5, upd_same, ?_⟩
        · rw [upd_ne (fun z => by rw [z, ep4] at epc4; cases epc4)]
          exact s5 _ _ epc4
        · rw [m1, le3, ← List.cons_append, ← List.append_assoc]
          exact (da4.base live s4 (same_put hp s15)).app (d5.base live s15 (same_put hp s15))
      · obtain ⟨⟨y3, rfl⟩, s4, epc4, acc4, ep4, da4⟩ := h
        refine ⟨⟨_, _, rfl⟩, s4, acc4, ep4, ?_⟩
        have lc := dc.length
        rw [List.length_map] at lc
        rw [flat_take hdi, flatS_row row]
        rw [lc, List.take_length] at da4
        exact da4
    · obtain ⟨⟨x2, x3, rfl⟩, s1, acc, ep, da⟩ := h
      rw [hx.length, List.take_length] at da
      exact ⟨_, rfl, q _ p acc s1 hp ep (da.mv (fun _ z => z.1) fun _ _ _ z => z)⟩
end
end OM

namespace OM
open PySem PySem.Spec PyProof.Rows L2
abbrev sNamesIn : Stmt := top 37
abbrev sNamesOf : Stmt := top 38
def roles4 : List Str := ["cell", "register", "function", "test"]
def strD : PyData → Str
  | .str x => x
  | _ => ""
def strsD : PyData → List Str
  | .tuple ds => ds.map strD
  | _ => []
def nmD (role : Str) (part : PyData) (known : Str) : List Str := if known = role then [strD part] else if known = "registers" ∧ role = "register" then strsD part else []
/-- the names that a statement itself has in a role -/
def namesD (role : Str) : PyData → List Str
  | .tuple (.str w :: rest) => match formOf w with
    | some rs => (List.zipWith (nmD role) rest rs).flatten
    | none => []
  | _ => []
theorem dt_names {S : Addr → Prop} {H : Hp} : ∀ {xs : List V} {ds : List PyData}, DtAll S H xs ds → ds.all isNameD = true → xs = (ds.map strD).map V.str
  | _, _, .nil, _ => rfl
  | _, _, .cons h r, e => by
    rw [List.all_cons, Bool.and_eq_true] at e
    have q := dt_names r e.2
    cases h with
    | «at» a =>
      cases a with
      | str x =>
        rw [q]
        rfl
      | _ => cases e.1
    | _ => cases e.1
/-- for a, b in zip of two tuples -/
theorem for_zipT {K : PySem.W.Frag} {a b : Addr} {xs ys : List V} {g : TG} {tb : TS} {D : Ends} {σ : L2.St} {H : Hp} (hlen : xs.length = ys.length) (Pv : Nat → L2.St → Hp → Prop) (h0 : Pv 0 σ H) (hl : ∀ i σ H, Pv i σ H → SqT K H a xs ∧ SqT K H b ys)
    (hs : ∀ i x y T σ H, xs[i]? = some x → ys[i]? = some y → Pv i σ H → H T = none → g (.ref T) σ (upd H T (.tup [x, y])) fun σ2 H2 => tb { D with nx := Pv (i + 1), ct := Pv (i + 1), bk := D.nx } σ2 H2) (hd : ∀ σ H, Pv xs.length σ H → D.nx σ H) :
    ∃ W : Nat → Nat → L2.St → Hp → Prop, (∃ m, W 0 m σ H) ∧ ∀ i m σ H, W i m σ H → ((RZ.ItzT K a b).stop i H ∧ D.nx σ H) ∨ ((RZ.ItzT K a b).go i H ∧ ∃ N : L2.St → Hp → Prop, (∀ σ' H', N σ' H' → ∃ m', m' < m ∧ W (i + 1) m' σ' H') ∧ ∀ x H', (RZ.ItzT K a b).yld i H x H' → g x σ H' fun σ2 H2 => tb { D with nx := N, ct := N, bk := D.nx } σ2 H2) := by
  refine ⟨fun i m σ H => i ≤ xs.length ∧ m = xs.length - i ∧ Pv i σ H, ⟨_, Nat.zero_le _, rfl, h0⟩, ?_⟩
  rintro i m σ H ⟨hi, rfl, p⟩
  obtain ⟨qx, qy⟩ := hl i σ H p
  rcases Nat.lt_or_ge i xs.length with hlt | hge
  · have hx : xs[i]? = some xs[i] := List.getElem?_eq_getElem hlt
    have hy : ys[i]? = some (ys[i]'(by omega)) := List.getElem?_eq_getElem (by omega)
    refine .inr ⟨⟨xs, ys, _, _, qx, qy, hx, hy⟩, Pv (i + 1), fun σ' H' p' => ⟨xs.length - (i + 1), by omega, hlt, rfl, p'⟩, ?_⟩
    rintro v H' ⟨T, x', y', rfl, hT, rfl, f1, f2⟩
    exact hs i x' y' T σ H (f1 xs qx) (f2 ys qy) p hT
  · obtain rfl : i = xs.length := by omega
    exact .inl ⟨⟨xs, ys, qx, qy, .inl (Nat.le_refl _)⟩, hd σ H p⟩
def spNamesOf : Sp := fun vs H Q _ => ∃ (S : Addr → Prop) (v : V) (d : PyData) (n : Nat) (role : Str), vs = [v, .str role] ∧ role ∈ roles4 ∧ Dt S H v d ∧ rowD (cdOf n) d = true ∧ ∀ H' p, Same H H' → H p = none → H' p = some (.lst ((namesD role d).map V.str)) → (namesD role d).length ≤ 8 → Q (.ref p) H'
theorem role_part {n : Nat} {part : PyData} {known role : Str} (h : fitD (cdOf n) part known = true) (hr : role ∈ roles4) (e : known = role) : isNameD part = true := by
  subst e
  have n1 : known ≠ "code" := fun z => by rw [z] at hr; exact absurd hr (by decide +kernel)
  have n2 : known ≠ "registers" := fun z => by rw [z] at hr; exact absurd hr (by decide +kernel)
  unfold fitD at h
  rw [if_neg n1, if_neg n2] at h
  exact h
theorem role_args {n : Nat} {part : PyData} {known : Str} (h : fitD (cdOf n) part known = true) (e : known = "registers") : argsD part = true := by
  subst e
  unfold fitD at h
  rw [if_neg (by decide +kernel), if_pos rfl] at h
  exact h
theorem nm_few {n : Nat} {part : PyData} {known role : Str} (h : fitD (cdOf n) part known = true) : (nmD role part known).length ≤ 2 := by
  unfold nmD
  split
  · exact Nat.le_succ _
  · split
    · rename_i z
      have q := role_args h z.1
      cases part with
      | tuple ds =>
        have q : (decide (ds.length ≤ 2) && ds.all isNameD) = true := q
        have := of_decide_eq_true (Bool.and_eq_true_iff.mp q).1
        show (ds.map strD).length ≤ 2
        rw [List.length_map]
        exact this
      | _ => cases q
    · exact Nat.zero_le _
theorem flat_few {α : Type} : ∀ {l : List (List α)} {k : Nat}, (∀ x ∈ l, x.length ≤ k) → l.flatten.length ≤ k * l.length
  | [], _, _ => Nat.zero_le _
  | x :: r, k, h => by
    have h1 := h x List.mem_cons_self
    have h2 := flat_few (l := r) fun y hy => h y (List.mem_cons_of_mem _ hy)
    rw [List.flatten_cons, List.length_append, List.length_cons, Nat.mul_succ]
    omega
section
variable {P : Program} {w : World} {K : PySem.W.Frag} {mg : Str → Option Value} {base : Heap} {f fC : Addr} {fd dC : FuncData}
theorem scNO : FnScope ["statement", "role", "found", "part", "known"] ["statement", "role"] (defScope sNamesOf) := ⟨rfl, rfl, rfl, by decide +kernel, rfl, by decide +kernel, by decide +kernel⟩
theorem ok_namesof (F : Fun K "_names_of" "_names_of" sNamesOf f fd) (TF : TxtF K w mg) : FnOk P w K mg base CX0 1 f fd ["statement", "role"] spNamesOf := by
  refine F.ok scNO (fun vs H Q E h => ?_) (fun cdv A outer s H vs Q E hr h => ?_)
  · obtain ⟨S, v, d, n, role, rfl, _⟩ := h
    rfl
  · obtain ⟨S, v, d, n, role, rfl, hrole, hd, row, q⟩ := h
    obtain ⟨fa, es, nn, gM, KD, hno, hyes⟩ := TF.forms
    refine ⟨_, pss_cons (ps_set (i := 2) scNO.nd rfl (Or.inl rfl) (pe_lst pa_nil))
      (pss_cons (ps_for PassesOwn.never rfl (RZ.pi_zipA (by rfl) TF.zip (pa_cons (pe_slice sl_tupA (pv 0) (po_some pe_int) po_none) (pa_cons (pe_ix ix_kdict (pe_glob (v := .ref fa) (by rfl) gM rfl) (pe_ix ix_tup (pv 0) pe_int (fun _ _ => rfl)) (fun _ _ => rfl)) pa_nil)))
          (pg_tup rfl (pgs_cons (pg_name (i := 3) scNO.nd rfl (Or.inl rfl)) (pgs_cons (pg_name (i := 4) scNO.nd rfl (Or.inl rfl)) pgs_nil)))
        (pss_one (ps_if (pt_cmpR op_eq (pv 4) (pv 1) (nomark _)) (pss_one (ps_expr (pe_bm PySem.F.plainAttrs_list PySem.F.slot_list_append PySem.F.type_list_append mt_append (pv 2) (pa_cons (pv 3) pa_nil))))
          (pss_one (ps_if (PW.pt (pw_and (pt_cmpR op_eq (pv 4) pe_str (nomark _)) (pw_and1 (pt_cmpR op_eq (pv 1) pe_str (nomark _))))) (pss_one (ps_expr (pe_bm PySem.F.plainAttrs_list PySem.F.slot_list_extend PySem.F.type_list_extend mt_extT (pv 2) (pa_cons (pv 3) pa_nil)))) pss_nil)))))
      (pss_one (ps_ret (pv 2)))), ?_⟩
    obtain ⟨w0, rest, rs, rfl, hf, hlen, fits⟩ := rowD_shape row
    obtain ⟨a, xr, rfl, ea, hl, hx⟩ := hd.row
    obtain ⟨pf, hnf, hsf⟩ := hyes w0 rs hf
    have eL : namesD role (.tuple (.str w0 :: rest)) = (List.zipWith (nmD role) rest rs).flatten := by
      show (match formOf w0 with | some rs => (List.zipWith (nmD role) rest rs).flatten | none => []) = _
      rw [hf]
    rw [eL] at q
    have xl := hx.length
    have rl := form_len hf
    have each : ∀ {i : Nat} {part : PyData} {r0 : Str}, rest[i]? = some part → rs[i]? = some r0 → fitD (cdOf n) part r0 = true := fun {i part r0} h1 h2 => by
      have e : (List.zipWith (fitD (cdOf n)) rest rs)[i]? = some (fitD (cdOf n) part r0) := by rw [List.getElem?_zipWith, h1, h2]
      exact List.all_eq_true.mp fits _ (List.mem_of_getElem? e)
    have few : (List.zipWith (nmD role) rest rs).flatten.length ≤ 8 := by
      refine Nat.le_trans (flat_few (k := 2) fun x hx => ?_) ?_
      · obtain ⟨i, hi⟩ := List.getElem?_of_mem hx
        rw [List.getElem?_zipWith] at hi
        cases h1 : rest[i]? with
        | none => rw [h1] at hi; cases hi
        | some part =>
          cases h2 : rs[i]? with
          | none => rw [h1, h2] at hi; cases hi
          | some r0 =>
            rw [h1, h2] at hi
            rw [← Option.some.inj hi]
            exact nm_few (each h1 h2)
      · rw [List.length_zipWith]
        omega
    generalize eLL : List.zipWith (nmD role) rest rs = L at q few eL
    refine ⟨(by show 0 ≤ sizeLine; decide), fun p hp => ?_⟩
    have s0 := same_upd (o := .lst []) hp
    refine ⟨_, rfl, 1, rfl, a, _, rfl, SqT.of (s0 _ _ ea), fun hw => absurd hw cut_part, fun _ pc hpc => ?_⟩
    rw [cut_tail]
    have s1 := s0.trans (same_upd (o := .tup xr) hpc)
    have ppc : p ≠ pc := fun z => by
      rw [← z, upd_same] at hpc
      cases hpc
    refine ⟨_, rfl, a, _, 0, _, rfl, rfl, SqT.of (s1 _ _ ea), at0, fa, w0, .ref pf, rfl, rfl, ⟨es, nn, _, KD.at_, KD.lit, hnf, rfl⟩, ?_⟩
    refine ⟨pc, pf, xr, rs.map V.str, rfl, .inr ⟨SqT.of upd_same, hsf _, for_zipT (by rw [List.length_map]; omega) (fun i σ G => (∃ x3 x4, σ = [some (.ref a), some (.str role), some (.ref p), x3, x4]) ∧ Same H G ∧ G pc = some (.tup xr) ∧ G p = some (.lst ((L.take i).flatten.map V.str)))
      ⟨⟨_, _, rfl⟩, s1, upd_same, by rw [upd_ne ppc]; exact upd_same⟩ (fun i σ G h => ⟨SqT.of h.2.2.1, hsf _⟩) (fun i x y T σ G hxi hyi h hT => ?_) (fun σ G h => ?_)⟩⟩
    · obtain ⟨⟨x3, x4, rfl⟩, s2, epc, ep⟩ := h
      obtain ⟨part, hpi, hpt⟩ := hx.get hxi
      rw [List.getElem?_map] at hyi
      obtain ⟨r0, hr0, rfl⟩ := Option.map_eq_some_iff.mp hyi
      have fit := each hpi hr0
      have eLi : L[i]? = some (nmD role part r0) := by rw [← eLL, List.getElem?_zipWith, hpi, hr0]
      have take : (L.take (i + 1)).flatten = (L.take i).flatten ++ nmD role part r0 := by
        rw [List.take_add_one, eLi, List.flatten_append]
        simp
      have sT := same_upd (o := .tup [x, .str r0]) hT
      have s3 := s2.trans sT
      have ep3 := sT _ _ ep
      have epc3 := sT _ _ epc
      have le : (L.take (i + 1)).flatten.length ≤ 8 := by
        refine Nat.le_trans ?_ few
        conv => rhs; rw [← List.take_append_drop (i + 1) L, List.flatten_append, List.length_append]
        exact Nat.le_add_right _ _
      rw [take, List.length_append] at le
      have line : (1000 : Nat) < sizeLine := by decide
      have lm : ((L.take i).flatten.map V.str).length = (L.take i).flatten.length := List.length_map _
      refine ⟨T, _, rfl, SqT.of upd_same, rfl, _, _, rfl, _, _, rfl, rfl, ?_⟩
      refine ⟨_, rfl, _, rfl, rfl, _, rfl, ite2 (fun h1 => ?_) (fun h1 => ?_)⟩
      · have e1 : r0 = role := V.str.inj (of_decide_eq_true h1)
        have nm := role_part fit hrole e1
        cases part with
        | str z =>
          obtain rfl : x = .str z := by
            cases hpt with
            | «at» a => cases a <;> rfl
          refine ⟨_, rfl, .inl ⟨rfl, _, SqL.of ep3⟩, _, rfl, p, _, .str z, rfl, rfl, ep3, by omega, ⟨_, _, rfl⟩, same_put hp s3, by rw [upd_ne (Ne.symm ppc)]; exact epc3, ?_⟩
          rw [upd_same, take, List.map_append]
          have : nmD role (.str z) r0 = [z] := if_pos e1
          rw [this]
          rfl
        | _ => cases nm
      · have n1 : r0 ≠ role := fun z => h1 (decide_eq_true (by rw [z]))
        have stay : nmD role part r0 = [] → (∃ x3' x4', [some (V.ref a), some (.str role), some (.ref p), some x, some (.str r0)] = [some (V.ref a), some (.str role), some (.ref p), x3', x4']) ∧ Same H (upd G T (.tup [x, .str r0])) ∧ (upd G T (.tup [x, .str r0])) pc = some (.tup xr) ∧ (upd G T (.tup [x, .str r0])) p = some (.lst ((L.take (i + 1)).flatten.map V.str)) := fun e => by
          refine ⟨⟨_, _, rfl⟩, s3, epc3, ?_⟩
          rw [take, e, List.append_nil]
          exact ep3
        refine ⟨_, rfl, rfl, _, rfl, ite2 (fun h2 => ?_) (fun h2 => ?_)⟩
        · have e2 : r0 = "registers" := V.str.inj (of_decide_eq_true h2)
          refine ⟨_, rfl, rfl, _, rfl, ite2 (fun h3 => ?_) (fun h3 => ?_)⟩
          · have e3 : role = "register" := V.str.inj (of_decide_eq_true h3)
            have ar := role_args fit e2
            cases part with
            | tuple ds =>
              have ar : (decide (ds.length ≤ 2) && ds.all isNameD) = true := ar
              obtain ⟨b, zs, rfl, eb, bl, hz⟩ := hpt.tup_of
              have ez := dt_names hz (Bool.and_eq_true_iff.mp ar).2
              have em : nmD role (.tuple ds) r0 = ds.map strD := by
                unfold nmD
                rw [if_neg n1, if_pos ⟨e2, e3⟩]
                rfl
              rw [em, List.length_map] at le
              have lz : zs.length = ds.length := hz.length
              refine ⟨_, rfl, .inl ⟨rfl, _, SqL.of ep3⟩, _, rfl, p, b, _, zs, rfl, rfl, ep3, SqT.of (s3 _ _ eb), by omega, ⟨_, _, rfl⟩, same_put hp s3, by rw [upd_ne (Ne.symm ppc)]; exact epc3, ?_⟩
              rw [upd_same, take, List.map_append, em, ez]
            | _ => cases ar
          · exact stay (by
              unfold nmD
              rw [if_neg n1, if_neg fun z => h3 (decide_eq_true (by rw [z.2]))])
        · exact iteF (stay (by
            unfold nmD
            rw [if_neg n1, if_neg fun z => h2 (decide_eq_true (by rw [z.1]))]))
    · obtain ⟨⟨x3, x4, rfl⟩, s2, epc, ep⟩ := h
      have lL : L.length = xr.length := by
        rw [← eLL, List.length_zipWith]
        omega
      rw [← lL, List.take_length] at ep
      exact ⟨_, rfl, q _ p s2 hp ep few⟩
end
end OM

namespace OM
open PySem PySem.Spec PyProof.Rows L2
theorem goes_list {K : PySem.W.Frag} {a : Addr} {xs : List V} {H0 : Hp} {Z : Hp → Prop} {step : V → Hp → (Hp → Prop) → Prop} (Pv : Nat → Hp → Prop) (h0 : Pv 0 H0) (hl : ∀ i H, Pv i H → SqL K H a xs) (hs : ∀ i x H, xs[i]? = some x → Pv i H → step x H (Pv (i + 1))) (hd : ∀ H, Pv xs.length H → Z H) :
    ∃ W : Nat → Nat → Hp → Prop, (∃ m, W 0 m H0) ∧ goes (Itl K a) W Z step := by
  refine ⟨fun i m H => m = xs.length - i ∧ i ≤ xs.length ∧ Pv i H, ⟨_, rfl, Nat.zero_le _, h0⟩, ?_⟩
  rintro i m H ⟨rfl, hi, p⟩
  have q := hl i H p
  rcases Nat.lt_or_ge i xs.length with hlt | hge
  · refine .inr ⟨⟨xs, xs[i], q, by simp [hlt]⟩, Pv (i + 1), fun H' p' => ⟨xs.length - (i + 1), by omega, rfl, hlt, p'⟩, fun x H' y => ?_⟩
    obtain ⟨rfl, y⟩ := y
    exact hs i x _ (y xs q) p
  · obtain rfl : i = xs.length := by omega
    exact .inl ⟨⟨xs, q, Nat.le_refl _⟩, hd H p⟩
theorem pi_listK {X : Cx} {K : PySem.W.Frag} {tg l : Expr} {tl : TE} (hK : X.K = K) (hl : PE X l tl) : PI X tg l (iList K tl) := by
  subst hK
  exact pi_list hl
theorem firsts_snoc (l : List Str) (z : Str) : firsts [] (l ++ [z]) = addX (firsts [] l) z := by
  unfold firsts
  rw [List.foldl_append]
  rfl
theorem flatMap_few {α β : Type} {f : α → List β} {k : Nat} : ∀ {l : List α}, (∀ x ∈ l, (f x).length ≤ k) → (l.flatMap f).length ≤ k * l.length
  | [], _ => Nat.zero_le _
  | x :: r, h => by
    have h1 := h x List.mem_cons_self
    have h2 := flatMap_few (l := r) fun y hy => h y (List.mem_cons_of_mem _ hy)
    rw [List.flatMap_cons, List.length_append, List.length_cons, Nat.mul_succ]
    omega
theorem names_few {n : Nat} {d : PyData} {role : Str} (row : rowD (cdOf n) d = true) : (namesD role d).length ≤ 8 := by
  obtain ⟨w0, rest, rs, rfl, hf, hlen, fits⟩ := rowD_shape row
  have eL : namesD role (.tuple (.str w0 :: rest)) = (List.zipWith (nmD role) rest rs).flatten := by
    show (match formOf w0 with | some rs => (List.zipWith (nmD role) rest rs).flatten | none => []) = _
    rw [hf]
  have rl := form_len hf
  rw [eL]
  refine Nat.le_trans (flat_few (k := 2) fun x hx => ?_) ?_
  · obtain ⟨i, hi⟩ := List.getElem?_of_mem hx
    rw [List.getElem?_zipWith] at hi
    cases h1 : rest[i]? with
    | none => rw [h1] at hi; cases hi
    | some part =>
      cases h2 : rs[i]? with
      | none => rw [h1, h2] at hi; cases hi
      | some r0 =>
        rw [h1, h2] at hi
        rw [← Option.some.inj hi]
        have e : (List.zipWith (fitD (cdOf n)) rest rs)[i]? = some (fitD (cdOf n) part r0) := by rw [List.getElem?_zipWith, h1, h2]
        exact nm_few (n := n) (List.all_eq_true.mp fits _ (List.mem_of_getElem? e))
  · rw [List.length_zipWith]
    omega
structure TxtS (mg : Str → Option Value) : Prop where
  sorted : mg "sorted" = none
  tuple : mg "tuple" = none
  sum : mg "sum" = none
  max : mg "max" = none
  len : mg "len" = none
def spNamesIn : Sp := fun vs H Q _ => ∃ (S : Addr → Prop) (v : V) (ds : List PyData) (role : Str), vs = [v, .str role] ∧ role ∈ roles4 ∧ Dt S H v (.tuple ds) ∧ ds.all (rowD (cdOf 3)) = true ∧ (flatN 3 ds).length ≤ 400 ∧ ∀ H' p ys, Same H H' → H p = none → H' p = some (.tup (ys.map V.str)) → ys.Perm (firsts [] ((flatN 3 ds).flatMap (namesD role))) → sortedS ys = true → Q (.ref p) H'
theorem rows_flatS {n : Nat} : ∀ {d : PyData}, rowD (cdOf n) d = true → ∀ e ∈ flatS n d, ∃ m, rowD (cdOf m) e = true := by
  induction n with
  | zero =>
    intro d row e he
    rw [List.mem_singleton.mp he]
    exact ⟨0, row⟩
  | succ n ih =>
    intro d row e he
    rcases List.mem_cons.mp he with rfl | he
    · exact ⟨n + 1, row⟩
    · obtain ⟨c, hc, he⟩ := List.mem_flatMap.mp he
      obtain ⟨d', hd', he⟩ := List.mem_flatMap.mp he
      obtain ⟨m, em, rows, _⟩ := row_in row hc
      obtain rfl : n = m := by omega
      exact ih (List.all_eq_true.mp rows d' hd') e he
section
variable {P : Program} {w : World} {K : PySem.W.Frag} {mg : Str → Option Value} {base : Heap} {f fC fF fO : Addr} {fd dC dF dO : FuncData}
/-- flattened, codes_in, _names_of as they stand -/
structure FlatF (K : PySem.W.Frag) (mg : Str → Option Value) (fF fC fO : Addr) (dF dC dO : FuncData) : Prop where
  FF : Fun K "flattened" "flattened" sFlat fF dF
  FC : Fun K "codes_in" "codes_in" sCin fC dC
  FO : Fun K "_names_of" "_names_of" sNamesOf fO dO
  gF : mg "flattened" = some (.ref fF)
  gC : mg "codes_in" = some (.ref fC)
  gO : mg "_names_of" = some (.ref fO)
  bF : Binds K dF ["code"] []
  bC : Binds K dC ["statement"] []
  bO : Binds K dO ["statement", "role"] []
theorem ok_flat (C : FlatF K mg fF fC fO dF dC dO) : ∀ n, FnOk P w K mg base CX0 (n + 1) fF dF ["code"] (spFlatAt n)
  | 0 => ⟨fun _ _ _ _ h => h.elim, fun _ _ _ _ _ _ _ _ _ _ _ _ _ h => h.elim⟩
  | n + 1 => flat_step C.FF C.gF C.bF (ok_flat C n) C.FC C.gC C.bC
theorem scNI : FnScope ["code", "role", "name", "statement"] ["code", "role"] (defScope sNamesIn) := ⟨rfl, rfl, rfl, by decide +kernel, rfl, by decide +kernel, by decide +kernel⟩
theorem ok_namesin (F : Fun K "names_in" "names_in" sNamesIn f fd) (TF : TxtF K w mg) (TS : TxtS mg) (C : FlatF K mg fF fC fO dF dC dO) : FnOk P w K mg base CX0 6 f fd ["code", "role"] spNamesIn := by
  have GF : FnOk P w K mg base CX0 5 fF dF ["code"] (spFlatAt 4) := ok_flat C 4
  have GO : FnOk P w K mg base CX0 1 fO dO ["statement", "role"] spNamesOf := ok_namesof C.FO TF
  refine F.ok scNI (fun vs H Q E h => ?_) (fun cdv A outer s H vs Q E hr h => ?_)
  · obtain ⟨S, v, ds, role, rfl, _⟩ := h
    rfl
  · obtain ⟨S, v, ds, role, rfl, hrole, hd, rows, size, q⟩ := h
    refine ⟨_, pss_one (ps_ret (pe_callTy call_tuple_of (by rfl) TS.tuple (by decide +kernel) (pa_cons (pe_callB (cr_sortX rfl) (by rfl) TS.sorted (by decide +kernel) (pa_cons (pe_sx2 (own := [("name", 2), ("statement", 3)]) (vs1 := [2]) rfl scNI.nd
      (pi_list (pe_call GF hr (by rfl) C.gF C.FF.kp C.bF .nil pass0 (pa_cons (pv 0) pa_nil))) (blkOk_by (N := ["code", "role", "name", "statement"]) (sc := defScope sNamesIn) (by decide +kernel)) (by simp)
      (fun _ _ _ _ _ => pg_name (i := 3) scNI.nd rfl (Or.inl rfl)) (fun _ _ _ _ _ => pts_nil)
      (fun _ _ _ _ _ => pi_listK (K := K) rfl (pe_call GO (hr.mono (by decide)) (by rfl) C.gO C.FO.kp C.bO .nil pass0 (pa_cons (pv 3) (pa_cons (pv 1) pa_nil)))) (fun _ _ _ _ _ => pg_name (i := 2) scNI.nd rfl (Or.inl rfl)) (fun _ _ _ _ _ => pts_nil)
      (fun _ _ _ _ _ => pv 2)) pa_nil)) pa_nil))), ?_⟩
    have live : ∀ b, (S b ∧ H b ≠ none) → H b ≠ none := fun b z => z.2
    refine ⟨_, rfl, _, v, ds, rfl, hd.live, rows, Nat.le_trans size (by decide), fun H1 pl xs s1 hpl epl dl => ⟨pl, rfl, ⟨xs, SqL.of epl⟩, fun D hD => goes_list (xs := xs) (fun i H' => Same H1 H' ∧ H' D = some (SetTO w D (firsts [] (((flatN 3 ds).take i).flatMap (namesD role))))) ⟨same_upd hD, upd_same⟩ (fun i H' h => SqL.of (h.1 _ _ epl)) (fun i x H' hx h => ?_) (fun H' h => ?_)⟩⟩
    · obtain ⟨s2, eD⟩ := h
      obtain ⟨d, hdi, hdt⟩ := dl.get hx
      obtain ⟨d0, hd0, hmem⟩ := List.mem_flatMap.mp (List.mem_of_getElem? hdi)
      obtain ⟨m, row⟩ := rows_flatS (List.all_eq_true.mp rows d0 hd0) d hmem
      have take : ((flatN 3 ds).take (i + 1)).flatMap (namesD role) = ((flatN 3 ds).take i).flatMap (namesD role) ++ namesD role d := by
        rw [List.take_add_one, hdi, List.flatMap_append]
        simp
      refine ⟨rfl, _, rfl, _, rfl, _, x, d, m, role, rfl, hrole, hdt.base live s1 (s1.trans s2), row, fun H3 pn s3 hpn epn few => ⟨pn, rfl, ⟨_, SqL.of epn⟩, goes_list (xs := (namesD role d).map V.str) (fun j H4 => Same H1 H4 ∧ H4 pn = some (.lst ((namesD role d).map V.str)) ∧ H4 D = some (SetTO w D (firsts [] (((flatN 3 ds).take i).flatMap (namesD role) ++ (namesD role d).take j)))) ⟨s2.trans s3, epn, by rw [List.take_zero, List.append_nil]; exact s3 _ _ eD⟩ (fun j H4 h => SqL.of h.2.1) (fun j y H4 hy h => ?_) (fun H4 h => ?_)⟩⟩
      · obtain ⟨s4, en4, eD4⟩ := h
        rw [List.getElem?_map] at hy
        obtain ⟨z, hz, rfl⟩ := Option.map_eq_some_iff.mp hy
        refine ⟨rfl, _, rfl, z, _, rfl, eD4, ?_, same_put hD s4, ?_, ?_⟩
        · have l1 := len_firsts (((flatN 3 ds).take i).flatMap (namesD role) ++ (namesD role d).take j) []
          have l2 : (((flatN 3 ds).take i).flatMap (namesD role)).length ≤ 8 * ((flatN 3 ds).take i).length := flatMap_few fun e he => by
            obtain ⟨d1, hd1, hm1⟩ := List.mem_flatMap.mp (List.mem_of_mem_take he)
            obtain ⟨m1, row1⟩ := rows_flatS (List.all_eq_true.mp rows d1 hd1) e hm1
            exact names_few row1
          have l3 : ((flatN 3 ds).take i).length ≤ (flatN 3 ds).length := List.length_take_le' _ _
          have l4 : ((namesD role d).take j).length ≤ (namesD role d).length := List.length_take_le' _ _
          have l5 : scanBound = 4096 := rfl
          rw [List.length_append] at l1
          simp only [List.length_nil] at l1
          omega
        · rw [upd_ne (fun z => by rw [z, eD4] at en4; cases en4)]
          exact en4
        · rw [upd_same, List.take_add_one, hz, ← List.append_assoc]
          show _ = some (SetTO w D (firsts [] (_ ++ [z])))
          rw [firsts_snoc]
          rfl
      · obtain ⟨s4, en4, eD4⟩ := h
        refine ⟨s4, ?_⟩
        rw [List.length_map, List.take_length, ← take] at eD4
        exact eD4
    · obtain ⟨s2, eD⟩ := h
      rw [dl.length, List.take_length] at eD
      refine ⟨D, _, rfl, eD, fun ys p3 pm so hp3 => ⟨p3, _, rfl, .inl ⟨SqL.of upd_same, fun p4 hp4 => ?_⟩⟩⟩
      have s3 := (s1.trans s2).trans (same_upd (o := .lst (ys.map V.str)) hp3)
      exact q _ p4 ys (s3.trans (same_upd hp4)) (s3.free hp4) upd_same pm so
end
end OM

namespace OM
open PySem PySem.Spec PyProof.Rows L2
abbrev sMost : Stmt := top 39
abbrev sMostAt : Stmt := top 40
abbrev sKind : Stmt := top 41
/-- what a statement counts as on a path -/
def kindD : PyData → Str
  | .tuple (.str w :: rest) => if w = "get" ∨ w = "put" then "letter" else if w = "set" then (match rest with | [_, _, .tuple []] => "constant" | _ => "set") else w
  | _ => ""
def ownD (k : Str) (d : PyData) : Nat := if kindD d = k then 1 else 0
def maxL : List Nat → Nat
  | [] => 0
  | x :: r => max x (maxL r)
def mostS : Nat → Str → PyData → Nat
  | 0, k, d => ownD k d
  | n + 1, k, d => ownD k d + maxL ((inner2 d).map fun c => (c.map (mostS n k)).sum)
def mostN (n : Nat) (k : Str) (ds : List PyData) : Nat := (ds.map (mostS n k)).sum
theorem inV_two (x a b : Str) : inV (.str x) [.str a, .str b] = true ↔ x = a ∨ x = b := by
  have h : ∀ y : Str, (y == x) = decide (x = y) := fun y => by
    rw [Bool.eq_iff_iff, beq_iff_eq, decide_eq_true_iff, eq_comm]
  unfold inV
  simp only [List.any_cons, List.any_nil, eqV, h, Bool.or_false, Bool.or_eq_true, decide_eq_true_iff]
def spKind : Sp := fun vs H Q _ => ∃ (S : Addr → Prop) (v : V) (d : PyData) (n : Nat), vs = [v] ∧ Dt S H v d ∧ rowD (cdOf n) d = true ∧ ∀ H', Same H H' → Q (.str (kindD d)) H'
def spMostAt (n : Nat) : Sp := fun vs H Q _ => ∃ (S : Addr → Prop) (v : V) (d : PyData) (k : Str), vs = [v, .str k] ∧ Dt S H v d ∧ rowD (cdOf n) d = true ∧ ∀ H', Same H H' → Q (.int (mostS n k d)) H'
def spMost : Nat → Sp
  | 0 => fun _ _ _ _ => False
  | n + 1 => fun vs H Q _ => ∃ (S : Addr → Prop) (v : V) (ds : List PyData) (k : Str), vs = [v, .str k] ∧ Dt S H v (.tuple ds) ∧ ds.all (rowD (cdOf n)) = true ∧ ∀ H', Same H H' → Q (.int (mostN n k ds)) H'
section
variable {P : Program} {w : World} {K : PySem.W.Frag} {mg : Str → Option Value} {base : Heap} {f fC fK fA : Addr} {fd dC dK dA : FuncData}
theorem scKd : FnScope ["statement"] ["statement"] (defScope sKind) := ⟨rfl, rfl, rfl, by decide +kernel, rfl, by decide +kernel, by decide +kernel⟩
theorem ok_kind (F : Fun K "_path_kind" "_path_kind" sKind f fd) : FnOk P w K mg base CX0 1 f fd ["statement"] spKind := by
  refine F.ok scKd (fun vs H Q E h => ?_) (fun cdv A outer s H vs Q E hr h => ?_)
  · obtain ⟨S, v, d, n, rfl, _⟩ := h
    rfl
  · obtain ⟨S, v, d, n, rfl, hd, row, q⟩ := h
    refine ⟨_, pss_cons (ps_if (pt_cmpR op_in_seq (pe_ix ix_tup (pv 0) pe_int (fun _ _ => rfl)) (pe_tup (pa_cons pe_str (pa_cons pe_str pa_nil))) (by rfl)) (pss_one (ps_ret pe_str)) pss_nil)
      (pss_cons (ps_if (pt_cmpR op_eq (pe_ix ix_tup (pv 0) pe_int (fun _ _ => rfl)) pe_str (nomark _)) (pss_one (ps_ret (pe_ifExp (pt_truth (pe_ix ix_tup (pv 0) pe_int (fun _ _ => rfl)) (by intro _; rfl)) pe_str pe_str))) pss_nil)
      (pss_one (ps_ret (pe_ix ix_tup (pv 0) pe_int (fun _ _ => rfl))))), ?_⟩
    obtain ⟨w0, rest, rs, rfl, hf, hlen, fits⟩ := rowD_shape row
    obtain ⟨a, xr, rfl, ea, hl, hx⟩ := hd.row
    refine ⟨_, rfl, a, _, 0, _, rfl, rfl, SqT.of ea, at0, (by show 2 ≤ sizeLine; decide), fun pt hpt => ?_⟩
    have s1 := same_upd (o := .tup [.str "get", .str "put"]) hpt
    refine ⟨pt, _, rfl, .inr (SqT.of upd_same), rfl, by decide, _, rfl, ite2 (fun h1 => ?_) (fun h1 => ?_)⟩
    · have e : kindD (.tuple (.str w0 :: rest)) = "letter" := if_pos ((inV_two _ _ _).mp h1)
      have z := q _ s1
      rw [e] at z
      exact z
    · have n1 : ¬ (w0 = "get" ∨ w0 = "put") := fun z => h1 ((inV_two _ _ _).mpr z)
      refine ⟨_, rfl, a, _, 0, _, rfl, rfl, SqT.of (s1 _ _ ea), at0, rfl, _, rfl, ite2 (fun h2 => ?_) (fun h2 => ?_)⟩
      · obtain rfl : w0 = "set" := V.str.inj (of_decide_eq_true h2)
        have e4 : formOf "set" = some (["register", "function", "registers"] : List Str) := by decide +kernel
        rw [e4] at hf
        obtain rfl := (Option.some.inj hf).symm
        match rest, hlen with
        | [d1, d2, d3], _ =>
          rw [row_set] at row
          simp only [Bool.and_eq_true, and_true] at row
          obtain ⟨_, _, ar⟩ := row
          cases d3 with
          | tuple ds =>
            cases hx with
            | @cons x1 _ _ _ k1 hx =>
              cases hx with
              | @cons x2 _ _ _ k2 hx =>
                cases hx with
                | @cons x3 _ _ _ k3 hx =>
                  cases hx
                  obtain ⟨b, zs, rfl, eb, bl, hz⟩ := k3.tup_of
                  have lz := hz.length
                  refine ⟨_, rfl, a, _, 3, .ref b, rfl, rfl, SqT.of (s1 _ _ ea), rfl, !zs.isEmpty, .inr (.inl ⟨zs, SqT.of (s1 _ _ eb), rfl⟩), ?_⟩
                  cases hz with
                  | nil => exact iteF (q _ s1)
                  | cons _ _ => exact iteT (q _ s1)
          | _ => cases ar
      · have n2 : w0 ≠ "set" := fun z => h2 (decide_eq_true (by rw [z]))
        have e : kindD (.tuple (.str w0 :: rest)) = w0 := by
          show (if _ then _ else _) = _
          rw [if_neg n1, if_neg n2]
        have z := q _ s1
        rw [e] at z
        exact ⟨_, rfl, a, _, 0, _, rfl, rfl, SqT.of (s1 _ _ ea), at0, z⟩
theorem scMA : FnScope ["statement", "kind", "own", "inner"] ["statement", "kind"] (defScope sMostAt) := ⟨rfl, rfl, rfl, by decide +kernel, rfl, by decide +kernel, by decide +kernel⟩
theorem scMo : FnScope ["code", "kind", "statement"] ["code", "kind"] (defScope sMost) := ⟨rfl, rfl, rfl, by decide +kernel, rfl, by decide +kernel, by decide +kernel⟩
/-- a list of numbers that grows -/
def PvI (H : Hp) (D : Addr) (bs : List Nat) (i : Nat) (H' : Hp) : Prop := Same H H' ∧ H' D = some (.lst ((bs.take i).map fun n : Nat => V.int (n : Int)))
theorem PvI.step {H H3 H4 : Hp} {D : Addr} {bs : List Nat} {i b : Nat} (hD : H D = none) (hl : bs.length ≤ 1000) (hb : bs[i]? = some b) (p : PvI H D bs i H3) (s : Same H3 H4) : ∃ acc, H4 D = some (.lst acc) ∧ acc.length < sizeLine ∧ PvI H D bs (i + 1) (upd H4 D (.lst (acc ++ [V.int (b : Int)]))) := by
  refine ⟨_, s _ _ p.2, ?_, same_put hD (p.1.trans s), ?_⟩
  · rw [List.length_map, List.length_take]
    have : (1000 : Nat) < sizeLine := by decide
    omega
  · rw [upd_same, List.take_add_one, hb, List.map_append]
    rfl
theorem PvI.all {H H5 : Hp} {D : Addr} {bs : List Nat} {n : Nat} (p : PvI H D bs n H5) (hn : n = bs.length) : Same H H5 ∧ H5 D = some (.lst ((bs.map fun n : Nat => (n : Int)).map V.int)) := by
  have e := p.2
  rw [hn, List.take_length] at e
  rw [List.map_map]
  exact ⟨p.1, e⟩
theorem sum_nat (bs : List Nat) : (bs.map fun n : Nat => (n : Int)).sum = ((bs.sum : Nat) : Int) := by
  induction bs with
  | nil => rfl
  | cons b r ih =>
    rw [List.map_cons, List.sum_cons, List.sum_cons, ih]
    omega
theorem maxL_of (bs : List Nat) {m : Int} (h : m ∈ (bs.map fun n : Nat => (n : Int))) (hm : ∀ y ∈ (bs.map fun n : Nat => (n : Int)), y ≤ m) : m = ((maxL bs : Nat) : Int) := by
  have le : ∀ bs : List Nat, ∀ b ∈ bs, b ≤ maxL bs := fun bs => by
    induction bs with
    | nil => intro b h; cases h
    | cons x r ih =>
      intro b h
      show b ≤ max x (maxL r)
      rcases List.mem_cons.mp h with rfl | h
      · omega
      · have := ih b h
        omega
  have mem : ∀ bs : List Nat, bs ≠ [] → maxL bs ∈ bs := fun bs => by
    induction bs with
    | nil => intro h; exact absurd rfl h
    | cons x r ih =>
      intro _
      show max x (maxL r) ∈ x :: r
      cases r with
      | nil =>
        show max x 0 ∈ [x]
        rw [Nat.max_zero]
        exact List.mem_cons_self
      | cons y r =>
        have := ih (by simp)
        rcases Nat.le_total x (maxL (y :: r)) with h | h
        · rw [Nat.max_eq_right h]
          exact List.mem_cons_of_mem _ this
        · rw [Nat.max_eq_left h]
          exact List.mem_cons_self
  obtain ⟨b, hb, rfl⟩ := List.mem_map.mp h
  have h1 := le bs b hb
  have h2 := hm _ (List.mem_map.mpr ⟨maxL bs, mem bs (fun z => by rw [z] at hb; cases hb), rfl⟩)
  omega
theorem mostS_row {n : Nat} {k : Str} {d : PyData} (row : rowD (cdOf n) d = true) : mostS n k d = ownD k d + maxL ((inner2 d).map fun c => (c.map (mostS (n - 1) k)).sum) := by
  cases n with
  | succ m => rfl
  | zero =>
    rcases row_iff row with ⟨m, _, _, _, _, e, _⟩ | ⟨_, _, _, _, e⟩
    · cases e
    · rw [e]
      rfl
theorem most_step {n j : Nat} (F : Fun K "most_on_path" "most_on_path" sMost f fd) (TS : TxtS mg) (gA : mg "_most_at" = some (.ref fA)) (kA : PySem.W.keepIn K (.ref fA) = true) (bA : Binds K dA ["statement", "kind"] []) (GA : FnOk P w K mg base CX0 j fA dA ["statement", "kind"] (spMostAt n)) :
    FnOk P w K mg base CX0 (j + 1) f fd ["code", "kind"] (spMost (n + 1)) := by
  refine F.ok scMo (fun vs H Q E h => ?_) (fun cdv A outer s H vs Q E hr h => ?_)
  · obtain ⟨S, v, ds, k, rfl, _⟩ := h
    rfl
  · obtain ⟨S, v, ds, k, rfl, hd, rows, q⟩ := h
    refine ⟨_, pss_one (ps_ret (pe_callB (cr_sum rfl) (by rfl) TS.sum (by decide +kernel) (pa_cons (pe_lc (own := [("statement", 2)]) rfl scMo.nd (pi_tup (pv 0)) (blkOk_by (N := ["code", "kind", "statement"]) (sc := defScope sMost) (by decide +kernel))
      (fun _ _ _ _ _ => pg_name (i := 2) scMo.nd rfl (Or.inl rfl)) (fun _ _ _ _ _ => pts_nil) (fun _ _ _ _ _ => pe_call GA hr (by rfl) gA kA bA .nil pass0 (pa_cons (pv 2) (pa_cons (pv 1) pa_nil)))) pa_nil))), ?_⟩
    obtain ⟨a, xs, rfl, ea, hl, hx⟩ := hd.live.tup_of
    have live : ∀ b, (S b ∧ H b ≠ none) → H b ≠ none := fun b z => z.2
    refine ⟨_, rfl, a, rfl, ⟨xs, SqT.of ea⟩, fun Dl hD => lc_tup (PvI H Dl (ds.map (mostS n k))) ⟨same_upd hD, upd_same⟩ (fun i H' _ p => SqT.of (p.1 _ _ ea)) (fun i x H3 hi p => ?_) (fun H5 p => ?_)⟩
    · obtain ⟨d, hdi, hdt⟩ := hx.get hi
      have := hx.length
      refine ⟨rfl, _, rfl, _, rfl, _, x, d, k, rfl, hdt.base live (Same.refl H) p.1, List.all_eq_true.mp rows d (List.mem_of_getElem? hdi), fun H4 s4 => p.step hD (by rw [List.length_map]; omega) (by rw [List.getElem?_map, hdi]; rfl) s4⟩
    · obtain ⟨s5, e5⟩ := p.all (by rw [List.length_map]; exact hx.length)
      refine ⟨Dl, _, rfl, SqL.of e5, ?_⟩
      have z := q _ s5
      rw [sum_nat]
      exact z
theorem mostat_ok {n j : Nat} (F : Fun K "_most_at" "_most_at" sMostAt fA dA) (TS : TxtS mg) (gM : mg "most_on_path" = some (.ref f)) (kM : PySem.W.keepIn K (.ref f) = true) (bM : Binds K fd ["code", "kind"] []) (GM : FnOk P w K mg base CX0 (j + 1) f fd ["code", "kind"] (spMost n))
    (FC : Fun K "codes_in" "codes_in" sCin fC dC) (gC : mg "codes_in" = some (.ref fC)) (bC : Binds K dC ["statement"] []) (FK : Fun K "_path_kind" "_path_kind" sKind fK dK) (gK : mg "_path_kind" = some (.ref fK)) (bK : Binds K dK ["statement"] []) :
    FnOk P w K mg base CX0 (j + 2) fA dA ["statement", "kind"] (spMostAt n) := by
  have GC : FnOk P w K mg base CX0 1 fC dC ["statement"] spCin := ok_cin FC
  have GK : FnOk P w K mg base CX0 1 fK dK ["statement"] spKind := ok_kind FK
  refine F.ok scMA (fun vs H Q E h => ?_) (fun cdv A outer s H vs Q E hr h => ?_)
  · obtain ⟨S, v, d, k, rfl, _⟩ := h
    rfl
  · obtain ⟨S, v, d, k, rfl, hd, row, q⟩ := h
    have hu : (A.deeper (envOfC "_most_at" (defScope sMostAt) s.heap.objs.size fA cdv)).units + 1 < cLine := by
      have := hr.un
      omega
    refine ⟨_, pss_cons (ps_set (i := 2) scMA.nd rfl (Or.inl rfl) (pe_ifExp (pt_cmpR op_eq (pe_call GK (hr.mono (by omega)) (by rfl) gK FK.kp bK .nil pass0 (pa_cons (pv 0) pa_nil)) (pv 1) (nomark _)) pe_int pe_int))
      (pss_one (ps_ret (pe_op op_add (pv 2) (pe_callBK (cr_maxDef rfl hu) (by rfl) TS.max (by decide +kernel) (pa_cons (pe_lc (own := [("inner", 3)]) rfl scMA.nd (pi_tup (pe_call GC (hr.mono (by omega)) (by rfl) gC FC.kp bC .nil pass0 (pa_cons (pv 0) pa_nil))) (blkOk_by (N := ["statement", "kind", "own", "inner"]) (sc := defScope sMostAt) (by decide +kernel))
        (fun _ _ _ _ _ => pg_name (i := 3) scMA.nd rfl (Or.inl rfl)) (fun _ _ _ _ _ => pts_nil) (fun _ _ _ _ _ => pe_call GM hr (by rfl) gM kM bM .nil pass0 (pa_cons (pv 3) (pa_cons (pv 1) pa_nil)))) pa_nil) (pk_cons pe_int pk_nil))))), ?_⟩
    have live : ∀ b, (S b ∧ H b ≠ none) → H b ≠ none := fun b z => z.2
    refine ⟨_, rfl, S, v, d, n, rfl, hd, row, fun H1 s1 => ⟨_, rfl, rfl, _, rfl, ite2 (fun h1 => ?_) (fun h1 => ?_)⟩⟩
    all_goals
      refine ⟨_, rfl, _, rfl, _, v, d, n, rfl, hd.live.base live (Same.refl H) s1, row, fun H3 pc cs s3 hpc epc dc => ⟨pc, rfl, ⟨cs, SqT.of epc⟩, fun Dl hD => lc_tup (PvI H3 Dl ((inner2 d).map fun c => (c.map (mostS (n - 1) k)).sum)) ⟨same_upd hD, upd_same⟩ (fun i H' _ p => SqT.of (p.1 _ _ epc)) (fun i x H4 hi p => ?_) (fun H5 p => ?_)⟩⟩
      · obtain ⟨cdt, hcd, hct⟩ := dc.get hi
        rw [List.getElem?_map] at hcd
        obtain ⟨cd, hc2, rfl⟩ := Option.map_eq_some_iff.mp hcd
        obtain ⟨m, rfl, rows', _⟩ := row_in row (List.mem_of_getElem? hc2)
        have two : (inner2 d).length ≤ 2 := by
          rcases row_iff row with ⟨_, _, _, _, _, _, rfl, _⟩ | ⟨_, _, _, _, e⟩
          · exact Nat.le_refl 2
          · rw [e]
            exact Nat.zero_le _
        refine ⟨rfl, _, rfl, _, rfl, _, x, cd, k, rfl, hct.base live (s1.trans s3) ((s1.trans s3).trans p.1), rows', fun H6 s6 => p.step (b := mostN m k cd) hD (by rw [List.length_map]; omega) (by rw [List.getElem?_map, hc2]; rfl) s6⟩
      · obtain ⟨s5, e5⟩ := p.all (by rw [List.length_map, dc.length, List.length_map])
        have fin : ∀ M : Nat, M = maxL ((inner2 d).map fun c => (c.map (mostS (n - 1) k)).sum) → Q (.int (((ownD k d : Nat) : Int) + (M : Int))) H5 := fun M e => by
          have z := q _ ((s1.trans s3).trans s5)
          rw [mostS_row row, ← e, Int.natCast_add] at z
          exact z
        first
          | (have eo : ((ownD k d : Nat) : Int) = 1 := by
              unfold ownD
              rw [if_pos (V.str.inj (of_decide_eq_true h1))]
              rfl)
          | (have eo : ((ownD k d : Nat) : Int) = 0 := by
              unfold ownD
              rw [if_neg fun z => h1 (decide_eq_true (by rw [z]))]
              rfl)
        rw [eo] at fin
        refine ⟨Dl, _, 0, rfl, rfl, SqL.of e5, fun e => ⟨_, _, rfl, rfl, ?_⟩, fun M hM hle => ⟨_, _, rfl, rfl, ?_⟩⟩
        · have e0 : (inner2 d).map (fun c => (c.map (mostS (n - 1) k)).sum) = [] := List.map_eq_nil_iff.mp e
          exact fin 0 (by rw [e0]; rfl)
        · rw [maxL_of _ hM hle]
          exact fin _ rfl
end
end OM

namespace OM
open PySem PySem.Spec PyProof.Rows L2
section
variable {X : Cx} {elt tg iter : Expr} {ifs : List Expr} {scope : Scope} {own : List (Str × Nat)} {pos : Pos} {wi : TI} {g : TG} {tt : TT} {te : TE}
theorem sx1_core {pins : List (Addr × Obj)} {s : Shared} {σ : L2.St} {H : Hp} {Q : VK} {pos' : Pos} {use : Option (Value → Sem Unit)} {Qf : Value → Shared → Prop} (hc : X.calm = true) (hN : X.N.Nodup) (I : Inv X pins σ H s) (hi : PI X tg iter wi) (ok : BlkOk X.N X.env.scope scope own) 
    (hg : ∀ (s : Shared) (H : Hp) (C : Addr) (cl : List (Str × Addr)) (fp : List Addr), PG (X.blk s H scope (compEnvC scope cl C X.env) fp) tg g) (ht : ∀ (s : Shared) (H : Hp) (C : Addr) (cl : List (Str × Addr)) (fp : List Addr), PTs (X.blk s H scope (compEnvC scope cl C X.env) fp) ifs tt)
    (he : ∀ (s : Shared) (H : Hp) (C : Addr) (cl : List (Str × Addr)) (fp : List Addr), PE (X.blk s H scope (compEnvC scope cl C X.env) fp) elt te)
    (hs : ∀ x, foldedSetIterable iter X.env x = pure x) (h : tSx X.w wi g tt te (own.map (·.2)) σ H Q)
    (hRR : ∀ D C s' m H', Inv X pins σ H' s' → Q (.ref D) H' → s'.heap.Ns C m → FpOk X pins H' C → compPost (model X.prog X.w) X.A X.xe use Qf (.ref D) C (.ok .next) s') :
    wpAny (model X.prog X.w) X.A (comprehension (.SetComp elt [⟨tg, iter, ifs, 0⟩] scope pos) scope X.env pos' (newSet (.type "set")) false (eval iter X.env) use) Qf X.xe s := by
  have cells : ∀ y ∈ scope.names, y.2 = .free → ∃ c, X.env.cells.lookup y.1 = some c := fun y hy e => (ok.free y hy e).elim (fun k => I.ok.has _ (.inl k)) fun k => I.ok.has _ (.inr k)
  refine wpAny_comprehension_free (use := use) rfl hs (closure_ok cells) ok.kind (fun y hy e => by rw [ok.uniq y hy, e]) (thn (hi.run pins s σ H _ I h) fun xv s1 hx => thn hx fun itv s2 h2 => ?_)
  obtain ⟨it, fp, tn, J, H2, rfl, I2, T, st2, f2, q⟩ := h2
  refine PpSet.newSet_ok (newEnv_comp ?_)
  obtain ⟨D, hD⟩ : ∃ D, s2.heap.objs.size = D := ⟨_, rfl⟩
  obtain ⟨W, ⟨m0, w0⟩, turn⟩ := q D (I2.hok.fresh (Nat.le_of_eq hD))
  have fresh := tx_fresh (h := s2.heap) X.w
  rw [hD] at fresh ⊢
  obtain ⟨s3, es3⟩ : ∃ s3 : Shared, s3 = { s2 with heap := s2.heap.push { cls := .type "set", dict := none, data := .set #[] 0 (.fresh 0 0 (!X.w.params.followText "set-order")) } } := ⟨_, rfl⟩
  have h3 : s3.heap = s2.heap.push { cls := .type "set", dict := none, data := .set #[] 0 (.fresh 0 0 (!X.w.params.followText "set-order")) } := by rw [es3]
  have I3 : Inv X pins σ (upd H2 D (SetTO X.w D [])) s3 := by
    rw [es3]
    exact I2.laid (t' := s2.toks) (fun b o e => Heap.get?_push_of_some _ e) (Nat.le_of_eq hD) (txo_new fresh)
  rw [← es3]
  have f3 : ∀ b ∈ fp, FpOk X pins (upd H2 D (SetTO X.w D [])) b ∧ b < s3.heap.objs.size := fun b hb => by
    obtain ⟨o, e, _⟩ := T.obj _ _ st2 b hb
    have lt := Heap.lt_size e
    exact ⟨⟨by rw [upd_ne (by rw [← hD]; exact Nat.ne_of_lt lt)]; exact (f2 b hb).1, (f2 b hb).2⟩, by rw [h3, Heap.size_push]; exact Nat.lt_succ_of_lt lt⟩
  have st3 : tn 0 s3.heap := T.keep _ _ _ st2 fun b _ o e => by rw [h3]; exact Heap.get?_push_of_some _ e
  have I4 := block_start I3 ok hN f3
  have pg := hg s3 (upd H2 D (SetTO X.w D [])) s3.heap.objs.size (cellsFrom (s3.heap.objs.size + 1) scope.names (cloFrom X.env.cells scope.names [])) fp
  have pt := ht s3 (upd H2 D (SetTO X.w D [])) s3.heap.objs.size (cellsFrom (s3.heap.objs.size + 1) scope.names (cloFrom X.env.cells scope.names [])) fp
  have pe := he s3 (upd H2 D (SetTO X.w D [])) s3.heap.objs.size (cellsFrom (s3.heap.objs.size + 1) scope.names (cloFrom X.env.cells scope.names [])) fp
  show codeAny _ _ (.compStart (.SetComp elt [⟨tg, iter, ifs, 0⟩] scope pos) 0 (.ref it) (.ref D) (compEnvC scope (cellsFrom (s3.heap.objs.size + 1) scope.names (cloFrom X.env.cells scope.names [])) s3.heap.objs.size X.env)) (compPost (model X.prog X.w) X.A X.xe use Qf (.ref D) s3.heap.objs.size) { s3 with heap := pushCells (s3.heap.push { cls := .type "dict", data := .dict #[] }) scope.names }
  obtain ⟨ce, ece⟩ : ∃ ce, ce = compEnvC scope (cellsFrom (s3.heap.objs.size + 1) scope.names (cloFrom X.env.cells scope.names [])) s3.heap.objs.size X.env := ⟨_, rfl⟩
  have cL : ce.locals = s3.heap.objs.size := by rw [ece]; rfl
  obtain ⟨s4, es4⟩ : ∃ s4 : Shared, s4 = { s3 with heap := pushCells (s3.heap.push { cls := .type "dict", data := .dict #[] }) scope.names } := ⟨_, rfl⟩
  rw [← ece] at I4 pg pt pe ⊢
  rw [← es4] at I4 ⊢
  have st4 : tn 0 s4.heap := T.keep _ _ _ st3 fun b _ o e => by rw [es4]; exact pushCells_keeps _ _ _ _ (Heap.get?_push_of_some _ e)
  generalize upd H2 D (SetTO X.w D []) = H3 at w0 I3 f3 I4 pg pt pe
  have stat : ∀ {H' : Hp}, (∀ b ∈ fp, H' b = none) → ∀ b ∈ fp, FpOk (X.blk s3 H3 scope ce fp) [] H' b := fun {H'} hn b hb =>
    ⟨hn b hb, (I4.ok.exf b hb).1, I4.ok.exfs b hb, .inl hb, fun x c e => (I4.ok.exf b hb).2 x c e, fun p hp => absurd (show p ∈ ([] : List (Addr × Obj)) ++ [] from hp) (by simp)⟩
  have loop : codeAny (model X.prog X.w) X.A (.compLoop (.SetComp elt [⟨tg, iter, ifs, 0⟩] scope pos) 0 (.ref it) (.ref D) ce) (compPost (model X.prog X.w) X.A X.xe use Qf (.ref D) s3.heap.objs.size) s4 := by
    refine blk_loop (kn := fun σ2 => wipe σ2 (own.map (·.2)) = wipe σ (own.map (·.2))) (W := W) (Z := fun H => Q (.ref D) H) (g := g) (tt := tt) (em := emS X.prog X.w X.A (notedBy (model X.prog X.w) X.A ce fun e s' => compPost (model X.prog X.w) X.A X.xe use Qf (.ref D) s3.heap.objs.size (.error e) s') elt (.ref D) ce)
      (emH := fun σ2 H3 Nx => te σ2 H3 (tInto X.w D Nx)) (fun _ z => wiped z) hc T stat pg pt emS_ok (turn_s1 _ _ _) ?_ ?_ ?_ ?_ I4 st4 (fun b hb => (f3 b hb).1.1) w0
    · exact turn
    · intro Y Y' s h k
      exact wpAny_mono h (fun x s1 h1 => wpAny_mono h1 (fun _ s2 h2 => k _ h2) fun _ _ z => z) fun _ _ z => z
    · intro σ2 H4 Nx s pl I' hk q2
      exact into_ok pe I' hk q2
    · intro s6 H5 I6 qq
      have I7 : Inv X pins σ H5 s6 := I3.call' (ch := fp) I6.os I6.base I6.hok I6.bare fun b hb => ⟨(f3 b hb).1.2.2.2.1, (f3 b hb).1.2.1, (f3 b hb).1.2.2.2.2.1, (f3 b hb).1.2.2.2.2.2⟩
      have nC : H5 s3.heap.objs.size = none := by
        rw [← cL]
        exact I6.free
      obtain ⟨m, hn, _⟩ := I6.loc
      have hn : s6.heap.Ns ce.locals m := hn
      rw [cL] at hn
      exact hRR D s3.heap.objs.size s6 m H5 I7 qq hn (I3.fpOk (Nat.le_refl _) nC)
  exact start_any rfl rfl loop (T.self X.A 0 _ _ _ st4 loop)
theorem pe_sx1 (hc : X.calm = true) (hN : X.N.Nodup) (hi : PI X tg iter wi) (ok : BlkOk X.N X.env.scope scope own) (hg : ∀ (s : Shared) (H : Hp) (C : Addr) (cl : List (Str × Addr)) (fp : List Addr), PG (X.blk s H scope (compEnvC scope cl C X.env) fp) tg g)
    (ht : ∀ (s : Shared) (H : Hp) (C : Addr) (cl : List (Str × Addr)) (fp : List Addr), PTs (X.blk s H scope (compEnvC scope cl C X.env) fp) ifs tt)
    (he : ∀ (s : Shared) (H : Hp) (C : Addr) (cl : List (Str × Addr)) (fp : List Addr), PE (X.blk s H scope (compEnvC scope cl C X.env) fp) elt te) (hs : ∀ x, foldedSetIterable iter X.env x = pure x := by intro _; rfl) :
    PE X (.SetComp elt [⟨tg, iter, ifs, 0⟩] scope pos) (tSx X.w wi g tt te (own.map (·.2))) := by
  refine ⟨fun pins s σ H Q I h => ?_⟩
  rw [PpSet.eval_SetComp]
  refine sx1_core hc hN I hi ok hg ht he hs h fun D C s' m H' I' q hn ⟨f0, f1, f2, f3, f4, f5⟩ => ⟨m, hn, fun h'' sb => ?_⟩
  exact ⟨.ref D, H', I'.turned (t' := s'.toks) (fun b o hb e => (sb.2 b hb).trans e) f0 f1 f3 f4 f5, rfl, q⟩
/-- over a tuple that stays -/
theorem goes_tup {K : PySem.W.Frag} {a : Addr} {xs : List V} {H0 : Hp} {Z : Hp → Prop} {step : V → Hp → (Hp → Prop) → Prop} (Pv : Nat → Hp → Prop) (h0 : Pv 0 H0) (hl : ∀ i H, Pv i H → SqT K H a xs) (hs : ∀ i x H, xs[i]? = some x → Pv i H → step x H (Pv (i + 1))) (hd : ∀ H, Pv xs.length H → Z H) :
    ∃ W : Nat → Nat → Hp → Prop, (∃ m, W 0 m H0) ∧ goes (Itt K a) W Z step := by
  refine ⟨fun i m H => m = xs.length - i ∧ i ≤ xs.length ∧ Pv i H, ⟨_, rfl, Nat.zero_le _, h0⟩, ?_⟩
  rintro i m H ⟨rfl, hi, p⟩
  have q := hl i H p
  rcases Nat.lt_or_ge i xs.length with hlt | hge
  · refine .inr ⟨⟨xs, xs[i], q, by simp [hlt]⟩, Pv (i + 1), fun H' p' => ⟨xs.length - (i + 1), by omega, rfl, hlt, p'⟩, fun x H' y => ?_⟩
    obtain ⟨rfl, y⟩ := y
    exact hs i x _ (y xs q) p
  · obtain rfl : i = xs.length := by omega
    exact .inl ⟨⟨xs, q, Nat.le_refl _⟩, hd H p⟩
end
end OM

namespace OM
open PySem PySem.Spec PyProof.Rows L2
abbrev Nm (x : Str) : Prop := isNameD (.str x) = true
def TupS (H H' : Hp) : Prop := ∀ b xs, H b = some (.tup xs) → H' b = some (.tup xs)
theorem TupS.trans {H H1 H2 : Hp} (a : TupS H H1) (b : TupS H1 H2) : TupS H H2 := fun c xs e => b c xs (a c xs e)
theorem TupS.same {H H' : Hp} (s : Same H H') : TupS H H' := fun b xs e => s b _ e
theorem TupS.put {H : Hp} {a : Addr} {u o : HO} (h : H a = some u) (n : ∀ xs, u ≠ .tup xs) : TupS H (upd H a o) := fun b ys e => by
  rw [upd_ne (fun z => by rw [z, h] at e; exact n ys (Option.some.inj e))]
  exact e
theorem Paired.at {α β : Type} {F : α → β → Prop} : ∀ {xs : List α} {ys : List β}, Paired F xs ys → ∀ {i : Nat} {x : α}, xs[i]? = some x → ∃ y, ys[i]? = some y ∧ F x y
  | _, _, .nil, i, x, e => by simp at e
  | _, _, .cons h r, 0, x, e => by
    simp at e
    subst e
    exact ⟨_, rfl, h⟩
  | _, _, .cons h r, i + 1, x, e => by
    obtain ⟨y, e2, q⟩ := Paired.at r (i := i) (x := x) (by simpa using e)
    exact ⟨y, by simpa using e2, q⟩
theorem Paired.of {α β : Type} {F : α → β → Prop} : ∀ {xs : List α} {ys : List β}, Paired F xs ys → ∀ {i : Nat} {y : β}, ys[i]? = some y → ∃ x, xs[i]? = some x ∧ F x y
  | _, _, .nil, i, x, e => by simp at e
  | _, _, .cons h r, 0, x, e => by
    simp at e
    subst e
    exact ⟨_, rfl, h⟩
  | _, _, .cons h r, i + 1, x, e => by
    obtain ⟨y, e2, q⟩ := Paired.of r (i := i) (y := x) (by simpa using e)
    exact ⟨y, by simpa using e2, q⟩
theorem Paired.app {α β : Type} {F : α → β → Prop} : ∀ {a b : List α} {x y : List β}, Paired F a x → Paired F b y → Paired F (a ++ b) (x ++ y)
  | _, _, _, _, .nil, h => h
  | _, _, _, _, .cons h r, k => .cons h (Paired.app r k)
def wrT (f : Str) (as : List Str) : Str := ((f ++ ("(" : Str)) ++ Txt.join (", " : Str) as) ++ (")" : Str)
structure Chg (F : List Addr) (H H' : Hp) : Prop where
  keep : ∀ b o, b ∉ F → H b = some o → H' b = some o
  tups : TupS H H'
theorem Chg.refl (F : List Addr) (H : Hp) : Chg F H H := ⟨fun _ _ _ e => e, fun _ _ e => e⟩
theorem Chg.same {F : List Addr} {H H' : Hp} (s : Same H H') : Chg F H H' := ⟨fun b o _ e => s b o e, .same s⟩
theorem Chg.trans {F : List Addr} {H H1 H2 : Hp} (a : Chg F H H1) (b : Chg F H1 H2) : Chg F H H2 := ⟨fun c o n e => b.keep c o n (a.keep c o n e), a.tups.trans b.tups⟩
theorem Chg.put {F : List Addr} {H : Hp} {a : Addr} {u o : HO} (ha : a ∈ F) (h : H a = some u) (n : ∀ xs, u ≠ .tup xs) : Chg F H (upd H a o) := ⟨fun b v hb e => by
  rw [upd_ne (fun z => hb (by rw [z]; exact ha))]
  exact e, .put h n⟩
theorem cutNG {A : Prop} {R C : Int → Hp → Prop} (f : (∀ n G, R n G → C n G) → A) (b : ∀ n G, R n G → C n G) : A := f b
theorem empty_cat (c : Str) : Str.empty ++ c = c := PySem.Str.ext' (by rw [PySem.Str.cps_append]; exact Array.empty_append)
def MethN (P : Program) (w : World) (K : PySem.W.Frag) (mg : Str → Option Value) (base : Heap) (C : Addr) (m : Str) (k : Nat) (ps : List Str) (sp : Sp) : Prop := ∃ (g : Addr) (d : FuncData), Meth K C m g ∧ Binds K d ps [] ∧ FnOk P w K mg base CX0 k g d ps sp
def CallN (P : Program) (w : World) (K : PySem.W.Frag) (mg : Str → Option Value) (base : Heap) (name : Str) (k : Nat) (ps : List Str) (sp : Sp) : Prop := ∃ (g : Addr) (d : FuncData), mg name = some (.ref g) ∧ PySem.W.keepIn K (.ref g) = true ∧ Binds K d ps [] ∧ FnOk P w K mg base CX0 k g d ps sp
theorem join_le {as : List Str} {b : Nat} (h : ∀ a ∈ as, a.length ≤ b) (h2 : as.length ≤ 2) : (as.map (·.length)).sum ≤ 2 * b ∧ (Txt.join (", " : Str) as).length ≤ 2 * b + 2 := by
  have e : (", " : Str).length = 2 := by decide +kernel
  match as, h2 with
  | [], _ => exact ⟨Nat.zero_le _, Nat.zero_le _⟩
  | [x], _ =>
    have := h x (List.mem_singleton.mpr rfl)
    refine ⟨?_, ?_⟩
    · show x.length + 0 ≤ _
      omega
    · rw [TL.join_eq]
      show x.length ≤ _
      omega
  | [x, y], _ =>
    have h1 := h x (by simp)
    have h2 := h y (by simp)
    refine ⟨?_, ?_⟩
    · show x.length + (y.length + 0) ≤ _
      omega
    · rw [TL.join_eq]
      show ((x ++ (", " : Str)) ++ y).length ≤ _
      rw [strLen_append, strLen_append]
      omega
theorem wr_len {f : Str} {as : List Str} {b : Nat} (hf : f.length ≤ 8) (h : ∀ a ∈ as, a.length ≤ b) (h2 : as.length ≤ 2) (hb : 40 ≤ b) : (wrT f as).length ≤ if as = [] then b else 2 * b + 12 := by
  have e1 : ("(" : Str).length = 1 := by decide +kernel
  have e2 : (")" : Str).length = 1 := by decide +kernel
  have j := (join_le h h2).2
  unfold wrT
  rw [strLen_append, strLen_append, strLen_append]
  split
  · rename_i z
    subst z
    have : (Txt.join (", " : Str) []).length = 0 := by
      rw [TL.join_eq]
      rfl
    omega
  · omega
def spWrit (K : PySem.W.Frag) : Sp := fun vs H Q _ => ∃ (f : Str) (p : Addr) (as : List Str) (b : Nat), vs = [.str f, .ref p] ∧ f.length ≤ 8 ∧ SqL K H p (as.map V.str) ∧ as.length ≤ 2 ∧ (∀ a ∈ as, a.length ≤ b) ∧ b ≤ 4000000 ∧ Q (.str (wrT f as)) H
theorem dget_put {H : Hp} {a : Addr} {kw : List (Key × V)} {n : Str} {v : V} (e : H a = some (.dK (putK kw (Sum.inr n) v))) : DGet H a (.str n) (some v) := by
  have := DGet.k (k := Sum.inr n) e
  rw [valV_put, if_pos rfl] at this
  exact this
structure InitS (H G : Hp) (me C dx : Addr) (fs : List (Str × V)) (news : List (Addr × HO)) : Prop where
  ins : G me = some (.ins C dx fs)
  but : But me H G
  new : ∀ p ∈ news, G p.1 = some p.2 ∧ H p.1 = none ∧ p.1 ≠ me
  nd : (news.map (·.1)).Nodup
theorem InitS.old {H G : Hp} {me C dx : Addr} {fs : List (Str × V)} {news : List (Addr × HO)} {f : Str} {v : V} (h : InitS H G me C dx fs news) : InitS H (upd G me (.ins C dx (putF f v fs))) me C dx (putF f v fs) news :=
  ⟨upd_same, fun b o n e => by rw [upd_ne n]; exact h.but b o n e, fun p hp => ⟨by rw [upd_ne (h.new p hp).2.2]; exact (h.new p hp).1, (h.new p hp).2⟩, h.nd⟩
theorem InitS.more {H G : Hp} {me C dx : Addr} {fs : List (Str × V)} {news : List (Addr × HO)} {f : Str} {v : V} {a : Addr} {o : HO} (h : InitS H G me C dx fs news) (ha : G a = none) : (upd G a o) me = some (.ins C dx fs) ∧ InitS H (upd (upd G a o) me (.ins C dx (putF f v fs))) me C dx (putF f v fs) ((a, o) :: news) := by
  have am : a ≠ me := fun z => by rw [z, h.ins] at ha; cases ha
  have aH : H a = none := by
    cases e : H a with
    | none => rfl
    | some u =>
      have := h.but a u am e
      rw [ha] at this
      cases this
  have s := same_upd (o := o) ha
  refine ⟨s _ _ h.ins, upd_same, fun b u n e => by rw [upd_ne n]; exact s _ _ (h.but b u n e), fun p hp => ?_, ?_⟩
  · rcases List.mem_cons.mp hp with rfl | hp
    · exact ⟨by rw [upd_ne am]; exact upd_same, aH, am⟩
    · obtain ⟨q1, q2, q3⟩ := h.new p hp
      exact ⟨by rw [upd_ne q3]; exact s _ _ q1, q2, q3⟩
  · refine List.nodup_cons.mpr ⟨fun z => ?_, h.nd⟩
    obtain ⟨p, hp, e⟩ := List.mem_map.mp z
    have := (h.new p hp).1
    rw [e, ha] at this
    cases this
def PropM (P : Program) (w : World) (K : PySem.W.Frag) (mg : Str → Option Value) (base : Heap) (C : Addr) (name : Str) (k : Nat) (sp : Sp) : Prop := ∃ (p g : Addr) (d : FuncData), PropOf K C name p g ∧ FnOk P w K mg base CX0 k g d ["self"] sp ∧ Binds K d ["self"] []
structure ClsI (K : PySem.W.Frag) (C : Addr) : Prop where
  cl : Cls K C
  ha : PySem.W.findIn K (.ref C) "__class__" = some (some (.builtin "object.__class__"))
  hn : PySem.W.specialIn K (.builtin "object.__class__") "__get__" = some (some (.builtin "getset_descriptor.__get__"))
  htk : PySem.W.takesIn K (.builtin "object.__class__") = some true
  hm : PySem.W.mroIn K C (.type "object") = some true
  kit : PySem.W.kitOne K (.ref C) (.ref C) = some true
theorem pe_never {X : Cx} {e : Expr} : PE X e (fun _ _ _ => False) := ⟨fun _ _ _ _ _ _ h => h.elim⟩
theorem InitS.ext {H G G' : Hp} {me C dx : Addr} {fs : List (Str × V)} {news : List (Addr × HO)} (h : InitS H G me C dx fs news) (s : Same G G') : InitS H G' me C dx fs news :=
  ⟨s _ _ h.ins, fun b o n e => s _ _ (h.but b o n e), fun p hp => ⟨s _ _ (h.new p hp).1, (h.new p hp).2⟩, h.nd⟩
theorem dc_list {K : PySem.W.Frag} {a : Addr} {xs : List V} {g : TG} {tt : TT} {tk tv : TE} {vs : List Nat} {σ : L2.St} {H1 : Hp} {D : Addr} {Qd : Hp → Prop} (Pv : Nat → Hp → Prop) (h0 : Pv 0 (upd H1 D (.dK []))) (hl : ∀ i H, Pv i H → SqL K H a xs)
    (hs : ∀ i x H, xs[i]? = some x → Pv i H → g x (wipe σ vs) H fun σ2 H2 => wipe σ2 vs = wipe σ vs ∧ tt σ2 H2 fun b H3 =>
      if b = true then tk σ2 H3 fun y H4 => tv σ2 H4 fun z H5 => ∃ kvs k, y = kV k ∧ H5 D = some (.dK kvs) ∧ kvs.length < sizeLine ∧ Pv (i + 1) (upd H5 D (.dK (putK kvs k z))) else Pv (i + 1) H3) (hd : ∀ H, Pv xs.length H → Qd H) :
    ∃ W : Nat → Nat → Hp → Prop, (∃ m, W 0 m (upd H1 D (.dK []))) ∧ ∀ i m H, W i m H →
      ((Itl K a).stop i H ∧ Qd H) ∨ ((Itl K a).go i H ∧ ∃ Nx : Hp → Prop, (∀ H', Nx H' → ∃ m', m' < m ∧ W (i + 1) m' H') ∧ ∀ x H', (Itl K a).yld i H x H' → g x (wipe σ vs) H' fun σ2 H2 => wipe σ2 vs = wipe σ vs ∧ tt σ2 H2 fun b H3 =>
        if b = true then tk σ2 H3 fun y H4 => tv σ2 H4 fun z H5 => ∃ kvs k, y = kV k ∧ H5 D = some (.dK kvs) ∧ kvs.length < sizeLine ∧ Nx (upd H5 D (.dK (putK kvs k z))) else Nx H3) := by
  refine ⟨fun i m H => i ≤ xs.length ∧ m = xs.length - i ∧ Pv i H, ⟨_, Nat.zero_le _, rfl, h0⟩, ?_⟩
  rintro i m H ⟨hi, rfl, p⟩
  have q := hl i H p
  rcases Nat.lt_or_ge i xs.length with hlt | hge
  · refine .inr ⟨⟨xs, _, q, List.getElem?_eq_getElem hlt⟩, Pv (i + 1), fun H' p' => ⟨xs.length - (i + 1), by omega, hlt, rfl, p'⟩, ?_⟩
    rintro x H' ⟨rfl, y⟩
    exact hs i x _ (y xs q) p
  · obtain rfl : i = xs.length := by omega
    exact .inl ⟨⟨xs, q, Nat.le_refl _⟩, hd H p⟩
abbrev inStK (i j : Nat) : Stmt := (match top i with
  | .ClassDef (body := b) .. => b
  | _ => []).getD j (.Pass ⟨0, 0, 0, 0⟩)
theorem isS {d : PyData} (h : isNameD d = true) : ∃ x, d = .str x := by
  cases d with
  | str x => exact ⟨x, rfl⟩
  | _ => cases h
def strT (l : List Str) : PyData := .tuple (l.map PyData.str)
theorem dt_strL {S : Addr → Prop} {H : Hp} : ∀ {xs : List V} {l : List Str}, DtAll S H xs (l.map PyData.str) → xs = l.map V.str
  | [], [], _ => rfl
  | x :: xs, a :: l, h => by
    cases h with
    | cons h r =>
      rw [dt_strL r]
      cases h with
      | «at» a => cases a <;> rfl
theorem dt_str1 {S : Addr → Prop} {H : Hp} {v : V} {x : Str} (h : Dt S H v (.str x)) : v = .str x := by
  cases h with
  | «at» a => cases a <;> rfl
theorem dt_ofStrs {S : Addr → Prop} {H : Hp} : ∀ l : List Str, DtAll S H (l.map V.str) (l.map PyData.str)
  | [] => .nil
  | x :: l => .cons (.at (.str x)) (dt_ofStrs l)
theorem s_bt {d : Addr} {H H1 : Hp} (x : Same H H1) : But d H H1 := fun b o _ e => x b o e
theorem Dice.mv {H H' : Hp} {d : Addr} (s : Same H H') (h : Dice H d) : Dice H' d := by
  obtain ⟨a1, a2, a3, e⟩ := h
  exact ⟨a1, a2, a3, s _ _ e⟩
theorem But.tr {d : Addr} {H H1 H2 : Hp} (x : But d H H1) (y : But d H1 H2) : But d H H2 := fun b o hb e => y b o hb (x b o hb e)
abbrev sWritten : Stmt := top 21
abbrev sNumber : Stmt := top 14
abbrev sWhole : Stmt := top 15
def spNumber : Sp := fun vs H Q _ => ∃ i lo hi : Int, vs = [.int i, .int lo, .int hi] ∧ lo ≤ i ∧ i ≤ hi ∧ ∀ H', Same H H' → Q (.bl true) H'
def spWhole : Sp := fun vs H Q _ => ∃ i : Int, vs = [.int i] ∧ ∀ H', Same H H' → Q (.bl true) H'
section
variable {P : Program} {w : World} {K : PySem.W.Frag} {mg : Str → Option Value} {base : Heap} {f fW C : Addr} {fd dW : FuncData}
theorem scWr : FnScope ["function", "values", "inside"] ["function", "values"] (defScope sWritten) := ⟨rfl, rfl, rfl, by decide +kernel, rfl, by decide +kernel, by decide +kernel⟩
theorem ok_writ (F : Fun K "written" "written" sWritten f fd) : FnOk P w K mg base CX0 1 f fd ["function", "values"] (spWrit K) := by
  refine F.ok scWr (fun vs H Q E h => ?_) (fun cdv A outer s H vs Q E hr h => ?_)
  · obtain ⟨fn, p, as, b, rfl, _⟩ := h
    rfl
  · obtain ⟨fn, p, as, b, rfl, hf, hp, h2, hl, hb, q⟩ := h
    refine ⟨_, pss_cons (ps_set (i := 2) scWr.nd rfl (Or.inl rfl) (pe_bm PySem.F.plainAttrs_str PySem.F.slot_str_join PySem.F.type_str_join mt_join pe_str (pa_cons (pv 1) pa_nil)))
      (pss_one (ps_ret (pe_joined (.cons (pe_fmt (pv 0)) (.cons pe_str (.cons (pe_fmt (pv 2)) (.cons pe_str .nil))))))), ?_⟩
    have line : (16000000 : Nat) ≤ sizeLine := by decide
    obtain ⟨j1, j2⟩ := join_le hl h2
    refine ⟨rfl, _, rfl, ", ", p, as, rfl, rfl, .inl hp, ?_, ?_⟩
    · have : (", " : Str).length = 2 := by decide +kernel
      rw [this]
      omega
    have l3 : ("(" : Str).length = 1 := by decide +kernel
    have l4 : (")" : Str).length = 1 := by decide +kernel
    have e0 : Str.empty ++ fn = fn := empty_cat fn
    refine ⟨_, rfl, .inl ⟨fn, rfl, by omega, fn, rfl, by rw [e0]; omega, ?_⟩⟩
    rw [e0]
    exact ⟨"(", rfl, by rw [strLen_append]; omega, _, rfl, .inl ⟨_, rfl, by omega, _, rfl, by rw [strLen_append, strLen_append]; omega, ")", rfl, by rw [strLen_append, strLen_append, strLen_append]; omega, q⟩⟩
theorem scWh : FnScope ["value"] ["value"] (defScope sWhole) := ⟨rfl, rfl, rfl, by decide +kernel, rfl, by decide +kernel, by decide +kernel⟩
theorem scNu : FnScope ["value", "low", "high"] ["value", "low", "high"] (defScope sNumber) := ⟨rfl, rfl, rfl, by decide +kernel, rfl, by decide +kernel, by decide +kernel⟩
theorem ok_whole (F : Fun K "is_whole" "is_whole" sWhole f fd) (isi : mg "isinstance" = none) (it : mg "int" = none) (bo : mg "bool" = none) : FnOk P w K mg base CX0 1 f fd ["value"] spWhole := by
  refine F.ok scWh (fun vs H Q E h => ?_) (fun cdv A outer s H vs Q E hr h => ?_)
  · obtain ⟨i, rfl, _⟩ := h
    rfl
  · obtain ⟨i, rfl, q⟩ := h
    refine ⟨_, pss_one (ps_ret (pe_and (pe_callB call_isi (by rfl) isi (by decide +kernel) (pa_cons (pv 0) (pa_cons (pe_bltn (v := .ty "int") (u := .type "int") (by rfl) it (by decide +kernel) rfl) pa_nil)))
      (pe_one (pe_not (pe_callB call_isi (by rfl) isi (by decide +kernel) (pa_cons (pv 0) (pa_cons (pe_bltn (v := .ty "bool") (u := .type "bool") (by rfl) bo (by decide +kernel) rfl) pa_nil))))))), ?_⟩
    refine isi_te (x := .int i) rfl (Dt.tyx (S := fun _ => True) (.at (.int i))) (r := true) (show kitB "int" "int" = some true by decide +kernel) ⟨_, rfl, iteT ?_⟩
    refine isi_te (x := .int i) rfl (Dt.tyx (S := fun _ => True) (.at (.int i))) (r := false) (show kitB "int" "bool" = some false by decide +kernel) ⟨_, rfl, q H (Same.refl H)⟩
theorem ok_number (F : Fun K "is_number" "is_number" sNumber f fd) (gW : mg "is_whole" = some (.ref fW)) (kW : PySem.W.keepIn K (.ref fW) = true) (bW : Binds K dW ["value"] []) (GW : FnOk P w K mg base CX0 1 fW dW ["value"] spWhole) : FnOk P w K mg base CX0 2 f fd ["value", "low", "high"] spNumber := by
  refine F.ok scNu (fun vs H Q E h => ?_) (fun cdv A outer s H vs Q E hr h => ?_)
  · obtain ⟨i, lo, hi, rfl, _⟩ := h
    rfl
  · obtain ⟨i, lo, hi, rfl, h1, h2, q⟩ := h
    refine ⟨_, pss_one (ps_ret (pe_and (pe_call GW hr (by rfl) gW kW bW .nil pass0 (pa_cons (pv 0) pa_nil)) (pe_one (pe_chain op_le op_le (pv 1) (pv 0) (pv 2))))), ?_⟩
    refine ⟨_, rfl, i, rfl, fun H1 s1 => ⟨_, rfl, iteT ?_⟩⟩
    refine ⟨_, rfl, _, rfl, lo, i, rfl, rfl, _, rfl, ?_⟩
    rw [decide_eq_true h1]
    refine iteT ⟨_, rfl, i, hi, rfl, rfl, ?_⟩
    show Q (.bl (decide (i ≤ hi))) H1
    rw [decide_eq_true h2]
    exact q _ s1
end
section
variable {X : Cx} {k : Nat} {C f : Addr} {fd : FuncData} {sp : Sp}
structure Own (X : Cx) (C f : Addr) (fd : FuncData) (name : Str) (k : Nat) (ps : List Str) (sp : Sp) : Prop where
  hs : PySem.W.findIn X.K (.ref C) name = some (some (.ref f))
  hf : PySem.W.isFn X.K (.ref f) = true
  F : FnOk X.prog X.w X.K X.mg X.base CX0 k f fd ps sp
  hb : Binds X.K fd ps []
theorem bind_at {X : Cx} {fd : FuncData} {ps : List Str} (hb : Binds X.K fd ps []) {pins : List (Addr × Obj)} {σ : L2.St} {H : Hp} {s : Shared} (I : Inv X pins σ H s) (us : List Value) (hl : us.length = ps.length) : BindsTo s fd ⟨us, []⟩ (ps.zip us) := by
  have q := hb s us I.kIn (by rw [List.append_nil]; exact hl)
  rw [List.append_nil] at q
  exact q
theorem len_own {p : Str} (O : Own X C f fd "__len__" k [p] sp) (hr : Room (k + 1) X.A) :
    CallR X (.builtin "len") (fun xs H Q => ∃ (a dx : Addr) (fs : List (Str × V)), xs = [.ref a] ∧ H a = some (.ins C dx fs) ∧ sp [.ref a] H (fun v H' => ∃ n : Nat, v = .int n ∧ n < 1000 ∧ Q v H') E0) := by
  intro pins s σ H xs us Q I r h
  obtain ⟨a, dx, fs, rfl, ea, q⟩ := h
  obtain ⟨u, rfl, ru⟩ := vals1 r
  obtain rfl : u = Value.ref a := ru
  obtain ⟨_, Ob, _⟩ := ins_get I.hok ea
  obtain ⟨od, J, _⟩ := Ob.look
  obtain ⟨m, fr⟩ := I.fr
  refine PySem.W.len_K fr I.ok.mod.kin J O.hs O.hf ?_
  refine wpAny_call (codeAny_mono (O.F.run X.A.in1 X.stack s H ⟨[.ref a], []⟩ [.ref a] [.ref a] _ E0 hr.in1 I.env0.in1 (bind_at O.hb I _ rfl) (.cons rfl .nil) q) fun res z' hq => ?_)
  match res, hq with
  | .ok (.ret w), hq =>
    obtain ⟨v, H', I3, rv, ⟨n, er, hn, q3⟩⟩ := I.after hq
    subst er
    obtain ⟨t, rfl⟩ : ∃ t, w = Value.int (n : Int) t := rv
    have h2 : ((1000 : Nat) : Int) < 2 ^ 63 := by decide
    exact ⟨⟨by omega, by omega⟩, .int n, H', I3.tok _, ⟨_, rfl⟩, q3⟩
  | .error er, hq => exact hq.elim
def rEqOwn (K : PySem.W.Frag) (C : Addr) (sp : Sp) (g : Bool → Bool) : V → V → Hp → VK → Prop := fun x y H Q => ∃ (a dx : Addr) (fs : List (Str × V)) (t : Value), x = .ref a ∧ H a = some (.ins C dx fs) ∧ TyX K H y t ∧ PySem.W.notFirst K C t = true ∧
  sp [.ref a, y] H (fun v H' => ∃ b, v = .bl b ∧ Q (.bl (g b)) H') E0
theorem eq_own (O : Own X C f fd "__eq__" k ["self", "other"] sp) (hr : Room k X.A) : OpR X (compareOp .Eq) (rEqOwn X.K C sp id) := by
  intro pins s σ H x y v u Q I rx ry h
  obtain ⟨a, dx, fs, t, rfl, ea, ty, nf, q⟩ := h
  obtain rfl : v = Value.ref a := rx
  obtain ⟨_, Ob, _⟩ := ins_get I.hok ea
  obtain ⟨od, J, _⟩ := Ob.look
  obtain ⟨m, fr⟩ := I.fr
  obtain ⟨P, Z, p, hx⟩ := kit_of I ry ty
  have hu : X.A.units < cLine := by
    have := hr.un
    omega
  unfold compareOp
  refine PySem.W.cmp_K (op := .Eq) hu fr I.ok.mod.kin J (Z.ty _ _ I.kIn p) nf O.hs O.hf ?_
  refine wpAny_call (codeAny_mono (O.F.run X.A X.stack s H ⟨[.ref a, u], []⟩ [.ref a, u] [.ref a, y] _ E0 hr I.env0 (bind_at O.hb I _ rfl) (.cons rfl (.cons ry .nil)) q) fun res z' hq => ?_)
  match res, hq with
  | .ok (.ret w), hq =>
    obtain ⟨r, H', I3, rv, ⟨b, er, q3⟩⟩ := I.after hq
    subst er
    obtain rfl : w = Value.bool b := rv
    exact ⟨.bl b, H', I3, rfl, q3⟩
  | .error er, hq => exact hq.elim
end
end OM

namespace OM
open PySem PySem.Spec PyProof.Rows L2
theorem nm_len {x : Str} (h : Nm x) : x.length ≤ 8 := by
  have h : nameS x = true := h
  unfold nameS at h
  simp only [Bool.and_eq_true, decide_eq_true_eq] at h
  exact h.2.1
/-! ### quiet code -/
abbrev Rg := Str → Str
def Rg.put (e : Rg) (n v : Str) : Rg := fun m => if m = n then v else e m
def regs3 : List Str := ["a", "b", "c"]
mutual
inductive QS where
  | set (r f : Str) (as : List Str)
  | copy (r q : Str)
  | shw (r : Str)
  | iff (p r : Str) (ys ns : QL)
inductive QL where
  | nil
  | cons (h : QS) (t : QL)
end
mutual
def QS.d : QS → PyData
  | .set r f as => .tuple [.str "set", .str r, .str f, .tuple (as.map PyData.str)]
  | .copy r q => .tuple [.str "copy", .str r, .str q]
  | .shw r => .tuple [.str "show", .str r]
  | .iff p r ys ns => .tuple [.str "if", .str p, .str r, .tuple ys.ds, .tuple ns.ds]
def QL.ds : QL → List PyData
  | .nil => []
  | .cons h t => h.d :: t.ds
end
def QL.len : QL → Nat
  | .nil => 0
  | .cons _ t => t.len + 1
inductive QRow where
  | set (r f : Str) (as : List Str)
  | copy (r q : Str)
  | shw (r : Str)
  | iff (p r : Str) (n : Nat)
  | skip (n : Nat)
  | over
mutual
def QS.tr : QS → List QRow
  | .set r f as => [.set r f as]
  | .copy r q => [.copy r q]
  | .shw r => [.shw r]
  | .iff p r ys ns => .iff p r (ys.tr.length + 1) :: (ys.tr ++ .skip ns.tr.length :: ns.tr)
def QL.tr : QL → List QRow
  | .nil => []
  | .cons h t => h.tr ++ t.tr
end
mutual
def QS.ok : QS → Prop
  | .set r f as => r ∈ regs3 ∧ Nm f ∧ as.length ≤ 2 ∧ ∀ a ∈ as, a ∈ regs3
  | .copy r q => r ∈ regs3 ∧ q ∈ regs3
  | .shw r => r ∈ regs3
  | .iff p r ys ns => Nm p ∧ r ∈ regs3 ∧ ys.ok ∧ ns.ok
def QL.ok : QL → Prop
  | .nil => True
  | .cons h t => h.ok ∧ t.ok
end
-- how many sets with registers
mutual
def QS.s : QS → Nat
  | .set _ _ as => if as = [] then 0 else 1
  | .iff _ _ ys ns => ys.s + ns.s
  | _ => 0
def QL.s : QL → Nat
  | .nil => 0
  | .cons h t => h.s + t.s
end
-- how many ifs
mutual
def QS.t : QS → Nat
  | .iff _ _ ys ns => ys.t + ns.t + 1
  | _ => 0
def QL.t : QL → Nat
  | .nil => 0
  | .cons h t => h.t + t.t
end
-- ifs are nested at most so deep
mutual
def QS.dp : QS → Nat → Prop
  | .iff _ _ ys ns, 0 => False
  | .iff _ _ ys ns, n + 1 => ys.dp n ∧ ns.dp n
  | _, _ => True
def QL.dp : QL → Nat → Prop
  | .nil, _ => True
  | .cons h t, n => h.dp n ∧ t.dp n
end
section
variable (ask : Str → Str → Bool)
mutual
def QS.sh : QS → Rg → List Str
  | .set _ _ _, _ => []
  | .copy _ _, _ => []
  | .shw r, e => [e r]
  | .iff p r ys ns, e => if ask p (e r) = true then ys.sh e else ns.sh e
def QS.en : QS → Rg → Rg
  | .set r f as, e => e.put r (wrT f (as.map e))
  | .copy r q, e => e.put r (e q)
  | .shw _, e => e
  | .iff p r ys ns, e => if ask p (e r) = true then ys.en e else ns.en e
def QL.sh : QL → Rg → List Str
  | .nil, _ => []
  | .cons h t, e => h.sh e ++ t.sh (h.en e)
def QL.en : QL → Rg → Rg
  | .nil, e => e
  | .cons h t, e => t.en (h.en e)
end
/-- what comes by the rows from one place on: what is shown, and the registers at the end -/
inductive Trc (T : List QRow) : Nat → Rg → List Str → Rg → Prop
  | over {i : Nat} {e : Rg} (h : T[i]? = some .over) : Trc T i e [] e
  | shw {i : Nat} {e e' : Rg} {r : Str} {L : List Str} (h : T[i]? = some (.shw r)) (k : Trc T (i + 1) e L e') : Trc T i e (e r :: L) e'
  | set {i : Nat} {e e' : Rg} {r f : Str} {as L : List Str} (h : T[i]? = some (.set r f as)) (sm : ∀ a ∈ as, (e a).length ≤ 4000000) (k : Trc T (i + 1) (e.put r (wrT f (as.map e))) L e') : Trc T i e L e'
  | copy {i : Nat} {e e' : Rg} {r q : Str} {L : List Str} (h : T[i]? = some (.copy r q)) (k : Trc T (i + 1) (e.put r (e q)) L e') : Trc T i e L e'
  | yes {i n : Nat} {e e' : Rg} {p r : Str} {L : List Str} (h : T[i]? = some (.iff p r n)) (a : ask p (e r) = true) (k : Trc T (i + 1) e L e') : Trc T i e L e'
  | no {i n : Nat} {e e' : Rg} {p r : Str} {L : List Str} (h : T[i]? = some (.iff p r n)) (a : ask p (e r) = false) (k : Trc T (i + 1 + n) e L e') : Trc T i e L e'
  | skip {i n : Nat} {e e' : Rg} {L : List Str} (h : T[i]? = some (.skip n)) (k : Trc T (i + 1 + n) e L e') : Trc T i e L e'
end
/-- no value is longer than b, less twelve -/
def SmB (b : Nat) (e : Rg) : Prop := 52 ≤ b ∧ ∀ n, n ∈ regs3 → (e n).length + 12 ≤ b
theorem SmB.put {b b' : Nat} {e : Rg} {r v : Str} (h : SmB b e) (hb : b ≤ b') (hv : v.length + 12 ≤ b') : SmB b' (e.put r v) := by
  refine ⟨Nat.le_trans h.1 hb, fun n hn => ?_⟩
  unfold Rg.put
  split
  · exact hv
  · exact Nat.le_trans (h.2 n hn) hb
theorem SmB.wr {b : Nat} {e : Rg} {r f : Str} {as : List Str} (h : SmB b e) (hf : Nm f) (hl : as.length ≤ 2) (ha : ∀ a ∈ as, a ∈ regs3) : SmB (2 ^ (if as = [] then 0 else 1) * b) (e.put r (wrT f (as.map e))) := by
  have l := wr_len (f := f) (as := as.map e) (b := b - 12) (nm_len hf) (fun x hx => by
    obtain ⟨a, h1, rfl⟩ := List.mem_map.mp hx
    have := h.2 a (ha a h1)
    omega) (by rw [List.length_map]; exact hl) (by have := h.1; omega)
  have b5 := h.1
  by_cases z : as = []
  · subst z
    rw [if_pos rfl]
    have l : (wrT f (([] : List Str).map e)).length ≤ b - 12 := by
      have e0 : (([] : List Str).map e) = [] := rfl
      rw [e0] at l ⊢
      rw [if_pos rfl] at l
      exact l
    exact h.put (by omega) (by omega)
  · rw [if_neg z]
    rw [if_neg (fun q => z (List.map_eq_nil_iff.mp q))] at l
    exact h.put (by omega) (by omega)
section
variable {ask : Str → Str → Bool}
mutual
theorem QS.sm : ∀ (c : QS) {b : Nat} {e : Rg}, c.ok → SmB b e → SmB (2 ^ c.s * b) (c.en ask e)
  | .set r f as, b, e, ok, h => by
    show SmB (2 ^ (if as = [] then 0 else 1) * b) _
    exact h.wr ok.2.1 ok.2.2.1 ok.2.2.2
  | .copy r q, b, e, ok, h => by
    show SmB (1 * b) (e.put r (e q))
    exact h.put (by omega) (by have := h.2 q ok.2; omega)
  | .shw r, b, e, ok, h => by
    show SmB (1 * b) e
    rw [Nat.one_mul]
    exact h
  | .iff p r ys ns, b, e, ok, h => by
    show SmB (2 ^ (ys.s + ns.s) * b) (if ask p (e r) = true then ys.en ask e else ns.en ask e)
    have hy := QL.sm ys ok.2.2.1 h
    have hn := QL.sm ns ok.2.2.2 h
    have up : ∀ {k m : Nat} {e' : Rg}, k ≤ m → SmB (2 ^ k * b) e' → SmB (2 ^ m * b) e' := fun hk z => by
      have := Nat.mul_le_mul_right b (Nat.pow_le_pow_right (by decide : 2 > 0) hk)
      exact ⟨Nat.le_trans z.1 this, fun n hn => Nat.le_trans (z.2 n hn) this⟩
    split
    · exact up (Nat.le_add_right _ _) hy
    · exact up (Nat.le_add_left _ _) hn
theorem QL.sm : ∀ (c : QL) {b : Nat} {e : Rg}, c.ok → SmB b e → SmB (2 ^ c.s * b) (c.en ask e)
  | .nil, b, e, _, h => by
    show SmB (1 * b) e
    rw [Nat.one_mul]
    exact h
  | .cons x t, b, e, ok, h => by
    show SmB (2 ^ (x.s + t.s) * b) (t.en ask (x.en ask e))
    have := QL.sm t ok.2 (QS.sm x ok.1 h)
    rw [← Nat.mul_assoc, ← Nat.pow_add, Nat.add_comm t.s x.s] at this
    exact this
end
theorem pow_le {s s' b m : Nat} (h : 2 ^ (s + s') * b ≤ m) : 2 ^ s * b ≤ m ∧ 2 ^ s' * b ≤ m := by
  have a := Nat.mul_le_mul_right b (Nat.pow_le_pow_right (by decide : 2 > 0) (Nat.le_add_right s s'))
  have c := Nat.mul_le_mul_right b (Nat.pow_le_pow_right (by decide : 2 > 0) (Nat.le_add_left s' s))
  exact ⟨Nat.le_trans a h, Nat.le_trans c h⟩
theorem at_mid {pre post : List QRow} {x : QRow} : (pre ++ x :: post)[pre.length]? = some x := by
  rw [List.getElem?_append_right (Nat.le_refl _), Nat.sub_self]
  rfl
mutual
theorem QS.trc {T : List QRow} {e' : Rg} : ∀ (c : QS) {b : Nat} {e : Rg} {pre post : List QRow} {L : List Str}, c.ok → SmB b e → 2 ^ c.s * b ≤ 4000000 → T = pre ++ (c.tr ++ post) → Trc ask T (pre.length + c.tr.length) (c.en ask e) L e' → Trc ask T pre.length e (c.sh ask e ++ L) e'
  | .set r f as, b, e, pre, post, L, ok, h, hb, hT, k => by
    subst hT
    refine .set (r := r) (f := f) (as := as) at_mid (fun a ha => ?_) k
    have h1 := h.2 a (ok.2.2.2 a ha)
    have h2 : b ≤ 2 ^ (QS.set r f as).s * b := Nat.le_mul_of_pos_left b (Nat.pow_pos (by decide))
    omega
  | .copy r q, b, e, pre, post, L, ok, h, hb, hT, k => by
    subst hT
    exact .copy (r := r) (q := q) at_mid k
  | .shw r, b, e, pre, post, L, ok, h, hb, hT, k => by
    subst hT
    exact .shw (r := r) at_mid k
  | .iff p r ys ns, b, e, pre, post, L, ok, h, hb, hT, k => by
    have hs : 2 ^ (ys.s + ns.s) * b ≤ 4000000 := hb
    obtain ⟨by1, bn⟩ := pow_le hs
    have hT0 : T = pre ++ QRow.iff p r (ys.tr.length + 1) :: (ys.tr ++ QRow.skip ns.tr.length :: ns.tr ++ post) := hT
    have at0 : T[pre.length]? = some (.iff p r (ys.tr.length + 1)) := by
      rw [hT0]
      exact at_mid
    have tl : (QS.iff p r ys ns).tr.length = 1 + (ys.tr.length + (1 + ns.tr.length)) := by
      show (QRow.iff p r (ys.tr.length + 1) :: (ys.tr ++ QRow.skip ns.tr.length :: ns.tr)).length = _
      rw [List.length_cons, List.length_append, List.length_cons]
      omega
    rw [tl] at k
    have k : Trc ask T (pre.length + (1 + (ys.tr.length + (1 + ns.tr.length)))) (if ask p (e r) = true then ys.en ask e else ns.en ask e) L e' := k
    show Trc ask T pre.length e ((if ask p (e r) = true then ys.sh ask e else ns.sh ask e) ++ L) e'
    cases ha : ask p (e r) with
    | true =>
      rw [ha, if_pos rfl] at k
      rw [if_pos rfl]
      refine .yes at0 ha ?_
      have e1 : T = (pre ++ [QRow.iff p r (ys.tr.length + 1)]) ++ (ys.tr ++ (QRow.skip ns.tr.length :: ns.tr ++ post)) := by
        rw [hT0]
        simp [List.append_assoc]
      have l1 : (pre ++ [QRow.iff p r (ys.tr.length + 1)]).length = pre.length + 1 := by simp
      have z := QL.trc (e' := e') ys (L := L) ok.2.2.1 h by1 e1 ?_
      · rw [l1] at z
        exact z
      · rw [l1]
        have e2 : T = (pre ++ QRow.iff p r (ys.tr.length + 1) :: ys.tr) ++ QRow.skip ns.tr.length :: (ns.tr ++ post) := by
          rw [hT0]
          simp [List.append_assoc]
        have l2 : (pre ++ QRow.iff p r (ys.tr.length + 1) :: ys.tr).length = pre.length + 1 + ys.tr.length := by simp; omega
        refine .skip (n := ns.tr.length) ?_ ?_
        · rw [e2, ← l2]
          exact at_mid
        · rw [show pre.length + 1 + ys.tr.length + 1 + ns.tr.length = pre.length + (1 + (ys.tr.length + (1 + ns.tr.length))) by omega]
          exact k
    | false =>
      rw [ha, if_neg (by decide)] at k
      rw [if_neg (by decide)]
      refine .no at0 ha ?_
      have e1 : T = (pre ++ QRow.iff p r (ys.tr.length + 1) :: (ys.tr ++ [QRow.skip ns.tr.length])) ++ (ns.tr ++ post) := by
        rw [hT0]
        simp [List.append_assoc]
      have l1 : (pre ++ QRow.iff p r (ys.tr.length + 1) :: (ys.tr ++ [QRow.skip ns.tr.length])).length = pre.length + 1 + (ys.tr.length + 1) := by simp; omega
      have z := QL.trc (e' := e') ns (L := L) ok.2.2.2 h bn e1 ?_
      · rw [l1] at z
        exact z
      · rw [l1, show pre.length + 1 + (ys.tr.length + 1) + ns.tr.length = pre.length + (1 + (ys.tr.length + (1 + ns.tr.length))) by omega]
        exact k
theorem QL.trc {T : List QRow} {e' : Rg} : ∀ (c : QL) {b : Nat} {e : Rg} {pre post : List QRow} {L : List Str}, c.ok → SmB b e → 2 ^ c.s * b ≤ 4000000 → T = pre ++ (c.tr ++ post) → Trc ask T (pre.length + c.tr.length) (c.en ask e) L e' → Trc ask T pre.length e (c.sh ask e ++ L) e'
  | .nil, b, e, pre, post, L, ok, h, hb, hT, k => k
  | .cons x t, b, e, pre, post, L, ok, h, hb, hT, k => by
    have hs : 2 ^ (x.s + t.s) * b ≤ 4000000 := hb
    have hT0 : T = pre ++ (x.tr ++ (t.tr ++ post)) := by
      rw [hT]
      show pre ++ ((x.tr ++ t.tr) ++ post) = _
      rw [List.append_assoc]
    have k : Trc ask T (pre.length + (x.tr ++ t.tr).length) (t.en ask (x.en ask e)) L e' := k
    show Trc ask T pre.length e ((x.sh ask e ++ t.sh ask (x.en ask e)) ++ L) e'
    rw [List.append_assoc]
    refine QS.trc x ok.1 h (pow_le hs).1 hT0 ?_
    have l1 : (pre ++ x.tr).length = pre.length + x.tr.length := List.length_append
    rw [← l1]
    refine QL.trc t ok.2 (QS.sm x ok.1 h) ?_ (by rw [hT0, List.append_assoc]) ?_
    · rw [← Nat.mul_assoc, ← Nat.pow_add, Nat.add_comm]
      exact hs
    · rw [l1, Nat.add_assoc, ← List.length_append]
      exact k
end
/-- all of a thread -/
theorem trc_all {c : QL} {b : Nat} {e : Rg} (ok : c.ok) (h : SmB b e) (hb : 2 ^ c.s * b ≤ 4000000) : Trc ask (c.tr ++ [.over]) 0 e (c.sh ask e) (c.en ask e) := by
  have z := QL.trc (ask := ask) (T := c.tr ++ [.over]) (e' := c.en ask e) c (pre := []) (post := [.over]) (L := []) ok h hb rfl (.over (by
    show (c.tr ++ [QRow.over])[[].length + c.tr.length]? = _
    rw [List.length_nil, Nat.zero_add]
    exact at_mid))
  rw [List.append_nil] at z
  exact z
end
end OM

namespace OM
open PySem PySem.Spec PyProof.Rows L2
abbrev sQuiet : Stmt := top 66
/-! ### data of texts and tuples -/
mutual
inductive Tp (H : Hp) : V → PyData → Prop where
  | str (x : Str) : Tp H (.str x) (.str x)
  | tup {a : Addr} {xs : List V} {ds : List PyData} (e : H a = some (.tup xs)) (l : xs.length ≤ 1000) (h : TpAll H xs ds) : Tp H (.ref a) (.tuple ds)
inductive TpAll (H : Hp) : List V → List PyData → Prop where
  | nil : TpAll H [] []
  | cons {v : V} {d : PyData} {vs : List V} {ds : List PyData} (h : Tp H v d) (r : TpAll H vs ds) : TpAll H (v :: vs) (d :: ds)
end
mutual
theorem Tp.mv {H H' : Hp} (t : TupS H H') : ∀ {v : V} {d : PyData}, Tp H v d → Tp H' v d
  | _, _, .str x => .str x
  | _, _, .tup e l h => .tup (t _ _ e) l (TpAll.mv t h)
theorem TpAll.mv {H H' : Hp} (t : TupS H H') : ∀ {vs : List V} {ds : List PyData}, TpAll H vs ds → TpAll H' vs ds
  | _, _, .nil => .nil
  | _, _, .cons h r => .cons (Tp.mv t h) (TpAll.mv t r)
end
mutual
theorem Tp.dt {H : Hp} : ∀ {v : V} {d : PyData}, Tp H v d → Dt (fun _ => True) H v d
  | _, _, .str x => .at (.str x)
  | _, _, .tup e l h => .tup True.intro e l (TpAll.dt h)
theorem TpAll.dt {H : Hp} : ∀ {vs : List V} {ds : List PyData}, TpAll H vs ds → DtAll (fun _ => True) H vs ds
  | _, _, .nil => .nil
  | _, _, .cons h r => .cons (Tp.dt h) (TpAll.dt r)
end
theorem TpAll.length {H : Hp} : ∀ {vs : List V} {ds : List PyData}, TpAll H vs ds → vs.length = ds.length
  | _, _, .nil => rfl
  | _, _, .cons _ r => congrArg (· + 1) (TpAll.length r)
theorem TpAll.snoc {H : Hp} : ∀ {vs : List V} {ds : List PyData} {v : V} {d : PyData}, TpAll H vs ds → Tp H v d → TpAll H (vs ++ [v]) (ds ++ [d])
  | _, _, _, _, .nil, h => .cons h .nil
  | _, _, _, _, .cons a r, h => .cons a (TpAll.snoc r h)
theorem Tp.strs {H : Hp} : ∀ as : List Str, TpAll H (as.map V.str) (as.map PyData.str)
  | [] => .nil
  | x :: r => .cons (.str x) (Tp.strs r)
theorem Tp.strL {H : Hp} : ∀ {xs : List V} {as : List Str}, TpAll H xs (as.map PyData.str) → xs = as.map V.str
  | [], [], _ => rfl
  | _ :: _, _ :: _, .cons (.str x) r => by rw [Tp.strL r]; rfl
theorem Tp.tupI {H : Hp} {v : V} {ds : List PyData} (h : Tp H v (.tuple ds)) : ∃ a xs, v = .ref a ∧ H a = some (.tup xs) ∧ xs.length ≤ 1000 ∧ TpAll H xs ds := by
  cases h with
  | @tup a xs _ e hl h => exact ⟨a, xs, rfl, e, hl, h⟩
theorem Tp.strI {H : Hp} {v : V} {x : Str} (h : Tp H v (.str x)) : v = .str x := by
  cases h
  rfl
/-- what lists stand at may change, tuples stay -/
theorem but2_tup {d q : Addr} {H H' : Hp} (b : But2 d q H H') (hd : Dice H d) (hq : ∃ ys, H q = some (.lst ys)) : TupS H H' := fun x xs e => by
  obtain ⟨_, _, _, e1⟩ := hd
  obtain ⟨ys, e2⟩ := hq
  exact b x _ (fun z => by rw [z, e1] at e; cases e) (fun z => by rw [z, e2] at e; cases e) e
theorem but_tup {d : Addr} {H H' : Hp} (b : But d H H') (hd : Dice H d) : TupS H H' := fun x xs e => by
  obtain ⟨_, _, _, e1⟩ := hd
  exact b x _ (fun z => by rw [z, e1] at e; cases e) e
/-! ### code that grows at its end -/
def QL.app1 : QL → QS → QL
  | .nil, x => .cons x .nil
  | .cons h t, x => .cons h (t.app1 x)
theorem app1_ds (x : QS) : ∀ c : QL, (c.app1 x).ds = c.ds ++ [x.d]
  | .nil => rfl
  | .cons h t => by
    show h.d :: (t.app1 x).ds = h.d :: (t.ds ++ [x.d])
    rw [app1_ds x t]
theorem app1_len (x : QS) : ∀ c : QL, (c.app1 x).len = c.len + 1
  | .nil => rfl
  | .cons h t => by
    show (t.app1 x).len + 1 = (t.len + 1) + 1
    rw [app1_len x t]
theorem app1_s (x : QS) : ∀ c : QL, (c.app1 x).s = c.s + x.s
  | .nil => Nat.add_comm _ _
  | .cons h t => by
    show h.s + (t.app1 x).s = (h.s + t.s) + x.s
    rw [app1_s x t, Nat.add_assoc]
theorem app1_t (x : QS) : ∀ c : QL, (c.app1 x).t = c.t + x.t
  | .nil => Nat.add_comm _ _
  | .cons h t => by
    show h.t + (t.app1 x).t = (h.t + t.t) + x.t
    rw [app1_t x t, Nat.add_assoc]
theorem app1_ok {x : QS} (hx : x.ok) : ∀ {c : QL}, c.ok → (c.app1 x).ok
  | .nil, _ => ⟨hx, True.intro⟩
  | .cons h t, k => ⟨k.1, app1_ok hx k.2⟩
theorem app1_dp {n : Nat} {x : QS} (hx : x.dp n) : ∀ {c : QL}, c.dp n → (c.app1 x).dp n
  | .nil, _ => ⟨hx, True.intro⟩
  | .cons h t, k => ⟨k.1, app1_dp hx k.2⟩
-- inner codes are short
mutual
def QS.in2 : QS → Prop
  | .iff _ _ ys ns => ys.len ≤ 2 ∧ ns.len ≤ 2 ∧ ys.in2 ∧ ns.in2
  | _ => True
def QL.in2 : QL → Prop
  | .nil => True
  | .cons h t => h.in2 ∧ t.in2
end
theorem app1_in2 {x : QS} (hx : x.in2) : ∀ {c : QL}, c.in2 → (c.app1 x).in2
  | .nil, _ => ⟨hx, True.intro⟩
  | .cons h t, k => ⟨k.1, app1_in2 hx k.2⟩
mutual
theorem QS.size : ∀ x : QS, x.in2 → x.tr.length ≤ 1 + 5 * x.t
  | .set r f as, _ => Nat.le_refl _
  | .copy r q, _ => Nat.le_refl _
  | .shw r, _ => Nat.le_refl _
  | .iff p r ys ns, h => by
    have a := QL.size ys h.2.2.1
    have b := QL.size ns h.2.2.2
    have c := h.1
    have d := h.2.1
    have e : (QS.iff p r ys ns).t = ys.t + ns.t + 1 := rfl
    have tl : (QS.iff p r ys ns).tr.length = 1 + (ys.tr.length + (1 + ns.tr.length)) := by
      show (QRow.iff p r (ys.tr.length + 1) :: (ys.tr ++ QRow.skip ns.tr.length :: ns.tr)).length = _
      rw [List.length_cons, List.length_append, List.length_cons]
      omega
    omega
theorem QL.size : ∀ c : QL, c.in2 → c.tr.length ≤ c.len + 5 * c.t
  | .nil, _ => Nat.le_refl _
  | .cons x t, h => by
    have a := QS.size x h.1
    have b := QL.size t h.2
    have e1 : (QL.cons x t).tr.length = x.tr.length + t.tr.length := List.length_append
    have e2 : (QL.cons x t).len = t.len + 1 := rfl
    have e3 : (QL.cons x t).t = x.t + t.t := rfl
    omega
end
theorem QL.ds_len : ∀ c : QL, c.ds.length = c.len
  | .nil => rfl
  | .cons x t => by
    show t.ds.length + 1 = t.len + 1
    rw [QL.ds_len t]
def RoomQ (H : Hp) (q : Addr) (s t : Nat) : Prop := H q = some (.lst [.int s, .int t])
def spQuiet : Nat → Sp
  | 0 => fun _ _ _ _ => False
  | n + 1 => fun vs H Q _ => ∃ (d q : Addr) (m s t : Nat), vs = [.ref d, .int m, .ref q, .int n] ∧ 0 < m ∧ m ≤ 100 ∧ Dice H d ∧ RoomQ H q s t ∧ d ≠ q ∧
    ∀ H' v (c : QL), But2 d q H H' → Dice H' d → RoomQ H' q (s - c.s) (t - c.t) → c.s ≤ s → c.t ≤ t → c.ok → c.dp n → c.in2 → c.len ≤ m → Tp H' v (.tuple c.ds) → Q v H'
theorem reg3 {x : Str} (h : x ∈ (["a", "b", "c"] : List Str)) : x ∈ regs3 := h
theorem fg_nm {x : Str} (h : x ∈ (["f", "g"] : List Str)) : Nm x := by
  rcases two_of h with rfl | rfl <;> (show isNameD _ = true; decide +kernel)
theorem pq_nm {x : Str} (h : x ∈ (["p", "q"] : List Str)) : Nm x := by
  rcases two_of h with rfl | rfl <;> (show isNameD _ = true; decide +kernel)
section
variable {P : Program} {w : World} {K : PySem.W.Frag} {mg : Str → Option Value} {base : Heap} {f fR fO : Addr} {fd fdR fdO : FuncData}
abbrev nQc : List Str := ["_law_dice_here", "_law_most", "_law_room", "_law_deep", "_law_found", "_law_turn", "_law_way", "_law_one", "_law_other", "_law_yes"]
theorem scQc : FnScope nQc ["_law_dice_here", "_law_most", "_law_room", "_law_deep"] (defScope sQuiet) := ⟨rfl, rfl, rfl, by decide +kernel, rfl, by decide +kernel, by decide +kernel⟩
theorem quiet_step {n k : Nat} (F : Fun K "_law_quiet_code" "_law_quiet_code" sQuiet f fd) (D : DiceF K mg fR fO fdR fdO) (rng : mg "range" = none) (tup : mg "tuple" = none) (gC : mg "_law_quiet_code" = some (.ref f)) (bC : Binds K fd ["_law_dice_here", "_law_most", "_law_room", "_law_deep"] [])
    (GC : FnOk P w K mg base CX0 (k + 2) f fd ["_law_dice_here", "_law_most", "_law_room", "_law_deep"] (spQuiet n)) : FnOk P w K mg base CX0 (k + 3) f fd ["_law_dice_here", "_law_most", "_law_room", "_law_deep"] (spQuiet (n + 1)) := by
  have GR : FnOk P w K mg base CX0 1 fR fdR ["_law_dice_here", "_law_total"] spRoll := ok_roll D.FR D.T
  have GO : FnOk P w K mg base CX0 2 fO fdO ["_law_dice_here", "_law_items"] (spOneOf K) := ok_oneof D.FO D.T D.FR D.gR D.bR
  refine F.ok scQc (fun vs H Q E h => ?_) (fun cdv A outer s H vs Q E hr h => ?_)
  · obtain ⟨d, q, m, s, t, rfl, _⟩ := h
    rfl
  · obtain ⟨d, q, m, s1, t1, rfl, hm0, hm, hd, hq, ne, c⟩ := h
    refine ⟨_, pss_cons (ps_set (i := 4) scQc.nd rfl (Or.inl rfl) (pe_lst pa_nil))
      (pss_cons (ps_for PassesOwn.never rfl (pi_range1 (by rfl) rng (pa_cons (pe_op op_add pe_int (pe_call GR (hr.mono (by omega)) (by rfl) D.gR D.FR.kp D.bR .nil pass0 (pa_cons (pv 0) (pa_cons (pv 1) pa_nil)))) pa_nil)) (pg_name (i := 5) scQc.nd rfl (Or.inl rfl))
        (pss_cons (ps_set (i := 6) scQc.nd rfl (Or.inl rfl) (pe_call GR (hr.mono (by omega)) (by rfl) D.gR D.FR.kp D.bR .nil pass0 (pa_cons (pv 0) (pa_cons pe_int pa_nil))))
        (pss_cons (ps_par (i := 7) (j := 8) rfl scQc.nd rfl rfl (by decide) (by rfl) (by rfl) (pa_cons (pe_call GO (hr.mono (by omega)) (by rfl) D.gO D.FO.kp D.bO .nil pass0 (pa_cons (pv 0) (pa_cons (pe_lst (pa_cons pe_str (pa_cons pe_str (pa_cons pe_str pa_nil)))) pa_nil)))
          (pa_cons (pe_call GO (hr.mono (by omega)) (by rfl) D.gO D.FO.kp D.bO .nil pass0 (pa_cons (pv 0) (pa_cons (pe_lst (pa_cons pe_str (pa_cons pe_str (pa_cons pe_str pa_nil)))) pa_nil))) pa_nil)) (by rfl))
        (pss_one (ps_if (PW.pt (pw_and (pt_cmpR op_lt (pv 6) pe_int (nomark _)) (pw_and1 (pt_cmpR op_gt (pe_ix ix_list (pv 2) pe_int (fun _ _ => rfl)) pe_int (nomark _)))))
          (pss_cons (ps_asg (pe_op op_sub (pe_ix ix_list (pv 2) pe_int (fun _ _ => rfl)) pe_int) (pg_sub (pv 2) pe_int L2.set_list))
          (pss_one (ps_expr (pe_bm PySem.F.plainAttrs_list PySem.F.slot_list_append PySem.F.type_list_append mt_append (pv 4) (pa_cons (pe_tup (pa_cons pe_str (pa_cons (pv 7) (pa_cons (pe_call GO (hr.mono (by omega)) (by rfl) D.gO D.FO.kp D.bO .nil pass0 (pa_cons (pv 0) (pa_cons (pe_lst (pa_cons pe_str (pa_cons pe_str pa_nil))) pa_nil)))
            (pa_cons (pe_call GO (hr.mono (by omega)) (by rfl) D.gO D.FO.kp D.bO .nil pass0 (pa_cons (pv 0) (pa_cons (pe_lst (pa_cons (pe_tup (pa_cons (pv 8) pa_nil)) (pa_cons (pe_tup (pa_cons (pv 8) (pa_cons (pv 7) pa_nil))) pa_nil))) pa_nil))) pa_nil))))) pa_nil)))))
          (pss_one (ps_if (pt_cmpR op_lt (pv 6) pe_int (nomark _))
            (pss_one (ps_expr (pe_bm PySem.F.plainAttrs_list PySem.F.slot_list_append PySem.F.type_list_append mt_append (pv 4) (pa_cons (pe_tup (pa_cons pe_str (pa_cons (pv 7) (pa_cons pe_str (pa_cons (pe_tup pa_nil) pa_nil))))) pa_nil))))
          (pss_one (ps_if (pt_cmpR op_lt (pv 6) pe_int (nomark _))
            (pss_one (ps_expr (pe_bm PySem.F.plainAttrs_list PySem.F.slot_list_append PySem.F.type_list_append mt_append (pv 4) (pa_cons (pe_tup (pa_cons pe_str (pa_cons (pv 7) (pa_cons (pv 8) pa_nil)))) pa_nil))))
          (pss_one (ps_if (PW.pt (pw_and (pt_cmpR op_lt (pv 6) pe_int (nomark _)) (pw_and (pt_cmpR op_gt (pv 3) pe_int (nomark _)) (pw_and1 (pt_cmpR op_gt (pe_ix ix_list (pv 2) pe_int (fun _ _ => rfl)) pe_int (nomark _))))))
            (pss_cons (ps_asg (pe_op op_sub (pe_ix ix_list (pv 2) pe_int (fun _ _ => rfl)) pe_int) (pg_sub (pv 2) pe_int L2.set_list))
            (pss_cons (ps_set (i := 9) scQc.nd rfl (Or.inl rfl) (pe_call GC hr (by rfl) gC F.kp bC .nil pass0 (pa_cons (pv 0) (pa_cons pe_int (pa_cons (pv 2) (pa_cons (pe_op op_sub (pv 3) pe_int) pa_nil))))))
            (pss_one (ps_expr (pe_bm PySem.F.plainAttrs_list PySem.F.slot_list_append PySem.F.type_list_append mt_append (pv 4) (pa_cons (pe_tup (pa_cons pe_str (pa_cons (pe_call GO (hr.mono (by omega)) (by rfl) D.gO D.FO.kp D.bO .nil pass0 (pa_cons (pv 0) (pa_cons (pe_lst (pa_cons pe_str (pa_cons pe_str pa_nil))) pa_nil)))
              (pa_cons (pv 8) (pa_cons (pv 9) (pa_cons (pe_call GC hr (by rfl) gC F.kp bC .nil pass0 (pa_cons (pv 0) (pa_cons pe_int (pa_cons (pv 2) (pa_cons (pe_op op_sub (pv 3) pe_int) pa_nil))))) pa_nil)))))) pa_nil))))))
            (pss_one (ps_expr (pe_bm PySem.F.plainAttrs_list PySem.F.slot_list_append PySem.F.type_list_append mt_append (pv 4) (pa_cons (pe_tup (pa_cons pe_str (pa_cons (pv 7) pa_nil))) pa_nil)))))))))))))))
      (pss_one (ps_ret (pe_callTy call_tuple_of (by rfl) tup (by decide +kernel) (pa_cons (pv 4) pa_nil))))), ?_⟩
    refine ⟨(by show 0 ≤ sizeLine; decide), fun p hp => ?_⟩
    have dn : ∀ {G : Hp}, Dice G d → G d ≠ none := fun {G} h => h.ne
    have pd : p ≠ d := fun z => dn hd (by rw [← z]; exact hp)
    have pq : p ≠ q := fun z => by
      rw [z, hq] at hp
      cases hp
    have sp := same_upd (o := .lst []) hp
    have hd0 : Dice (upd H p (.lst [])) d := hd.mv sp
    refine ⟨_, rfl, _, rfl, d, (m : Int), rfl, hd0, by omega, by omega, fun H1 r r0 r1 b1 hd1 => ⟨_, _, rfl, rfl, ?_⟩⟩
    refine ⟨(1 : Int) + r, rfl, by omega, by omega, ?_⟩
    have en : ((1 : Int) + r).toNat ≤ m := by omega
    refine for_range (fun i σ G => (∃ x5 x6 x7 x8 x9, σ = [some (.ref d), some (.int m), some (.ref q), some (.int n), some (.ref p), x5, x6, x7, x8, x9]) ∧ Dice G d ∧ But2 d q H G ∧ ∃ (vs : List V) (c : QL), G p = some (.lst vs) ∧ TpAll G vs c.ds ∧ c.len = i ∧ c.s ≤ s1 ∧ c.t ≤ t1 ∧ c.ok ∧ c.dp n ∧ c.in2 ∧ RoomQ G q (s1 - c.s) (t1 - c.t))
      ⟨⟨_, _, _, _, _, rfl⟩, hd1, (Same.two (H' := upd H p (.lst [])) sp).trans b1.two, [], .nil, b1 _ _ pd upd_same, .nil, rfl, Nat.zero_le _, Nat.zero_le _, True.intro, True.intro, True.intro, b1 _ _ (Ne.symm ne) (sp _ _ hq)⟩ (fun i σ G hi h => ?_) (fun σ G h => ?_)
    · obtain ⟨⟨x5, x6, x7, x8, x9, rfl⟩, hdG, bt, vs, cc, ep, tp, hl, hs, ht, ok, dp, in2, hroom⟩ := h
      have i0 : i < 1000 := by omega
      have lv := tp.length
      rw [QL.ds_len] at lv
      have ei : ((0 : Int) + (i : Int)) = ((i : Nat) : Int) := by omega
      rw [ei]
      refine ⟨_, rfl, d, 10, rfl, hdG, by omega, by omega, fun H2 wy w0 w1 b2 hd2 => ?_⟩
      refine ⟨_, rfl, (by show (3 : Nat) ≤ sizeLine; decide), fun p1 hp1 => one_str (E := E) (ws := ["a", "b", "c"]) hd2 hp1 (by decide) (by decide) fun H3 one hone b3 hd3 => ?_⟩
      refine ⟨_, rfl, (by show (3 : Nat) ≤ sizeLine; decide), fun p2 hp2 => one_str (E := E) (ws := ["a", "b", "c"]) hd3 hp2 (by decide) (by decide) fun H4 oth hoth b4 hd4 => ?_⟩
      refine ⟨_, _, rfl, ?_⟩
      have t4 : But d G H4 := (b2.trans' b3).trans' b4
      have r4 : RoomQ H4 q (s1 - cc.s) (t1 - cc.t) := t4 _ _ (Ne.symm ne) hroom
      have ep4 : H4 p = some (.lst vs) := t4 _ _ pd ep
      have tp4 : TpAll H4 vs cc.ds := tp.mv (but_tup t4 hdG)
      have bt4 : But2 d q H H4 := bt.trans t4.two
      clear b2 b3 b4 hd2 hd3 hp1 hp2
      have line : (1000 : Nat) < sizeLine := by decide
      -- a statement is added
      have fin : ∀ {G5 : Hp} {v : V} {x : QS} (y6 y7 y8 y9 : Option V), But2 d q H4 G5 → Dice G5 d → RoomQ G5 q (s1 - (cc.s + x.s)) (t1 - (cc.t + x.t)) → cc.s + x.s ≤ s1 → cc.t + x.t ≤ t1 → Tp G5 v x.d → x.ok → x.dp n → x.in2 → G5 p = some (.lst vs) ∧ vs.length < sizeLine ∧
          ((∃ x5 x6 x7 x8 x9, [some (V.ref d), some (.int m), some (.ref q), some (.int n), some (.ref p), some (V.int (i : Nat)), y6, y7, y8, y9] = [some (.ref d), some (.int m), some (.ref q), some (.int n), some (.ref p), x5, x6, x7, x8, x9]) ∧ Dice (upd G5 p (.lst (vs ++ [v]))) d ∧ But2 d q H (upd G5 p (.lst (vs ++ [v]))) ∧ ∃ (vs2 : List V) (c : QL), upd G5 p (.lst (vs ++ [v])) p = some (.lst vs2) ∧ TpAll (upd G5 p (.lst (vs ++ [v]))) vs2 c.ds ∧ c.len = i + 1 ∧ c.s ≤ s1 ∧ c.t ≤ t1 ∧ c.ok ∧ c.dp n ∧ c.in2 ∧ RoomQ (upd G5 p (.lst (vs ++ [v]))) q (s1 - c.s) (t1 - c.t)) := by
        intro G5 v x y6 y7 y8 y9 b5 hd5 r5 hs5 ht5 tx okx dpx inx
        have e5 : G5 p = some (.lst vs) := b5 _ _ pd pq ep4
        have ts : TupS G5 (upd G5 p (.lst (vs ++ [v]))) := TupS.put e5 fun _ z => nomatch z
        have t5 : TupS H4 G5 := but2_tup b5 hd4 ⟨_, r4⟩
        refine ⟨e5, by omega, ⟨_, _, _, _, _, rfl⟩, ?_, ?_, vs ++ [v], cc.app1 x, upd_same, ?_, by rw [app1_len, hl], by rw [app1_s]; exact hs5, by rw [app1_t]; exact ht5, app1_ok okx ok, app1_dp dpx dp, app1_in2 inx in2, ?_⟩
        · obtain ⟨a1, a2, a3, e⟩ := hd5
          exact ⟨a1, a2, a3, by rw [upd_ne (Ne.symm pd)]; exact e⟩
        · intro b o h1 h2 eb
          rw [upd_ne (ne_of_none eb hp)]
          exact b5 b o h1 h2 (bt4 b o h1 h2 eb)
        · rw [app1_ds]
          exact TpAll.snoc (tp4.mv (t5.trans ts)) (tx.mv ts)
        · unfold RoomQ
          rw [upd_ne (Ne.symm pq), app1_s, app1_t]
          exact r5
      have keep : ∀ {G5 : Hp} {x : Addr} {o : HO}, G5 x = none → Dice G5 d → RoomQ G5 q (s1 - cc.s) (t1 - cc.t) → Dice (upd G5 x o) d ∧ RoomQ (upd G5 x o) q (s1 - cc.s) (t1 - cc.t) := fun hx hd5 r5 => ⟨hd5.mv (same_upd hx), same_upd hx _ _ r5⟩
      apply cutP
      · intro rest
        refine ⟨_, rfl, wy, 2, rfl, rfl, _, rfl, ite2 (fun h2 => ⟨_, rfl, q, _, _, _, rfl, rfl, SqL.of r4, rfl, _, _, rfl, rfl, _, rfl, ite2 (fun hl2 => ?_) (fun _ => rest)⟩) (fun _ => iteF rest)⟩
        have hl1 : 0 < s1 - cc.s := by
          have := of_decide_eq_true hl2
          omega
        refine ⟨_, rfl, q, _, _, _, rfl, rfl, SqL.of r4, rfl, _, _, rfl, rfl, _, rfl, q, _, _, 0, rfl, rfl, r4, rfl, ?_⟩
        have e5 : ((s1 - cc.s - 1 : Nat) : Int) = ((s1 - cc.s : Nat) : Int) - 1 := by omega
        have r5 : RoomQ (upd H4 q (.lst [V.int (((s1 - cc.s : Nat) : Int) - 1), .int (t1 - cc.t : Nat)])) q (s1 - cc.s - 1) (t1 - cc.t) := by
          unfold RoomQ
          rw [e5]
          exact upd_same
        have hd5 : Dice (upd H4 q (.lst [V.int (((s1 - cc.s : Nat) : Int) - 1), .int (t1 - cc.t : Nat)])) d := by
          obtain ⟨a1, a2, a3, e⟩ := hd4
          exact ⟨a1, a2, a3, by rw [upd_ne ne]; exact e⟩
        have b5 : But2 d q H4 (upd H4 q (.lst [V.int (((s1 - cc.s : Nat) : Int) - 1), .int (t1 - cc.t : Nat)])) := fun c o h1 h2 e => by rw [upd_ne h2]; exact e
        refine ⟨_, rfl, .inl ⟨rfl, vs, SqL.of (b5 _ _ pd pq ep4)⟩, _, rfl, _, rfl, (by show 2 ≤ sizeLine; decide), fun p7 hp7 => one_str (E := E) (ws := ["f", "g"]) hd5 hp7 (by decide) (by decide) fun H6 ff hff b6 hd6 => ?_⟩
        have r6 := b6 _ _ (Ne.symm ne) r5
        refine ⟨_, rfl, _, rfl, (by show 1 ≤ sizeLine; decide), fun pa ha => ⟨_, rfl, _, rfl, (by show 2 ≤ sizeLine; decide), fun pb hb => ⟨(by show 2 ≤ sizeLine; decide), fun pl hpl => ?_⟩⟩⟩
        have sa := same_upd (o := .tup [.str oth]) ha
        have sb := same_upd (o := .tup [.str oth, .str one]) hb
        have sl := same_upd (o := .lst [.ref pa, .ref pb]) hpl
        have hdl := ((hd6.mv sa).mv sb).mv sl
        refine ⟨d, pl, [.ref pa, .ref pb], rfl, hdl, SqL.of upd_same, fun _ z => (by rw [z] at hpl; exact absurd hpl ((hd6.mv sa).mv sb).ne), (by show (0 : Nat) < 2; decide), (by show (2 : Nat) < 1073741824; decide), fun H7 j v hv b7 hd7 => ?_⟩
        have sal := (sa.trans sb).trans sl
        have key : ∃ (pp : Addr) (as : List Str), v = .ref pp ∧ H7 pp = some (.tup (as.map V.str)) ∧ as.length ≤ 2 ∧ as ≠ [] ∧ ∀ a ∈ as, a ∈ regs3 := by
          have ts7 := but_tup b7 hdl
          have hv := List.mem_of_getElem? hv
          rcases List.mem_cons.mp hv with rfl | hv
          · exact ⟨pa, [oth], rfl, ts7 _ _ (sl _ _ (sb _ _ upd_same)), by simp, by simp, fun a h => by rw [List.mem_singleton.mp h]; exact reg3 hoth⟩
          rcases List.mem_cons.mp hv with rfl | hv
          · exact ⟨pb, [oth, one], rfl, ts7 _ _ (sl _ _ upd_same), by simp, by simp, fun a h => by
              rcases two_of h with rfl | rfl
              · exact reg3 hoth
              · exact reg3 hone⟩
          cases hv
        obtain ⟨pp, as, rfl, epp, las, nas, has⟩ := key
        refine ⟨(by show 4 ≤ sizeLine; decide), fun p9 hp9 => ?_⟩
        have s9 := same_upd (o := .tup [.str "set", .str one, .str ff, .ref pp]) hp9
        have bb := ((b5.trans b6.two).trans ((Same.two sal).trans b7.two)).trans (Same.two s9)
        have xs : (QS.set one ff as).s = 1 := by
          show (if as = [] then 0 else 1) = 1
          rw [if_neg nas]
        have r9 := s9 _ _ (b7 _ _ (Ne.symm ne) (sal _ _ r6))
        obtain ⟨f1, f2, f3⟩ := fin (x := .set one ff as) (v := .ref p9) (some (.int wy)) (some (.str one)) (some (.str oth)) x9 bb (hd7.mv s9) (by
          rw [xs, show (QS.set one ff as).t = 0 from rfl, ← Nat.sub_sub]
          exact r9) (by rw [xs]; omega) (by show cc.t + 0 ≤ t1; omega)
          (.tup upd_same (by show 4 ≤ 1000; decide) (.cons (.str _) (.cons (.str _) (.cons (.str _) (.cons (.tup (s9 _ _ epp) (by rw [List.length_map]; omega) (Tp.strs as)) .nil))))) ⟨reg3 hone, fg_nm hff, las, has⟩ True.intro True.intro
        exact ⟨p, vs, _, rfl, rfl, f1, f2, f3⟩
      refine ⟨_, rfl, wy, 4, rfl, rfl, _, rfl, ite2 (fun h4 => ?_) (fun h4 => ?_)⟩
      · refine ⟨_, rfl, .inl ⟨rfl, vs, SqL.of ep4⟩, _, rfl, (by show 0 ≤ sizeLine; decide), fun pa ha => ⟨(by show 4 ≤ sizeLine; decide), fun p9 hp9 => ?_⟩⟩
        have sa := same_upd (o := .tup []) ha
        have s9 := same_upd (o := .tup [.str "set", .str one, .str "f", .ref pa]) hp9
        have s := sa.trans s9
        obtain ⟨f1, f2, f3⟩ := fin (x := .set one "f" []) (v := .ref p9) (some (.int wy)) (some (.str one)) (some (.str oth)) x9 (Same.two s) (hd4.mv s) (s _ _ r4) (by show cc.s + 0 ≤ s1; omega) (by show cc.t + 0 ≤ t1; omega)
          (.tup upd_same (by show 4 ≤ 1000; decide) (.cons (.str _) (.cons (.str _) (.cons (.str _) (.cons (.tup (s9 _ _ upd_same) (by show 0 ≤ 1000; decide) .nil) .nil))))) ⟨reg3 hone, by show isNameD _ = true; decide +kernel, Nat.zero_le _, fun a h => by cases h⟩ True.intro True.intro
        exact ⟨p, vs, _, rfl, rfl, f1, f2, f3⟩
      refine ⟨_, rfl, wy, 6, rfl, rfl, _, rfl, ite2 (fun h4 => ?_) (fun h4 => ?_)⟩
      · refine ⟨_, rfl, .inl ⟨rfl, vs, SqL.of ep4⟩, _, rfl, _, rfl, (by show 3 ≤ sizeLine; decide), fun p9 hp9 => ?_⟩
        have s := same_upd (o := .tup [.str "copy", .str one, .str oth]) hp9
        obtain ⟨f1, f2, f3⟩ := fin (x := .copy one oth) (v := .ref p9) (some (.int wy)) (some (.str one)) (some (.str oth)) x9 (Same.two s) (hd4.mv s) (s _ _ r4) (by show cc.s + 0 ≤ s1; omega) (by show cc.t + 0 ≤ t1; omega)
          (.tup upd_same (by show 3 ≤ 1000; decide) (.cons (.str _) (.cons (.str _) (.cons (.str _) .nil)))) ⟨reg3 hone, reg3 hoth⟩ True.intro True.intro
        exact ⟨p, vs, _, rfl, rfl, f1, f2, f3⟩
      apply cutP
      · intro rest
        refine ⟨_, rfl, wy, 8, rfl, rfl, _, rfl, ite2 (fun h8 => ⟨_, rfl, n, 0, rfl, rfl, _, rfl, ite2 (fun hn => ⟨_, rfl, q, _, _, _, rfl, rfl, SqL.of r4, rfl, _, _, rfl, rfl, _, rfl, ite2 (fun hl2 => ?_) (fun _ => rest)⟩) (fun _ => iteF rest)⟩) (fun _ => iteF rest)⟩
        have hl1 : 0 < t1 - cc.t := by
          have := of_decide_eq_true hl2
          omega
        have hn1 : 0 < n := by
          have := of_decide_eq_true hn
          omega
        refine ⟨_, rfl, q, _, _, _, rfl, rfl, SqL.of r4, rfl, _, _, rfl, rfl, _, rfl, q, _, _, 1, rfl, rfl, r4, rfl, ?_⟩
        have e5 : ((t1 - cc.t - 1 : Nat) : Int) = ((t1 - cc.t : Nat) : Int) - 1 := by omega
        have r5 : RoomQ (upd H4 q (.lst [V.int (s1 - cc.s : Nat), .int (((t1 - cc.t : Nat) : Int) - 1)])) q (s1 - cc.s) (t1 - cc.t - 1) := by
          unfold RoomQ
          rw [e5]
          exact upd_same
        have hd5 : Dice (upd H4 q (.lst [V.int (s1 - cc.s : Nat), .int (((t1 - cc.t : Nat) : Int) - 1)])) d := by
          obtain ⟨a1, a2, a3, e⟩ := hd4
          exact ⟨a1, a2, a3, by rw [upd_ne ne]; exact e⟩
        have b5 : But2 d q H4 (upd H4 q (.lst [V.int (s1 - cc.s : Nat), .int (((t1 - cc.t : Nat) : Int) - 1)])) := fun c o h1 h2 e => by rw [upd_ne h2]; exact e
        obtain ⟨n', rfl⟩ : ∃ n', n = n' + 1 := ⟨n - 1, by omega⟩
        have en : (((n' + 1 : Nat) : Int) - 1) = (n' : Int) := by omega
        have ev : [V.ref d, .int 2, .ref q, .int (((n' + 1 : Nat) : Int) - 1)] = [V.ref d, .int ((2 : Nat) : Int), .ref q, .int (n' : Int)] := by
          rw [en]
          rfl
        refine ⟨_, rfl, _, rfl, _, rfl, _, _, rfl, rfl, d, q, 2, s1 - cc.s, t1 - cc.t - 1, ev, by omega, by omega, hd5, r5, ne, fun H6 yv ys b6 hd6 r6 hs6 ht6 oky dpy iny ly ty => ?_⟩
        refine ⟨_, rfl, .inl ⟨rfl, vs, SqL.of (b6 _ _ pd pq (b5 _ _ pd pq ep4))⟩, _, rfl, (by show 2 ≤ sizeLine; decide), fun p7 hp7 => one_str (E := E) (ws := ["p", "q"]) hd6 hp7 (by decide) (by decide) fun H7 pp hpp b7 hd7 => ?_⟩
        have r7 := b7 _ _ (Ne.symm ne) r6
        refine ⟨_, rfl, _, rfl, _, rfl, _, rfl, _, rfl, _, _, rfl, rfl, d, q, 2, _, _, ev, by omega, by omega, hd7, r7, ne, fun H8 nv ns b8 hd8 r8 hs8 ht8 okn dpn inn ln tn => ⟨(by show 5 ≤ sizeLine; decide), fun p9 hp9 => ?_⟩⟩
        have s9 := same_upd (o := .tup [.str "if", .str pp, .str oth, yv, nv]) hp9
        have bb := ((b5.trans b6).trans (b7.two.trans b8)).trans (Same.two s9)
        have ty9 : Tp (upd H8 p9 (.tup [.str "if", .str pp, .str oth, yv, nv])) yv (.tuple ys.ds) := ty.mv (((but_tup b7 hd6).trans (but2_tup b8 hd7 ⟨_, r7⟩)).trans (TupS.same s9))
        have es : (QS.iff pp oth ys ns).s = ys.s + ns.s := rfl
        have et : (QS.iff pp oth ys ns).t = ys.t + ns.t + 1 := rfl
        obtain ⟨f1, f2, f3⟩ := fin (x := .iff pp oth ys ns) (v := .ref p9) (some (.int wy)) (some (.str one)) (some (.str oth)) (some yv) bb (hd8.mv s9) (by
          have z := s9 _ _ r8
          rw [es, et, show s1 - (cc.s + (ys.s + ns.s)) = s1 - cc.s - ys.s - ns.s by omega, show t1 - (cc.t + (ys.t + ns.t + 1)) = t1 - cc.t - 1 - ys.t - ns.t by omega]
          exact z) (by rw [es]; omega) (by rw [et]; omega)
          (.tup upd_same (by show 5 ≤ 1000; decide) (.cons (.str _) (.cons (.str _) (.cons (.str _) (.cons ty9 (.cons (tn.mv (TupS.same s9)) .nil)))))) ⟨pq_nm hpp, reg3 hoth, oky, okn⟩ ⟨dpy, dpn⟩ ⟨ly, ln, iny, inn⟩
        exact ⟨p, vs, _, rfl, rfl, f1, f2, f3⟩
      refine ⟨_, rfl, .inl ⟨rfl, vs, SqL.of ep4⟩, _, rfl, (by show 2 ≤ sizeLine; decide), fun p9 hp9 => ?_⟩
      have s := same_upd (o := .tup [.str "show", .str one]) hp9
      obtain ⟨f1, f2, f3⟩ := fin (x := .shw one) (v := .ref p9) (some (.int wy)) (some (.str one)) (some (.str oth)) x9 (Same.two s) (hd4.mv s) (s _ _ r4) (by show cc.s + 0 ≤ s1; omega) (by show cc.t + 0 ≤ t1; omega)
        (.tup upd_same (by show 2 ≤ 1000; decide) (.cons (.str _) (.cons (.str _) .nil))) (reg3 hone) True.intro True.intro
      exact ⟨p, vs, _, rfl, rfl, f1, f2, f3⟩
    · obtain ⟨⟨x5, x6, x7, x8, x9, rfl⟩, hdG, bt, vs, cc, ep, tp, hl, hs, ht, ok, dp, in2, hroom⟩ := h
      have lv := tp.length
      rw [QL.ds_len] at lv
      refine ⟨_, rfl, p, vs, rfl, .inl ⟨SqL.of ep, fun tp1 htp => ?_⟩⟩
      have st := same_upd (o := .tup vs) htp
      exact c _ (.ref tp1) cc (bt.trans (Same.two (H' := upd G tp1 (.tup vs)) st)) (hdG.mv st) (st _ _ hroom) hs ht ok dp in2 (by omega) (.tup upd_same (by omega) (tp.mv (TupS.same st)))
end
end OM

namespace OM
open PySem PySem.Spec PyProof.Rows L2
/-! ### pairs of texts in order -/
def ltT (x y : Str) : Bool := decide (x.cps.toList < y.cps.toList)
def ltP (x y : Str × Str) : Bool := ltT x.1 y.1 || (decide (x.1 = y.1) && ltT x.2 y.2)
theorem str_ext {x y : Str} (h : x.cps.toList = y.cps.toList) : x = y := PySem.Str.ext' (Array.toList_inj.mp h)
theorem ltT_irr (x : Str) : ltT x x = false := decide_eq_false (List.lt_irrefl _)
theorem ltT_trans {x y z : Str} (h1 : ltT x y = true) (h2 : ltT y z = true) : ltT x z = true := decide_eq_true (List.lt_trans (of_decide_eq_true h1) (of_decide_eq_true h2))
theorem ltT_tot {x y : Str} (h1 : ltT x y = false) (h2 : ltT y x = false) : x = y := str_ext (List.le_antisymm (List.not_lt.mp (of_decide_eq_false h2)) (List.not_lt.mp (of_decide_eq_false h1)))
theorem ltP_irr (x : Str × Str) : ltP x x = false := by
  unfold ltP
  rw [ltT_irr, ltT_irr, Bool.and_false]
  rfl
theorem ltP_iff {x y : Str × Str} : ltP x y = true ↔ ltT x.1 y.1 = true ∨ (x.1 = y.1 ∧ ltT x.2 y.2 = true) := by
  unfold ltP
  rw [Bool.or_eq_true, Bool.and_eq_true, decide_eq_true_eq]
theorem ltP_trans {x y z : Str × Str} (h1 : ltP x y = true) (h2 : ltP y z = true) : ltP x z = true := by
  rw [ltP_iff] at *
  rcases h1 with a | ⟨a, b⟩
  · rcases h2 with c | ⟨c, d⟩
    · exact .inl (ltT_trans a c)
    · exact .inl (by rw [← c]; exact a)
  · rcases h2 with c | ⟨c, d⟩
    · exact .inl (by rw [a]; exact c)
    · exact .inr ⟨a.trans c, ltT_trans b d⟩
theorem ltP_tot {x y : Str × Str} (h1 : ltP x y = false) (h2 : ltP y x = false) : x = y := by
  have n1 : ¬ (ltT x.1 y.1 = true ∨ (x.1 = y.1 ∧ ltT x.2 y.2 = true)) := fun z => by rw [ltP_iff.mpr z] at h1; cases h1
  have n2 : ¬ (ltT y.1 x.1 = true ∨ (y.1 = x.1 ∧ ltT y.2 x.2 = true)) := fun z => by rw [ltP_iff.mpr z] at h2; cases h2
  have e1 : x.1 = y.1 := ltT_tot (Bool.eq_false_iff.mpr fun z => n1 (.inl z)) (Bool.eq_false_iff.mpr fun z => n2 (.inl z))
  have e2 : x.2 = y.2 := ltT_tot (Bool.eq_false_iff.mpr fun z => n1 (.inr ⟨e1, z⟩)) (Bool.eq_false_iff.mpr fun z => n2 (.inr ⟨e1.symm, z⟩))
  exact Prod.ext e1 e2
/-- how many stand before -/
def rkP (ks : List (Str × Str)) (x : Str × Str) : Int := ((ks.filter fun y => ltP y x).length : Nat)
theorem filter_le {α : Type} {p q : α → Bool} (h : ∀ x, p x = true → q x = true) : ∀ l : List α, (l.filter p).length ≤ (l.filter q).length
  | [] => Nat.le_refl _
  | x :: l => by
    have ih := filter_le h l
    rw [List.filter_cons, List.filter_cons]
    cases hp : p x with
    | true =>
      rw [if_pos rfl, if_pos (h x hp), List.length_cons, List.length_cons]
      omega
    | false =>
      rw [if_neg (by decide)]
      split
      · rw [List.length_cons]
        omega
      · exact ih
theorem filter_lt {α : Type} {p q : α → Bool} (h : ∀ x, p x = true → q x = true) {a : α} (ha : p a = false) (hb : q a = true) : ∀ l : List α, a ∈ l → (l.filter p).length < (l.filter q).length
  | [], m => by cases m
  | x :: l, m => by
    rw [List.filter_cons, List.filter_cons]
    rcases List.mem_cons.mp m with rfl | m
    · rw [ha, hb, if_neg (by decide), if_pos rfl, List.length_cons]
      have := filter_le h l
      omega
    · have ih := filter_lt h ha hb l m
      cases hp : p x with
      | true =>
        rw [if_pos rfl, if_pos (h x hp), List.length_cons, List.length_cons]
        omega
      | false =>
        rw [if_neg (by decide)]
        split
        · rw [List.length_cons]
          omega
        · exact ih
theorem rkP_lt {ks : List (Str × Str)} {x y : Str × Str} (hx : x ∈ ks) : decide (rkP ks x < rkP ks y) = ltP x y := by
  unfold rkP
  cases h : ltP x y with
  | true =>
    have := filter_lt (p := fun z => ltP z x) (q := fun z => ltP z y) (fun z hz => ltP_trans hz h) (ltP_irr x) h ks hx
    exact decide_eq_true (by omega)
  | false =>
    refine decide_eq_false ?_
    have : (ks.filter fun z => ltP z y).length ≤ (ks.filter fun z => ltP z x).length := by
      cases h2 : ltP y x with
      | true => exact filter_le (fun z hz => ltP_trans hz h2) ks
      | false =>
        rw [ltP_tot h h2]
        exact Nat.le_refl _
    omega
/-! ### the sort's questions -/
section
variable {prog : Program} {w : World} {A : Around} {E : Value → Shared → Prop} {s : Shared}
def tup2 (h : Heap) (v : Value) : Str × Str := match h.get? (DT.refOf (some v)) with
  | some o => (match o.data with
    | .seq xs _ => (DT.txOf xs.toList[0]?, DT.txOf xs.toList[1]?)
    | _ => (⟨#[]⟩, ⟨#[]⟩))
  | none => (⟨#[]⟩, ⟨#[]⟩)
/-- v is a tuple of these two texts -/
def TwoIn (h : Heap) (v : Value) (y : Str × Str) : Prop := ∃ (a : Addr) (t u : Tok), v = .ref a ∧ IsTup h a #[.str y.1 t, .str y.2 u]
theorem TwoIn.tx {h : Heap} {v : Value} {y : Str × Str} (x : TwoIn h v y) : tup2 h v = y := by
  obtain ⟨a, t, u, rfl, o, ho, hc, n, hd⟩ := x
  show (match h.get? a with
    | some o => (match o.data with
      | .seq xs _ => (DT.txOf xs.toList[0]?, DT.txOf xs.toList[1]?)
      | _ => (⟨#[]⟩, ⟨#[]⟩))
    | none => (⟨#[]⟩, ⟨#[]⟩)) = y
  rw [ho]
  dsimp only
  rw [hd]
  rfl
theorem firsts2 {h : Heap} : ∀ vs : List Value, (∀ v ∈ vs, ∃ y, TwoIn h v y) → ∃ fs : List Value, PySem.W.KatTups h vs fs ∧ fs.length = vs.length ∧ ∀ f ∈ fs, ∃ (x : Str) (t : Tok), f = Value.str x t
  | [], _ => ⟨[], PySem.W.KatTups.nil, rfl, fun f hf => by simp at hf⟩
  | v :: vs, x => by
    obtain ⟨fs, k, hl, hi⟩ := firsts2 vs fun u hu => x u (List.mem_cons_of_mem _ hu)
    obtain ⟨y, a, t, u, rfl, o, ho, hc, n, hd⟩ := x v (List.mem_cons_self ..)
    refine ⟨.str y.1 t :: fs, PySem.W.KatTups.cons ho hc hd rfl k, by rw [List.length_cons, List.length_cons, hl], fun f hf => ?_⟩
    rcases List.mem_cons.mp hf with rfl | hf
    · exact ⟨y.1, t, rfl⟩
    · exact hi f hf
theorem kind2 {vs : List Value} {ρ : Str × Str → Int} (h2 : 2 ≤ vs.length) (x : ∀ v ∈ vs, ∃ y, TwoIn s.heap v y)
    (hρ : ∀ v ∈ vs, ∀ u ∈ vs, ltP (tup2 s.heap v) (tup2 s.heap u) = decide (ρ (tup2 s.heap v) < ρ (tup2 s.heap u))) (Q : SortKind → Shared → Prop)
    (h : ∀ κ, TS.Cmp prog w A s κ (pairsOf vs) (fun v => ρ (tup2 s.heap v)) → Q κ s) : wpAny (model prog w) A (keyKind' vs.toArray) Q E s := by
  obtain ⟨fs, k, hl, hi⟩ := firsts2 vs x
  refine PySem.W.kat_kind (T := Value.type "str") k (by omega) (fun f hf => ?_) rfl (h _ ?_)
  · obtain ⟨y, t, rfl⟩ := hi f hf
    exact PySem.W.Looks.now
  · intro p q hp hq Q' E' hQ
    rw [pairsOf_toList] at hp hq
    have mp := (mem_zip_self hp).2
    have mq := (mem_zip_self hq).2
    obtain ⟨y, py⟩ := x _ mp
    obtain ⟨z, pz⟩ := x _ mq
    have hr := hρ _ mp _ mq
    have hQ2 : Q' (decide (ρ (tup2 s.heap p.1) < ρ (tup2 s.heap q.1))) s := hQ
    rw [← hr, py.tx, pz.tx] at hQ2
    obtain ⟨a, t, u, e1, o, ho, hc, n, hd⟩ := py
    obtain ⟨a', t', u', e2, o', ho', hc', n', hd'⟩ := pz
    rw [e1, e2]
    refine PySem.W.kat_lt ho hd ho' hd' ?_
    show PySem.W.KatLex prog w A _ false Q' [(Value.str y.1 t, Value.str z.1 t'), (Value.str y.2 u, Value.str z.2 u')] 0 s
    refine PySem.W.kat_cons (wpAny_eqBool_str ?_)
    refine PySem.W.kat_go (fun e0 => ?_) (fun e0 => ?_)
    · have e : y.1 = z.1 := of_decide_eq_true e0
      refine PySem.W.kat_yes (PySem.W.kat_cons (wpAny_eqBool_str ?_))
      have el : ltP y z = ltT y.2 z.2 := by
        unfold ltP
        rw [e, ltT_irr, decide_eq_true rfl]
        simp
      rw [el] at hQ2
      refine PySem.W.kat_go (fun e1 => ?_) (fun e1 => ?_)
      · have e' : y.2 = z.2 := of_decide_eq_true e1
        refine PySem.W.kat_yes (PySem.W.kat_nil ?_)
        rw [e', ltT_irr] at hQ2
        exact hQ2
      · refine PySem.W.kat_no ?_
        show wpAny _ _ (oneLt' (_ && false) _ _) _ _ _
        rw [Bool.and_false]
        exact PySem.W.kat_one _ _ (PyProof.Rows.lt_str (show PySem.W.BoolBack Q' (.bool (decide (y.2.cps.toList < z.2.cps.toList))) s from hQ2))
    · have e : ¬ y.1 = z.1 := of_decide_eq_false e0
      have el : ltP y z = ltT y.1 z.1 := by
        unfold ltP
        rw [decide_eq_false e]
        simp
      rw [el] at hQ2
      refine PySem.W.kat_no ?_
      show wpAny _ _ (oneLt' (_ && true) _ _) _ _ _
      exact oneLt_str hQ2
end
end OM

namespace OM
open PySem PySem.Spec PyProof.Rows L2
def keyP (p : Str × Str) : List Key := [Sum.inr p.1, Sum.inr p.2]
/-- sorted(d): d a dict with pairs of texts as keys -/
def rSortedDT : List V → Hp → VK → Prop := fun xs H Q => ∃ (a : Addr) (kvs : List (List Key × V)) (ks : List (Str × Str)), xs = [.ref a] ∧ H a = some (.dT kvs) ∧ kvs.map (·.1) = ks.map keyP ∧ ks.length < 64 ∧
  ∀ (zs : List (Addr × (Str × Str))) p, (zs.map (·.2)).Perm ks → (zs.map (·.2)).Pairwise (fun x y => ltP y x = false) → (∀ z ∈ zs, H z.1 = some (.tup [.str z.2.1, .str z.2.2])) → H p = none → Q (.ref p) (upd H p (.lst (zs.map fun z => V.ref z.1)))
section
variable {X : Cx}
theorem src_raw {prog : Program} {w : World} {a : Addr} {es : Array DictEntry} {ep : Nat} (lo : (a == sysModules) = false) : PySem.W.KdlSrc prog w "dict" a a es.size (fun i v => ∃ hi : i < es.size, v = es[i].key) (fun h => h.DictRaw a es ep) where
  type := fun _ hm => hm.typeIs
  there := fun _ ⟨_, ho, _⟩ => ⟨Heap.lt_size ho, Heap.lt_size ho⟩
  keep := fun _ _ hm hk => hm.at fun o e => hk a (.inl rfl) o e
  notList := by decide
  notTuple := by decide
  hint := fun _ _ _ _ hm hq => PySem.W.kdl_hint_dict hm.typeIs hq
  iter := fun _ s hh hm => ⟨_, _, (fun _ _ hq => wpAny_pyIter_dict_raw lo hm hq), Walks.rawKeys hh _ a (by obtain ⟨_, ho, _⟩ := hm; exact Nat.ne_of_lt (Heap.lt_size ho)) es ep, ⟨⟨_, Heap.get?_push_size _ rfl, rfl, rfl⟩, hm.at fun o e => Heap.get?_push_of_some _ e⟩⟩
theorem call_sortedDT (hcalm : X.calm = true) : CallR X (.builtin "sorted") rSortedDT := by
  intro pins s σ H xs us Q I r q
  obtain ⟨a, kvs, ks, ex, ha, hks, h64, q⟩ := q
  subst ex
  obtain ⟨u, eu, rx⟩ := vals1 r
  subst eu
  cases rx
  obtain ⟨z, lo, xs', rel, dd⟩ := dt_of I.hok ha
  obtain ⟨es, ep, raw, hsz, hen⟩ := Heap.DictOfH.raw dd
  have l0 : kvs.length = ks.length := by
    have e := congrArg List.length hks
    rwa [List.length_map, List.length_map] at e
  have l1 : kvs.length = xs'.length := Paired.length rel
  have hl : es.size = ks.length := by omega
  have h16 : es.size ≤ sizeLine := by rw [hl, sizeLine_eq]; omega
  refine Calls.call_function_entry PyProof.Rows.kind_sorted PyProof.Rows.plain_sorted PyProof.Rows.entry_sorted (PyProof.Rows.args_sorted1 _) ?_
  unfold Builtin.«sorted»
  refine wpAny_bind (m := checkCount "sorted" 1 1 _) (wpAny_pure ?_)
  refine wpAny_bind (PySem.W.kdu_collect (A := X.A.in1) (src_raw (ep := ep) lo) (I.ok.hd hcalm) raw h16 fun h' tk acc hk hacc => ?_)
  have hal : acc.toList.length = ks.length := by rw [Array.length_toList, hacc.1, hl]
  -- what each collected key is
  have at_ : ∀ (j : Nat) (v : Value), acc.toList[j]? = some v → ∃ (b : Addr) (y : Str × Str), v = .ref b ∧ ks[j]? = some y ∧ H b = some (.tup [.str y.1, .str y.2]) := by
    intro j v e
    obtain ⟨hi, ev⟩ := hacc.2 j v (by rw [← Array.getElem?_toList]; exact e)
    obtain ⟨y, hy, k1, k2, k3⟩ := hen j hi
    obtain ⟨p0, hp0, r1, r2, r3⟩ := DX.pget rel hy
    have hk1 : (kvs.map (·.1))[j]? = some p0.1 := by rw [List.getElem?_map, hp0]; rfl
    rw [hks, List.getElem?_map] at hk1
    cases hkj : ks[j]? with
    | none => rw [hkj] at hk1; cases hk1
    | some kk =>
      rw [hkj] at hk1
      have ek : keyP kk = p0.1 := Option.some.inj hk1
      refine ⟨y.2.1, kk, by rw [ev, k1], rfl, ?_⟩
      rw [← ek] at r2
      exact r2
  have I1 : Inv X pins σ H { s with heap := h', toks := tk } := I.kept hk
  refine wpAny_bind (wpAny_newList ?_ (by rw [hal, sizeLine_eq]; omega))
  have hoL : (h'.push (seqObj "list" acc.toList.toArray 0)).get? h'.objs.size = some (seqObj "list" acc.toList.toArray 0) := Heap.get?_push_size _ rfl
  show wpAny _ _ _ _ _ { s with heap := h'.push (seqObj "list" acc.toList.toArray 0), toks := tk }
  generalize hh2 : h'.push (seqObj "list" acc.toList.toArray 0) = h2 at hoL ⊢
  have ka : ∀ b o, h'.get? b = some o → h2.get? b = some o := fun b o e => by rw [← hh2]; exact Heap.get?_push_of_some _ e
  have ne0 : ∀ b o, h'.get? b = some o → b ≠ h'.objs.size := fun b o e => Nat.ne_of_lt (Heap.lt_size e)
  have two : ∀ (j : Nat) (v : Value), acc.toList[j]? = some v → ∃ y, ks[j]? = some y ∧ TwoIn (TS.midHeap h2 h'.objs.size acc.toList) v y := by
    intro j v e
    obtain ⟨b, y, rfl, hy, hb⟩ := at_ j v e
    obtain ⟨_, its, rv, ot, hot, hct, nt, hdt⟩ := (show ObjOk X.prog X.w H h' b (.tup [.str y.1, .str y.2]) from I1.hok b _ hb)
    cases rv with
    | cons r1 r2 =>
      cases r2 with
      | cons r2 r3 =>
        cases r3
        obtain ⟨t1, rfl⟩ := r1
        obtain ⟨t2, rfl⟩ := r2
        exact ⟨y, hy, b, t1, t2, rfl, ot, TS.midHeap_old (ne0 _ _ hot) (ka _ _ hot), hct, nt, hdt⟩
  refine wpAny_bind (wpAny_holding (wpAny_call_entry PyProof.Rows.slot_list_sort ⟨_, hoL, rfl⟩ PyProof.Rows.entry_list_sort
    (SK.plain_sort (s := { s with heap := h2, toks := tk }) (r := fun v => rkP ks (tup2 (TS.midHeap h2 h'.objs.size acc.toList) v)) hoL (by rw [hal]; exact h64) (fun g2 Qk hQk => ?_) fun ps out o1 o2 o3 => ⟨.none, rfl, ?_⟩) (PyProof.Rows.args_list_sort _)))
  · refine kind2 (s := { s with heap := TS.midHeap h2 h'.objs.size acc.toList, toks := tk }) (ρ := rkP ks) g2 (fun v hv => ?_) (fun v hv u hu => ?_) Qk hQk
    · obtain ⟨j, hj⟩ := List.getElem?_of_mem hv
      obtain ⟨y, _, t⟩ := two j v hj
      exact ⟨y, t⟩
    · obtain ⟨j, hj⟩ := List.getElem?_of_mem hv
      obtain ⟨y, hy, t⟩ := two j v hj
      show ltP (tup2 (TS.midHeap h2 h'.objs.size acc.toList) v) _ = _
      rw [t.tx]
      exact (rkP_lt (List.mem_of_getElem? hy)).symm
  · obtain ⟨as, eas⟩ : ∃ as : List Addr, acc.toList = as.map Value.ref := by
      refine ⟨acc.toList.map fun v => DT.refOf (some v), ?_⟩
      rw [List.map_map]
      conv => lhs; rw [← List.map_id acc.toList]
      refine List.map_congr_left fun v hv => ?_
      obtain ⟨j, hj⟩ := List.getElem?_of_mem hv
      obtain ⟨b, y, rfl, _⟩ := at_ j v hj
      rfl
    have lak : as.length = ks.length := by
      rw [← hal, eas, List.length_map]
    have two' : ∀ (j : Nat) (b : Addr), as[j]? = some b → ∃ y, ks[j]? = some y ∧ tup2 (TS.midHeap h2 h'.objs.size acc.toList) (.ref b) = y ∧ H b = some (.tup [.str y.1, .str y.2]) := fun j b hj => by
      have e : acc.toList[j]? = some (.ref b) := by rw [eas, List.getElem?_map, hj]; rfl
      obtain ⟨y, hy, t⟩ := two j _ e
      obtain ⟨b2, y2, e2, hy2, hb2⟩ := at_ j _ e
      cases e2
      rw [hy] at hy2
      cases hy2
      exact ⟨y, hy, t.tx, hb2⟩
    have o2' : ps.Perm ((as.map Value.ref).zip (as.map Value.ref)) := by rw [← eas]; exact o2
    obtain ⟨zs, pz, ez⟩ := L2.perm_lift (fun z : Addr × (Str × Str) => (Value.ref z.1, Value.ref z.1)) o2' (as.zip ks) (DX.zip_self Value.ref as ks lak)
    have idx : ∀ z ∈ zs, ∃ j : Nat, as[j]? = some z.1 ∧ ks[j]? = some z.2 := fun z' hz' => by
      obtain ⟨j, hj⟩ := List.mem_iff_getElem?.mp (pz.mem_iff.mp hz')
      exact ⟨j, List.getElem?_zip_eq_some.mp hj⟩
    have facts : ∀ z ∈ zs, z.2 ∈ ks ∧ tup2 (TS.midHeap h2 h'.objs.size acc.toList) (.ref z.1) = z.2 ∧ H z.1 = some (.tup [.str z.2.1, .str z.2.2]) := fun z' hz' => by
      obtain ⟨j, j1, j2⟩ := idx z' hz'
      obtain ⟨y, hy, t, hb⟩ := two' j _ j1
      rw [j2] at hy
      cases hy
      exact ⟨List.mem_of_getElem? j2, t, hb⟩
    have hout : out.toList = zs.map fun z => Value.ref z.1 := by
      rw [o1, ← ez, List.map_map]
      all_goals rfl
    have hperm : (zs.map (·.2)).Perm ks := by
      have e := pz.map (·.2)
      have m2 : (as.zip ks).map (·.2) = ks := List.map_snd_zip (by rw [lak]; exact Nat.le_refl _)
      rw [m2] at e
      exact e
    have hsort : (zs.map (·.2)).Pairwise (fun x y => ltP y x = false) := by
      rw [← ez, List.pairwise_map] at o3
      rw [List.pairwise_map]
      refine List.Pairwise.imp_of_mem (fun {x y} hx hy h => ?_) o3
      obtain ⟨x1, x2, _⟩ := facts x hx
      obtain ⟨y1, y2, _⟩ := facts y hy
      have h' : rkP ks (tup2 (TS.midHeap h2 h'.objs.size acc.toList) (.ref x.1)) ≤ rkP ks (tup2 (TS.midHeap h2 h'.objs.size acc.toList) (.ref y.1)) := h
      rw [x2, y2] at h'
      rw [← rkP_lt y1]
      exact decide_eq_false (by omega)
    obtain ⟨eF, heF⟩ := PyProof.Rows.sortedHeap_at (vs := acc.toList) (out := out) hoL
    have hlen : (zs.map fun z => V.ref z.1).length ≤ sizeLine := by
      have e := hperm.length_eq
      rw [List.length_map] at e
      rw [List.length_map, sizeLine_eq]
      omega
    have rv : Vals (zs.map fun z => V.ref z.1) out.toList := by
      rw [hout]
      exact vals_maps (fun z : Addr × (Str × Str) => V.ref z.1) (fun z => Value.ref z.1) zs fun _ _ => rfl
    refine wpAny_pure ⟨_, rfl, .ref h'.objs.size, upd H h'.objs.size (.lst (zs.map fun z => V.ref z.1)), I1.laid (t' := tk) (fun b u e => ?_) (Nat.le_refl _)
      (show ObjOk X.prog X.w _ _ _ (.lst (zs.map fun z => V.ref z.1)) from ⟨hlen, out.toList, eF, rv, by rw [Array.toArray_toList]; exact heF⟩), rfl, q zs _ hperm hsort (fun z' hz' => (facts z' hz').2.2) (I1.hok.fresh (Nat.le_refl _))⟩
    have hb : b < h'.objs.size := Heap.lt_size e
    exact (PyProof.Rows.sortedHeap_old (Nat.ne_of_lt hb) (Heap.lt_size (ka _ _ e))).trans (ka _ _ e)
end
end OM

namespace OM
open PySem PySem.Spec PyProof.Rows L2
/-! ### {k: v for target in iter}, keys tuples -/
def tDcT (wi : TI) (g : TG) (tk tv : TE) (vs : List Nat) : TE := fun σ H Q => wi σ H fun J H1 => ∀ D, H1 D = none → ∃ W : Nat → Nat → Hp → Prop, (∃ m, W 0 m (upd H1 D (.dT []))) ∧ ∀ i m G, W i m G →
  (J.stop i G ∧ Q (.ref D) G) ∨ (J.go i G ∧ ∃ Nx : Hp → Prop, (∀ G', Nx G' → ∃ m', m' < m ∧ W (i + 1) m' G') ∧ ∀ x G', J.yld i G x G' → g x (wipe σ vs) G' fun τ G2 => wipe τ vs = wipe σ vs ∧
    tk τ G2 fun y G3 => tv τ G3 fun z G4 => ∃ kvs k b, y = .ref b ∧ G4 b = some (.tup (k.map kV)) ∧ G4 D = some (.dT kvs) ∧ kvs.length < sizeLine ∧ Nx (upd G4 D (.dT (putK kvs k z))))
/-- d[k] = v within a comprehension, k a tuple -/
theorem set_dT {X : Cx} {pins : List (Addr × Obj)} {τ : L2.St} {G : Hp} {t : Shared} {E : Value → Shared → Prop} {D b : Addr} {kvs : List (List Key × V)} {k : List Key} {v : V} {r : Value} {Q : Unit → Shared → Prop} (hu : X.A.units < cLine) (J : Inv X pins τ G t) (hD : G D = some (.dT kvs)) (hb : G b = some (.tup (k.map kV)))
    (few : kvs.length < sizeLine) (rv : RelV v r) (q : ∀ t', Inv X pins τ (upd G D (.dT (putK kvs k v))) t' → Q () t') : wpAny (model X.prog X.w) X.A (dictSet D (.ref b) r) Q E t := by
  obtain ⟨n1, n2, xs, rel, dd⟩ := dt_of J.hok hD
  have n3 : xs.length ≤ sizeLine := by
    have := Paired.length rel
    omega
  have n4 : (putK kvs k v).length ≤ sizeLine := Nat.le_trans (length_putK kvs k v) few
  refine wpAny_dictSet_heap (knd := tupleKind (mixKind X.prog X.w)) (hsz := n3) hu (key_of J.hok hb) dd fun h' d' same => q _ ?_
  obtain ⟨o, es, ep, m1, m2, m3, m4, _, m5⟩ := d'
  have rel' : KT (upd G D (.dT (putK kvs k v))) (putK kvs k v) _ := (rel.put k hb rv).keeps fun c ys ec => by
    rw [upd_ne (fun z => by rw [z, hD] at ec; cases ec)]
    exact ec
  exact d_write J (by rw [hD]; trivial) same ⟨o, m1⟩ ⟨n4, n2, _, rel', o, es, ep, m1, m2, m3, m4, m5⟩
end OM

namespace OM
open PySem PySem.Spec PyProof.Rows L2
section
variable {X : Cx}
/-- the block's loop between two turns: how often it went, the heap, the iterator's objects apart -/
structure BlkSt (X Y : Cx) (fp : List Addr) (τ : L2.St) (tn : Nat → Heap → Prop) (W : Nat → Nat → Hp → Prop) (m : Nat) (t : Shared) : Prop where
  ex : ∃ (i : Nat) (G : Hp), Inv Y [] τ G t ∧ tn i t.heap ∧ (∀ b ∈ fp, G b = none) ∧ W i m G
theorem pe_dcT {kx vx tg iter : Expr} {scope : Scope} {own : List (Str × Nat)} {pos : Pos} {wi : TI} {g : TG} {tk tv : TE} (hu : X.A.units < cLine) (calm : X.calm = true) (nd : X.N.Nodup) (hi : PI X tg iter wi) (ok : BlkOk X.N X.env.scope scope own)
    (hg : ∀ (t : Shared) (G : Hp) (C : Addr) (cl : List (Str × Addr)) (fp : List Addr), PG (X.blk t G scope (compEnvC scope cl C X.env) fp) tg g)
    (hk : ∀ (t : Shared) (G : Hp) (C : Addr) (cl : List (Str × Addr)) (fp : List Addr), PE (X.blk t G scope (compEnvC scope cl C X.env) fp) kx tk)
    (hv : ∀ (t : Shared) (G : Hp) (C : Addr) (cl : List (Str × Addr)) (fp : List Addr), PE (X.blk t G scope (compEnvC scope cl C X.env) fp) vx tv) (plain : ∀ x, foldedSetIterable iter X.env x = pure x := by intro _; rfl) :
    PE X (.DictComp kx vx [⟨tg, iter, [], 0⟩] scope pos) (tDcT wi g tk tv (own.map (·.2))) := by
  refine ⟨fun pins s σ H Q I h => ?_⟩
  rw [arm_eval_DictComp]
  have captured : ∀ y ∈ scope.names, y.2 = .free → ∃ c, X.env.cells.lookup y.1 = some c := fun y hy e => (ok.free y hy e).elim (fun k => I.ok.has _ (.inl k)) fun k => I.ok.has _ (.inr k)
  refine wpAny_comprehension_free rfl plain (closure_ok captured) ok.kind (fun y hy e => (ok.uniq y hy).trans (congrArg some e)) (thn (hi.run pins s σ H _ I h) fun _ s1 r1 => thn r1 fun _ s2 r2 => ?_)
  obtain ⟨it, fp, tn, J, H2, rfl, I2, T, st, fpok, q⟩ := r2
  refine wpAny_newObj_type ?_
  refine newEnv_comp ?_
  have fresh : H2 s2.heap.objs.size = none := I2.hok.fresh (Nat.le_refl _)
  obtain ⟨W, ⟨m0, w0⟩, turn⟩ := q _ fresh
  -- the dict stands
  obtain ⟨s3, e3⟩ : ∃ s3 : Shared, s3 = { s2 with heap := s2.heap.push { cls := .type "dict", data := .dict #[] } } := ⟨_, rfl⟩
  obtain ⟨D, eD⟩ : ∃ D : Addr, D = s2.heap.objs.size := ⟨_, rfl⟩
  rw [← eD] at fresh w0 turn
  have I3 : Inv X pins σ (upd H2 D (.dT [])) s3 := by
    subst e3 eD
    exact I2.laid (t' := s2.toks) (fun b o e => Heap.get?_push_of_some _ e) (Nat.le_refl _) (dt_empty s2.heap I2.big)
  have kept3 : ∀ b o, s2.heap.get? b = some o → s3.heap.get? b = some o := fun b o e => by
    subst e3
    exact Heap.get?_push_of_some _ e
  have young : ∀ b ∈ fp, b < s2.heap.objs.size := fun b hb => let ⟨_, e, _⟩ := T.obj _ _ st b hb; Heap.lt_size e
  have fpok3 : ∀ b ∈ fp, FpOk X pins (upd H2 D (.dT [])) b ∧ b < s3.heap.objs.size := fun b hb => by
    have l := young b hb
    have n : b ≠ D := by rw [eD]; exact Nat.ne_of_lt l
    refine ⟨⟨(upd_ne n).trans (fpok b hb).1, (fpok b hb).2⟩, ?_⟩
    subst e3
    rw [Heap.size_push]
    exact Nat.lt_succ_of_lt l
  have st3 : tn 0 s3.heap := T.keep _ _ _ st fun b _ => kept3 b
  obtain ⟨H3, eH3⟩ : ∃ H3, H3 = upd H2 D (.dT []) := ⟨_, rfl⟩
  rw [← eH3] at I3 fpok3 w0
  have I4 := block_start I3 ok nd fpok3
  obtain ⟨cells, ecells⟩ : ∃ cells, cells = cellsFrom (s3.heap.objs.size + 1) scope.names (cloFrom X.env.cells scope.names []) := ⟨_, rfl⟩
  obtain ⟨ce, ece⟩ : ∃ ce, ce = compEnvC scope cells s3.heap.objs.size X.env := ⟨_, rfl⟩
  have pg := hg s3 H3 s3.heap.objs.size cells fp
  have pk := hk s3 H3 s3.heap.objs.size cells fp
  have pv' := hv s3 H3 s3.heap.objs.size cells fp
  rw [← ecells, ← ece] at I4
  rw [← ece] at pg pk pv'
  have home : ce.locals = s3.heap.objs.size := by rw [ece]; rfl
  obtain ⟨Y, eY⟩ : ∃ Y, Y = X.blk s3 H3 scope ce fp := ⟨_, rfl⟩
  obtain ⟨s4, e4⟩ : ∃ s4 : Shared, s4 = { s3 with heap := pushCells (s3.heap.push { cls := .type "dict", data := .dict #[] }) scope.names } := ⟨_, rfl⟩
  rw [← e4] at I4
  have st4 : tn 0 s4.heap := T.keep _ _ _ st3 fun b _ o e => by
    rw [e4]
    exact pushCells_keeps _ _ _ _ (Heap.get?_push_of_some _ e)
  have apart : ∀ b ∈ fp, H3 b = none := fun b hb => (fpok3 b hb).1.1
  have fpY : ∀ {τ : L2.St} {G : Hp} {t : Shared}, Inv (X.blk s3 H3 scope ce fp) [] τ G t → (∀ b ∈ fp, G b = none) → ∀ b ∈ fp, FpOk (X.blk s3 H3 scope ce fp) [] G b := fun {τ G t} K n b hb =>
    ⟨n b hb, (K.ok.exf b hb).1, K.ok.exfs b hb, .inl hb, fun x c e => (K.ok.exf b hb).2 x c e, fun p hp => (by simp [Cx.blk] at hp)⟩
  suffices loop : codeAny (model X.prog X.w) X.A (.compLoop (.DictComp kx vx [⟨tg, iter, [], 0⟩] scope pos) 0 (.ref it) (.ref D) ce) (compPost (model X.prog X.w) X.A X.xe none (EP X pins σ Q) (.ref D) s3.heap.objs.size) s4 by
    have both := codeAny_compStart_dict loop (T.self X.A 0 _ _ _ st4 loop)
    subst e4 ece ecells e3 eD
    exact both
  refine compLoop_anyD (BlkSt X (X.blk s3 H3 scope ce fp) fp (wipe σ (own.map (·.2))) tn W) (fun n t hI => ?_) m0 ⟨0, H3, I4, st4, apart, w0⟩
  obtain ⟨i, G, K, stt, nn, w⟩ := hI.ex
  rcases turn i n G w with ⟨stop, done⟩ | ⟨go, Nx, hNx, step⟩
  · refine thnF (T.done (X.blk s3 H3 scope ce fp) rfl rfl rfl calm i [] t _ G (fun _ _ => False) K (fpY K nn) stt stop) fun r u ⟨er, Ku⟩ => ?_
    subst er
    have Iu : Inv X pins σ G u := I3.call' (ch := fp) Ku.os Ku.base Ku.hok Ku.bare fun b hb => let ⟨_, a1, a2, a3, a4, a5⟩ := (fpok3 b hb).1; ⟨a3, a1, a4, a5⟩
    have none : G s3.heap.objs.size = none := by
      have z : G ce.locals = none := Ku.free
      rwa [home] at z
    obtain ⟨m, ns, _⟩ := Ku.loc
    have ns : u.heap.Ns ce.locals m := ns
    rw [home] at ns
    obtain ⟨f0, f1, f2, f3, f4, f5⟩ := I3.fpOk (Nat.le_refl _) none
    exact ⟨m, ns, fun h'' sb => ⟨.ref D, G, Iu.turned (t' := u.toks) (fun b o hb e => (sb.2 b hb).trans e) f0 f1 f3 f4 f5, rfl, done⟩⟩
  · refine thnF (T.item (X.blk s3 H3 scope ce fp) rfl rfl rfl calm i [] t _ G (fun _ _ => False) K (fpY K nn) stt go) fun r u ⟨v, er, hv1⟩ => ?_
    subst er
    refine thnF hv1 fun _ u7 ⟨x, G7, K7, r7, y7, st7, n7⟩ => ?_
    have P7 := K7.pinned (fpY K7 n7) (T.obj _ _ st7)
    refine thnF (pg.run _ u7 _ G7 x v _ P7 r7 (step x G7 y7)) fun _ u8 ⟨τ8, G8, K8, hw8, q8⟩ => ?_
    refine wpAny_pure ?_
    rw [if_pos rfl]
    refine thnF (pk.run _ u8 τ8 G8 _ K8 q8) fun ku u10 ⟨yk, G10, K10, r10, q10⟩ => ?_
    refine thnF (pv'.run _ u10 τ8 G10 _ K10 q10) fun vu u11 ⟨yv, G11, K11, r11, kvs, k, b, ek, hb, hD, few, nx⟩ => ?_
    subst ek
    obtain rfl : ku = Value.ref b := r10
    refine set_dT (X := X.blk s3 H3 scope ce fp) hu K11 hD hb few r11 fun u12 K12 => ?_
    obtain ⟨m', hm, w'⟩ := hNx _ nx
    have pinned : ∀ c ∈ fp, ∀ o, u7.heap.get? c = some o → u12.heap.get? c = some o ∧ (upd G11 D (.dT (putK kvs k yv))) c = none := fun c hc o e =>
      have z := K12.pin (c, o) (List.mem_append_right _ (List.mem_append_right _ (mem_pinsAt hc e)))
      ⟨z.1, z.2.1⟩
    have len : (wipe σ (own.map (·.2))).length = τ8.length := by rw [← hw8, wipe_length]
    refine ⟨m', hm, ⟨i + 1, _, (K12.unpinned (pins := [])).weak len (fun j v e => ?_), T.keep _ _ _ st7 fun c hc o e => (pinned c hc o e).1, fun c hc => ?_, w'⟩⟩
    · rw [← hw8] at e
      exact (wipe_some e).1
    · obtain ⟨o, e, _⟩ := T.obj _ _ st7 c hc
      exact (pinned c hc o e).2
end
end OM

namespace OM
open PySem PySem.Spec PyProof.Rows L2
/-! ### == of dicts whose keys are tuples -/
section
variable {prog : Program} {w : World} {κ : Type} [DecidableEq κ] {knd : HeapKind prog w κ} {A : Around} {E : Value → Shared → Prop} {s : Shared}
/-- what the walk over the one dict finds in the other -/
inductive HitsT {κ : Type} [DecidableEq κ] (A : Around) (s : Shared) (ys : List (κ × Addr × Value)) : List (κ × Addr × Value) → Bool → Prop
  | nil : HitsT A s ys [] true
  | miss {x : κ × Addr × Value} {r : List (κ × Addr × Value)} : (∀ (j : Nat) (p : Addr × Value), ys[j]? ≠ some (x.1, p)) → HitsT A s ys (x :: r) false
  | hit {x : κ × Addr × Value} {r : List (κ × Addr × Value)} {j : Nat} {p : Addr × Value} {e b : Bool} : ys[j]? = some (x.1, p) → SeqAt.EqAt A s x.2.2 p.2 e → HitsT A s ys r b → HitsT A s ys (x :: r) (e && b)
theorem same_uniq {ys : List (κ × Addr × Value)} (nd : (ys.map (·.1)).Nodup) {i j : Nat} {k : κ} {p q : Addr × Value} (h1 : ys[i]? = some (k, p)) (h2 : ys[j]? = some (k, q)) : i = j := by
  have l1 : (ys.map (·.1))[i]? = some k := by rw [List.getElem?_map, h1]; rfl
  have l2 : (ys.map (·.1))[j]? = some k := by rw [List.getElem?_map, h2]; rfl
  have li : i < (ys.map (·.1)).length := (List.getElem?_eq_some_iff.mp l1).1
  exact (List.getElem?_inj li nd).mp (l1.trans l2.symm)
theorem pairsT {nm : String} {a b : Addr} {xs ys : List (κ × Addr × Value)} {r : Bool} {Q : Bool → Shared → Prop} (ha : (a == sysModules) = false) (hb : (b == sysModules) = false) (hu : knd.room A)
    (da : s.heap.DictOfH knd a xs) (db : s.heap.DictOfH knd b ys) (hits : xs.length = ys.length → HitsT A s ys xs r) (h : Q (xs.length == ys.length && r) s) : wpAny (model prog w) A (Builtin.Dict.samePairs nm a b) Q E s := by
  obtain ⟨o1, es1, ep1, g1, _, d1, l1, k1, n1⟩ := da
  obtain ⟨o2, es2, ep2, g2, _, d2, l2, k2, n2⟩ := db
  have z1 := size_of_entries l1
  have z2 := size_of_entries l2
  unfold Builtin.Dict.samePairs Builtin.Dict.showsAll
  rw [if_neg (fun z => by rw [ha] at z; cases z), if_neg (fun z => by rw [hb] at z; cases z)]
  refine wpAny_bind (wpAny_pure ?_)
  refine wpAny_bind (wpAny_pure ?_)
  refine wpAny_bind (wpAny_dictEntries g1 d1 ?_)
  dsimp only
  refine wpAny_bind (wpAny_dictEntries g2 d2 ?_)
  by_cases sz : xs.length = ys.length
  · have same : es1.size = es2.size := by rw [z1, z2, sz]
    have hq : Q r s := by simpa [sz] using h
    have hs := hits sz
    rw [if_neg (by simp [same])]
    refine wpAny_bind (wpAny_dictEpoch g1 d1 ?_)
    refine wpAny_bind ?_
    rw [Std.Legacy.Range.forIn_eq_forIn_range']
    simp only [Std.Legacy.Range.size, Nat.sub_zero, Nat.add_sub_cancel, Nat.div_one]
    refine wpAny_forIn_list _ (fun rest q t => t = s ∧ q = (none, ()) ∧ ∃ i, i ≤ xs.length ∧ rest = List.range' i (xs.length - i) ∧ HitsT A s ys (xs.drop i) r) _ ?_ ?_ _ _ ⟨rfl, rfl, 0, Nat.zero_le _, by rw [z1, Nat.sub_zero], hs⟩
    · rintro m rest q t ⟨rfl, rfl, i, hi, er, hd⟩
      have lt : i < xs.length := by
        apply Classical.byContradiction
        intro n
        rw [Nat.sub_eq_zero_of_le (Nat.not_lt.mp n)] at er
        cases er
      rw [show xs.length - i = (xs.length - (i + 1)) + 1 by omega, List.range'_succ] at er
      injection er with e1 e2
      subst e1 e2
      refine wpAny_bind (wpAny_dictEntries g1 d1 ?_)
      rw [entry_at l1 m, List.getElem?_eq_getElem lt]
      have hx := k1 _ (List.getElem_mem lt)
      rw [List.drop_eq_getElem_cons lt] at hd
      generalize xs[m] = x at hd hx ⊢
      show wpAny _ _ (holding [Value.ref x.2.1, x.2.2] _ >>= _) _ _ _
      refine wpAny_bind (wpAny_holding (wpAny_bind ?_))
      show wpAny _ _ (dictFind b (.ref x.2.1) (knd.hash x.1)) _ _ _
      refine wpAny_dictFind_heap hu hx g2 d2 l2 k2 n2 (fun none => ?_) (fun j p hj => ?_)
      · cases hd with
        | miss _ =>
          refine wpAny_pure ?_
          rw [if_pos (show (!false) = true from rfl)]
          exact wpAny_pure (wpAny_pure hq)
        | hit hj _ _ => exact absurd hj (none _ _)
      · refine wpAny_bind (wpAny_dictEntries g2 d2 ?_)
        rw [entry_at l2 j, hj]
        show wpAny _ _ (holding [p.2] (eqBool x.2.2 p.2)) _ _ _
        cases hd with
        | miss no => exact absurd hj (no _ _)
        | @hit _ _ j' p' e b' hj' he hr =>
          obtain rfl := same_uniq n2 hj hj'
          rw [hj] at hj'
          injection hj' with hj'
          injection hj' with _ hp
          subst hp
          refine wpAny_holding (he prog w _ _ ?_)
          cases e with
          | false =>
            rw [if_pos (show (!false) = true from rfl)]
            exact wpAny_pure (wpAny_pure hq)
          | true =>
            rw [if_neg (fun z => by cases z)]
            refine wpAny_bind (wpAny_dictEpoch g1 d1 ?_)
            rw [if_neg (by simp)]
            exact wpAny_pure ⟨rfl, rfl, m + 1, lt, rfl, hr⟩
    · rintro q t ⟨rfl, rfl, i, hi, er, hd⟩
      have ei : i = xs.length := by
        apply Classical.byContradiction
        intro n
        rw [show xs.length - i = (xs.length - (i + 1)) + 1 by omega, List.range'_succ] at er
        cases er
      rw [ei, List.drop_length] at hd
      cases hd
      exact wpAny_pure hq
  · have ne : ¬ es1.size = es2.size := by rw [z1, z2]; exact sz
    rw [if_pos (by simpa using ne)]
    have hf : (xs.length == ys.length) = false := by simpa using sz
    rw [hf, Bool.false_and] at h
    exact wpAny_bind (wpAny_rule (wpAny_pure h))
end
end OM

namespace OM
open PySem PySem.Spec PyProof.Rows L2
section
variable {prog : Program} {w : World} {κ : Type} [DecidableEq κ] {knd : HeapKind prog w κ} {A : Around} {E : Value → Shared → Prop} {s : Shared}
theorem eqT {a b : Addr} {xs ys : List (κ × Addr × Value)} {r : Bool} {Q : Value → Shared → Prop} (ha : (a == sysModules) = false) (hb : (b == sysModules) = false) (hu : A.units < cLine) (hk : knd.room A.in1)
    (da : s.heap.DictOfH knd a xs) (db : s.heap.DictOfH knd b ys) (hits : xs.length = ys.length → HitsT A.in1 s ys xs r) (h : Q (.bool (xs.length == ys.length && r)) s) : wpAny (model prog w) A (compareOp .Eq (.ref a) (.ref b)) Q E s := by
  refine wpAny_richCompare_same_room (op := .Eq) da.typeIs db.typeIs PySem.F.slot_dict_eq ?_ hu
  refine wpAny_call_entry PySem.F.slot_dict_eq da.typeIs PySem.F.entry_dict_eq ?_ (PySem.F.args_dict_eq_2 _ _)
  show wpAny _ _ (Builtin.Dict.dictSlotArgs _ _ >>= _) _ _ s
  unfold Builtin.Dict.dictSlotArgs
  refine wpAny_bind (wpAny_bind ?_)
  refine wpAny_notOrdered_dict da.typeIs ?_
  refine wpAny_pure ?_
  refine wpAny_bind ?_
  refine wpAny_isInstance (T := "dict") db.typeIs PySem.F.sub_dict_dict ?_
  simp only [Bool.not_true, Bool.false_eq_true, if_false]
  refine wpAny_bind (wpAny_pure ?_)
  refine wpAny_bind (wpAny_pure ?_)
  refine wpAny_bind (pairsT ha hb hk da db hits ?_)
  exact wpAny_pure ⟨_, rfl, fun z => (nomatch z), by simpa using h⟩
theorem neT {a b : Addr} {xs ys : List (κ × Addr × Value)} {r : Bool} {Q : Value → Shared → Prop} (ha : (a == sysModules) = false) (hb : (b == sysModules) = false) (hu : A.units < cLine) (hk : knd.room A.in1)
    (da : s.heap.DictOfH knd a xs) (db : s.heap.DictOfH knd b ys) (hits : xs.length = ys.length → HitsT A.in1 s ys xs r) (h : Q (.bool (!(xs.length == ys.length && r))) s) : wpAny (model prog w) A (compareOp .NotEq (.ref a) (.ref b)) Q E s := by
  refine wpAny_richCompare_same_room (op := .NotEq) da.typeIs db.typeIs PySem.F.slot_dict_ne ?_ hu
  refine wpAny_call_entry PySem.F.slot_dict_ne da.typeIs PySem.F.entry_dict_ne ?_ (PySem.F.args_dict_ne_2 _ _)
  show wpAny _ _ (Builtin.Dict.dictSlotArgs _ _ >>= _) _ _ s
  unfold Builtin.Dict.dictSlotArgs
  refine wpAny_bind (wpAny_bind ?_)
  refine wpAny_notOrdered_dict da.typeIs ?_
  refine wpAny_pure ?_
  refine wpAny_bind ?_
  refine wpAny_isInstance (T := "dict") db.typeIs PySem.F.sub_dict_dict ?_
  simp only [Bool.not_true, Bool.false_eq_true, if_false]
  refine wpAny_bind (wpAny_pure ?_)
  refine wpAny_bind (wpAny_pure ?_)
  refine wpAny_bind (pairsT ha hb hk da db hits ?_)
  exact wpAny_pure ⟨_, rfl, fun z => (nomatch z), by simpa using h⟩
end
end OM

namespace OM
open PySem PySem.Spec PyProof.Rows L2
/-- two dicts with tuples as keys say the same -/
def hitV (lvs : List (List Key × V)) (p : List Key × V) : Bool := match valV lvs p.1 with
  | some v => eqV p.2 v
  | none => false
def sameT (kvs lvs : List (List Key × V)) : Bool := kvs.length == lvs.length && kvs.all (hitV lvs)
theorem valV_none {α : Type} [DecidableEq α] {kvs : List (α × V)} {k : α} (h : valV kvs k = none) : ∀ p ∈ kvs, p.1 ≠ k := fun p hp e => by
  unfold valV at h
  rw [Option.map_eq_none_iff, List.find?_eq_none] at h
  exact h p hp (decide_eq_true e)
theorem valV_some {α : Type} [DecidableEq α] {kvs : List (α × V)} {k : α} {v : V} (h : valV kvs k = some v) : (k, v) ∈ kvs := by
  unfold valV at h
  obtain ⟨p, hp, rfl⟩ := Option.map_eq_some_iff.mp h
  have e : p.1 = k := of_decide_eq_true (List.find?_some (p := fun kv : α × V => decide (kv.1 = k)) hp)
  have m := List.mem_of_find?_eq_some hp
  rw [← e]
  exact m
theorem pat {α β : Type} {F : α → β → Prop} : ∀ {xs : List α} {ys : List β}, Paired F xs ys → ∀ {i : Nat} {x : α}, xs[i]? = some x → ∃ y, ys[i]? = some y ∧ F x y
  | _, _, .nil, i, x, e => by simp at e
  | _, _, .cons h _, 0, x, e => by
    simp at e
    subst e
    exact ⟨_, rfl, h⟩
  | _, _, .cons _ r, i + 1, x, e => by
    obtain ⟨y, e2, q⟩ := pat r (i := i) (x := x) (by simpa using e)
    exact ⟨y, by simpa using e2, q⟩
theorem hitsT {A : Around} {s : Shared} {H : Hp} {lvs : List (List Key × V)} {ys : List (List Key × Addr × Value)} (rb : KT H lvs ys) (fb : ∀ p ∈ lvs, flatV p.2 = true) : ∀ {kvs : List (List Key × V)} {xs : List (List Key × Addr × Value)}, KT H kvs xs → (∀ p ∈ kvs, flatV p.2 = true) → HitsT A s ys xs (kvs.all (hitV lvs))
  | _, _, .nil, _ => .nil
  | _, _, .cons (a := p) (b := x) h r, fa => by
    obtain ⟨e1, e2, e3⟩ := h
    have ih := hitsT (A := A) (s := s) rb fb r fun q hq => fa q (List.mem_cons_of_mem _ hq)
    rw [List.all_cons]
    unfold hitV
    cases hv : valV lvs p.1 with
    | none =>
      refine .miss fun j q hj => ?_
      obtain ⟨l, hl, l1, _⟩ := DX.pget rb hj
      exact valV_none hv l (List.mem_of_getElem? hl) (l1.trans e1.symm)
    | some v =>
      have hm := valV_some hv
      obtain ⟨j, hj⟩ := List.getElem?_of_mem hm
      obtain ⟨y, hy, y1, _, y3⟩ := pat rb hj
      obtain ⟨yk, yp⟩ := y
      have y1 : p.1 = yk := y1
      rw [← y1, e1] at hy
      exact .hit hy (eqAt_V e3 y3 (fa p List.mem_cons_self) (fb _ hm)) ih
def rEqDT : R2 := fun x y H Q => ∃ a b kvs lvs, x = .ref a ∧ y = .ref b ∧ H a = some (.dT kvs) ∧ H b = some (.dT lvs) ∧ (∀ p ∈ kvs, flatV p.2 = true) ∧ (∀ p ∈ lvs, flatV p.2 = true) ∧ Q (.bl (sameT kvs lvs)) H
def rNeDT : R2 := fun x y H Q => ∃ a b kvs lvs, x = .ref a ∧ y = .ref b ∧ H a = some (.dT kvs) ∧ H b = some (.dT lvs) ∧ (∀ p ∈ kvs, flatV p.2 = true) ∧ (∀ p ∈ lvs, flatV p.2 = true) ∧ Q (.bl (!sameT kvs lvs)) H
section
variable {X : Cx}
theorem op_eq_dT (hu : X.A.units + 1 < cLine) : OpR X (compareOp .Eq) rEqDT := by
  intro pins s σ H x y v u Q I rx ry h
  obtain ⟨a, b, kvs, lvs, rfl, rfl, ea, eb, fa, fb, q⟩ := h
  obtain rfl : v = Value.ref a := rx
  obtain rfl : u = Value.ref b := ry
  obtain ⟨_, na, xs, ra, da⟩ := dt_of I.hok ea
  obtain ⟨_, nb, ys, rb, db⟩ := dt_of I.hok eb
  have l1 : kvs.length = xs.length := Paired.length ra
  have l2 : lvs.length = ys.length := Paired.length rb
  exact eqT na nb (by omega) (tupleKind_room_in1 hu) da db (fun _ => hitsT rb fb ra fa) (fin_bl I q (by unfold sameT; rw [l1, l2]))
theorem op_ne_dT (hu : X.A.units + 1 < cLine) : OpR X (compareOp .NotEq) rNeDT := by
  intro pins s σ H x y v u Q I rx ry h
  obtain ⟨a, b, kvs, lvs, rfl, rfl, ea, eb, fa, fb, q⟩ := h
  obtain rfl : v = Value.ref a := rx
  obtain rfl : u = Value.ref b := ry
  obtain ⟨_, na, xs, ra, da⟩ := dt_of I.hok ea
  obtain ⟨_, nb, ys, rb, db⟩ := dt_of I.hok eb
  have l1 : kvs.length = xs.length := Paired.length ra
  have l2 : lvs.length = ys.length := Paired.length rb
  exact neT na nb (by omega) (tupleKind_room_in1 hu) da db (fun _ => hitsT rb fb ra fa) (fin_bl I q (by unfold sameT; rw [l1, l2]))
end
/-! ### over a list that stays -/
theorem dct_list {K : PySem.W.Frag} {a : Addr} {xs : List V} {g : TG} {tk tv : TE} {vs : List Nat} {σ : L2.St} {H1 : Hp} {D : Addr} {Qd : Hp → Prop} (Pv : Nat → Hp → Prop) (h0 : Pv 0 (upd H1 D (.dT []))) (hl : ∀ i H, Pv i H → SqL K H a xs)
    (hs : ∀ i x H, xs[i]? = some x → Pv i H → g x (wipe σ vs) H fun τ H2 => wipe τ vs = wipe σ vs ∧ tk τ H2 fun y H3 => tv τ H3 fun z H4 => ∃ kvs k b, y = .ref b ∧ H4 b = some (.tup (k.map kV)) ∧ H4 D = some (.dT kvs) ∧ kvs.length < sizeLine ∧ Pv (i + 1) (upd H4 D (.dT (putK kvs k z)))) (hd : ∀ H, Pv xs.length H → Qd H) :
    ∃ W : Nat → Nat → Hp → Prop, (∃ m, W 0 m (upd H1 D (.dT []))) ∧ ∀ i m G, W i m G → ((Itl K a).stop i G ∧ Qd G) ∨ ((Itl K a).go i G ∧ ∃ Nx : Hp → Prop, (∀ G', Nx G' → ∃ m', m' < m ∧ W (i + 1) m' G') ∧ ∀ x G', (Itl K a).yld i G x G' → g x (wipe σ vs) G' fun τ G2 => wipe τ vs = wipe σ vs ∧
      tk τ G2 fun y G3 => tv τ G3 fun z G4 => ∃ kvs k b, y = .ref b ∧ G4 b = some (.tup (k.map kV)) ∧ G4 D = some (.dT kvs) ∧ kvs.length < sizeLine ∧ Nx (upd G4 D (.dT (putK kvs k z)))) := by
  refine ⟨fun i m G => i ≤ xs.length ∧ m = xs.length - i ∧ Pv i G, ⟨_, Nat.zero_le _, rfl, h0⟩, ?_⟩
  rintro i m G ⟨hi, rfl, p⟩
  have q := hl i G p
  by_cases lt : i < xs.length
  · refine .inr ⟨⟨xs, _, q, List.getElem?_eq_getElem lt⟩, Pv (i + 1), fun G' p' => ⟨xs.length - (i + 1), by omega, lt, rfl, p'⟩, ?_⟩
    rintro x G' ⟨rfl, y⟩
    exact hs i x _ (y xs q) p
  · obtain rfl : i = xs.length := by omega
    exact .inl ⟨⟨xs, q, Nat.le_refl _⟩, hd G p⟩
end OM

namespace OM
open PySem PySem.Spec PyProof.Rows L2
/-! ### a dict built anew, key by key -/
theorem keyP_inj {x y : Str × Str} (h : keyP x = keyP y) : x = y := by
  unfold keyP at h
  injection h with h1 h2
  injection h2 with h2 _
  injection h1 with h1
  injection h2 with h2
  exact Prod.ext h1 h2
theorem valV_miss {α : Type} [DecidableEq α] {kvs : List (α × V)} {k : α} (h : ∀ p ∈ kvs, p.1 ≠ k) : valV kvs k = none := by
  unfold valV
  rw [Option.map_eq_none_iff, List.find?_eq_none]
  intro p hp z
  exact h p hp (of_decide_eq_true z)
theorem asc_put {α β : Type} [DecidableEq α] {key : β → α} (inj : ∀ x y, key x = key y → x = y) {zs : List β} (nd : zs.Nodup) {i : Nat} {z : β} (h : zs[i]? = some z) (f : β → V) :
    putK ((zs.take i).map fun y => (key y, f y)) (key z) (f z) = (zs.take (i + 1)).map fun y => (key y, f y) := by
  have li : i < zs.length := (List.getElem?_eq_some_iff.mp h).1
  have no : valV ((zs.take i).map fun y => (key y, f y)) (key z) = none := by
    refine valV_miss fun p hp => ?_
    obtain ⟨y, hy, rfl⟩ := List.mem_map.mp hp
    intro e
    have e := inj _ _ e
    subst e
    obtain ⟨j, hj⟩ := List.getElem?_of_mem hy
    rw [List.getElem?_take] at hj
    split at hj
    · rename_i lt
      have := (List.getElem?_inj li nd).mp (h.trans hj.symm)
      omega
    · cases hj
  rw [putK_new _ no, List.take_add_one, h, List.map_append]
  rfl
/-- what stands at a key of a dict whose keys are all different -/
theorem valV_at {α : Type} [DecidableEq α] : ∀ {kvs : List (α × V)}, (kvs.map (·.1)).Nodup → ∀ p ∈ kvs, valV kvs p.1 = some p.2
  | [], _, p, h => by cases h
  | q :: r, nd, p, h => by
    rw [List.map_cons, List.nodup_cons] at nd
    rcases List.mem_cons.mp h with rfl | h
    · exact valV_pos rfl
    · rw [valV_neg (fun e => nd.1 (List.mem_map.mpr ⟨p, h, e.symm⟩))]
      exact valV_at nd.2 p h
/-- two dicts that say the same of each key -/
theorem sameT_of {kvs lvs : List (List Key × V)} (nk : (kvs.map (·.1)).Nodup) (nl : (lvs.map (·.1)).Nodup) (eq : ∀ p ∈ kvs, eqV p.2 p.2 = true) (h : ∀ k, valV kvs k = valV lvs k) : sameT kvs lvs = true := by
  have sub : ∀ {a b : List (List Key × V)}, (a.map (·.1)).Nodup → (∀ k, valV a k = valV b k) → (a.map (·.1)) ⊆ (b.map (·.1)) := fun {a b} na hh k hk => by
    obtain ⟨p, hp, rfl⟩ := List.mem_map.mp hk
    have e := (hh p.1).symm.trans (valV_at na p hp)
    exact List.mem_map.mpr ⟨_, valV_some e, rfl⟩
  have l1 := List.Nodup.length_le_of_subset nk (sub nk h)
  have l2 := List.Nodup.length_le_of_subset nl (sub nl fun k => (h k).symm)
  rw [List.length_map, List.length_map] at l1 l2
  unfold sameT
  rw [Bool.and_eq_true]
  refine ⟨beq_iff_eq.mpr (by omega), List.all_eq_true.mpr fun p hp => ?_⟩
  unfold hitV
  rw [← h, valV_at nk p hp]
  exact eq p hp
end OM

namespace OM
open PySem PySem.Spec PyProof.Rows L2
abbrev sShown : Stmt := top 67
section
variable {P : Program} {w : World} {K : PySem.W.Frag} {mg : Str → Option Value} {base : Heap} {f fR fO : Addr} {fd fdR fdO : FuncData}
theorem ok_quiet (F : Fun K "_law_quiet_code" "_law_quiet_code" sQuiet f fd) (D : DiceF K mg fR fO fdR fdO) (rng : mg "range" = none) (tup : mg "tuple" = none) (gC : mg "_law_quiet_code" = some (.ref f)) (bC : Binds K fd ["_law_dice_here", "_law_most", "_law_room", "_law_deep"] []) :
    ∀ n, FnOk P w K mg base CX0 (n + 2) f fd ["_law_dice_here", "_law_most", "_law_room", "_law_deep"] (spQuiet n)
  | 0 => ⟨fun _ _ _ _ h => h.elim, fun _ _ _ _ _ _ _ _ _ _ _ _ _ h => h.elim⟩
  | n + 1 => quiet_step F D rng tup gC bC (ok_quiet F D rng tup gC bC n)
end
theorem keyP_of (p x : Str) : (keyP (p, x)).map kV = [V.str p, V.str x] := rfl
/-- a dict of answers -/
def AskD (H : Hp) (a : Addr) (ask : Str → Str → Bool) : Prop := ∃ kvs : List (List Key × V), H a = some (.dT kvs) ∧ ∀ p x, (valV kvs (keyP (p, x))).getD (.bl false) = .bl (ask p x)
theorem AskD.mv {H H' : Hp} {a : Addr} {ask : Str → Str → Bool} (h : AskD H a ask) (e : H' a = H a) : AskD H' a ask := by
  obtain ⟨kvs, e1, e2⟩ := h
  exact ⟨kvs, by rw [e]; exact e1, e2⟩
/-- the registers of the law -/
def rgL (e : Rg) : List (Key × V) := regs3.map fun n => (Sum.inr n, .str (e n))
def RegD (H : Hp) (a : Addr) (e : Rg) : Prop := H a = some (.dK (rgL e))
theorem rg_get {e : Rg} {r : Str} (h : r ∈ regs3) : valV (rgL e) (Sum.inr r) = some (.str (e r)) := by
  have ab : (Sum.inr ("a" : Str) : Key) ≠ Sum.inr ("b" : Str) := by decide +kernel
  have ac : (Sum.inr ("a" : Str) : Key) ≠ Sum.inr ("c" : Str) := by decide +kernel
  have bc : (Sum.inr ("b" : Str) : Key) ≠ Sum.inr ("c" : Str) := by decide +kernel
  unfold rgL regs3
  rcases List.mem_cons.mp h with rfl | h
  · exact valV_pos rfl
  rcases List.mem_cons.mp h with rfl | h
  · exact (valV_neg ab).trans (valV_pos rfl)
  rcases List.mem_cons.mp h with rfl | h
  · exact ((valV_neg ac).trans (valV_neg bc)).trans (valV_pos rfl)
  cases h
theorem rg_put {e : Rg} {r v : Str} (h : r ∈ regs3) : putK (rgL e) (Sum.inr r) (.str v) = rgL (e.put r v) := by
  have hs : ((rgL e).any fun kv => decide (kv.1 = Sum.inr r)) = true := by
    rw [valV_any, rg_get h]
    rfl
  unfold putK
  rw [if_pos hs]
  unfold rgL
  rw [List.map_map]
  refine List.map_congr_left fun n _ => ?_
  show (if (Sum.inr n : Key) = Sum.inr r then _ else _) = _
  unfold Rg.put
  by_cases z : n = r
  · rw [if_pos (by rw [z]), if_pos z, z]
  · rw [if_neg (fun q => z (Sum.inr.inj q)), if_neg z]
theorem Tp.row {H : Hp} {v : V} {w : Str} {ws : List Str} (h : Tp H v (.tuple (.str w :: ws.map PyData.str))) : ∃ p, v = .ref p ∧ H p = some (.tup (.str w :: ws.map V.str)) := by
  obtain ⟨p, xs, rfl, e, _, hx⟩ := h.tupI
  have := Tp.strL (as := w :: ws) hx
  rw [this] at e
  exact ⟨p, rfl, e⟩
theorem Tp.ifI {H : Hp} {v : V} {p r : Str} {y n : List PyData} (h : Tp H v (.tuple [.str "if", .str p, .str r, .tuple y, .tuple n])) : ∃ a yv nv, v = .ref a ∧ H a = some (.tup [.str "if", .str p, .str r, yv, nv]) ∧ Tp H yv (.tuple y) ∧ Tp H nv (.tuple n) := by
  obtain ⟨a, xs, rfl, e, _, hx⟩ := h.tupI
  cases hx with
  | cons h0 hx =>
    cases hx with
    | cons h1 hx =>
      cases hx with
      | cons h2 hx =>
        cases hx with
        | cons h3 hx =>
          cases hx with
          | cons h4 hx =>
            cases hx
            obtain rfl := h0.strI
            obtain rfl := h1.strI
            obtain rfl := h2.strI
            exact ⟨a, _, _, rfl, e, h3, h4⟩
theorem Tp.setI {H : Hp} {v : V} {r f : Str} {as : List Str} (h : Tp H v (.tuple [.str "set", .str r, .str f, .tuple (as.map PyData.str)])) : ∃ a q, v = .ref a ∧ H a = some (.tup [.str "set", .str r, .str f, .ref q]) ∧ H q = some (.tup (as.map V.str)) := by
  obtain ⟨a, xs, rfl, e, _, hx⟩ := h.tupI
  cases hx with
  | cons h0 hx =>
    cases hx with
    | cons h1 hx =>
      cases hx with
      | cons h2 hx =>
        cases hx with
        | cons h3 hx =>
          cases hx
          obtain rfl := h0.strI
          obtain rfl := h1.strI
          obtain rfl := h2.strI
          obtain ⟨q, ys, rfl, eq, _, hq⟩ := h3.tupI
          rw [Tp.strL hq] at eq
          exact ⟨a, q, rfl, e, eq⟩
section
variable {ask : Str → Str → Bool}
mutual
theorem QS.sh_len : ∀ (x : QS) (e : Rg), (x.sh ask e).length ≤ x.tr.length
  | .set r f as, e => Nat.zero_le _
  | .copy r q, e => Nat.zero_le _
  | .shw r, e => Nat.le_refl _
  | .iff p r ys ns, e => by
    have a := QL.sh_len ys e
    have b := QL.sh_len ns e
    have tl : (QS.iff p r ys ns).tr.length = 1 + (ys.tr.length + (1 + ns.tr.length)) := by
      show (QRow.iff p r (ys.tr.length + 1) :: (ys.tr ++ QRow.skip ns.tr.length :: ns.tr)).length = _
      rw [List.length_cons, List.length_append, List.length_cons]
      omega
    rw [tl]
    show (if ask p (e r) = true then ys.sh ask e else ns.sh ask e).length ≤ _
    split <;> omega
theorem QL.sh_len : ∀ (c : QL) (e : Rg), (c.sh ask e).length ≤ c.tr.length
  | .nil, e => Nat.le_refl _
  | .cons x t, e => by
    have a := QS.sh_len x e
    have b := QL.sh_len t (x.en ask e)
    show (x.sh ask e ++ t.sh ask (x.en ask e)).length ≤ (x.tr ++ t.tr).length
    rw [List.length_append, List.length_append]
    omega
end
end
def spShown : Nat → Sp
  | 0 => fun _ _ _ _ => False
  | n + 1 => fun vs H Q _ => ∃ (v : V) (ad rg fo : Addr) (c : QL) (ask : Str → Str → Bool) (e : Rg) (L : List Str) (b : Nat), vs = [v, .ref ad, .ref rg, .ref fo] ∧ Tp H v (.tuple c.ds) ∧ c.ok ∧ c.dp n ∧ AskD H ad ask ∧ RegD H rg e ∧ H fo = some (.lst (L.map V.str)) ∧ SmB b e ∧ 2 ^ c.s * b ≤ 4000000 ∧ L.length + c.tr.length ≤ 1000 ∧
    ∀ H', Chg [rg, fo] H H' → RegD H' rg (c.en ask e) → H' fo = some (.lst ((L ++ c.sh ask e).map V.str)) → Q .non H'
section
variable {P : Program} {w : World} {K : PySem.W.Frag} {mg : Str → Option Value} {base : Heap} {f : Addr} {fd : FuncData}
abbrev nShn : List Str := ["_law_code", "_law_asked", "_law_regs", "_law_found", "_law_row", "_law_name"]
theorem scShn : FnScope nShn ["_law_code", "_law_asked", "_law_regs", "_law_found"] (defScope sShown) := ⟨rfl, rfl, rfl, by decide +kernel, rfl, by decide +kernel, by decide +kernel⟩
theorem shown_step {n : Nat} (F : Fun K "_law_shown" "_law_shown" sShown f fd) (gC : mg "_law_shown" = some (.ref f)) (bC : Binds K fd ["_law_code", "_law_asked", "_law_regs", "_law_found"] [])
    (GC : FnOk P w K mg base CX0 (n + 1) f fd ["_law_code", "_law_asked", "_law_regs", "_law_found"] (spShown n)) : FnOk P w K mg base CX0 (n + 2) f fd ["_law_code", "_law_asked", "_law_regs", "_law_found"] (spShown (n + 1)) := by
  refine F.ok scShn (fun vs H Q E h => ?_) (fun cdv A outer s H vs Q E hr h => ?_)
  · obtain ⟨v, ad, rg, fo, c, ask, e, L, b, rfl, _⟩ := h
    rfl
  · obtain ⟨v, ad, rg, fo, c, ask, e, L, b, rfl, hv, ok, dp, ha, hg, hf, sm, sb, sl, q⟩ := h
    refine ⟨_, pss_cons (ps_for PassesOwn.never rfl (pi_tup (pv 0)) (pg_name (i := 4) scShn.nd rfl (Or.inl rfl))
        (pss_one (ps_if (pt_cmpR op_eq (pe_ix (r := rIxT K) ix_tup (pv 4) pe_int (fun _ _ => rfl)) pe_str (nomark _))
          (pss_one (ps_expr (pe_call GC hr (by rfl) gC F.kp bC .nil pass0 (pa_cons (pe_ifExp (pt_val (pe_dget2 (hu_of hr) (pv 1) (pe_tup (pa_cons (pe_ix (r := rIxT K) ix_tup (pv 4) pe_int (fun _ _ => rfl)) (pa_cons (pe_dget (hu_of hr) (pv 2) (pe_ix (r := rIxT K) ix_tup (pv 4) pe_int (fun _ _ => rfl)) (fun _ _ => rfl)) pa_nil))) pe_bl ⟨rfl, rfl, rfl, rfl⟩))
            (pe_ix (r := rIxT K) ix_tup (pv 4) pe_int (fun _ _ => rfl)) (pe_ix (r := rIxT K) ix_tup (pv 4) pe_int (fun _ _ => rfl))) (pa_cons (pv 1) (pa_cons (pv 2) (pa_cons (pv 3) pa_nil)))))))
          (pss_one (ps_if (pt_cmpR op_eq (pe_ix (r := rIxT K) ix_tup (pv 4) pe_int (fun _ _ => rfl)) pe_str (nomark _))
            (pss_one (ps_expr (pe_bm PySem.F.plainAttrs_list PySem.F.slot_list_append PySem.F.type_list_append mt_append (pv 3) (pa_cons (pe_dget (hu_of hr) (pv 2) (pe_ix (r := rIxT K) ix_tup (pv 4) pe_int (fun _ _ => rfl)) (fun _ _ => rfl)) pa_nil))))
          (pss_one (ps_if (pt_cmpR op_eq (pe_ix (r := rIxT K) ix_tup (pv 4) pe_int (fun _ _ => rfl)) pe_str (nomark _))
            (pss_one (ps_dput (hu_of hr) (pv 2) (pe_ix (r := rIxT K) ix_tup (pv 4) pe_int (fun _ _ => rfl)) (pe_dget (hu_of hr) (pv 2) (pe_ix (r := rIxT K) ix_tup (pv 4) pe_int (fun _ _ => rfl)) (fun _ _ => rfl)) rfl))
            (pss_one (ps_dput (hu_of hr) (pv 2) (pe_ix (r := rIxT K) ix_tup (pv 4) pe_int (fun _ _ => rfl))
              (pe_op op_add_str (pe_op op_add_str (pe_op op_add_str (pe_ix (r := rIxT K) ix_tup (pv 4) pe_int (fun _ _ => rfl)) pe_str)
                (pe_bm PySem.F.plainAttrs_str PySem.F.slot_str_join PySem.F.type_str_join mt_join pe_str (pa_cons (pe_lc (own := [("_law_name", 5)]) rfl scShn.nd (pi_tup (pe_ix (r := rIxT K) ix_tup (pv 4) pe_int (fun _ _ => rfl))) (blkOk_by (N := nShn) (sc := defScope sShown) (by decide +kernel))
                  (fun _ _ _ _ _ => pg_name (i := 5) scShn.nd rfl (Or.inl rfl)) (fun _ _ _ _ _ => pts_nil) (fun _ _ _ _ _ => pe_dget (hu_of hr) (pv 2) (pv 5) (fun _ _ => rfl))) pa_nil))) pe_str) rfl)))))))))
      (pss_one (ps_ret pe_non)), ?_⟩
    obtain ⟨cp, xs, rfl, ecp, lx, hx⟩ := hv.tupI
    have line : (16000000 : Nat) ≤ sizeLine := by decide
    have rf : rg ≠ fo := fun z => by
      unfold RegD at hg
      rw [z, hf] at hg
      cases hg
    have ne : ∀ {x y : Str}, x ≠ y → decide (V.str x = V.str y) = false := fun h => decide_eq_false fun z => h (V.str.inj z)
    refine ⟨_, rfl, cp, rfl, ⟨_, SqT.of ecp⟩, for_tup (xs := xs) (fun i σ G => (∃ x4 x5, σ = [some (.ref cp), some (.ref ad), some (.ref rg), some (.ref fo), x4, x5]) ∧ Chg [rg, fo] H G ∧ ∃ (r : QL) (e1 : Rg) (L1 : List Str) (b1 : Nat), TpAll H (xs.drop i) r.ds ∧ r.ok ∧ r.dp n ∧ RegD G rg e1 ∧ G fo = some (.lst (L1.map V.str)) ∧ SmB b1 e1 ∧ 2 ^ r.s * b1 ≤ 4000000 ∧ L1.length + r.tr.length ≤ 1000 ∧ L1 ++ r.sh ask e1 = L ++ c.sh ask e ∧ r.en ask e1 = c.en ask e)
      ⟨⟨_, _, rfl⟩, Chg.refl _ _, c, e, L, b, hx, ok, dp, hg, hf, sm, sb, sl, rfl, rfl⟩ (fun i σ G _ h => SqT.of (h.2.1.tups _ _ ecp)) (fun i y σ G hi h => ?_) (fun σ G h => ?_)⟩
    · obtain ⟨⟨x4, x5, rfl⟩, cg, r, e1, L1, b1, hr1, ok1, dp1, hg1, hf1, sm1, sb1, sl1, q1, q2⟩ := h
      have ed : xs.drop i = y :: xs.drop (i + 1) := by
        obtain ⟨h1, h3⟩ := List.getElem?_eq_some_iff.mp hi
        rw [← h3]
        exact List.drop_eq_getElem_cons h1
      rw [ed] at hr1
      have eaG : ∃ kvs, G ad = some (.dT kvs) ∧ ∀ p x, (valV kvs (keyP (p, x))).getD (.bl false) = .bl (ask p x) := by
        obtain ⟨kvs, k1, k2⟩ := ha
        refine ⟨kvs, cg.keep _ _ (fun z => ?_) k1, k2⟩
        rcases List.mem_cons.mp z with rfl | z
        · unfold RegD at hg
          rw [hg] at k1
          cases k1
        · rw [List.mem_singleton.mp z, hf] at k1
          cases k1
      obtain ⟨kvs, ea1, ea2⟩ := eaG
      match r, hr1 with
      | .cons x t, .cons hy htl =>
        have hyG : Tp G y x.d := hy.mv cg.tups
        have sl2 : L1.length + (x.tr.length + t.tr.length) ≤ 1000 := by
          have : (QL.cons x t).tr.length = x.tr.length + t.tr.length := List.length_append
          omega
        have sb2 : 2 ^ (x.s + t.s) * b1 ≤ 4000000 := sb1
        have q1 : L1 ++ (x.sh ask e1 ++ t.sh ask (x.en ask e1)) = L ++ c.sh ask e := q1
        have q2 : t.en ask (x.en ask e1) = c.en ask e := q2
        have sm2 := QS.sm (ask := ask) x ok1.1 sm1
        have sb3 : 2 ^ t.s * (2 ^ x.s * b1) ≤ 4000000 := by
          rw [← Nat.mul_assoc, ← Nat.pow_add, Nat.add_comm]
          exact sb2
        -- the end of a turn
        have fin : ∀ {G2 : Hp} {y5 : Option V}, Chg [rg, fo] G G2 → RegD G2 rg (x.en ask e1) → G2 fo = some (.lst ((L1 ++ x.sh ask e1).map V.str)) → (x.sh ask e1).length ≤ x.tr.length →
            (∃ x4 x5, [some (V.ref cp), some (.ref ad), some (.ref rg), some (.ref fo), some y, y5] = [some (.ref cp), some (.ref ad), some (.ref rg), some (.ref fo), x4, x5]) ∧ Chg [rg, fo] H G2 ∧ ∃ (r : QL) (e1 : Rg) (L1 : List Str) (b1 : Nat), TpAll H (xs.drop (i + 1)) r.ds ∧ r.ok ∧ r.dp n ∧ RegD G2 rg e1 ∧ G2 fo = some (.lst (L1.map V.str)) ∧ SmB b1 e1 ∧ 2 ^ r.s * b1 ≤ 4000000 ∧ L1.length + r.tr.length ≤ 1000 ∧ L1 ++ r.sh ask e1 = L ++ c.sh ask e ∧ r.en ask e1 = c.en ask e :=
          fun {G2 y5} c2 g2 f2 l2 => ⟨⟨_, _, rfl⟩, cg.trans c2, t, x.en ask e1, L1 ++ x.sh ask e1, _, htl, ok1.2, dp1.2, g2, f2, sm2, sb3, by rw [List.length_append]; omega, by rw [List.append_assoc]; exact q1, q2⟩
        have put : ∀ {rr vv : Str}, rr ∈ regs3 → Chg [rg, fo] G (upd G rg (.dK (rgL (e1.put rr vv)))) ∧ RegD (upd G rg (.dK (rgL (e1.put rr vv)))) rg (e1.put rr vv) ∧ upd G rg (.dK (rgL (e1.put rr vv))) fo = some (.lst (L1.map V.str)) := fun {rr vv} hrr =>
          ⟨Chg.put (by simp) hg1 (fun _ z => nomatch z), upd_same, by rw [upd_ne rf.symm]; exact hf1⟩
        have dput : ∀ {rr vv : Str}, rr ∈ regs3 → DPut G rg (.str rr) (.str vv) (upd G rg (.dK (rgL (e1.put rr vv)))) := fun {rr vv} hrr => by
          have z := DPut.k (k := Sum.inr rr) (v := .str vv) hg1 (by show 3 < sizeLine; omega)
          rw [rg_put hrr] at z
          exact z
        have dget : ∀ {rr : Str} {G2 : Hp}, rr ∈ regs3 → G2 rg = some (.dK (rgL e1)) → DGet G2 rg (.str rr) (some (.str (e1 rr))) := fun {rr G2} hrr hh => by
          have z := DGet.k (k := Sum.inr rr) hh
          rw [rg_get hrr] at z
          exact z
        match x, hyG with
        | .iff p r1 ys ns, hyG =>
          obtain ⟨yp, yv, nv, rfl, eyp, hy5, hn5⟩ := Tp.ifI hyG
          have o1 : Nm p ∧ r1 ∈ regs3 ∧ ys.ok ∧ ns.ok := ok1.1
          have d1 : (QS.iff p r1 ys ns).dp n := dp1.1
          obtain ⟨n', rfl⟩ : ∃ n', n = n' + 1 := by
            cases n with
            | zero => exact d1.elim
            | succ m => exact ⟨m, rfl⟩
          have d1 : ys.dp n' ∧ ns.dp n' := d1
          have hs : 2 ^ (ys.s + ns.s) * b1 ≤ 4000000 := (pow_le sb2).1
          have tl : (QS.iff p r1 ys ns).tr.length = 1 + (ys.tr.length + (1 + ns.tr.length)) := by
            show (QRow.iff p r1 (ys.tr.length + 1) :: (ys.tr ++ QRow.skip ns.tr.length :: ns.tr)).length = _
            rw [List.length_cons, List.length_append, List.length_cons]
            omega
          refine ⟨_, rfl, yp, _, 0, _, rfl, rfl, SqT.of eyp, at0, rfl, _, rfl, ?_⟩
          rw [decide_eq_true rfl]
          refine iteT ⟨_, rfl, ad, rfl, .inr ⟨kvs, .inl ea1⟩, _, rfl, yp, _, 1, .str p, rfl, rfl, SqT.of eyp, rfl, _, rfl, _, rfl, yp, _, 2, .str r1, rfl, rfl, SqT.of eyp, rfl, rg, _, rfl, dget o1.2.1 hg1, (by show 2 ≤ sizeLine; omega), fun kp hkp => ?_⟩
          have s1 := same_upd (o := .tup [.str p, .str (e1 r1)]) hkp
          refine ⟨_, DGet.t (k := keyP (p, e1 r1)) (s1 _ _ ea1) upd_same, ?_⟩
          rw [ea2]
          have shl := QS.sh_len (ask := ask) (.iff p r1 ys ns) e1
          have es : (QS.iff p r1 ys ns).sh ask e1 = if ask p (e1 r1) = true then ys.sh ask e1 else ns.sh ask e1 := rfl
          have ee : (QS.iff p r1 ys ns).en ask e1 = if ask p (e1 r1) = true then ys.en ask e1 else ns.en ask e1 := rfl
          cases hask : ask p (e1 r1) with
          | true =>
            rw [hask, if_pos rfl] at es ee
            refine ⟨_, rfl, iteT ⟨_, rfl, yp, _, 3, yv, rfl, rfl, SqT.of (s1 _ _ eyp), rfl, _, rfl, _, rfl, _, rfl, yv, ad, rg, fo, ys, ask, e1, L1, b1, rfl, hy5.mv (TupS.same s1), o1.2.2.1, d1.1, ⟨kvs, s1 _ _ ea1, ea2⟩, s1 _ _ hg1, s1 _ _ hf1, sm1, (pow_le hs).1, by omega, fun G2 c2 g2 f2 => ?_⟩⟩
            rw [← ee] at g2
            rw [← es] at f2
            exact fin ((Chg.same s1).trans c2) g2 f2 shl
          | false =>
            rw [hask, if_neg (by decide)] at es ee
            refine ⟨_, rfl, iteF ⟨_, rfl, yp, _, 4, nv, rfl, rfl, SqT.of (s1 _ _ eyp), rfl, _, rfl, _, rfl, _, rfl, nv, ad, rg, fo, ns, ask, e1, L1, b1, rfl, hn5.mv (TupS.same s1), o1.2.2.2, d1.2, ⟨kvs, s1 _ _ ea1, ea2⟩, s1 _ _ hg1, s1 _ _ hf1, sm1, (pow_le hs).2, by omega, fun G2 c2 g2 f2 => ?_⟩⟩
            rw [← ee] at g2
            rw [← es] at f2
            exact fin ((Chg.same s1).trans c2) g2 f2 shl
        | .shw r1, hyG =>
          obtain ⟨yp, rfl, eyp⟩ := Tp.row (w := "show") (ws := [r1]) hyG
          have o1 : r1 ∈ regs3 := ok1.1
          refine ⟨_, rfl, yp, _, 0, _, rfl, rfl, SqT.of eyp, at0, rfl, _, rfl, ?_⟩
          rw [ne (by decide +kernel)]
          refine iteF ⟨_, rfl, yp, _, 0, _, rfl, rfl, SqT.of eyp, at0, rfl, _, rfl, ?_⟩
          rw [decide_eq_true rfl]
          refine iteT ⟨_, rfl, .inl ⟨rfl, _, SqL.of hf1⟩, _, rfl, _, rfl, yp, _, 1, .str r1, rfl, rfl, SqT.of eyp, rfl, rg, _, rfl, dget o1 hg1, fo, _, _, rfl, rfl, hf1, ?_, ?_⟩
          · rw [List.length_map]
            omega
          · have c2 : Chg [rg, fo] G (upd G fo (.lst (L1.map V.str ++ [V.str (e1 r1)]))) := Chg.put (by simp) hf1 (fun _ z => nomatch z)
            refine fin c2 (by show upd _ _ _ rg = _; rw [upd_ne rf]; exact hg1) ?_ (by show 1 ≤ 1; omega)
            rw [upd_same, List.map_append]
            rfl
        | .copy r1 r2, hyG =>
          obtain ⟨yp, rfl, eyp⟩ := Tp.row (w := "copy") (ws := [r1, r2]) hyG
          have o1 : r1 ∈ regs3 ∧ r2 ∈ regs3 := ok1.1
          refine ⟨_, rfl, yp, _, 0, _, rfl, rfl, SqT.of eyp, at0, rfl, _, rfl, ?_⟩
          rw [ne (by decide +kernel)]
          refine iteF ⟨_, rfl, yp, _, 0, _, rfl, rfl, SqT.of eyp, at0, rfl, _, rfl, ?_⟩
          rw [ne (by decide +kernel)]
          refine iteF ⟨_, rfl, yp, _, 0, _, rfl, rfl, SqT.of eyp, at0, rfl, _, rfl, ?_⟩
          rw [decide_eq_true rfl]
          obtain ⟨c2, g2, f2⟩ := put (rr := r1) (vv := e1 r2) o1.1
          refine iteT ⟨_, rfl, _, rfl, yp, _, 2, .str r2, rfl, rfl, SqT.of eyp, rfl, rg, _, rfl, dget o1.2 hg1, _, rfl, _, rfl, yp, _, 1, .str r1, rfl, rfl, SqT.of eyp, rfl, rg, _, rfl, dput o1.1, ?_⟩
          refine fin c2 g2 ?_ (Nat.zero_le _)
          rw [f2]
          show _ = some (HO.lst ((L1 ++ []).map V.str))
          rw [List.append_nil]
        | .set r1 fn as, hyG =>
          obtain ⟨yp, yq, rfl, eyp, eyq⟩ := Tp.setI hyG
          have o1 : r1 ∈ regs3 ∧ Nm fn ∧ as.length ≤ 2 ∧ ∀ a ∈ as, a ∈ regs3 := ok1.1
          refine ⟨_, rfl, yp, _, 0, _, rfl, rfl, SqT.of eyp, at0, rfl, _, rfl, ?_⟩
          rw [ne (by decide +kernel)]
          refine iteF ⟨_, rfl, yp, _, 0, _, rfl, rfl, SqT.of eyp, at0, rfl, _, rfl, ?_⟩
          rw [ne (by decide +kernel)]
          refine iteF ⟨_, rfl, yp, _, 0, _, rfl, rfl, SqT.of eyp, at0, rfl, _, rfl, ?_⟩
          rw [ne (by decide +kernel)]
          obtain ⟨c2, g2, f2⟩ := put (rr := r1) (vv := wrT fn (as.map e1)) o1.1
          have b1' := sm1.1
          have bs : b1 ≤ 4000000 := Nat.le_trans (Nat.le_mul_of_pos_left b1 (Nat.pow_pos (by decide))) sb1
          have lav : ∀ x ∈ as.map e1, x.length ≤ b1 := fun x hx => by
            obtain ⟨a, ha, rfl⟩ := List.mem_map.mp hx
            have := sm1.2 a (o1.2.2.2 a ha)
            omega
          obtain ⟨j1, j2⟩ := join_le lav (by rw [List.length_map]; exact o1.2.2.1)
          have fl := nm_len o1.2.1
          have l3 : ("(" : Str).length = 1 := by decide +kernel
          have l4 : (")" : Str).length = 1 := by decide +kernel
          have l5 : (", " : Str).length = 2 := by decide +kernel
          refine iteF ⟨_, rfl, yp, _, 2, .str fn, rfl, rfl, SqT.of eyp, rfl, _, _, rfl, rfl, by omega, rfl, _, rfl, yp, _, 3, .ref yq, rfl, rfl, SqT.of eyp, rfl, yq, rfl, ⟨_, SqT.of eyq⟩, fun D hD => lc_tup (xs := as.map V.str) (fun i G2 => Same G G2 ∧ G2 D = some (.lst (((as.take i).map e1).map V.str))) ⟨same_upd hD, upd_same⟩ (fun i G2 _ z => SqT.of (z.1 _ _ eyq)) (fun i y2 G2 hi2 z => ?_) (fun G2 z => ?_)⟩
          · obtain ⟨s2, e2⟩ := z
            rw [List.getElem?_map] at hi2
            obtain ⟨a2, ha2, rfl⟩ := Option.map_eq_some_iff.mp hi2
            refine ⟨rfl, _, rfl, _, rfl, rg, _, rfl, dget (o1.2.2.2 a2 (List.mem_of_getElem? ha2)) (s2 _ _ hg1), _, e2, ?_, same_put hD s2, ?_⟩
            · simp only [List.length_map, List.length_take]
              omega
            · rw [upd_same, List.take_add_one, ha2, List.map_append, List.map_append]
              rfl
          · obtain ⟨s2, e2⟩ := z
            rw [List.length_map, List.take_length] at e2
            refine ⟨", ", D, as.map e1, rfl, rfl, .inl (SqL.of e2), ?_, ?_⟩
            · rw [l5]
              have : (as.map e1).length ≤ 2 := by rw [List.length_map]; exact o1.2.2.1
              omega
            have la : (fn ++ ("(" : Str)).length = fn.length + 1 := by rw [strLen_append, l3]
            have lb : (fn ++ ("(" : Str) ++ Txt.join (", " : Str) (as.map e1)).length ≤ fn.length + 1 + (2 * b1 + 2) := by
              rw [strLen_append, la]
              omega
            refine ⟨_, _, rfl, rfl, by rw [la]; omega, ⟨_, _, rfl, rfl, by rw [l4]; omega, ?_⟩⟩
            refine ⟨_, rfl, _, rfl, yp, _, 1, .str r1, rfl, rfl, SqT.of (s2 _ _ eyp), rfl, rg, upd G2 rg (.dK (rgL (e1.put r1 (wrT fn (as.map e1))))), rfl, ?_, ?_⟩
            · have z := DPut.k (k := Sum.inr r1) (v := .str (wrT fn (as.map e1))) (s2 _ _ hg1) (by show 3 < sizeLine; omega)
              rw [rg_put o1.1] at z
              exact z
            · refine fin ?_ upd_same ?_ (Nat.zero_le _)
              · exact (Chg.same s2).trans (Chg.put (by simp) (s2 _ _ hg1) (fun _ z => nomatch z))
              · rw [upd_ne rf.symm]
                show _ = some (HO.lst ((L1 ++ []).map V.str))
                rw [List.append_nil]
                exact s2 _ _ hf1
    · obtain ⟨⟨x4, x5, rfl⟩, cg, r, e1, L1, b1, hr1, ok1, dp1, hg1, hf1, sm1, sb1, sl1, q1, q2⟩ := h
      rw [List.drop_length] at hr1
      match r, hr1 with
      | .nil, _ =>
        have q1 : L1 ++ [] = L ++ c.sh ask e := q1
        have q2 : e1 = c.en ask e := q2
        rw [List.append_nil] at q1
        rw [q2] at hg1
        rw [q1] at hf1
        exact q G cg hg1 hf1
theorem ok_shown (F : Fun K "_law_shown" "_law_shown" sShown f fd) (gC : mg "_law_shown" = some (.ref f)) (bC : Binds K fd ["_law_code", "_law_asked", "_law_regs", "_law_found"] []) : ∀ n, FnOk P w K mg base CX0 (n + 1) f fd ["_law_code", "_law_asked", "_law_regs", "_law_found"] (spShown n)
  | 0 => ⟨fun _ _ _ _ h => h.elim, fun _ _ _ _ _ _ _ _ _ _ _ _ _ h => h.elim⟩
  | n + 1 => shown_step F gC bC (ok_shown F gC bC n)
end
end OM

namespace OM
open PySem PySem.Spec PyProof.Rows L2
abbrev sThr : Stmt := top 49
section
variable {P : Program} {w : World} {K : PySem.W.Frag} {mg : Str → Option Value} {base : Heap} {f fF fC fO fN fS fFt fI fM fA fK : Addr} {fd dF dC dO dN dS dFt dI dM dA dK : FuncData}
structure MostF (K : PySem.W.Frag) (mg : Str → Option Value) (fM fA fK : Addr) (dM dA dK : FuncData) : Prop where
  FM : Fun K "most_on_path" "most_on_path" sMost fM dM
  FA : Fun K "_most_at" "_most_at" sMostAt fA dA
  FK : Fun K "_path_kind" "_path_kind" sKind fK dK
  gM : mg "most_on_path" = some (.ref fM)
  gA : mg "_most_at" = some (.ref fA)
  gK : mg "_path_kind" = some (.ref fK)
  bM : Binds K dM ["code", "kind"] []
  bA : Binds K dA ["statement", "kind"] []
  bK : Binds K dK ["statement"] []
theorem ok_most (M : MostF K mg fM fA fK dM dA dK) (C : FlatF K mg fF fC fO dF dC dO) (TS : TxtS mg) : ∀ n, FnOk P w K mg base CX0 (2 * n + 1) fM dM ["code", "kind"] (spMost n)
  | 0 => ⟨fun _ _ _ _ h => h.elim, fun _ _ _ _ _ _ _ _ _ _ _ _ _ h => h.elim⟩
  | n + 1 => most_step M.FM TS M.gA M.FA.kp M.bA (mostat_ok (j := 2 * n) M.FA TS M.gM M.FM.kp M.bM (ok_most M C TS n) C.FC C.gC C.bC M.FK M.gK M.bK)
/-- what a thread takes -/
structure ThrOk (ds : List PyData) : Prop where
  rows : ds.all (rowD (cdOf 3)) = true
  sml : smlAll ds = true
  few : (flatN 3 ds).length ≤ 60
  iff : mostN 3 "if" ds ≤ 6
  st : mostN 3 "set" ds ≤ 6
def spThr : Sp := fun vs H Q _ => ∃ (v : V) (ds : List PyData), vs = [v] ∧ Dt (fun _ => True) H v (.tuple ds) ∧ ThrOk ds ∧ ∀ H', Same H H' → Q (.bl true) H'
theorem scTh : FnScope ["value"] ["value"] (defScope sThr) := ⟨rfl, rfl, rfl, by decide +kernel, rfl, by decide +kernel, by decide +kernel⟩
theorem ok_thr (F : Fun K "is_thread_code" "is_thread_code" sThr f fd) (CF : CodeF K mg fN fS fFt fI dN dS dFt dI) (TF : TxtF K w mg) (TS : TxtS mg) (FF : FlatF K mg fF fC fO dF dC dO) (M : MostF K mg fM fA fK dM dA dK) (gD : ∃ t, mg "MAX_DEPTH" = some (.int 3 t)) (gC : ∃ t, mg "MAX_CODE" = some (.int 60 t)) (gP : ∃ t, mg "MAX_ON_PATH" = some (.int 6 t)) :
    FnOk P w K mg base CX0 14 f fd ["value"] spThr := by
  have GN : FnOk P w K mg base CX0 13 fN dN ["value", "depth", "shows"] (spNestedAtS 4) := ok_nested CF TF 4
  have GF : FnOk P w K mg base CX0 5 fF dF ["code"] (spFlatAt 4) := ok_flat FF 4
  have GM : FnOk P w K mg base CX0 9 fM dM ["code", "kind"] (spMost 4) := ok_most M FF TS 4
  obtain ⟨t1, g1⟩ := gD
  obtain ⟨t2, g2⟩ := gC
  obtain ⟨t3, g3⟩ := gP
  refine F.ok scTh (fun vs H Q E h => ?_) (fun cdv A outer s H vs Q E hr h => ?_)
  · obtain ⟨v, ds, rfl, _⟩ := h
    rfl
  · obtain ⟨v, ds, rfl, hd, ok, q⟩ := h
    refine ⟨_, pss_one (ps_ret (pe_and (pe_call GN hr (by rfl) CF.gN CF.FN.kp CF.bN .nil pass0 (pa_cons (pv 0) (pa_cons (pe_glob (v := .int 3) (by rfl) g1 ⟨t1, rfl⟩) (pa_cons pe_bl pa_nil))))
      (pe_and (pe_cmpR op_le (pe_callB call_len_seq (by rfl) TS.len PySem.boot_len (pa_cons (pe_call GF (hr.mono (by decide)) (by rfl) FF.gF FF.FF.kp FF.bF .nil pass0 (pa_cons (pv 0) pa_nil)) pa_nil)) (pe_glob (v := .int 60) (by rfl) g2 ⟨t2, rfl⟩) (nomark _))
      (pe_and (pe_cmpR op_le (pe_call GM (hr.mono (by decide)) (by rfl) M.gM M.FM.kp M.bM .nil pass0 (pa_cons (pv 0) (pa_cons pe_str pa_nil))) (pe_glob (v := .int 6) (by rfl) g3 ⟨t3, rfl⟩) (nomark _))
      (pe_one (pe_cmpR op_le (pe_call GM (hr.mono (by decide)) (by rfl) M.gM M.FM.kp M.bM .nil pass0 (pa_cons (pv 0) (pa_cons pe_str pa_nil))) (pe_glob (v := .int 6) (by rfl) g3 ⟨t3, rfl⟩) (nomark _))))))), ?_⟩
    have cd : codeD 3 (.tuple ds) = true := by
      rw [codeD_tup]
      exact ok.rows
    refine ⟨_, rfl, _, v, .tuple ds, true, rfl, .inl rfl, hd, by first | exact ok.sml | (unfold smlD; exact ok.sml), fun H1 s1 => ⟨_, rfl, ?_⟩⟩
    rw [cd]
    have hd1 := hd.mv (fun _ z => z) (fun b o _ z => s1 b o z)
    have lf := ok.few
    refine iteT ⟨_, rfl, _, v, ds, rfl, hd1, ok.rows, Nat.le_trans lf (by decide), fun H2 p2 xs2 s2 hp2 e2 d2 => ⟨p2, _, rfl, .inl (SqL.of e2), _, _, rfl, rfl, _, rfl, ?_⟩⟩
    rw [d2.length, decide_eq_true (show ((flatN 3 ds).length : Int) ≤ 60 by omega)]
    have hd2 := hd1.mv (fun _ z => z) (fun b o _ z => s2 b o z)
    refine iteT ⟨_, rfl, _, v, ds, "if", rfl, hd2, ok.rows, fun H3 s3 => ⟨_, _, rfl, rfl, _, rfl, ?_⟩⟩
    have li := ok.iff
    have ls := ok.st
    rw [decide_eq_true (show ((mostN 3 "if" ds : Nat) : Int) ≤ 6 by omega)]
    have hd3 := hd2.mv (fun _ z => z) (fun b o _ z => s3 b o z)
    refine iteT ⟨_, rfl, _, v, ds, "set", rfl, hd3, ok.rows, fun H4 s4 => ⟨_, _, rfl, rfl, ?_⟩⟩
    show Q (.bl (decide (((mostN 3 "set" ds : Nat) : Int) ≤ 6))) H4
    rw [decide_eq_true (show ((mostN 3 "set" ds : Nat) : Int) ≤ 6 by omega)]
    exact q _ (((s1.trans s2).trans s3).trans s4)
end
end OM

namespace OM
open PySem PySem.Spec PyProof.Rows L2
/-! ### quiet code is code of a thread -/
theorem nm3 : ∀ r ∈ regs3, Nm r := by decide +kernel
theorem nm_sml {x : Str} (h : Nm x) : smlD (.str x) = true := by
  have h1 := nm_len h
  have h : nameS x = true := h
  unfold nameS at h
  simp only [Bool.and_eq_true, decide_eq_true_eq] at h
  obtain ⟨_, h2, h3, _⟩ := h
  unfold smlD
  rw [Bool.and_eq_true]
  refine ⟨decide_eq_true (by omega), ?_⟩
  unfold PyData.strOk
  rw [Array.all_eq_true']
  intro c hc
  unfold letS at h3
  have := List.all_eq_true.mp h3 c (Array.mem_toList_iff.mpr hc)
  simp only [Bool.and_eq_true, decide_eq_true_eq] at this
  simp
  omega
theorem sml_strs : ∀ {as : List Str}, (∀ a ∈ as, Nm a) → smlAll (as.map PyData.str) = true
  | [], _ => rfl
  | a :: r, h => by
    show (smlD (.str a) && smlAll (r.map PyData.str)) = true
    rw [nm_sml (h a (by simp)), sml_strs fun x hx => h x (List.mem_cons_of_mem _ hx)]
    rfl
theorem names_strs : ∀ {as : List Str}, (∀ a ∈ as, Nm a) → (as.map PyData.str).all isNameD = true
  | [], _ => rfl
  | a :: r, h => by
    rw [List.map_cons, List.all_cons, names_strs fun x hx => h x (List.mem_cons_of_mem _ hx), Bool.and_true]
    exact h a (by simp)
mutual
theorem QS.rowOk : ∀ (x : QS) (n : Nat), x.ok → x.dp n → rowD (cdOf n) x.d = true
  | .set r f as, n, ok, _ => by
    show rowD (cdOf n) (.tuple [.str "set", .str r, .str f, .tuple (as.map PyData.str)]) = true
    have e1 : isNameD (.str r) = true := nm3 r ok.1
    have e2 : isNameD (.str f) = true := ok.2.1
    have e3 : argsD (.tuple (as.map PyData.str)) = true := by
      show (decide ((as.map PyData.str).length ≤ 2) && (as.map PyData.str).all isNameD) = true
      rw [names_strs fun a ha => nm3 a (ok.2.2.2 a ha), List.length_map, decide_eq_true ok.2.2.1]
      rfl
    rw [row_set, e1, e2, e3]
    rfl
  | .copy r q, n, ok, _ => by
    show rowD (cdOf n) (.tuple [.str "copy", .str r, .str q]) = true
    have e1 : isNameD (.str r) = true := nm3 r ok.1
    have e2 : isNameD (.str q) = true := nm3 q ok.2
    rw [row_plain (by decide +kernel) (by decide +kernel), List.all_cons, List.all_cons, e1, e2]
    rfl
  | .shw r, n, ok, _ => by
    show rowD (cdOf n) (.tuple [.str "show", .str r]) = true
    have e1 : isNameD (.str r) = true := nm3 r ok
    rw [row_plain (by decide +kernel) (by decide +kernel), List.all_cons, e1]
    rfl
  | .iff p r ys ns, 0, ok, d => d.elim
  | .iff p r ys ns, n + 1, ok, d => by
    show rowD (cdOf (n + 1)) (.tuple [.str "if", .str p, .str r, .tuple ys.ds, .tuple ns.ds]) = true
    have e1 : isNameD (.str p) = true := ok.1
    have e2 : isNameD (.str r) = true := nm3 r ok.2.1
    have e3 : cdOf (n + 1) (.tuple ys.ds) = true := by
      show codeD n _ = true
      rw [codeD_tup]
      exact QL.rowsOk ys n ok.2.2.1 d.1
    have e4 : cdOf (n + 1) (.tuple ns.ds) = true := by
      show codeD n _ = true
      rw [codeD_tup]
      exact QL.rowsOk ns n ok.2.2.2 d.2
    rw [row_if, e1, e2, e3, e4]
    rfl
theorem QL.rowsOk : ∀ (c : QL) (n : Nat), c.ok → c.dp n → c.ds.all (rowD (cdOf n)) = true
  | .nil, _, _, _ => rfl
  | .cons x t, n, ok, d => by
    show (x.d :: t.ds).all _ = true
    rw [List.all_cons, QS.rowOk x n ok.1 d.1, QL.rowsOk t n ok.2 d.2]
    rfl
end
mutual
theorem QS.sml : ∀ (x : QS), x.ok → smlD x.d = true
  | .set r f as, ok => by
    show (smlD (.str "set") && (smlD (.str r) && (smlD (.str f) && (smlAll (as.map PyData.str) && true)))) = true
    rw [nm_sml (nm3 r ok.1), nm_sml ok.2.1, sml_strs fun a ha => nm3 a (ok.2.2.2 a ha)]
    decide +kernel
  | .copy r q, ok => by
    show (smlD (.str "copy") && (smlD (.str r) && (smlD (.str q) && true))) = true
    rw [nm_sml (nm3 r ok.1), nm_sml (nm3 q ok.2)]
    decide +kernel
  | .shw r, ok => by
    show (smlD (.str "show") && (smlD (.str r) && true)) = true
    rw [nm_sml (nm3 r ok)]
    decide +kernel
  | .iff p r ys ns, ok => by
    show (smlD (.str "if") && (smlD (.str p) && (smlD (.str r) && (smlAll ys.ds && (smlAll ns.ds && true))))) = true
    rw [nm_sml ok.1, nm_sml (nm3 r ok.2.1), QL.sml ys ok.2.2.1, QL.sml ns ok.2.2.2]
    decide +kernel
theorem QL.sml : ∀ (c : QL), c.ok → smlAll c.ds = true
  | .nil, _ => rfl
  | .cons x t, ok => by
    show (smlD x.d && smlAll t.ds) = true
    rw [QS.sml x ok.1, QL.sml t ok.2]
    rfl
end
mutual
theorem QS.flat : ∀ (x : QS) (n : Nat), (flatS n x.d).length ≤ x.tr.length ∧ ((flatS n x.d).flatMap (namesD "cell")) = []
  | .set r f as, 0 => ⟨Nat.le_refl _, rfl⟩
  | .set r f as, n + 1 => ⟨Nat.le_refl _, rfl⟩
  | .copy r q, 0 => ⟨Nat.le_refl _, rfl⟩
  | .copy r q, n + 1 => ⟨Nat.le_refl _, rfl⟩
  | .shw r, 0 => ⟨Nat.le_refl _, rfl⟩
  | .shw r, n + 1 => ⟨Nat.le_refl _, rfl⟩
  | .iff p r ys ns, 0 => ⟨by show 1 ≤ (_ :: _ : List QRow).length; simp, rfl⟩
  | .iff p r ys ns, n + 1 => by
    obtain ⟨a1, a2⟩ := QL.flat ys n
    obtain ⟨b1, b2⟩ := QL.flat ns n
    have e : flatS (n + 1) (QS.iff p r ys ns).d = (QS.iff p r ys ns).d :: (flatN n ys.ds ++ (flatN n ns.ds ++ [])) := rfl
    rw [e, List.append_nil]
    constructor
    · show (_ :: (flatN n ys.ds ++ flatN n ns.ds)).length ≤ (QRow.iff p r (ys.tr.length + 1) :: (ys.tr ++ QRow.skip ns.tr.length :: ns.tr)).length
      rw [List.length_cons, List.length_append, List.length_cons, List.length_append, List.length_cons]
      omega
    · rw [List.flatMap_cons, List.flatMap_append, a2, b2]
      rfl
theorem QL.flat : ∀ (c : QL) (n : Nat), (flatN n c.ds).length ≤ c.tr.length ∧ ((flatN n c.ds).flatMap (namesD "cell")) = []
  | .nil, n => ⟨Nat.le_refl _, rfl⟩
  | .cons x t, n => by
    obtain ⟨a1, a2⟩ := QS.flat x n
    obtain ⟨b1, b2⟩ := QL.flat t n
    have e : flatN n (QL.cons x t).ds = flatS n x.d ++ flatN n t.ds := List.flatMap_cons
    rw [e]
    constructor
    · show _ ≤ (x.tr ++ t.tr).length
      rw [List.length_append, List.length_append]
      omega
    · rw [List.flatMap_append, a2, b2]
      rfl
end
/-- what a statement counts as -/
def QS.kd : QS → Str
  | .set _ _ as => if as = [] then "constant" else "set"
  | .copy _ _ => "copy"
  | .shw _ => "show"
  | .iff .. => "if"
theorem kind_at {w : Str} {rest : List PyData} (h1 : w ≠ "get") (h2 : w ≠ "put") (h3 : w ≠ "set") : kindD (.tuple (.str w :: rest)) = w := by
  show (if w = "get" ∨ w = "put" then ("letter" : Str) else if w = "set" then _ else w) = w
  rw [if_neg (fun z => z.elim h1 h2), if_neg h3]
theorem QS.kind : ∀ x : QS, kindD x.d = x.kd
  | .set r f as => by
    show (if ("set" : Str) = "get" ∨ ("set" : Str) = "put" then ("letter" : Str) else if ("set" : Str) = "set" then (match [PyData.str r, .str f, .tuple (as.map PyData.str)] with | [_, _, .tuple []] => "constant" | _ => "set") else "set") = _
    rw [if_neg (by decide +kernel), if_pos rfl]
    cases as <;> rfl
  | .copy r q => kind_at (by decide +kernel) (by decide +kernel) (by decide +kernel)
  | .shw r => kind_at (by decide +kernel) (by decide +kernel) (by decide +kernel)
  | .iff p r ys ns => kind_at (by decide +kernel) (by decide +kernel) (by decide +kernel)
theorem max_two (a b : Nat) : maxL [a, b] ≤ a + b := by
  show max a (max b 0) ≤ a + b
  omega
mutual
theorem QS.mostI : ∀ (x : QS) (n : Nat), mostS n "if" x.d ≤ x.t
  | .set r f as, n => by
    have e : ownD "if" (QS.set r f as).d = 0 := by
      unfold ownD
      rw [QS.kind, if_neg]
      show ¬ (if as = [] then ("constant" : Str) else "set") = "if"
      split <;> decide +kernel
    cases n with
    | zero => exact Nat.le_of_eq e
    | succ n => exact Nat.le_of_eq (show ownD "if" (QS.set r f as).d + 0 = 0 by rw [e])
  | .copy r q, n => by
    have e : ownD "if" (QS.copy r q).d = 0 := by
      unfold ownD
      rw [QS.kind, if_neg]
      show ¬ ("copy" : Str) = "if"
      decide +kernel
    cases n with
    | zero => exact Nat.le_of_eq e
    | succ n => exact Nat.le_of_eq (show ownD "if" (QS.copy r q).d + 0 = 0 by rw [e])
  | .shw r, n => by
    have e : ownD "if" (QS.shw r).d = 0 := by
      unfold ownD
      rw [QS.kind, if_neg]
      show ¬ ("show" : Str) = "if"
      decide +kernel
    cases n with
    | zero => exact Nat.le_of_eq e
    | succ n => exact Nat.le_of_eq (show ownD "if" (QS.shw r).d + 0 = 0 by rw [e])
  | .iff p r ys ns, n => by
    have e : ownD "if" (QS.iff p r ys ns).d ≤ 1 := by
      unfold ownD
      split <;> omega
    have et : (QS.iff p r ys ns).t = ys.t + ns.t + 1 := rfl
    cases n with
    | zero => exact Nat.le_trans e (by omega)
    | succ n =>
      have a := QL.mostI ys n
      have b := QL.mostI ns n
      have z : mostS (n + 1) "if" (QS.iff p r ys ns).d = ownD "if" (QS.iff p r ys ns).d + maxL [mostN n "if" ys.ds, mostN n "if" ns.ds] := rfl
      have m := max_two (mostN n "if" ys.ds) (mostN n "if" ns.ds)
      omega
theorem QL.mostI : ∀ (c : QL) (n : Nat), mostN n "if" c.ds ≤ c.t
  | .nil, _ => Nat.le_refl _
  | .cons x t, n => by
    have a := QS.mostI x n
    have b := QL.mostI t n
    have z : mostN n "if" (QL.cons x t).ds = mostS n "if" x.d + mostN n "if" t.ds := List.sum_cons
    have e : (QL.cons x t).t = x.t + t.t := rfl
    omega
end
mutual
theorem QS.mostC : ∀ (x : QS) (n : Nat), mostS n "set" x.d ≤ x.s
  | .set r f as, n => by
    have e : ownD "set" (QS.set r f as).d = (QS.set r f as).s := by
      unfold ownD
      rw [QS.kind]
      show (if (if as = [] then ("constant" : Str) else "set") = "set" then 1 else 0) = if as = [] then 0 else 1
      by_cases h : as = []
      · rw [if_pos h, if_pos h, if_neg (by decide +kernel)]
      · rw [if_neg h, if_neg h, if_pos rfl]
    cases n with
    | zero => exact Nat.le_of_eq e
    | succ n => exact Nat.le_of_eq (show ownD "set" (QS.set r f as).d + 0 = _ by rw [e, Nat.add_zero])
  | .copy r q, n => by
    have e : ownD "set" (QS.copy r q).d = 0 := by
      unfold ownD
      rw [QS.kind, if_neg]
      show ¬ ("copy" : Str) = "set"
      decide +kernel
    cases n with
    | zero => exact Nat.le_of_eq e
    | succ n => exact Nat.le_of_eq (show ownD "set" (QS.copy r q).d + 0 = 0 by rw [e])
  | .shw r, n => by
    have e : ownD "set" (QS.shw r).d = 0 := by
      unfold ownD
      rw [QS.kind, if_neg]
      show ¬ ("show" : Str) = "set"
      decide +kernel
    cases n with
    | zero => exact Nat.le_of_eq e
    | succ n => exact Nat.le_of_eq (show ownD "set" (QS.shw r).d + 0 = 0 by rw [e])
  | .iff p r ys ns, n => by
    have e : ownD "set" (QS.iff p r ys ns).d = 0 := by
      unfold ownD
      rw [QS.kind, if_neg]
      show ¬ ("if" : Str) = "set"
      decide +kernel
    have et : (QS.iff p r ys ns).s = ys.s + ns.s := rfl
    cases n with
    | zero => exact Nat.le_trans (Nat.le_of_eq e) (Nat.zero_le _)
    | succ n =>
      have a := QL.mostC ys n
      have b := QL.mostC ns n
      have z : mostS (n + 1) "set" (QS.iff p r ys ns).d = ownD "set" (QS.iff p r ys ns).d + maxL [mostN n "set" ys.ds, mostN n "set" ns.ds] := rfl
      have m := max_two (mostN n "set" ys.ds) (mostN n "set" ns.ds)
      omega
theorem QL.mostC : ∀ (c : QL) (n : Nat), mostN n "set" c.ds ≤ c.s
  | .nil, _ => Nat.le_refl _
  | .cons x t, n => by
    have a := QS.mostC x n
    have b := QL.mostC t n
    have z : mostN n "set" (QL.cons x t).ds = mostS n "set" x.d + mostN n "set" t.ds := List.sum_cons
    have e : (QL.cons x t).s = x.s + t.s := rfl
    omega
end
/-- a thread as the program takes it -/
structure QOk (c : QL) : Prop where
  ok : c.ok
  dp : c.dp 3
  few : c.tr.length ≤ 50
  t : c.t ≤ 6
  s : c.s ≤ 6
theorem QOk.thr {c : QL} (h : QOk c) : ThrOk c.ds :=
  ⟨QL.rowsOk c 3 h.ok h.dp, QL.sml c h.ok, Nat.le_trans (QL.flat c 3).1 (Nat.le_trans h.few (by decide)), Nat.le_trans (QL.mostI c 3) h.t, Nat.le_trans (QL.mostC c 3) h.s⟩
mutual
theorem QS.dp_up : ∀ (x : QS) {n m : Nat}, n ≤ m → x.dp n → x.dp m
  | .set r f as, n, m, _, _ => by cases m <;> exact True.intro
  | .copy r q, n, m, _, _ => by cases m <;> exact True.intro
  | .shw r, n, m, _, _ => by cases m <;> exact True.intro
  | .iff p r ys ns, 0, m, _, h => h.elim
  | .iff p r ys ns, n + 1, 0, l, h => by omega
  | .iff p r ys ns, n + 1, m + 1, l, h => ⟨QL.dp_up ys (by omega) h.1, QL.dp_up ns (by omega) h.2⟩
theorem QL.dp_up : ∀ (c : QL) {n m : Nat}, n ≤ m → c.dp n → c.dp m
  | .nil, _, _, _, _ => True.intro
  | .cons x t, n, m, l, h => ⟨QS.dp_up x l h.1, QL.dp_up t l h.2⟩
end
end OM

namespace OM
open PySem PySem.Spec PyProof.Rows L2
abbrev sTrack : Stmt := top 61
/-! ### the rows of a track -/
def RowAt (H : Hp) (v : V) : QRow → Prop
  | .set r f as => ∃ p q, v = .ref p ∧ H p = some (.tup [.str "set", .str r, .str f, .ref q]) ∧ H q = some (.tup (as.map V.str))
  | .copy r q => ∃ p, v = .ref p ∧ H p = some (.tup [.str "copy", .str r, .str q])
  | .shw r => ∃ p, v = .ref p ∧ H p = some (.tup [.str "show", .str r])
  | .iff p r n => ∃ a, v = .ref a ∧ H a = some (.tup [.str "if", .str p, .str r, .int (n : Nat)])
  | .skip n => ∃ a, v = .ref a ∧ H a = some (.tup [.str "skip", .int (n : Nat)])
  | .over => ∃ a, v = .ref a ∧ H a = some (.tup [.str "over"])
theorem RowAt.mv {H H' : Hp} (t : TupS H H') {v : V} : ∀ {r : QRow}, RowAt H v r → RowAt H' v r
  | .set _ _ _, ⟨p, q, e, h, k⟩ => ⟨p, q, e, t _ _ h, t _ _ k⟩
  | .copy _ _, ⟨p, e, h⟩ => ⟨p, e, t _ _ h⟩
  | .shw _, ⟨p, e, h⟩ => ⟨p, e, t _ _ h⟩
  | .iff _ _ _, ⟨p, e, h⟩ => ⟨p, e, t _ _ h⟩
  | .skip _, ⟨p, e, h⟩ => ⟨p, e, t _ _ h⟩
  | .over, ⟨p, e, h⟩ => ⟨p, e, t _ _ h⟩
theorem rows_mv {H H' : Hp} (t : TupS H H') {xs : List V} {T : List QRow} (h : Paired (RowAt H) xs T) : Paired (RowAt H') xs T := L2.Paired.mapP h fun _ _ z => z.mv t
def spTrack : Nat → Sp
  | 0 => fun _ _ _ _ => False
  | n + 1 => fun vs H Q _ => ∃ (v : V) (c : QL), vs = [v] ∧ Tp H v (.tuple c.ds) ∧ c.dp n ∧ c.tr.length ≤ 200 ∧ ∀ H' p xs, Same H H' → H p = none → H' p = some (.lst xs) → Paired (RowAt H') xs c.tr → Q (.ref p) H'
section
variable {P : Program} {w : World} {K : PySem.W.Frag} {mg : Str → Option Value} {base : Heap} {f : Addr} {fd : FuncData}
abbrev nTrk : List Str := ["code", "rows", "statement", "yes", "no"]
theorem scTrk : FnScope nTrk ["code"] (defScope sTrack) := ⟨rfl, rfl, rfl, by decide +kernel, rfl, by decide +kernel, by decide +kernel⟩
theorem track_step {n : Nat} (F : Fun K "_track" "_track" sTrack f fd) (ln : mg "len" = none) (gC : mg "_track" = some (.ref f)) (bC : Binds K fd ["code"] [])
    (GC : FnOk P w K mg base CX0 (n + 1) f fd ["code"] (spTrack n)) : FnOk P w K mg base CX0 (n + 2) f fd ["code"] (spTrack (n + 1)) := by
  refine F.ok scTrk (fun vs H Q E h => ?_) (fun cdv A outer s H vs Q E hr h => ?_)
  · obtain ⟨v, c, rfl, _⟩ := h
    rfl
  · obtain ⟨v, c, rfl, hv, dp, sl, q⟩ := h
    refine ⟨_, pss_cons (ps_set (i := 1) scTrk.nd rfl (Or.inl rfl) (pe_lst pa_nil))
      (pss_cons (ps_for PassesOwn.never rfl (pi_tup (pv 0)) (pg_name (i := 2) scTrk.nd rfl (Or.inl rfl))
        (pss_one (ps_if (pt_cmpR op_eq (pe_ix (r := rIxT K) ix_tup (pv 2) pe_int (fun _ _ => rfl)) pe_str (nomark _))
          (pss_cons (ps_set (i := 3) scTrk.nd rfl (Or.inl rfl) (pe_call GC hr (by rfl) gC F.kp bC .nil pass0 (pa_cons (pe_ix (r := rIxT K) ix_tup (pv 2) pe_int (fun _ _ => rfl)) pa_nil)))
          (pss_cons (ps_set (i := 4) scTrk.nd rfl (Or.inl rfl) (pe_call GC hr (by rfl) gC F.kp bC .nil pass0 (pa_cons (pe_ix (r := rIxT K) ix_tup (pv 2) pe_int (fun _ _ => rfl)) pa_nil)))
          (pss_cons (ps_expr (pe_bm PySem.F.plainAttrs_list PySem.F.slot_list_append PySem.F.type_list_append mt_append (pv 1) (pa_cons (pe_tup (pa_cons pe_str (pa_cons (pe_ix (r := rIxT K) ix_tup (pv 2) pe_int (fun _ _ => rfl)) (pa_cons (pe_ix (r := rIxT K) ix_tup (pv 2) pe_int (fun _ _ => rfl))
              (pa_cons (pe_op op_add (pe_callB call_len_seq (by rfl) ln PySem.boot_len (pa_cons (pv 3) pa_nil)) pe_int) pa_nil))))) pa_nil)))
          (pss_cons (ps_expr (pe_bm PySem.F.plainAttrs_list PySem.F.slot_list_extend PySem.F.type_list_extend mt_extend (pv 1) (pa_cons (pv 3) pa_nil)))
          (pss_cons (ps_expr (pe_bm PySem.F.plainAttrs_list PySem.F.slot_list_append PySem.F.type_list_append mt_append (pv 1) (pa_cons (pe_tup (pa_cons pe_str (pa_cons (pe_callB call_len_seq (by rfl) ln PySem.boot_len (pa_cons (pv 4) pa_nil)) pa_nil))) pa_nil)))
          (pss_one (ps_expr (pe_bm PySem.F.plainAttrs_list PySem.F.slot_list_extend PySem.F.type_list_extend mt_extend (pv 1) (pa_cons (pv 4) pa_nil)))))))))
          (pss_one (ps_expr (pe_bm PySem.F.plainAttrs_list PySem.F.slot_list_append PySem.F.type_list_append mt_append (pv 1) (pa_cons (pv 2) pa_nil)))))))
      (pss_one (ps_ret (pv 1)))), ?_⟩
    obtain ⟨cp, xs, rfl, ecp, lx, hx⟩ := hv.tupI
    have line : (1000 : Nat) < sizeLine := by decide
    have ne : ∀ {x y : Str}, x ≠ y → decide (V.str x = V.str y) = false := fun h => decide_eq_false fun z => h (V.str.inj z)
    refine ⟨(by show 0 ≤ sizeLine; decide), fun p hp => ?_⟩
    have sp := same_upd (o := .lst []) hp
    refine ⟨_, rfl, cp, rfl, ⟨_, SqT.of (sp _ _ ecp)⟩, for_tup (xs := xs) (fun i σ G => (∃ x2 x3 x4, σ = [some (.ref cp), some (.ref p), x2, x3, x4]) ∧ Same H G ∧ ∃ (r : QL) (ys : List V) (T : List QRow), TpAll H (xs.drop i) r.ds ∧ r.dp n ∧ G p = some (.lst ys) ∧ Paired (RowAt G) ys T ∧ T ++ r.tr = c.tr)
      ⟨⟨_, _, _, rfl⟩, sp, c, [], [], hx, dp, upd_same, .nil, rfl⟩ (fun i σ G _ h => SqT.of (h.2.1 _ _ ecp)) (fun i y σ G hi h => ?_) (fun σ G h => ?_)⟩
    · obtain ⟨⟨x2, x3, x4, rfl⟩, sG, r, zs, T, hr1, dp1, ep, hT, q1⟩ := h
      have ed : xs.drop i = y :: xs.drop (i + 1) := by
        obtain ⟨h1, h3⟩ := List.getElem?_eq_some_iff.mp hi
        rw [← h3]
        exact List.drop_eq_getElem_cons h1
      rw [ed] at hr1
      match r, hr1 with
      | .cons x t, .cons hy htl =>
        have hyG : Tp G y x.d := hy.mv (TupS.same sG)
        have q1 : T ++ (x.tr ++ t.tr) = c.tr := q1
        have lT := hT.length
        have lc : T.length + (x.tr.length + t.tr.length) ≤ 200 := by
          rw [← List.length_append, ← List.length_append, q1]
          exact sl
        have fin : ∀ {G3 : Hp} {a3 a4 : Option V} {vs : List V}, (∀ b o, b ≠ p → G b = some o → G3 b = some o) → G3 p = some (.lst (zs ++ vs)) → Paired (RowAt G3) vs x.tr →
            (∃ x2 x3 x4, [some (V.ref cp), some (.ref p), some y, a3, a4] = [some (.ref cp), some (.ref p), x2, x3, x4]) ∧ Same H G3 ∧ ∃ (r : QL) (ys : List V) (T : List QRow), TpAll H (xs.drop (i + 1)) r.ds ∧ r.dp n ∧ G3 p = some (.lst ys) ∧ Paired (RowAt G3) ys T ∧ T ++ r.tr = c.tr := by
          intro G3 a3 a4 vs k2 e2 hv2
          have ts : TupS G G3 := fun b ys e => k2 b _ (fun z => by rw [z, ep] at e; cases e) e
          exact ⟨⟨_, _, _, rfl⟩, fun b o e => k2 b o (ne_of_none e hp) (sG b o e), t, zs ++ vs, T ++ x.tr, htl, dp1.2, e2, Paired.app (rows_mv ts hT) hv2, by rw [List.append_assoc]; exact q1⟩
        have one : ∀ {v : V}, ∀ b o, b ≠ p → G b = some o → upd G p (.lst (zs ++ [v])) b = some o := fun {v} b o n e => by rw [upd_ne n]; exact e
        have oneT : ∀ {v : V}, TupS G (upd G p (.lst (zs ++ [v]))) := fun {v} => TupS.put ep fun _ z => nomatch z
        match x, hyG with
        | .iff pp r1 ys ns, hyG =>
          obtain ⟨yp, yv, nv, rfl, eyp, hy5, hn5⟩ := Tp.ifI hyG
          have d1 : (QS.iff pp r1 ys ns).dp n := dp1.1
          obtain ⟨n', rfl⟩ : ∃ n', n = n' + 1 := by
            cases n with
            | zero => exact d1.elim
            | succ m => exact ⟨m, rfl⟩
          have d1 : ys.dp n' ∧ ns.dp n' := d1
          have tl : (QS.iff pp r1 ys ns).tr.length = 1 + (ys.tr.length + (1 + ns.tr.length)) := by
            show (QRow.iff pp r1 (ys.tr.length + 1) :: (ys.tr ++ QRow.skip ns.tr.length :: ns.tr)).length = _
            rw [List.length_cons, List.length_append, List.length_cons]
            omega
          refine ⟨_, rfl, yp, _, 0, _, rfl, rfl, SqT.of eyp, at0, rfl, _, rfl, ?_⟩
          rw [decide_eq_true rfl]
          refine iteT ⟨_, rfl, yp, _, 3, yv, rfl, rfl, SqT.of eyp, rfl, yv, ys, rfl, hy5, d1.1, by omega, fun H1 p1 xs1 s1 hp1 e1 h1 => ?_⟩
          refine ⟨_, rfl, yp, _, 4, nv, rfl, rfl, SqT.of (s1 _ _ eyp), rfl, nv, ns, rfl, hn5.mv (TupS.same s1), d1.2, by omega, fun H2 p2 xs2 s2 hp2 e2 h2 => ?_⟩
          have s12 := s1.trans s2
          have l1 := h1.length
          have l2 := h2.length
          have ep2 := s12 _ _ ep
          refine ⟨_, rfl, .inl ⟨rfl, _, SqL.of ep2⟩, _, rfl, yp, _, 1, _, rfl, rfl, SqT.of (s12 _ _ eyp), rfl, _, rfl, yp, _, 2, _, rfl, rfl, SqT.of (s12 _ _ eyp), rfl, _, rfl, p1, _, rfl, .inl (SqL.of (s2 _ _ e1)), _, _, rfl, rfl, (by show 4 ≤ sizeLine; decide), fun a ha => ?_⟩
          have n1 : p1 ≠ p := fun z => by rw [z, ep] at hp1; cases hp1
          have n2 : p2 ≠ p := fun z => by rw [z, s1 _ _ ep] at hp2; cases hp2
          have sa := same_upd (o := .tup [.str "if", .str pp, .str r1, .int (((xs1.length : Nat) : Int) + 1)]) ha
          have na : a ≠ p := fun z => by rw [z, ep2] at ha; cases ha
          refine ⟨p, _, _, rfl, rfl, sa _ _ ep2, by omega, ?_⟩
          obtain ⟨G3, eG3⟩ : ∃ G3, G3 = upd (upd H2 a (.tup [.str "if", .str pp, .str r1, .int (((xs1.length : Nat) : Int) + 1)])) p (.lst (zs ++ [.ref a])) := ⟨_, rfl⟩
          have k3 : ∀ b o, b ≠ p → H2 b = some o → G3 b = some o := fun b o n e => by rw [eG3, upd_ne n]; exact sa _ _ e
          have e3 : G3 p = some (.lst (zs ++ [.ref a])) := by rw [eG3, upd_same]
          have ea3 : G3 a = some (.tup [.str "if", .str pp, .str r1, .int (((xs1.length : Nat) : Int) + 1)]) := by rw [eG3, upd_ne na, upd_same]
          rw [← eG3]
          refine ⟨_, rfl, .inl ⟨rfl, _, SqL.of e3⟩, _, rfl, p, p1, _, xs1, rfl, rfl, e3, k3 _ _ n1 (s2 _ _ e1), by rw [List.length_append]; show zs.length + 1 + _ ≤ _; omega, ?_⟩
          obtain ⟨G4, eG4⟩ : ∃ G4, G4 = upd G3 p (.lst (zs ++ [.ref a] ++ xs1)) := ⟨_, rfl⟩
          have k4 : ∀ b o, b ≠ p → G3 b = some o → G4 b = some o := fun b o n e => by rw [eG4, upd_ne n]; exact e
          have e4 : G4 p = some (.lst (zs ++ [.ref a] ++ xs1)) := by rw [eG4, upd_same]
          rw [← eG4]
          refine ⟨_, rfl, .inl ⟨rfl, _, SqL.of e4⟩, _, rfl, p2, _, rfl, .inl (SqL.of (k4 _ _ n2 (k3 _ _ n2 e2))), (by show 2 ≤ sizeLine; decide), fun b hb => ?_⟩
          have sb := same_upd (o := .tup [.str "skip", .int ((xs2.length : Nat) : Int)]) hb
          have nb : b ≠ p := fun z => by rw [z, e4] at hb; cases hb
          refine ⟨p, _, _, rfl, rfl, sb _ _ e4, by simp only [List.length_append]; show zs.length + 1 + _ < _; omega, ?_⟩
          obtain ⟨G5, eG5⟩ : ∃ G5, G5 = upd (upd G4 b (.tup [.str "skip", .int ((xs2.length : Nat) : Int)])) p (.lst (zs ++ [.ref a] ++ xs1 ++ [.ref b])) := ⟨_, rfl⟩
          have k5 : ∀ b o, b ≠ p → G4 b = some o → G5 b = some o := fun b o n e => by rw [eG5, upd_ne n]; exact sb _ _ e
          have e5 : G5 p = some (.lst (zs ++ [.ref a] ++ xs1 ++ [.ref b])) := by rw [eG5, upd_same]
          have eb5 : G5 b = some (.tup [.str "skip", .int ((xs2.length : Nat) : Int)]) := by rw [eG5, upd_ne nb, upd_same]
          rw [← eG5]
          refine ⟨_, rfl, .inl ⟨rfl, _, SqL.of e5⟩, _, rfl, p, p2, _, xs2, rfl, rfl, e5, k5 _ _ n2 (k4 _ _ n2 (k3 _ _ n2 e2)), by simp only [List.length_append]; show zs.length + 1 + _ + 1 + _ ≤ _; omega, ?_⟩
          have k6 : ∀ c o, c ≠ p → H2 c = some o → upd G5 p (.lst (zs ++ [.ref a] ++ xs1 ++ [.ref b] ++ xs2)) c = some o := fun c o n e => by rw [upd_ne n]; exact k5 _ _ n (k4 _ _ n (k3 _ _ n e))
          have t6 : TupS H2 (upd G5 p (.lst (zs ++ [.ref a] ++ xs1 ++ [.ref b] ++ xs2))) := fun c ys e => k6 c _ (fun z => by rw [z, ep2] at e; cases e) e
          have ev : zs ++ [.ref a] ++ xs1 ++ [.ref b] ++ xs2 = zs ++ (.ref a :: (xs1 ++ .ref b :: xs2)) := by simp [List.append_assoc]
          refine fin (vs := .ref a :: (xs1 ++ .ref b :: xs2)) (fun c o n e => k6 c o n (s12 _ _ e)) (by rw [upd_same, ev]) ?_
          refine .cons ⟨a, rfl, ?_⟩ (Paired.app (rows_mv (((TupS.same s2)).trans t6) h1) (.cons ⟨b, rfl, ?_⟩ (rows_mv t6 h2)))
          · rw [upd_ne na, k5 _ _ na (k4 _ _ na ea3), l1]
            rfl
          · rw [upd_ne nb, eb5, l2]
        | .shw r1, hyG =>
          obtain ⟨yp, rfl, eyp⟩ := Tp.row (w := "show") (ws := [r1]) hyG
          refine ⟨_, rfl, yp, _, 0, _, rfl, rfl, SqT.of eyp, at0, rfl, _, rfl, ?_⟩
          rw [ne (by decide +kernel)]
          refine iteF ⟨_, rfl, .inl ⟨rfl, _, SqL.of ep⟩, _, rfl, p, _, _, rfl, rfl, ep, by omega, ?_⟩
          exact fin one upd_same (.cons ⟨yp, rfl, oneT _ _ eyp⟩ .nil)
        | .copy r1 r2, hyG =>
          obtain ⟨yp, rfl, eyp⟩ := Tp.row (w := "copy") (ws := [r1, r2]) hyG
          refine ⟨_, rfl, yp, _, 0, _, rfl, rfl, SqT.of eyp, at0, rfl, _, rfl, ?_⟩
          rw [ne (by decide +kernel)]
          refine iteF ⟨_, rfl, .inl ⟨rfl, _, SqL.of ep⟩, _, rfl, p, _, _, rfl, rfl, ep, by omega, ?_⟩
          exact fin one upd_same (.cons ⟨yp, rfl, oneT _ _ eyp⟩ .nil)
        | .set r1 fn as, hyG =>
          obtain ⟨yp, yq, rfl, eyp, eyq⟩ := Tp.setI hyG
          refine ⟨_, rfl, yp, _, 0, _, rfl, rfl, SqT.of eyp, at0, rfl, _, rfl, ?_⟩
          rw [ne (by decide +kernel)]
          refine iteF ⟨_, rfl, .inl ⟨rfl, _, SqL.of ep⟩, _, rfl, p, _, _, rfl, rfl, ep, by omega, ?_⟩
          exact fin one upd_same (.cons ⟨yp, yq, rfl, oneT _ _ eyp, oneT _ _ eyq⟩ .nil)
    · obtain ⟨⟨x2, x3, x4, rfl⟩, sG, r, zs, T, hr1, dp1, ep, hT, q1⟩ := h
      rw [List.drop_length] at hr1
      match r, hr1 with
      | .nil, _ =>
        have q1 : T ++ [] = c.tr := q1
        rw [List.append_nil] at q1
        rw [q1] at hT
        exact ⟨_, rfl, q G p zs sG hp ep hT⟩
theorem ok_track (F : Fun K "_track" "_track" sTrack f fd) (ln : mg "len" = none) (gC : mg "_track" = some (.ref f)) (bC : Binds K fd ["code"] []) : ∀ n, FnOk P w K mg base CX0 (n + 1) f fd ["code"] (spTrack n)
  | 0 => ⟨fun _ _ _ _ h => h.elim, fun _ _ _ _ _ _ _ _ _ _ _ _ _ h => h.elim⟩
  | n + 1 => track_step F ln gC bC (ok_track F ln gC bC n)
end
end OM

/-! Values as lists of code points: words and signs in turn and nested, and the reading from the left. -/
namespace OM.VL
def letC (c : Nat) : Bool := decide (97 ≤ c) && decide (c ≤ 122)
def digC (c : Nat) : Bool := decide (48 ≤ c) && decide (c ≤ 57)
def getL : List Nat := [103, 101, 116]
def wordsL : List (List Nat) := [[101, 108, 115, 101], [101, 110, 100], getL, [105, 102], [112, 117, 116], [115, 104, 111, 119]]
def nameL (w : List Nat) : Bool := decide (1 ≤ w.length) && (decide (w.length ≤ 8) && (w.all letC && !wordsL.contains w))
def numOk (n : List Nat) : Bool := !n.isEmpty && (n.head? != some 48 && n.all digC)
def atomL (w : List Nat) : Bool := match w.dropWhile (· != 46) with
  | [] => nameL w
  | _ :: num => (nameL (w.takeWhile (· != 46)) || w.takeWhile (· != 46) == getL) && numOk num
/-- a word ahead of the rest, if there is one -/
def fl (acc : List Nat) (l : List (List Nat)) : List (List Nat) := if acc = [] then l else acc :: l
/-- where a word ends -/
def cut : List Nat → List Nat × List Nat
  | [] => ([], [])
  | 44 :: 32 :: r => ([], 44 :: 32 :: r)
  | c :: r => if c = 40 ∨ c = 41 then ([], c :: r) else (c :: (cut r).1, (cut r).2)
def toks (acc : List Nat) : List Nat → List (List Nat)
  | [] => fl acc []
  | 44 :: 32 :: r => fl acc ([44, 32] :: toks [] r)
  | c :: r => if c = 40 ∨ c = 41 then fl acc ([c] :: toks [] r) else toks (acc ++ [c]) r
inductive Kd | fn | op | cl | cm | at | wr
deriving DecidableEq
def kindOf (p after : List Nat) : Kd :=
  if p = [40] then .op else if p = [41] then .cl else if p = [44, 32] then .cm else
    if after = [40] then (if nameL p then .fn else .wr) else if atomL p then .at else .wr
def kinds : List (List Nat) → List Kd
  | [] => []
  | p :: r => kindOf p (r.headD []) :: kinds r
/-- what may stand behind what: none is the start, and the end -/
def fol : Option Kd → Option Kd → Bool
  | none, some .fn => true
  | none, some .at => true
  | some .fn, some .op => true
  | some .op, some .fn => true
  | some .op, some .at => true
  | some .op, some .cl => true
  | some .cm, some .fn => true
  | some .cm, some .at => true
  | some .at, some .cm => true
  | some .at, some .cl => true
  | some .at, none => true
  | some .cl, some .cm => true
  | some .cl, some .cl => true
  | some .cl, none => true
  | _, _ => false
def turn (prev : Option Kd) : List Kd → Bool
  | [] => fol prev none
  | k :: r => fol prev (some k) && turn (some k) r
def nest : List Nat → List Kd → Bool
  | st, [] => st.isEmpty
  | st, .op :: r => nest (0 :: st) r
  | [], .cl :: _ => false
  | _ :: st, .cl :: r => nest st r
  | [], .cm :: _ => false
  | c :: st, .cm :: r => if c = 1 then false else nest ((c + 1) :: st) r
  | st, .fn :: r => nest st r
  | st, .at :: r => nest st r
  | st, .wr :: r => nest st r
abbrev KS (l : List Nat) : List Kd := kinds (toks [] l)
def valueL (l : List Nat) : Bool := turn none (KS l) && nest [] (KS l)
/-- the reading from the left: what stands behind the value that begins here -/
def E : Nat → List Nat → Option (List Nat)
  | 0, _ => none
  | n + 1, l =>
    let w := l.takeWhile letC
    let r := l.dropWhile letC
    if w.isEmpty || decide (8 < w.length) then none
    else if wordsL.contains w && (w != getL || r.head? != some 46) then none
    else match r with
      | 46 :: r' => if (r'.takeWhile digC).isEmpty || r'.head? == some 48 then none else some (r'.dropWhile digC)
      | 40 :: 41 :: r' => some r'
      | 40 :: r' => match E n r' with
        | some (41 :: r2) => some r2
        | some (44 :: 32 :: r2) => match E n r2 with
          | some (41 :: r3) => some r3
          | _ => none
        | _ => none
      | r => some r
/-! words -/
theorem toks_cm {acc r : List Nat} : toks acc (44 :: 32 :: r) = fl acc ([44, 32] :: toks [] r) := by rw [toks]
theorem toks_d {acc r : List Nat} {c : Nat} (h : c = 40 ∨ c = 41) : toks acc (c :: r) = fl acc ([c] :: toks [] r) := by
  rw [toks.eq_def]
  split
  · rename_i e
    cases e
  · rename_i e
    cases e
    omega
  · rename_i e
    cases e
    exact if_pos h
theorem toks_o {acc r : List Nat} {c : Nat} (h : ¬ (c = 40 ∨ c = 41)) (h2 : ∀ r', c = 44 → r ≠ 32 :: r') : toks acc (c :: r) = toks (acc ++ [c]) r := by
  rw [toks.eq_def]
  split
  · rename_i e
    cases e
  · rename_i e
    cases e
    exact absurd rfl (h2 _ rfl)
  · rename_i e
    cases e
    exact if_neg h
theorem cut_cm {r : List Nat} : cut (44 :: 32 :: r) = ([], 44 :: 32 :: r) := by rw [cut]
theorem cut_d {r : List Nat} {c : Nat} (h : c = 40 ∨ c = 41) : cut (c :: r) = ([], c :: r) := by
  rw [cut.eq_def]
  split
  · rename_i e
    cases e
  · rename_i e
    cases e
    omega
  · rename_i e
    cases e
    exact if_pos h
theorem cut_o {r : List Nat} {c : Nat} (h : ¬ (c = 40 ∨ c = 41)) (h2 : ∀ r', c = 44 → r ≠ 32 :: r') : cut (c :: r) = (c :: (cut r).1, (cut r).2) := by
  rw [cut.eq_def]
  split
  · rename_i e
    cases e
  · rename_i e
    cases e
    exact absurd rfl (h2 _ rfl)
  · rename_i e
    cases e
    exact if_neg h
/-- three ways in which a text may go on -/
theorem way (c : Nat) (r : List Nat) : (c = 40 ∨ c = 41) ∨ (∃ r', c = 44 ∧ r = 32 :: r') ∨ (¬ (c = 40 ∨ c = 41) ∧ ∀ r', c = 44 → r ≠ 32 :: r') := by
  by_cases h : c = 40 ∨ c = 41
  · exact .inl h
  · by_cases h2 : ∃ r', c = 44 ∧ r = 32 :: r'
    · exact .inr (.inl h2)
    · exact .inr (.inr ⟨h, fun r' e1 e2 => h2 ⟨r', e1, e2⟩⟩)
theorem fl_cons {acc : List Nat} {x : List Nat} {l : List (List Nat)} : fl [] l = l := rfl
theorem toks_cut : ∀ (l acc : List Nat), toks acc l = fl (acc ++ (cut l).1) (toks [] (cut l).2)
  | [], acc => by
    show fl acc [] = fl (acc ++ []) (fl [] [])
    rw [List.append_nil]
    rfl
  | c :: r, acc => by
    rcases way c r with h | ⟨r', rfl, rfl⟩ | ⟨h, h2⟩
    · rw [toks_d h, cut_d h, toks_d h, List.append_nil]
      rfl
    · rw [toks_cm, cut_cm, toks_cm, List.append_nil]
      rfl
    · rw [toks_o h h2, cut_o h h2, toks_cut r (acc ++ [c]), List.append_assoc]
      rfl
/-- nothing, or a sign -/
def dl : List Nat → Bool
  | [] => true
  | 44 :: 32 :: _ => true
  | c :: _ => decide (c = 40 ∨ c = 41)
theorem dl_o {r : List Nat} {c : Nat} (h : ¬ (c = 40 ∨ c = 41)) (h2 : ∀ r', c = 44 → r ≠ 32 :: r') : dl (c :: r) = false := by
  rw [dl.eq_def]
  split
  · rename_i e
    cases e
  · rename_i e
    cases e
    exact absurd rfl (h2 _ rfl)
  · rename_i e
    cases e
    exact decide_eq_false h
theorem dl_d {r : List Nat} {c : Nat} (h : c = 40 ∨ c = 41) : dl (c :: r) = true := by
  rcases h with rfl | rfl <;> rfl
/-- no sign in the word, whatever stands behind: no tail of it, with what follows, begins with a sign -/
def Free (u d : List Nat) : Prop := ∀ a b : List Nat, u = a ++ b → b ≠ [] → dl (b ++ d) = false
theorem cut_spec : ∀ l : List Nat, l = (cut l).1 ++ (cut l).2 ∧ dl (cut l).2 = true ∧ Free (cut l).1 (cut l).2
  | [] => ⟨rfl, rfl, fun a b e n => absurd (List.append_eq_nil_iff.mp e.symm).2 n⟩
  | c :: r => by
    rcases way c r with h | ⟨r', rfl, rfl⟩ | ⟨h, h2⟩
    · rw [cut_d h]
      exact ⟨rfl, dl_d h, fun a b e n => absurd (List.append_eq_nil_iff.mp e.symm).2 n⟩
    · rw [cut_cm]
      exact ⟨rfl, rfl, fun a b e n => absurd (List.append_eq_nil_iff.mp e.symm).2 n⟩
    · rw [cut_o h h2]
      obtain ⟨e1, e2, e3⟩ := cut_spec r
      refine ⟨congrArg (c :: ·) e1, e2, fun a b e n => ?_⟩
      cases a with
      | nil =>
        rw [List.nil_append] at e
        subst e
        show dl (c :: ((cut r).1 ++ (cut r).2)) = false
        rw [← e1]
        exact dl_o h h2
      | cons x a =>
        injection e with _ e
        exact e3 a b e n
theorem Free.head {c : Nat} {u d : List Nat} (F : Free (c :: u) d) : c ≠ 40 ∧ c ≠ 41 ∧ dl (c :: (u ++ d)) = false := by
  have h := F [] (c :: u) rfl (by simp)
  refine ⟨fun z => ?_, fun z => ?_, h⟩
  · subst z
    cases h
  · subst z
    cases h
theorem Free.tail {a b d : List Nat} (F : Free (a ++ b) d) : Free b d := fun x y e n => F (a ++ x) y (by rw [e, List.append_assoc]) n
/-- what comes of a text: its first word, and the rest -/
theorem KS_cut (l : List Nat) : KS l = if (cut l).1 = [] then KS (cut l).2 else kindOf (cut l).1 ((toks [] (cut l).2).headD []) :: KS (cut l).2 := by
  show kinds (toks [] l) = _
  rw [toks_cut l []]
  show kinds (fl (cut l).1 _) = _
  unfold fl
  split
  · rfl
  · rfl
theorem KS_nil : KS [] = [] := rfl
theorem KS_op (r : List Nat) : KS (40 :: r) = .op :: KS r := by
  show kinds (toks [] (40 :: r)) = _
  rw [toks_d (.inl rfl)]
  rfl
theorem KS_cl (r : List Nat) : KS (41 :: r) = .cl :: KS r := by
  show kinds (toks [] (41 :: r)) = _
  rw [toks_d (.inr rfl)]
  rfl
theorem KS_cm (r : List Nat) : KS (44 :: 32 :: r) = .cm :: KS r := by
  show kinds (toks [] (44 :: 32 :: r)) = _
  rw [toks_cm]
  rfl
/-- what may follow a value -/
def F (r : List Nat) : Bool := dl r && (r.head? != some 40)
/-- the kind of a word -/
def wk (u d : List Nat) : Kd := if d.head? = some 40 then (if nameL u then .fn else .wr) else if atomL u then .at else .wr
theorem head_d {d : List Nat} (h : dl d = true) : ((toks [] d).headD [] = [40]) ↔ d.head? = some 40 := by
  cases d with
  | nil => decide
  | cons c r =>
    rcases way c r with h1 | ⟨r', rfl, rfl⟩ | ⟨h1, h2⟩
    · rw [toks_d h1]
      show [c] = [40] ↔ some c = some 40
      simp
    · rw [toks_cm]
      show [44, 32] = [40] ↔ some 44 = some 40
      decide
    · rw [dl_o h1 h2] at h
      cases h
theorem kind_u {u d : List Nat} (hu : u ≠ []) (hd : dl d = true) (Fr : Free u d) : kindOf u ((toks [] d).headD []) = wk u d := by
  cases u with
  | nil => exact absurd rfl hu
  | cons c r =>
    obtain ⟨h1, h2, h3⟩ := Fr.head
    have n1 : ¬ (c :: r = [40]) := fun z => h1 (by injection z)
    have n2 : ¬ (c :: r = [41]) := fun z => h2 (by injection z)
    have n3 : ¬ (c :: r = [44, 32]) := fun z => by
      injection z with z1 z2
      rw [z1, z2] at h3
      cases h3
    unfold kindOf wk
    rw [if_neg n1, if_neg n2, if_neg n3]
    by_cases h : d.head? = some 40
    · rw [if_pos h, if_pos ((head_d hd).mpr h)]
    · rw [if_neg h, if_neg (fun z => h ((head_d hd).mp z))]
end OM.VL

namespace OM.VL
/-! the reading from the left, by its parts -/
theorem take_app {p : Nat → Bool} : ∀ {w r : List Nat}, w.all p = true → (∀ c, r.head? = some c → p c = false) → (w ++ r).takeWhile p = w ∧ (w ++ r).dropWhile p = r
  | [], [], _, _ => ⟨rfl, rfl⟩
  | [], c :: r, _, h => by
    have e := h c rfl
    constructor
    · show (c :: r).takeWhile p = []
      rw [List.takeWhile_cons, e]
      rfl
    · show (c :: r).dropWhile p = c :: r
      rw [List.dropWhile_cons, e]
      rfl
  | a :: w, r, hw, h => by
    rw [List.all_cons, Bool.and_eq_true] at hw
    obtain ⟨h1, h2⟩ := take_app (w := w) hw.2 h
    constructor
    · rw [List.cons_append, List.takeWhile_cons, hw.1]
      show a :: (w ++ r).takeWhile p = _
      rw [h1]
    · rw [List.cons_append, List.dropWhile_cons, hw.1]
      exact h2
theorem split_at {p : Nat → Bool} : ∀ u : List Nat, ∃ w r, u = w ++ r ∧ w.all p = true ∧ (∀ c, r.head? = some c → p c = false)
  | [] => ⟨[], [], rfl, rfl, fun c h => by cases h⟩
  | a :: u => by
    cases h : p a with
    | false => exact ⟨[], a :: u, rfl, rfl, fun c e => by cases e; exact h⟩
    | true =>
      obtain ⟨w, r, e, hw, hr⟩ := split_at (p := p) u
      exact ⟨a :: w, r, by rw [e]; rfl, by rw [List.all_cons, h, hw]; rfl, hr⟩
def badW (w r : List Nat) : Bool := (w.isEmpty || decide (8 < w.length)) || (wordsL.contains w && (w != getL || r.head? != some 46))
def ET (n : Nat) : List Nat → Option (List Nat)
  | 46 :: r' => if (r'.takeWhile digC).isEmpty || r'.head? == some 48 then none else some (r'.dropWhile digC)
  | 40 :: 41 :: r' => some r'
  | 40 :: r' => match E n r' with
    | some (41 :: r2) => some r2
    | some (44 :: 32 :: r2) => match E n r2 with
      | some (41 :: r3) => some r3
      | _ => none
    | _ => none
  | r => some r
theorem E_step {n : Nat} {w r : List Nat} (hw : w.all letC = true) (hr : ∀ c, r.head? = some c → letC c = false) : E (n + 1) (w ++ r) = if badW w r = true then none else ET n r := by
  obtain ⟨h1, h2⟩ := take_app hw hr
  rw [E]
  simp only [h1, h2]
  unfold badW
  by_cases b1 : (w.isEmpty || decide (8 < w.length)) = true
  · rw [if_pos b1, b1, Bool.true_or, if_pos rfl]
  · rw [if_neg b1, Bool.eq_false_iff.mpr b1, Bool.false_or]
    by_cases b2 : (wordsL.contains w && (w != getL || r.head? != some 46)) = true
    · rw [if_pos b2, if_pos b2]
    · rw [if_neg b2, if_neg b2]
      rfl
theorem ET_o {n c : Nat} {r : List Nat} (h1 : c ≠ 46) (h2 : c ≠ 40) : ET n (c :: r) = some (c :: r) := by
  unfold ET
  split
  · rename_i e
    cases e
    exact absurd rfl h1
  · rename_i e
    cases e
    exact absurd rfl h2
  · rename_i e
    cases e
    exact absurd rfl h2
  · rfl
theorem ET_nil {n : Nat} : ET n [] = some [] := rfl
theorem ET_par {n : Nat} {r : List Nat} : ET n (40 :: 41 :: r) = some r := rfl
theorem ET_op {n : Nat} {r : List Nat} (h : r.head? ≠ some 41) : ET n (40 :: r) = match E n r with
    | some (41 :: r2) => some r2
    | some (44 :: 32 :: r2) => match E n r2 with
      | some (41 :: r3) => some r3
      | _ => none
    | _ => none := by
  conv => lhs; unfold ET
  split
  · rename_i e
    cases e
  · rename_i e
    cases e
    exact absurd rfl h
  · rename_i e
    cases e
    rfl
  · rename_i h1 h2 h3
    exact absurd rfl (h3 _)
/-! words -/
theorem dl_head {d : List Nat} (h : dl d = true) : d = [] ∨ (∃ r, d = 40 :: r) ∨ (∃ r, d = 41 :: r) ∨ ∃ r, d = 44 :: 32 :: r := by
  cases d with
  | nil => exact .inl rfl
  | cons c r =>
    rcases way c r with h1 | ⟨r', rfl, rfl⟩ | ⟨h1, h2⟩
    · rcases h1 with rfl | rfl
      · exact .inr (.inl ⟨r, rfl⟩)
      · exact .inr (.inr (.inl ⟨r, rfl⟩))
    · exact .inr (.inr (.inr ⟨r', rfl⟩))
    · rw [dl_o h1 h2] at h
      cases h
theorem dl_not {d : List Nat} (h : dl d = true) {p : Nat → Bool} (h1 : p 40 = false) (h2 : p 41 = false) (h3 : p 44 = false) : ∀ c, d.head? = some c → p c = false := by
  intro c e
  rcases dl_head h with rfl | ⟨r, rfl⟩ | ⟨r, rfl⟩ | ⟨r, rfl⟩
  · cases e
  · cases e; exact h1
  · cases e; exact h2
  · cases e; exact h3
theorem bad_iff {w d : List Nat} (hw : w.all letC = true) (hd : d.head? ≠ some 46) : badW w d = !nameL w := by
  unfold badW nameL
  rw [hw]
  have e : (d.head? != some 46) = true := by simpa using hd
  rw [e, Bool.or_true, Bool.and_true, Bool.true_and]
  cases wordsL.contains w with
  | true => simp
  | false =>
    cases w with
    | nil => rfl
    | cons a w =>
      simp
      by_cases h : w.length + 1 ≤ 8
      · have h2 : ¬ (8 < w.length + 1) := by omega
        simp [h, h2]
        omega
      · have h2 : 8 < w.length + 1 := by omega
        simp [h, h2]
        omega
theorem bad_dot {w d : List Nat} (hw : w.all letC = true) (hd : d.head? = some 46) (hb : badW w d = false) : (nameL w || w == getL) = true := by
  unfold badW at hb
  have e : (d.head? != some 46) = false := by rw [hd]; rfl
  rw [e, Bool.or_false, Bool.or_eq_false_iff] at hb
  obtain ⟨h1, h2⟩ := hb
  rw [Bool.or_eq_false_iff] at h1
  obtain ⟨h3, h4⟩ := h1
  cases hg : w == getL with
  | true => rw [Bool.or_true]
  | false =>
    rw [Bool.or_false]
    have h5 : (w != getL) = true := by
      show (!(w == getL)) = true
      rw [hg]
      rfl
    rw [h5, Bool.and_true] at h2
    unfold nameL
    rw [hw, h2]
    have h6 : ¬ (8 < w.length) := of_decide_eq_false h4
    have h7 : 1 ≤ w.length := by
      cases w with
      | nil => cases h3
      | cons a w => simp
    rw [decide_eq_true h7, decide_eq_true (show w.length ≤ 8 by omega)]
    rfl
theorem bad_not {w d : List Nat} (hw : w.all letC = true) (hd : d.head? = some 46) (hb : (nameL w || w == getL) = true) : badW w d = false := by
  have e : (d.head? != some 46) = false := by rw [hd]; rfl
  unfold badW
  rw [e, Bool.or_false]
  rcases Bool.or_eq_true_iff.mp hb with h | h
  · unfold nameL at h
    simp only [Bool.and_eq_true, decide_eq_true_eq, Bool.not_eq_true'] at h
    obtain ⟨h1, h2, _, h3⟩ := h
    rw [h3, Bool.false_and, Bool.or_false, decide_eq_false (show ¬ (8 < w.length) by omega), Bool.or_false]
    cases w with
    | nil => simp at h1
    | cons a w => rfl
  · have h := eq_of_beq h
    subst h
    decide
theorem let46 : letC 46 = false := by decide
/-- no dot: the word is a name or none -/
theorem atom_plain {w : List Nat} (h : ∀ c ∈ w, c ≠ 46) : atomL w = nameL w := by
  have e : w.dropWhile (· != 46) = [] := by
    rw [← List.append_nil w]
    exact (take_app (p := (· != 46)) (w := w) (r := []) (List.all_eq_true.mpr fun c hc => by simpa using h c hc) (fun c e => by cases e)).2
  unfold atomL
  rw [e]
theorem atom_dot {w u : List Nat} (h : ∀ c ∈ w, c ≠ 46) : atomL (w ++ 46 :: u) = ((nameL w || w == getL) && numOk u) := by
  obtain ⟨e1, e2⟩ := take_app (p := (· != 46)) (w := w) (r := 46 :: u) (List.all_eq_true.mpr fun c hc => by simpa using h c hc) (fun c e => by cases e; rfl)
  unfold atomL
  rw [e2, e1]
theorem let_ne {w : List Nat} (hw : w.all letC = true) {x : Nat} (hx : letC x = false) : ∀ c ∈ w, c ≠ x := fun c hc z => by
  have := List.all_eq_true.mp hw c hc
  rw [z, hx] at this
  cases this
theorem name_let {w : List Nat} (h : nameL w = true) : w.all letC = true := by
  unfold nameL at h
  simp only [Bool.and_eq_true] at h
  exact h.2.2.1
/-- the first sign that is no letter, and no dot: no atom -/
theorem atom_bad {w u : List Nat} {c : Nat} (hw : w.all letC = true) (hc : letC c = false) (h : c ≠ 46) : atomL (w ++ c :: u) = false := by
  have nn : ∀ x : List Nat, nameL (w ++ c :: x) = false := fun x => by
    cases e : nameL (w ++ c :: x) with
    | false => rfl
    | true =>
      have := List.all_eq_true.mp (name_let e) c (by simp)
      rw [hc] at this
      cases this
  obtain ⟨a, b, e, ha, hb⟩ := split_at (p := (· != 46)) u
  have all : ∀ x ∈ w ++ c :: a, x ≠ 46 := fun x hx => by
    rcases List.mem_append.mp hx with hx | hx
    · exact let_ne hw let46 x hx
    · rcases List.mem_cons.mp hx with rfl | hx
      · exact h
      · simpa using List.all_eq_true.mp ha x hx
  cases b with
  | nil =>
    rw [List.append_nil] at e
    subst e
    rw [atom_plain all, nn]
  | cons x b =>
    have z := hb x rfl
    have z : x = 46 := by simpa using z
    subst z
    subst e
    have e2 : w ++ c :: (a ++ 46 :: b) = (w ++ c :: a) ++ 46 :: b := by simp
    rw [e2, atom_dot all, nn]
    have ng : (w ++ c :: a == getL) = false := by
      cases g : (w ++ c :: a == getL) with
      | false => rfl
      | true =>
        have g := eq_of_beq g
        have m : c ∈ getL := by rw [← g]; simp
        have : letC c = true := List.all_eq_true.mp (show getL.all letC = true by decide) c m
        rw [hc] at this
        cases this
    rw [ng]
    rfl
theorem F_free {b d : List Nat} (Fr : Free b d) (n : b ≠ []) : F (b ++ d) = false := by
  unfold F
  rw [Fr [] b rfl n]
  rfl
/-- a word that is none: what the reading leaves cannot follow a value -/
theorem E_bad {u d : List Nat} (hu : u ≠ []) (hd : dl d = true) (Fr : Free u d) (h : (d.head? = some 40 ∧ nameL u = false) ∨ (d.head? ≠ some 40 ∧ atomL u = false)) (n : Nat) (r : List Nat) (he : E (n + 1) (u ++ d) = some r) : F r = false := by
  obtain ⟨w, u2, rfl, hw, hh⟩ := split_at (p := letC) u
  have hdl := dl_not hd (p := letC) (by decide) (by decide) (by decide)
  have hdd := dl_not hd (p := digC) (by decide) (by decide) (by decide)
  cases u2 with
  | nil =>
    rw [List.append_nil] at *
    have d46 : d.head? ≠ some 46 := fun z => by
      rcases dl_head hd with rfl | ⟨r, rfl⟩ | ⟨r, rfl⟩ | ⟨r, rfl⟩ <;> cases z
    have nn : nameL w = false := by
      rcases h with h | h
      · exact h.2
      · rw [← atom_plain (let_ne hw let46)]
        exact h.2
    rw [E_step hw hdl, bad_iff hw d46, nn] at he
    cases he
  | cons c u3 =>
    have hc := hh c rfl
    have F2 : Free (c :: u3) d := Fr.tail
    have hx : ∀ x, ((c :: u3) ++ d).head? = some x → letC x = false := fun x e => by
      cases e
      exact hc
    rw [List.append_assoc, E_step hw hx] at he
    split at he
    · cases he
    · rename_i nb
      have nb := Bool.eq_false_iff.mpr nb
      by_cases h46 : c = 46
      · subst h46
        have okw := bad_dot hw rfl nb
        obtain ⟨ds, u4, rfl, hds, hu4⟩ := split_at (p := digC) u3
        cases u4 with
        | nil =>
          rw [List.append_nil] at *
          obtain ⟨t1, t2⟩ := take_app hds hdd
          have e1 : ET n (46 :: ds ++ d) = if (ds.isEmpty || (ds ++ d).head? == some 48) = true then none else some d := by
            show (if ((ds ++ d).takeWhile digC).isEmpty || (ds ++ d).head? == some 48 then none else some ((ds ++ d).dropWhile digC)) = _
            rw [t1, t2]
          rw [e1] at he
          split at he
          · cases he
          · rename_i ok
            cases he
            rcases h with h | h
            · unfold F
              rw [h.1]
              simp
            · exfalso
              have ha := h.2
              rw [atom_dot (let_ne hw let46), okw, Bool.true_and] at ha
              have ok := Bool.eq_false_iff.mpr ok
              rw [Bool.or_eq_false_iff] at ok
              cases ds with
              | nil => cases ok.1
              | cons x ds =>
                unfold numOk at ha
                rw [hds] at ha
                have o2 : (some x == some 48) = false := ok.2
                have ha : (some x != some 48 && true) = false := ha
                rw [Bool.and_true] at ha
                have : (!(some x == some 48)) = false := ha
                rw [o2] at this
                cases this
        | cons x u4 =>
          have hxx : ∀ y, ((x :: u4) ++ d).head? = some y → digC y = false := fun y e => by
            cases e
            exact hu4 x rfl
          obtain ⟨t1, t2⟩ := take_app hds hxx
          have e1 : ET n (46 :: (ds ++ x :: u4) ++ d) = if (ds.isEmpty || ((ds ++ x :: u4) ++ d).head? == some 48) = true then none else some ((x :: u4) ++ d) := by
            show (if (((ds ++ x :: u4) ++ d).takeWhile digC).isEmpty || ((ds ++ x :: u4) ++ d).head? == some 48 then none else some (((ds ++ x :: u4) ++ d).dropWhile digC)) = _
            rw [List.append_assoc, t1, t2]
          rw [e1] at he
          split at he
          · cases he
          · cases he
            refine F_free (b := x :: u4) ?_ (by simp)
            have F3 : Free ((46 :: ds) ++ (x :: u4)) d := F2
            exact F3.tail
      · have n40 : c ≠ 40 := F2.head.1
        have e1 : ET n (c :: u3 ++ d) = some (c :: u3 ++ d) := ET_o h46 n40
        rw [e1] at he
        cases he
        exact F_free F2 (by simp)
/-- an atom is read up to its end -/
theorem E_atom {u d : List Nat} (hd : dl d = true) (h40 : d.head? ≠ some 40) (ha : atomL u = true) (n : Nat) : E (n + 1) (u ++ d) = some d := by
  obtain ⟨w, u2, rfl, hw, hh⟩ := split_at (p := letC) u
  have hdl := dl_not hd (p := letC) (by decide) (by decide) (by decide)
  have hdd := dl_not hd (p := digC) (by decide) (by decide) (by decide)
  cases u2 with
  | nil =>
    rw [List.append_nil] at *
    have d46 : d.head? ≠ some 46 := fun z => by
      rcases dl_head hd with rfl | ⟨r, rfl⟩ | ⟨r, rfl⟩ | ⟨r, rfl⟩ <;> cases z
    rw [atom_plain (let_ne hw let46)] at ha
    rw [E_step hw hdl, bad_iff hw d46, ha]
    show ET n d = some d
    cases d with
    | nil => rfl
    | cons c d => exact ET_o (fun z => d46 (by rw [z]; rfl)) (fun z => h40 (by rw [z]; rfl))
  | cons c u3 =>
    have hc := hh c rfl
    by_cases h46 : c = 46
    · subst h46
      rw [atom_dot (let_ne hw let46), Bool.and_eq_true] at ha
      obtain ⟨okw, num⟩ := ha
      unfold numOk at num
      simp only [Bool.and_eq_true] at num
      obtain ⟨n1, n2, n3⟩ := num
      rw [List.append_assoc, E_step hw (fun x e => by cases e; exact hc), bad_not hw rfl okw]
      obtain ⟨t1, t2⟩ := take_app n3 hdd
      show (if ((u3 ++ d).takeWhile digC).isEmpty || (u3 ++ d).head? == some 48 then none else some ((u3 ++ d).dropWhile digC)) = _
      rw [t1, t2]
      cases u3 with
      | nil => cases n1
      | cons x u3 =>
        have n2 : (some x != some 48) = true := n2
        have e : (some x == some 48) = false := by
          cases z : (some x == some 48) with
          | false => rfl
          | true =>
            have : (!(some x == some 48)) = true := n2
            rw [z] at this
            cases this
        show (if (false || some x == some 48) = true then none else some d) = some d
        rw [e]
        rfl
    · rw [atom_bad hw hc h46] at ha
      cases ha
theorem E_fun {u d' : List Nat} (hn : nameL u = true) (n : Nat) : E (n + 1) (u ++ 40 :: d') = ET n (40 :: d') := by
  rw [E_step (name_let hn) (fun c e => by cases e; decide), bad_iff (name_let hn) (fun z => by cases z), hn]
  rfl
theorem drop_len {p : Nat → Bool} : ∀ l : List Nat, (l.dropWhile p).length ≤ l.length
  | [] => Nat.le_refl _
  | c :: l => by
    rw [List.dropWhile_cons]
    split
    · exact Nat.le_succ_of_le (drop_len l)
    · exact Nat.le_refl _
theorem E_len : ∀ (n : Nat) (l r : List Nat), E n l = some r → r.length < l.length
  | 0, _, _, h => by cases h
  | n + 1, l, r, h => by
    obtain ⟨w, d, rfl, hw, hh⟩ := split_at (p := letC) l
    rw [E_step hw hh] at h
    split at h
    · cases h
    · rename_i nb
      have lw : 0 < w.length := by
        cases w with
        | nil => exact absurd rfl nb
        | cons a w => simp
      have ld : r.length ≤ d.length := by
        clear nb hh
        cases d with
        | nil => cases h; exact Nat.le_refl _
        | cons c d =>
          by_cases h46 : c = 46
          · subst h46
            have h : (if (d.takeWhile digC).isEmpty || d.head? == some 48 then none else some (d.dropWhile digC)) = some r := h
            split at h
            · cases h
            · cases h
              exact Nat.le_succ_of_le (drop_len d)
          · by_cases h40 : c = 40
            · subst h40
              by_cases h41 : d.head? = some 41
              · obtain ⟨r', rfl⟩ : ∃ r', d = 41 :: r' := by
                  cases d with
                  | nil => cases h41
                  | cons c d => cases h41; exact ⟨d, rfl⟩
                rw [ET_par] at h
                cases h
                simp
                omega
              · rw [ET_op h41] at h
                split at h
                · rename_i r2 e
                  cases h
                  have := E_len n _ _ e
                  simp at this ⊢
                  omega
                · rename_i r2 e
                  have l1 := E_len n _ _ e
                  split at h
                  · rename_i r3 e3
                    cases h
                    have l2 := E_len n _ _ e3
                    simp at l1 l2 ⊢
                    omega
                  · cases h
                · cases h
            · rw [ET_o h46 h40] at h
              cases h
              exact Nat.le_refl _
      rw [List.length_append]
      omega
/-! the two readings agree -/
def f (prev : Option Kd) (st l : List Nat) : Bool := turn prev (KS l) && nest st (KS l)
def g (st r : List Nat) : Bool := turn (some .at) (KS r) && nest st (KS r)
theorem turn_cl : ∀ ks : List Kd, turn (some .cl) ks = turn (some .at) ks
  | [] => rfl
  | k :: r => by cases k <;> rfl
theorem g_cl (c : Nat) (st r : List Nat) : g (c :: st) (41 :: r) = g st r := by
  unfold g
  rw [KS_cl]
  show (turn (some .cl) (KS r) && nest st (KS r)) = _
  rw [turn_cl]
theorem g_cl0 (r : List Nat) : g [] (41 :: r) = false := by
  unfold g
  rw [KS_cl]
  show (_ && false) = false
  rw [Bool.and_false]
theorem g_cm0 (r : List Nat) : g [] (44 :: 32 :: r) = false := by
  unfold g
  rw [KS_cm]
  show (_ && false) = false
  rw [Bool.and_false]
theorem g_cm1 (st r : List Nat) : g (0 :: st) (44 :: 32 :: r) = f (some .cm) (1 :: st) r := by
  unfold g f
  rw [KS_cm]
  rfl
theorem g_cm2 (st r : List Nat) : g (1 :: st) (44 :: 32 :: r) = false := by
  unfold g
  rw [KS_cm]
  show (_ && false) = false
  rw [Bool.and_false]
theorem g_no {st r : List Nat} (h : F r = false) : g st r = false := by
  unfold F at h
  cases hd : dl r with
  | true =>
    rw [hd, Bool.true_and] at h
    cases r with
    | nil => cases h
    | cons c r =>
      have e : c = 40 := by simpa using h
      subst e
      unfold g
      rw [KS_op]
      rfl
  | false =>
    obtain ⟨e1, e2, e3⟩ := cut_spec r
    have hu : (cut r).1 ≠ [] := fun z => by
      rw [z, List.nil_append] at e1
      rw [e1, e2] at hd
      cases hd
    unfold g
    rw [KS_cut, if_neg hu, kind_u hu e2 e3]
    unfold wk
    split
    · split <;> rfl
    · split <;> rfl
theorem main : ∀ (n : Nat) (l : List Nat), l.length < n → ∀ (prev : Option Kd) (st : List Nat), (prev = none ∨ (prev = some .op ∧ l.head? ≠ some 41) ∨ prev = some .cm) → f prev st l = match E n l with
    | some r => g st r
    | none => false
  | 0, l, hl, _, _, _ => absurd hl (Nat.not_lt_zero _)
  | n + 1, l, hl, prev, st, hp => by
    obtain ⟨e1, e2, e3⟩ := cut_spec l
    by_cases hu : (cut l).1 = []
    · rw [hu, List.nil_append] at e1
      have hd : dl l = true := by rw [e1]; exact e2
      have eE : E (n + 1) l = none := by
        have := E_step (n := n) (w := []) (r := l) rfl (dl_not hd (p := letC) (by decide) (by decide) (by decide))
        rw [List.nil_append] at this
        rw [this]
        rfl
      rw [eE]
      show f prev st l = false
      unfold f
      rcases dl_head hd with rfl | ⟨r, rfl⟩ | ⟨r, rfl⟩ | ⟨r, rfl⟩
      · rcases hp with rfl | ⟨rfl, _⟩ | rfl <;> rfl
      · rw [KS_op]
        rcases hp with rfl | ⟨rfl, _⟩ | rfl <;> rfl
      · rw [KS_cl]
        rcases hp with rfl | ⟨rfl, h⟩ | rfl
        · rfl
        · exact absurd rfl h
        · rfl
      · rw [KS_cm]
        rcases hp with rfl | ⟨rfl, _⟩ | rfl <;> rfl
    · have eK : KS l = wk (cut l).1 (cut l).2 :: KS (cut l).2 := by
        rw [KS_cut, if_neg hu, kind_u hu e2 e3]
      have len : (cut l).2.length < l.length := by
        have := congrArg List.length e1
        rw [List.length_append] at this
        have : 0 < (cut l).1.length := List.length_pos_iff.mpr hu
        omega
      unfold f
      rw [eK]
      generalize (cut l).1 = u at *
      generalize (cut l).2 = d at *
      subst e1
      by_cases h40 : d.head? = some 40
      · obtain ⟨d', rfl⟩ : ∃ d', d = 40 :: d' := by
          cases d with
          | nil => cases h40
          | cons c d => cases h40; exact ⟨d, rfl⟩
        cases hn : nameL u with
        | false =>
          have ek : wk u (40 :: d') = .wr := by
            unfold wk
            rw [if_pos h40, hn]
            rfl
          rw [ek]
          have lf : (turn prev (.wr :: KS (40 :: d')) && nest st (.wr :: KS (40 :: d'))) = false := by
            rcases hp with rfl | ⟨rfl, _⟩ | rfl <;> rfl
          rw [lf]
          cases he : E (n + 1) (u ++ 40 :: d') with
          | none => rfl
          | some r => exact (g_no (E_bad hu e2 e3 (.inl ⟨h40, hn⟩) n r he)).symm
        | true =>
          have ek : wk u (40 :: d') = .fn := by
            unfold wk
            rw [if_pos h40, hn]
            rfl
          have lf : (turn prev (.fn :: KS (40 :: d')) && nest st (.fn :: KS (40 :: d'))) = f (some .op) (0 :: st) d' := by
            rw [KS_op]
            rcases hp with rfl | ⟨rfl, _⟩ | rfl <;> rfl
          rw [ek, lf, E_fun hn]
          have ld : d'.length < n := by
            have : (40 :: d').length = d'.length + 1 := rfl
            have := Nat.lt_of_lt_of_le hl (Nat.le_refl _)
            omega
          by_cases h41 : d'.head? = some 41
          · obtain ⟨r', rfl⟩ : ∃ r', d' = 41 :: r' := by
              cases d' with
              | nil => cases h41
              | cons c d => cases h41; exact ⟨d, rfl⟩
            rw [ET_par]
            show f (some .op) (0 :: st) (41 :: r') = g st r'
            unfold f g
            rw [KS_cl]
            show (turn (some .cl) (KS r') && nest st (KS r')) = _
            rw [turn_cl]
          · rw [ET_op h41, main n d' ld (some .op) (0 :: st) (.inr (.inl ⟨rfl, h41⟩))]
            cases he : E n d' with
            | none => rfl
            | some r2 =>
              show g (0 :: st) r2 = _
              cases hF : F r2 with
              | false =>
                rw [g_no hF]
                have n1 : ∀ x, r2 ≠ 41 :: x := fun x z => by rw [z] at hF; cases hF
                have n2 : ∀ x, r2 ≠ 44 :: 32 :: x := fun x z => by rw [z] at hF; cases hF
                split
                · rename_i r hr
                  split at hr
                  · rename_i z
                    cases z
                    exact absurd rfl (n1 _)
                  · rename_i z
                    cases z
                    exact absurd rfl (n2 _)
                  · cases hr
                · rfl
              | true =>
                unfold F at hF
                rw [Bool.and_eq_true] at hF
                rcases dl_head hF.1 with rfl | ⟨r, rfl⟩ | ⟨r, rfl⟩ | ⟨r, rfl⟩
                · rfl
                · cases hF.2
                · exact g_cl 0 st r
                · rw [g_cm1]
                  have lr : r.length < n := by
                    have := E_len n d' _ he
                    have e : (44 :: 32 :: r).length = r.length + 2 := rfl
                    omega
                  rw [main n r lr (some .cm) (1 :: st) (.inr (.inr rfl))]
                  show _ = (match (match E n r with
                    | some (41 :: r3) => some r3
                    | _ => none) with
                    | some r => g st r
                    | none => false)
                  cases he3 : E n r with
                  | none => rfl
                  | some r3 =>
                    show g (1 :: st) r3 = _
                    cases hF3 : F r3 with
                    | false =>
                      rw [g_no hF3]
                      have n1 : ∀ x, r3 ≠ 41 :: x := fun x z => by rw [z] at hF3; cases hF3
                      split
                      · rename_i r hr
                        split at hr
                        · rename_i z
                          cases z
                          exact absurd rfl (n1 _)
                        · cases hr
                      · rfl
                    | true =>
                      unfold F at hF3
                      rw [Bool.and_eq_true] at hF3
                      rcases dl_head hF3.1 with rfl | ⟨r4, rfl⟩ | ⟨r4, rfl⟩ | ⟨r4, rfl⟩
                      · rfl
                      · cases hF3.2
                      · exact g_cl 1 st r4
                      · exact g_cm2 st r4
      · cases ha : atomL u with
        | false =>
          have ek : wk u d = .wr := by
            unfold wk
            rw [if_neg h40, ha]
            rfl
          rw [ek]
          have lf : (turn prev (.wr :: KS d) && nest st (.wr :: KS d)) = false := by
            rcases hp with rfl | ⟨rfl, _⟩ | rfl <;> rfl
          rw [lf]
          cases he : E (n + 1) (u ++ d) with
          | none => rfl
          | some r => exact (g_no (E_bad hu e2 e3 (.inr ⟨h40, ha⟩) n r he)).symm
        | true =>
          have ek : wk u d = .at := by
            unfold wk
            rw [if_neg h40, ha]
            rfl
          rw [ek, E_atom e2 h40 ha]
          rcases hp with rfl | ⟨rfl, _⟩ | rfl <;> rfl
/-- what is a value, by words and signs, is read from the left up to its end -/
theorem value_E {n : Nat} {l : List Nat} (h : l.length < n) : valueL l = decide (E n l = some []) := by
  have := main n l h none [] (.inl rfl)
  unfold f at this
  unfold valueL
  rw [this]
  cases he : E n l with
  | none => rfl
  | some r =>
    show g [] r = _
    cases r with
    | nil => rfl
    | cons c r =>
      rw [decide_eq_false (fun z => by cases z)]
      cases hF : F (c :: r) with
      | false => exact g_no hF
      | true =>
        unfold F at hF
        rw [Bool.and_eq_true] at hF
        rcases dl_head hF.1 with z | ⟨r4, z⟩ | ⟨r4, z⟩ | ⟨r4, z⟩
        · cases z
        · cases z
          cases hF.2
        · cases z
          exact g_cl0 _
        · cases z
          exact g_cm0 _
end OM.VL

namespace OM.VL
open PySem PySem.Spec PyProof.Rows L2
/-! a sign set between line ends, and the text cut at them: the words and signs -/
/-- y set between line ends -/
def putIn (y l : List Nat) : List Nat := TL.joinL (10 :: (y ++ [10])) (TL.spl y 0 [] l)
/-- one sign -/
def r1 (s : Nat) : List Nat → List Nat
  | [] => []
  | c :: r => if c = s then 10 :: c :: 10 :: r1 s r else c :: r1 s r
/-- a comma with a space -/
def r2 : List Nat → List Nat
  | [] => []
  | 44 :: 32 :: r => 10 :: 44 :: 32 :: 10 :: r2 r
  | c :: r => c :: r2 r
theorem r2_o {c : Nat} {r : List Nat} (h : ∀ r', c = 44 → r ≠ 32 :: r') : r2 (c :: r) = c :: r2 r := by
  rw [r2.eq_def]
  split
  · rename_i e
    cases e
  · rename_i e
    cases e
    exact absurd rfl (h _ rfl)
  · rename_i e
    cases e
    rfl
theorem joinL_cons (S a : List Nat) : ∀ rest : List (List Nat), rest ≠ [] → TL.joinL S (a :: rest) = a ++ (S ++ TL.joinL S rest)
  | [], h => absurd rfl h
  | q :: r, _ => rfl
theorem spl_ne (S : List Nat) : ∀ (l acc : List Nat), TL.spl S 0 acc l ≠ []
  | [], acc => by rw [TL.spl_nil]; exact List.cons_ne_nil _ _
  | c :: r, acc => by
    cases h : TL.pre S (c :: r) with
    | true => rw [TL.spl_hit h]; exact List.cons_ne_nil _ _
    | false => rw [TL.spl_miss h]; exact spl_ne S r _
theorem pre1 (s c : Nat) (r : List Nat) : TL.pre [s] (c :: r) = decide (c = s) := by
  unfold TL.pre
  show (List.take 1 (c :: r) == [s]) = _
  rw [show List.take 1 (c :: r) = [c] from rfl]
  by_cases h : c = s
  · subst h
    simp
  · simp [h]
theorem put1 (s : Nat) : ∀ (l acc : List Nat), TL.joinL (10 :: ([s] ++ [10])) (TL.spl [s] 0 acc l) = acc ++ r1 s l
  | [], acc => by
    rw [TL.spl_nil]
    show acc = acc ++ []
    rw [List.append_nil]
  | c :: r, acc => by
    by_cases h : c = s
    · subst h
      rw [TL.spl_hit (by rw [pre1]; exact decide_eq_true rfl)]
      show TL.joinL _ (acc :: TL.spl [c] 0 [] r) = _
      rw [joinL_cons _ _ _ (spl_ne _ r []), put1 c r []]
      show acc ++ (10 :: ([c] ++ [10]) ++ ([] ++ r1 c r)) = acc ++ (if c = c then 10 :: c :: 10 :: r1 c r else c :: r1 c r)
      rw [if_pos rfl]
      rfl
    · rw [TL.spl_miss (by rw [pre1]; exact decide_eq_false h), put1 s r (acc ++ [c])]
      show _ = acc ++ (if c = s then 10 :: c :: 10 :: r1 s r else c :: r1 s r)
      rw [if_neg h, List.append_assoc]
      rfl
theorem pre2 (c : Nat) (r : List Nat) : TL.pre [44, 32] (c :: r) = true ↔ ∃ r', c = 44 ∧ r = 32 :: r' := by
  unfold TL.pre
  show (List.take 2 (c :: r) == [44, 32]) = true ↔ _
  rw [beq_iff_eq]
  constructor
  · intro h
    cases r with
    | nil => cases h
    | cons d r =>
      have h : [c, d] = [44, 32] := h
      injection h with h1 h2
      injection h2 with h2 _
      exact ⟨r, h1, by rw [h2]⟩
  · rintro ⟨r', rfl, rfl⟩
    rfl
theorem put2 : ∀ (n : Nat) (l acc : List Nat), l.length ≤ n → TL.joinL (10 :: ([44, 32] ++ [10])) (TL.spl [44, 32] 0 acc l) = acc ++ r2 l
  | _, [], acc, _ => by
    rw [TL.spl_nil]
    show acc = acc ++ []
    rw [List.append_nil]
  | 0, c :: r, _, h => absurd h (Nat.not_succ_le_zero _)
  | n + 1, c :: r, acc, hl => by
    by_cases h : ∃ r', c = 44 ∧ r = 32 :: r'
    · have hp := (pre2 c r).mpr h
      obtain ⟨r', rfl, rfl⟩ := h
      rw [TL.spl_hit hp]
      show TL.joinL _ (acc :: TL.spl [44, 32] 1 [] (32 :: r')) = _
      rw [TL.spl_pass]
      show TL.joinL _ (acc :: TL.spl [44, 32] 0 [] r') = _
      rw [joinL_cons _ _ _ (spl_ne _ r' []), put2 n r' [] (by simp at hl; omega)]
      show _ = acc ++ r2 (44 :: 32 :: r')
      rw [r2]
      rfl
    · have hp : TL.pre [44, 32] (c :: r) = false := Bool.eq_false_iff.mpr fun z => h ((pre2 c r).mp z)
      rw [TL.spl_miss hp, put2 n r (acc ++ [c]) (by simp at hl; omega), r2_o (fun r' e1 e2 => h ⟨r', e1, e2⟩), List.append_assoc]
      rfl
/-- all three -/
def m3 : List Nat → List Nat
  | [] => []
  | 44 :: 32 :: r => 10 :: 44 :: 32 :: 10 :: m3 r
  | c :: r => if c = 40 ∨ c = 41 then 10 :: c :: 10 :: m3 r else c :: m3 r
theorem m3_o {c : Nat} {r : List Nat} (h : ∀ r', c = 44 → r ≠ 32 :: r') : m3 (c :: r) = if c = 40 ∨ c = 41 then 10 :: c :: 10 :: m3 r else c :: m3 r := by
  rw [m3.eq_def]
  split
  · rename_i e
    cases e
  · rename_i e
    cases e
    exact absurd rfl (h _ rfl)
  · rename_i e
    cases e
    rfl
theorem head41 (r x : List Nat) (h : ∀ r', r ≠ 32 :: r') : r1 41 (r1 40 r) ≠ 32 :: x := by
  cases r with
  | nil => intro z; cases z
  | cons c r =>
    intro z
    by_cases h1 : c = 40
    · subst h1
      have e : r1 41 (r1 40 (40 :: r)) = 10 :: 40 :: 10 :: r1 41 (r1 40 r) := rfl
      rw [e] at z
      cases z
    · have e : r1 40 (c :: r) = c :: r1 40 r := if_neg h1
      rw [e] at z
      by_cases h2 : c = 41
      · subst h2
        cases z
      · have e2 : r1 41 (c :: r1 40 r) = c :: r1 41 (r1 40 r) := if_neg h2
        rw [e2] at z
        injection z with z _
        exact h r (by rw [z])
theorem r123 : ∀ (n : Nat) (l : List Nat), l.length ≤ n → r2 (r1 41 (r1 40 l)) = m3 l
  | _, [], _ => rfl
  | 0, c :: r, h => absurd h (Nat.not_succ_le_zero _)
  | n + 1, c :: r, hl => by
    have lr : r.length ≤ n := by simp at hl; omega
    by_cases h40 : c = 40
    · subst h40
      have e : r1 41 (r1 40 (40 :: r)) = 10 :: 40 :: 10 :: r1 41 (r1 40 r) := rfl
      rw [e, m3_o (fun _ z => by cases z), if_pos (.inl rfl), r2_o (fun _ z => by cases z), r2_o (fun _ z => by cases z), r2_o (fun _ z => by cases z), r123 n r lr]
    · have e : r1 40 (c :: r) = c :: r1 40 r := if_neg h40
      by_cases h41 : c = 41
      · subst h41
        have e2 : r1 41 (41 :: r1 40 r) = 10 :: 41 :: 10 :: r1 41 (r1 40 r) := rfl
        rw [e, e2, m3_o (fun _ z => by cases z), if_pos (.inr rfl), r2_o (fun _ z => by cases z), r2_o (fun _ z => by cases z), r2_o (fun _ z => by cases z), r123 n r lr]
      · have e2 : r1 41 (c :: r1 40 r) = c :: r1 41 (r1 40 r) := if_neg h41
        rw [e, e2]
        by_cases h : ∃ r', c = 44 ∧ r = 32 :: r'
        · obtain ⟨r', rfl, rfl⟩ := h
          have e3 : r1 41 (r1 40 (32 :: r')) = 32 :: r1 41 (r1 40 r') := rfl
          rw [e3, r2, r123 n r' (by simp at lr; omega), m3]
        · rw [m3_o (fun r' a b => h ⟨r', a, b⟩), if_neg (fun z => z.elim h40 h41), ← r123 n r lr]
          by_cases h44 : c = 44
          · subst h44
            exact r2_o fun x _ z => head41 r x (fun r' e => h ⟨r', rfl, e⟩) z
          · exact r2_o fun x z _ => h44 z
theorem spl10_hit (acc r : List Nat) : TL.spl [10] 0 acc (10 :: r) = acc :: TL.spl [10] 0 [] r := by
  rw [TL.spl_hit (by rw [pre1]; rfl)]
  rfl
theorem spl10_miss {c : Nat} (h : c ≠ 10) (acc r : List Nat) : TL.spl [10] 0 acc (c :: r) = TL.spl [10] 0 (acc ++ [c]) r := TL.spl_miss (by rw [pre1]; exact decide_eq_false h)
def some_ (p : List Nat) : Bool := !p.isEmpty
theorem filt (acc : List Nat) (l : List (List Nat)) : (acc :: l).filter some_ = fl acc (l.filter some_) := by
  unfold fl
  cases acc with
  | nil => rfl
  | cons a b => rfl
theorem cut_m3 : ∀ (n : Nat) (l acc : List Nat), l.length ≤ n → 10 ∉ l → (TL.spl [10] 0 acc (m3 l)).filter some_ = toks acc l
  | _, [], acc, _, _ => by
    show (TL.spl [10] 0 acc []).filter some_ = fl acc []
    rw [TL.spl_nil]
    exact filt acc []
  | 0, c :: r, _, h, _ => absurd h (Nat.not_succ_le_zero _)
  | n + 1, c :: r, acc, hl, h10 => by
    have lr : r.length ≤ n := by simp at hl; omega
    have n10 : c ≠ 10 ∧ 10 ∉ r := ⟨fun z => h10 (by rw [z]; exact List.mem_cons_self ..), fun z => h10 (List.mem_cons_of_mem _ z)⟩
    rcases way c r with h | ⟨r', rfl, rfl⟩ | ⟨h, h2⟩
    · rw [m3_o (fun r' z _ => by omega), if_pos h, toks_d h, spl10_hit, spl10_miss n10.1, spl10_hit, filt, filt, cut_m3 n r [] lr n10.2]
      rfl
    · rw [m3, toks_cm, spl10_hit, spl10_miss (by decide), spl10_miss (by decide), spl10_hit, filt, filt, cut_m3 n r' [] (by simp at lr; omega) (fun z => n10.2 (List.mem_cons_of_mem _ z))]
      rfl
    · rw [m3_o h2, if_neg h, toks_o h h2, spl10_miss n10.1, cut_m3 n r (acc ++ [c]) lr n10.2]
/-- the words and signs of a text with no line end -/
theorem pieces_toks {l : List Nat} (h : 10 ∉ l) : (TL.spl [10] 0 [] (putIn [44, 32] (putIn [41] (putIn [40] l)))).filter some_ = toks [] l := by
  have e1 : putIn [40] l = r1 40 l := put1 40 l []
  have e2 : putIn [41] (r1 40 l) = r1 41 (r1 40 l) := put1 41 _ []
  have e3 : putIn [44, 32] (r1 41 (r1 40 l)) = r2 (r1 41 (r1 40 l)) := put2 _ _ [] (Nat.le_refl _)
  rw [e1, e2, e3, r123 l.length l (Nat.le_refl _)]
  exact cut_m3 _ l [] (Nat.le_refl _) h
/-- text.replace, as a list -/
theorem repl_L (x y z : Str) (hy : TL.tl y ≠ []) (hk : y.cps.all (· < 256) = true) (hz : z.length ≠ 0) : TL.tl (Txt.replace x y z) = TL.joinL (TL.tl z) (TL.spl (TL.tl y) 0 [] (TL.tl x)) := by
  obtain ⟨f, g, hn⟩ := StrLaws.occ_tight x y (TL.len1 hy)
  have key := TL.parts_spl hy _ 0 f (Nat.zero_le _) g hn
  rw [List.drop_zero] at key
  have h0 : (y.length == 0 && z.length == 0) = false := by
    have : (z.length == 0) = false := by simpa using hz
    rw [this, Bool.and_false]
  unfold Txt.replace
  rw [h0, Bool.or_false]
  by_cases h2 : (Builtin.Str.occurrences x y 0 x.length (x.length + 1)).isEmpty = true
  · rw [if_pos h2]
    have ho := List.isEmpty_iff.mp h2
    rw [ho] at key
    rw [← key]
    show TL.tl x = TL.tl (Builtin.Str.strSub x 0 x.length)
    rw [StrLaws.sub_whole]
  · rw [if_neg h2, StrLaws.glued_eq_join, TL.tl_join, StrLaws.partsBetween_eq, key]
end OM.VL

namespace OM.VL
/-! drawn values as trees -/
inductive Tr where
  | lf (w : List Nat)
  | nd0 (f : List Nat)
  | nd1 (f : List Nat) (t : Tr)
  | nd2 (f : List Nat) (t u : Tr)
def tx : Tr → List Nat
  | .lf w => w
  | .nd0 f => f ++ [40, 41]
  | .nd1 f t => f ++ 40 :: (tx t ++ [41])
  | .nd2 f t u => f ++ 40 :: (tx t ++ 44 :: 32 :: (tx u ++ [41]))
def okT : Tr → Bool
  | .lf w => atomL w
  | .nd0 f => nameL f
  | .nd1 f t => nameL f && okT t
  | .nd2 f t u => nameL f && (okT t && okT u)
/-- the names and unknowns, from the left -/
def lv : Tr → List (List Nat)
  | .lf w => [w]
  | .nd0 _ => []
  | .nd1 _ t => lv t
  | .nd2 _ t u => lv t ++ lv u
theorem atom_split {w : List Nat} (h : atomL w = true) : nameL w = true ∨ ∃ a n, w = a ++ 46 :: n ∧ a.all letC = true ∧ a ≠ [] ∧ numOk n = true := by
  obtain ⟨a, b, rfl, ha, hb⟩ := split_at (p := letC) w
  cases b with
  | nil =>
    rw [List.append_nil] at h ⊢
    rw [atom_plain (let_ne ha let46)] at h
    exact .inl h
  | cons c b =>
    have hc := hb c rfl
    by_cases h46 : c = 46
    · subst h46
      rw [atom_dot (let_ne ha let46), Bool.and_eq_true] at h
      refine .inr ⟨a, b, rfl, ha, fun z => ?_, h.2⟩
      subst z
      exact absurd h.1 (by decide)
    · rw [atom_bad ha hc h46] at h
      cases h
/-- no sign in it -/
def clean (w : List Nat) : Bool := w.all fun c => decide (c ≠ 40) && (decide (c ≠ 41) && decide (c ≠ 44))
theorem clean_let {w : List Nat} (h : w.all letC = true) : clean w = true := List.all_eq_true.mpr fun c hc => by
  have := List.all_eq_true.mp h c hc
  unfold letC at this
  simp only [Bool.and_eq_true, decide_eq_true_eq] at this ⊢
  omega
theorem clean_dig {w : List Nat} (h : w.all digC = true) : clean w = true := List.all_eq_true.mpr fun c hc => by
  have := List.all_eq_true.mp h c hc
  unfold digC at this
  simp only [Bool.and_eq_true, decide_eq_true_eq] at this ⊢
  omega
theorem clean_atom {w : List Nat} (h : atomL w = true) : clean w = true ∧ ∃ c r, w = c :: r ∧ letC c = true := by
  rcases atom_split h with h | ⟨a, n, rfl, ha, hn, num⟩
  · refine ⟨clean_let (name_let h), ?_⟩
    cases w with
    | nil => exact absurd h (by decide)
    | cons c r => exact ⟨c, r, rfl, by have := name_let h; rw [List.all_cons, Bool.and_eq_true] at this; exact this.1⟩
  · unfold numOk at num
    simp only [Bool.and_eq_true] at num
    have h1 := clean_let ha
    have h2 := clean_dig num.2.2
    unfold clean at h1 h2 ⊢
    rw [List.all_append, List.all_cons, h1, h2]
    refine ⟨rfl, ?_⟩
    cases a with
    | nil => exact absurd rfl hn
    | cons c r => exact ⟨c, _, rfl, by rw [List.all_cons, Bool.and_eq_true] at ha; exact ha.1⟩
theorem clean_name {w : List Nat} (h : nameL w = true) : clean w = true ∧ ∃ c r, w = c :: r ∧ letC c = true := by
  refine ⟨clean_let (name_let h), ?_⟩
  cases w with
  | nil => exact absurd h (by decide)
  | cons c r => exact ⟨c, r, rfl, by have := name_let h; rw [List.all_cons, Bool.and_eq_true] at this; exact this.1⟩
theorem tx_head {t : Tr} (h : okT t = true) : ∃ c r, tx t = c :: r ∧ letC c = true := by
  cases t with
  | lf w => exact (clean_atom h).2
  | nd0 f =>
    obtain ⟨c, r, e, hc⟩ := (clean_name h).2
    exact ⟨c, _, by show f ++ _ = _; rw [e]; rfl, hc⟩
  | nd1 f t =>
    obtain ⟨c, r, e, hc⟩ := (clean_name (Bool.and_eq_true_iff.mp h).1).2
    exact ⟨c, _, by show f ++ _ = _; rw [e]; rfl, hc⟩
  | nd2 f t u =>
    obtain ⟨c, r, e, hc⟩ := (clean_name (Bool.and_eq_true_iff.mp h).1).2
    exact ⟨c, _, by show f ++ _ = _; rw [e]; rfl, hc⟩
theorem F_spec {r : List Nat} (h : F r = true) : dl r = true ∧ r.head? ≠ some 40 := by
  unfold F at h
  rw [Bool.and_eq_true] at h
  exact ⟨h.1, by simpa using h.2⟩
theorem n41 {t : Tr} (h : okT t = true) (x : List Nat) : (tx t ++ x).head? ≠ some 41 := by
  obtain ⟨c, r, e, hc⟩ := tx_head h
  rw [e]
  intro z
  cases z
  exact absurd hc (by decide)
/-- a drawn value is read up to its end -/
theorem E_tx : ∀ (t : Tr) (n : Nat) (r : List Nat), okT t = true → (tx t).length < n → F r = true → E n (tx t ++ r) = some r
  | .lf w, 0, _, _, hn, _ => absurd hn (Nat.not_lt_zero _)
  | .lf w, n + 1, r, h, _, hF => E_atom (F_spec hF).1 (F_spec hF).2 h n
  | .nd0 f, 0, _, _, hn, _ => absurd hn (Nat.not_lt_zero _)
  | .nd0 f, n + 1, r, h, _, hF => by
    show E (n + 1) ((f ++ [40, 41]) ++ r) = _
    rw [List.append_assoc]
    show E (n + 1) (f ++ 40 :: (41 :: r)) = _
    rw [E_fun h]
    rfl
  | .nd1 f t, 0, _, _, hn, _ => absurd hn (Nat.not_lt_zero _)
  | .nd1 f t, n + 1, r, h, hn, hF => by
    obtain ⟨h1, h2⟩ := Bool.and_eq_true_iff.mp h
    have e : tx (.nd1 f t) ++ r = f ++ 40 :: (tx t ++ (41 :: r)) := by
      show (f ++ 40 :: (tx t ++ [41])) ++ r = _
      simp
    have ln : (tx t).length < n := by
      have : (tx (.nd1 f t)).length = f.length + ((tx t).length + 2) := by
        show (f ++ 40 :: (tx t ++ [41])).length = _
        simp
      omega
    rw [e, E_fun h1, ET_op (n41 h2 _), E_tx t n (41 :: r) h2 ln rfl]
    rfl
  | .nd2 f t u, 0, _, _, hn, _ => absurd hn (Nat.not_lt_zero _)
  | .nd2 f t u, n + 1, r, h, hn, hF => by
    obtain ⟨h1, h2⟩ := Bool.and_eq_true_iff.mp h
    obtain ⟨h2, h3⟩ := Bool.and_eq_true_iff.mp h2
    have e : tx (.nd2 f t u) ++ r = f ++ 40 :: (tx t ++ (44 :: 32 :: (tx u ++ (41 :: r)))) := by
      show (f ++ 40 :: (tx t ++ 44 :: 32 :: (tx u ++ [41]))) ++ r = _
      simp
    have ln : (tx (.nd2 f t u)).length = f.length + ((tx t).length + ((tx u).length + 4)) := by
      show (f ++ 40 :: (tx t ++ 44 :: 32 :: (tx u ++ [41]))).length = _
      simp
      omega
    rw [e, E_fun h1, ET_op (n41 h2 _), E_tx t n (44 :: 32 :: (tx u ++ (41 :: r))) h2 (by omega) rfl]
    show (match E n (tx u ++ 41 :: r) with
      | some (41 :: r3) => some r3
      | _ => none) = some r
    rw [E_tx u n (41 :: r) h3 (by omega) rfl]
    rfl
/-- so it is a value -/
theorem tx_value {t : Tr} (h : okT t = true) : valueL (tx t) = true := by
  rw [value_E (n := (tx t).length + 1) (Nat.lt_succ_self _)]
  have := E_tx t ((tx t).length + 1) [] h (Nat.lt_succ_self _) rfl
  rw [List.append_nil] at this
  rw [this]
  rfl
/-! its names and unknowns -/
theorem cut_app : ∀ {w d : List Nat}, clean w = true → dl d = true → cut (w ++ d) = (w, d)
  | [], d, _, h => by
    show cut d = _
    rcases dl_head h with rfl | ⟨r, rfl⟩ | ⟨r, rfl⟩ | ⟨r, rfl⟩
    · rfl
    · exact cut_d (.inl rfl)
    · exact cut_d (.inr rfl)
    · exact cut_cm
  | c :: w, d, hw, h => by
    unfold clean at hw
    rw [List.all_cons, Bool.and_eq_true] at hw
    simp only [Bool.and_eq_true, decide_eq_true_eq] at hw
    obtain ⟨⟨h1, h2, h3⟩, h4⟩ := hw
    show cut (c :: (w ++ d)) = _
    rw [cut_o (by omega) (fun _ z => absurd z h3), cut_app (w := w) (by unfold clean; exact h4) h]
theorem toks_app {w d : List Nat} (hw : clean w = true) (hn : w ≠ []) (h : dl d = true) : toks [] (w ++ d) = w :: toks [] d := by
  rw [toks_cut, cut_app hw h]
  show fl ([] ++ w) _ = _
  unfold fl
  rw [List.nil_append, if_neg hn]
theorem kind_app {w d : List Nat} (hw : clean w = true) (hn : w ≠ []) (h : dl d = true) : kindOf w ((toks [] d).headD []) = wk w d := by
  have := cut_spec (w ++ d)
  rw [cut_app hw h] at this
  exact kind_u hn h this.2.2
def atomsT (l : List Nat) : List (List Nat) := (((toks [] l).zip (KS l)).filter fun p => decide (p.2 = Kd.at)).map (·.1)
theorem at_word {w d : List Nat} (hw : clean w = true) (hn : w ≠ []) (h : dl d = true) : atomsT (w ++ d) = if wk w d = .at then w :: atomsT d else atomsT d := by
  have eK : KS (w ++ d) = wk w d :: KS d := by
    show kinds (toks [] (w ++ d)) = _
    rw [toks_app hw hn h]
    show kindOf w ((toks [] d).headD []) :: kinds (toks [] d) = _
    rw [kind_app hw hn h]
  unfold atomsT
  rw [toks_app hw hn h, eK, List.zip_cons_cons, List.filter_cons]
  by_cases k : wk w d = .at
  · rw [if_pos k, if_pos (decide_eq_true k)]
    rfl
  · rw [if_neg k, if_neg (by simpa using k)]
theorem at_op (r : List Nat) : atomsT (40 :: r) = atomsT r := by
  unfold atomsT
  rw [KS_op, toks_d (.inl rfl)]
  rfl
theorem at_cl (r : List Nat) : atomsT (41 :: r) = atomsT r := by
  unfold atomsT
  rw [KS_cl, toks_d (.inr rfl)]
  rfl
theorem at_cm (r : List Nat) : atomsT (44 :: 32 :: r) = atomsT r := by
  unfold atomsT
  rw [KS_cm, toks_cm]
  rfl
theorem at_fun {f r : List Nat} (h : nameL f = true) : atomsT (f ++ 40 :: r) = atomsT r := by
  obtain ⟨hc, c, x, e, _⟩ := clean_name h
  rw [at_word hc (by rw [e]; exact List.cons_ne_nil _ _) rfl]
  have : wk f (40 :: r) = .fn := by
    unfold wk
    rw [if_pos (show (40 :: r).head? = some 40 from rfl), h]
    rfl
  rw [this, if_neg (by decide), at_op]
theorem at_tx : ∀ (t : Tr) (r : List Nat), okT t = true → F r = true → atomsT (tx t ++ r) = lv t ++ atomsT r
  | .lf w, r, h, hF => by
    obtain ⟨hd, h40⟩ := F_spec hF
    obtain ⟨hc, c, x, e, _⟩ := clean_atom h
    show atomsT (w ++ r) = [w] ++ atomsT r
    have : wk w r = .at := by
      unfold wk
      have ha : atomL w = true := h
      rw [if_neg h40, ha]
      rfl
    rw [at_word hc (by rw [e]; exact List.cons_ne_nil _ _) hd, this, if_pos rfl]
    rfl
  | .nd0 f, r, h, hF => by
    show atomsT ((f ++ [40, 41]) ++ r) = [] ++ atomsT r
    rw [List.append_assoc]
    show atomsT (f ++ 40 :: (41 :: r)) = atomsT r
    rw [at_fun h, at_cl]
  | .nd1 f t, r, h, hF => by
    obtain ⟨h1, h2⟩ := Bool.and_eq_true_iff.mp h
    have e : tx (.nd1 f t) ++ r = f ++ 40 :: (tx t ++ (41 :: r)) := by
      show (f ++ 40 :: (tx t ++ [41])) ++ r = _
      simp
    rw [e, at_fun h1, at_tx t _ h2 rfl, at_cl]
    rfl
  | .nd2 f t u, r, h, hF => by
    obtain ⟨h1, h2⟩ := Bool.and_eq_true_iff.mp h
    obtain ⟨h2, h3⟩ := Bool.and_eq_true_iff.mp h2
    have e : tx (.nd2 f t u) ++ r = f ++ 40 :: (tx t ++ (44 :: 32 :: (tx u ++ (41 :: r)))) := by
      show (f ++ 40 :: (tx t ++ 44 :: 32 :: (tx u ++ [41]))) ++ r = _
      simp
    rw [e, at_fun h1, at_tx t _ h2 rfl, at_cm, at_tx u _ h3 rfl, at_cl]
    show _ = (lv t ++ lv u) ++ atomsT r
    rw [List.append_assoc]
theorem atoms_tx {t : Tr} (h : okT t = true) : atomsT (tx t) = lv t := by
  have := at_tx t [] h rfl
  rw [List.append_nil] at this
  rw [this]
  show lv t ++ [] = _
  rw [List.append_nil]
/-! its parts -/
/-- the first comma that no parenthesis holds: what stands ahead of it, and behind its space -/
def dv (d : Int) (pre : List Nat) : List Nat → Option (List Nat × List Nat)
  | [] => none
  | c :: r => if c = 40 then dv (d + 1) (pre ++ [c]) r else if c = 41 then dv (d - 1) (pre ++ [c]) r else if c = 44 ∧ d = 0 then some (pre, r.drop 1) else dv d (pre ++ [c]) r
theorem dv_clean : ∀ {w : List Nat} (d : Int) (pre r : List Nat), clean w = true → dv d pre (w ++ r) = dv d (pre ++ w) r
  | [], d, pre, r, _ => by rw [List.append_nil]; rfl
  | c :: w, d, pre, r, hw => by
    unfold clean at hw
    rw [List.all_cons, Bool.and_eq_true] at hw
    simp only [Bool.and_eq_true, decide_eq_true_eq] at hw
    obtain ⟨⟨h1, h2, h3⟩, h4⟩ := hw
    show (if c = 40 then _ else if c = 41 then _ else if c = 44 ∧ d = 0 then _ else dv d (pre ++ [c]) (w ++ r)) = _
    rw [if_neg h1, if_neg h2, if_neg (fun z => h3 z.1), dv_clean d _ r (by unfold clean; exact h4), List.append_assoc]
    rfl
theorem dv_op (d : Int) (pre r : List Nat) : dv d pre (40 :: r) = dv (d + 1) (pre ++ [40]) r := rfl
theorem dv_cl (d : Int) (pre r : List Nat) : dv d pre (41 :: r) = dv (d - 1) (pre ++ [41]) r := rfl
theorem dv_cm {d : Int} (h : d ≠ 0) (pre r : List Nat) : dv d pre (44 :: 32 :: r) = dv d (pre ++ [44, 32]) r := by
  show (if (44 : Nat) = 40 then _ else if (44 : Nat) = 41 then _ else if (44 : Nat) = 44 ∧ d = 0 then _ else dv d (pre ++ [44]) (32 :: r)) = _
  rw [if_neg (by decide), if_neg (by decide), if_neg (fun z => h z.2)]
  show (if (32 : Nat) = 40 then _ else if (32 : Nat) = 41 then _ else if (32 : Nat) = 44 ∧ d = 0 then _ else dv d ((pre ++ [44]) ++ [32]) r) = _
  rw [if_neg (by decide), if_neg (by decide), if_neg (fun z => absurd z.1 (by decide)), List.append_assoc]
  rfl
theorem dv_tx : ∀ (t : Tr) (d : Int) (pre r : List Nat), 0 ≤ d → okT t = true → dv d pre (tx t ++ r) = dv d (pre ++ tx t) r
  | .lf w, d, pre, r, _, h => dv_clean d pre r (clean_atom h).1
  | .nd0 f, d, pre, r, _, h => by
    show dv d pre ((f ++ [40, 41]) ++ r) = dv d (pre ++ (f ++ [40, 41])) r
    rw [List.append_assoc, dv_clean d pre _ (clean_name h).1]
    show dv d (pre ++ f) (40 :: 41 :: r) = _
    rw [dv_op, dv_cl, show d + 1 - 1 = d by omega]
    simp
  | .nd1 f t, d, pre, r, hd, h => by
    obtain ⟨h1, h2⟩ := Bool.and_eq_true_iff.mp h
    have e : tx (.nd1 f t) ++ r = f ++ 40 :: (tx t ++ (41 :: r)) := by
      show (f ++ 40 :: (tx t ++ [41])) ++ r = _
      simp
    rw [e, dv_clean d pre _ (clean_name h1).1, dv_op, dv_tx t (d + 1) _ _ (by omega) h2, dv_cl, show d + 1 - 1 = d by omega]
    show _ = dv d (pre ++ (f ++ 40 :: (tx t ++ [41]))) r
    simp
  | .nd2 f t u, d, pre, r, hd, h => by
    obtain ⟨h1, h2⟩ := Bool.and_eq_true_iff.mp h
    obtain ⟨h2, h3⟩ := Bool.and_eq_true_iff.mp h2
    have e : tx (.nd2 f t u) ++ r = f ++ 40 :: (tx t ++ (44 :: 32 :: (tx u ++ (41 :: r)))) := by
      show (f ++ 40 :: (tx t ++ 44 :: 32 :: (tx u ++ [41]))) ++ r = _
      simp
    rw [e, dv_clean d pre _ (clean_name h1).1, dv_op, dv_tx t (d + 1) _ _ (by omega) h2, dv_cm (by omega), dv_tx u (d + 1) _ _ (by omega) h3, dv_cl, show d + 1 - 1 = d by omega]
    show _ = dv d (pre ++ (f ++ 40 :: (tx t ++ 44 :: 32 :: (tx u ++ [41])))) r
    simp
/-- one value: no comma; two: cut between them -/
theorem dv_one {t : Tr} (h : okT t = true) : dv 0 [] (tx t) = none := by
  have := dv_tx t 0 [] [] (Int.le_refl _) h
  rw [List.append_nil] at this
  rw [this]
  rfl
theorem dv_two {t u : Tr} (h : okT t = true) : dv 0 [] (tx t ++ 44 :: 32 :: tx u) = some (tx t, tx u) := by
  rw [dv_tx t 0 [] _ (Int.le_refl _) h]
  rfl
end OM.VL

namespace OM
open PySem PySem.Spec PyProof.Rows L2 VL
abbrev S (l : List Nat) : Str := SX.S l
abbrev sWrNum : Stmt := top 26
abbrev sAtom : Stmt := top 25
abbrev sKindN : Stmt := top 24
def digits : Str := "0123456789"
theorem digits_tl : digits.cps.toList = [48, 49, 50, 51, 52, 53, 54, 55, 56, 57] := by decide +kernel
theorem in_digits (c : Nat) : (!(Builtin.Str.occurrences digits ⟨#[c]⟩ 0 digits.length 1).isEmpty) = digC c := by
  rw [StrLaws.found_one, digits_tl, Bool.eq_iff_iff]
  unfold digC
  simp only [decide_eq_true_eq, Bool.and_eq_true, List.mem_cons, List.not_mem_nil, or_false]
  omega
/-- names as lists -/
theorem name_S (l : List Nat) : isNameD (.str (S l)) = nameL l := by
  show nameS (S l) = nameL l
  unfold nameS nameL
  have e1 : (S l).length = l.length := SX.S_len l
  have e2 : letS (S l) = l.all letC := rfl
  have e3 : words6.contains (S l) = wordsL.contains l := by
    have w : words6 = wordsL.map S := by decide +kernel
    rw [w, Bool.eq_iff_iff, List.contains_iff_mem, List.contains_iff_mem]
    constructor
    · intro h
      obtain ⟨y, hy, e⟩ := List.mem_map.mp h
      rw [← SX.S_inj e]
      exact hy
    · exact fun h => List.mem_map.mpr ⟨l, h, rfl⟩
  rw [e1, e2, e3]
/-- a text of so many signs, and no wrong one -/
def okS (l : List Nat) : Prop := l.length ≤ 1000 ∧ PyData.strOk (S l) = true
theorem okS.sml {l : List Nat} (h : okS l) : smlD (.str (S l)) = true := by
  unfold smlD
  rw [Bool.and_eq_true]
  exact ⟨decide_eq_true (by rw [SX.S_len]; exact h.1), h.2⟩
def spNum : Sp := fun vs H Q _ => ∃ l : List Nat, vs = [.str (S l)] ∧ okS l ∧ ∀ H', Same H H' → Q (.bl (numOk l)) H'
def PvG (H : Hp) (D : Addr) (l : List Nat) (p : Nat → Bool) (i : Nat) (H' : Hp) : Prop := Same H H' ∧ H' D = some (.lst (((l.take i).map p).map V.bl))
theorem PvG.step {H H4 : Hp} {D : Addr} {l : List Nat} {p : Nat → Bool} {i c : Nat} {b : Bool} (hD : H D = none) (hl : l.length ≤ 1000) (hc : l[i]? = some c) (q : PvG H D l p i H4) (hb : b = p c) : ∃ acc, H4 D = some (.lst acc) ∧ acc.length < sizeLine ∧ PvG H D l p (i + 1) (upd H4 D (.lst (acc ++ [.bl b]))) := by
  refine ⟨_, q.2, ?_, same_put hD q.1, ?_⟩
  · rw [List.length_map, List.length_map, List.length_take]
    have : (1000 : Nat) < sizeLine := by decide
    omega
  · rw [upd_same, hb, List.take_add_one, hc, List.map_append, List.map_append]
    rfl
theorem PvG.all {H H5 : Hp} {D : Addr} {l : List Nat} {p : Nat → Bool} (q : PvG H D l p l.length H5) : Same H H5 ∧ H5 D = some (.lst ((l.map p).map V.bl)) := by
  have e := q.2
  rw [List.take_length] at e
  exact ⟨q.1, e⟩
theorem at0N (c : Nat) (r : List Nat) : atI (S (c :: r)).cps.toList 0 = some c := by
  show (ixN (r.length + 1) 0).bind (fun j => (c :: r)[j]?) = some c
  have e : ixN (r.length + 1) 0 = some 0 := by
    unfold ixN
    rw [if_pos (Int.le_refl _), if_pos (by omega)]
    rfl
  rw [e]
  rfl
section
variable {P : Program} {w : World} {K : PySem.W.Frag} {mg : Str → Option Value} {base : Heap} {f : Addr} {fd : FuncData}
theorem scWN : FnScope ["text", "digit"] ["text"] (defScope sWrNum) := ⟨rfl, rfl, rfl, by decide +kernel, rfl, by decide +kernel, by decide +kernel⟩
theorem ok_wrnum (F : Fun K "_is_written_number" "_is_written_number" sWrNum f fd) (al : mg "all" = none) (dg : ∃ t, mg "DIGITS" = some (.str digits t)) : FnOk P w K mg base CX0 1 f fd ["text"] spNum := by
  refine F.ok scWN (fun vs H Q E h => ?_) (fun cdv A outer s H vs Q E hr h => ?_)
  · obtain ⟨l, rfl, _⟩ := h
    rfl
  · obtain ⟨l, rfl, hl, q⟩ := h
    obtain ⟨t2, g2⟩ := dg
    refine ⟨_, pss_one (ps_ret (pe_and (pe_cmpR op_ne (pv 0) pe_str (nomark _)) (pe_and (pe_cmpR op_ne (pe_ix ix_str (pv 0) pe_int (fun _ _ => rfl)) pe_str (nomark _))
      (pe_one (pe_callB (cr_all rfl) (by rfl) al (by decide +kernel) (pa_cons (pe_lc (own := [("digit", 1)]) rfl scWN.nd (pi_str (pv 0)) (blkOk_by (N := ["text", "digit"]) (sc := defScope sWrNum) (by decide +kernel))
          (fun _ _ _ _ _ => pg_name (i := 1) scWN.nd rfl (Or.inl rfl)) (fun _ _ _ _ _ => pts_nil) (fun _ _ _ _ _ => pe_cmpR op_in_str (pv 1) (pe_glob (v := .str digits) (by rfl) g2 ⟨t2, rfl⟩) (by rfl))) pa_nil)))))), ?_⟩
    refine ⟨_, rfl, rfl, _, rfl, ?_⟩
    cases l with
    | nil => exact iteF (q H (Same.refl H))
    | cons c r =>
      have e1 : (!decide (V.str (S (c :: r)) = V.str "")) = true := by
        rw [decide_eq_false (fun z => by
          have := congrArg (fun x : Str => x.cps.toList) (V.str.inj z)
          exact absurd this (List.cons_ne_nil _ _))]
        rfl
      rw [e1]
      have lz : (S (c :: r)).length ≤ sizeLine := by
        rw [SX.S_len]
        exact Nat.le_trans hl.1 (by decide)
      refine iteT ⟨_, rfl, S (c :: r), 0, c, rfl, rfl, lz, at0N c r, rfl, _, rfl, ?_⟩
      have e2 : (!decide (V.str { cps := #[c] } = V.str "0")) = (some c != some 48) := by
        have h : (V.str { cps := #[c] } = V.str "0") ↔ c = 48 := ⟨fun z => by
          have := congrArg (fun x : Str => x.cps.toList) (V.str.inj z)
          injection this, fun z => by rw [z]; rfl⟩
        by_cases h2 : c = 48
        · rw [decide_eq_true (h.mpr h2), h2]
          rfl
        · rw [decide_eq_false (fun z => h2 (h.mp z))]
          simp [h2]
      rw [e2]
      cases e3 : (some c != some 48) with
      | false =>
        have : numOk (c :: r) = false := by
          show (true && ((some c != some 48) && _)) = false
          rw [e3]
          rfl
        rw [this] at q
        exact iteF (q H (Same.refl H))
      | true =>
        refine iteT ⟨_, rfl, S (c :: r), rfl, fun Dl hD => lc_its (PvG H Dl (c :: r) digC) ⟨same_upd hD, upd_same⟩ (fun i x H3 hc p => ?_) (fun H5 p => ?_)⟩
        · exact ⟨rfl, _, rfl, ⟨#[x]⟩, digits, rfl, rfl, p.step hD hl.1 hc (in_digits x)⟩
        · obtain ⟨s5, e5⟩ := p.all
          refine ⟨Dl, _, rfl, SqL.of e5, ?_⟩
          have : numOk (c :: r) = (c :: r).all digC := by
            show (true && ((some c != some 48) && _)) = _
            rw [e3]
            rfl
          rw [this] at q
          have e6 : (((c :: r).map digC).all id) = (c :: r).all digC := by rw [List.all_map]; rfl
          rw [e6]
          exact q _ s5
end
end OM

namespace OM
open PySem PySem.Spec PyProof.Rows L2 VL
theorem ok_all {l : List Nat} : okS l ↔ l.length ≤ 1000 ∧ l.all (fun c => decide (c < 0x110000)) = true := by
  unfold okS PyData.strOk
  rw [← Array.all_toList]
theorem okS.left {a b : List Nat} (h : okS (a ++ b)) : okS a := by
  rw [ok_all] at h ⊢
  obtain ⟨h1, h2⟩ := h
  rw [List.all_append, Bool.and_eq_true] at h2
  rw [List.length_append] at h1
  exact ⟨by omega, h2.1⟩
theorem okS.right {a b : List Nat} (h : okS (a ++ b)) : okS b := by
  rw [ok_all] at h ⊢
  obtain ⟨h1, h2⟩ := h
  rw [List.all_append, Bool.and_eq_true] at h2
  rw [List.length_append] at h1
  exact ⟨by omega, h2.2⟩
theorem okS.len {l : List Nat} (h : okS l) : (S l).length ≤ sizeLine := by
  rw [SX.S_len]
  exact Nat.le_trans h.1 (by decide)
def spAtom : Sp := fun vs H Q _ => ∃ l : List Nat, vs = [.str (S l)] ∧ okS l ∧ ∀ H', Same H H' → Q (.bl (atomL l)) H'
theorem part46 (l : List Nat) : ∃ a b, l = a ++ b ∧ (∀ c ∈ a, c ≠ 46) ∧ ((b = [] ∧ Txt.partition (S l) (S [46]) = (S l, S [], S [])) ∨ ∃ n, b = 46 :: n ∧ Txt.partition (S l) (S [46]) = (S a, S [46], S n)) := by
  obtain ⟨a, b, rfl, ha, hb⟩ := split_at (p := (· != 46)) l
  have h : ∀ c ∈ a, c ≠ 46 := fun c hc => by simpa using List.all_eq_true.mp ha c hc
  refine ⟨a, b, rfl, h, ?_⟩
  cases b with
  | nil =>
    refine .inl ⟨rfl, ?_⟩
    rw [List.append_nil]
    exact SX.partition_none (by decide) (TL.par_none1 fun z => h 46 z rfl)
  | cons c n =>
    have hc : c = 46 := by simpa using hb c rfl
    subst hc
    refine .inr ⟨n, rfl, SX.partition_some (by decide) ?_⟩
    have := TL.par_part1 (s := 46) (S := []) (p := a) (rest := n) (acc := []) (fun z => h 46 z rfl)
    rw [List.nil_append] at this
    exact this
/-- the word for a kind -/
def kdS : Kd → Str
  | .fn => "function"
  | .op => "("
  | .cl => ")"
  | .cm => ", "
  | .at => "atom"
  | .wr => "wrong"
def spKindN : Sp := fun vs H Q _ => ∃ p a : List Nat, vs = [.str (S p), .str (S a)] ∧ okS p ∧ okS a ∧ ∀ H', Same H H' → Q (.str (kdS (kindOf p a))) H'
section
variable {P : Program} {w : World} {K : PySem.W.Frag} {mg : Str → Option Value} {base : Heap} {f fI fN fA : Addr} {fd dI dN dA : FuncData}
theorem scAt : FnScope ["word", "head", "dot", "number"] ["word"] (defScope sAtom) := ⟨rfl, rfl, rfl, by decide +kernel, rfl, by decide +kernel, by decide +kernel⟩
theorem ok_atom (F : Fun K "_is_atom" "_is_atom" sAtom f fd) (gI : mg "is_name" = some (.ref fI)) (kI : PySem.W.keepIn K (.ref fI) = true) (bI : Binds K dI ["value"] []) (GI : FnOk P w K mg base CX0 1 fI dI ["value"] spName)
    (gN : mg "_is_written_number" = some (.ref fN)) (kN : PySem.W.keepIn K (.ref fN) = true) (bN : Binds K dN ["text"] []) (GN : FnOk P w K mg base CX0 1 fN dN ["text"] spNum) : FnOk P w K mg base CX0 2 f fd ["word"] spAtom := by
  refine F.ok scAt (fun vs H Q E h => ?_) (fun cdv A outer s H vs Q E hr h => ?_)
  · obtain ⟨l, rfl, _⟩ := h
    rfl
  · obtain ⟨l, rfl, hl, q⟩ := h
    refine ⟨_, pss_cons (ps_asg (pe_bm PySem.F.plainAttrs_str PySem.F.slot_str_partition PySem.F.type_str_partition mt_partition (pv 0) (pa_cons pe_str pa_nil)) (pg_tup rfl (pgs_cons (pg_name (i := 1) scAt.nd rfl (Or.inl rfl)) (pgs_cons (pg_name (i := 2) scAt.nd rfl (Or.inl rfl)) (pgs_cons (pg_name (i := 3) scAt.nd rfl (Or.inl rfl)) pgs_nil)))))
      (pss_cons (ps_if (pt_not (pt_truth (pv 2) (fun _ => rfl))) (pss_one (ps_ret (pe_call GI hr (by rfl) gI kI bI .nil pass0 (pa_cons (pv 0) pa_nil)))) pss_nil)
      (pss_one (ps_ret (pe_and (pe_or (pe_call GI hr (by rfl) gI kI bI .nil pass0 (pa_cons (pv 1) pa_nil)) (pe_one (pe_cmpR op_eq (pv 1) pe_str (nomark _)))) (pe_one (pe_call GN hr (by rfl) gN kN bN .nil pass0 (pa_cons (pv 3) pa_nil))))))), ?_⟩
    refine ⟨_, rfl, rfl, S l, S [46], rfl, rfl, rfl, hl.len, fun p hp => ?_⟩
    have sp := same_upd (o := .tup [.str (Txt.partition (S l) (S [46])).1, .str (Txt.partition (S l) (S [46])).2.1, .str (Txt.partition (S l) (S [46])).2.2]) hp
    refine ⟨p, _, rfl, SqT.of upd_same, rfl, _, _, rfl, _, _, rfl, _, _, rfl, rfl, ?_⟩
    generalize upd H p _ = H1 at sp
    obtain ⟨a, b, rfl, h46, ⟨rfl, e⟩ | ⟨n, rfl, e⟩⟩ := part46 l
    · rw [e]
      refine ⟨_, rfl, false, ⟨Nat.zero_le _, rfl⟩, ⟨_, rfl, fun _ => True, _, .str (S (a ++ [])), rfl, .at (.str _), hl.sml, fun H' s' => ?_⟩⟩
      have z := q H' (sp.trans s')
      rw [List.append_nil] at z ⊢
      rw [atom_plain h46] at z
      rw [name_S]
      exact z
    · rw [e]
      have hA : okS a := hl.left
      have hN : okS n := okS.right (a := [46]) (hl.right)
      refine ⟨_, rfl, true, ⟨(by show (1 : Nat) ≤ sizeLine; decide), rfl⟩, ⟨_, rfl, fun _ => True, _, .str (S a), rfl, .at (.str _), hA.sml, fun H' s' => ?_⟩⟩
      rw [atom_dot h46] at q
      rw [name_S]
      have g : (decide (V.str (S a) = V.str "get")) = (a == getL) := by
        have h : (V.str (S a) = V.str "get") ↔ a = getL := ⟨fun z => SX.S_inj (b := getL) ((V.str.inj z).trans (by decide +kernel)), fun z => by rw [z]; exact congrArg V.str (by decide +kernel)⟩
        by_cases h2 : a = getL
        · rw [decide_eq_true (h.mpr h2), h2]
          rfl
        · rw [decide_eq_false (fun z => h2 (h.mp z))]
          simp [h2]
      have num : ∀ H2, Same H' H2 → (nameL a || a == getL) = true → tCall spNum [] E0 (tCons (tVar 3) tNil) (((List.set (L2.start ["word", "head", "dot", "number"] [V.str (S (a ++ 46 :: n))]) 1 (some (V.str (S a)))).set 2 (some (V.str (S [46])))).set 3 (some (V.str (S n)))) H2 Q := fun H2 s2 ok => by
        refine ⟨_, rfl, n, rfl, hN, fun H3 s3 => ?_⟩
        have z := q H3 (((sp.trans s').trans s2).trans s3)
        rw [ok, Bool.true_and] at z
        exact z
      refine ⟨_, rfl, ?_⟩
      cases hn : nameL a with
      | true => exact iteT ⟨_, rfl, iteT (num H' (Same.refl _) (by rw [hn]; rfl))⟩
      | false =>
        refine iteF ⟨_, rfl, rfl, _, rfl, ?_⟩
        rw [show (decide (V.str (S a, S [46], S n).1 = V.str "get")) = (a == getL) from g]
        cases hg : (a == getL) with
        | true => exact iteT (num H' (Same.refl _) (by rw [hn, hg]; rfl))
        | false =>
          have z := q H' (sp.trans s')
          rw [hn, hg] at z
          exact iteF z
theorem scKdN : FnScope ["piece", "after"] ["piece", "after"] (defScope sKindN) := ⟨rfl, rfl, rfl, by decide +kernel, rfl, by decide +kernel, by decide +kernel⟩
theorem ok_kindP (F : Fun K "_kind" "_kind" sKindN f fd) (gI : mg "is_name" = some (.ref fI)) (kI : PySem.W.keepIn K (.ref fI) = true) (bI : Binds K dI ["value"] []) (GI : FnOk P w K mg base CX0 1 fI dI ["value"] spName)
    (gA : mg "_is_atom" = some (.ref fA)) (kA : PySem.W.keepIn K (.ref fA) = true) (bA : Binds K dA ["word"] []) (GA : FnOk P w K mg base CX0 2 fA dA ["word"] spAtom) : FnOk P w K mg base CX0 3 f fd ["piece", "after"] spKindN := by
  refine F.ok scKdN (fun vs H Q E h => ?_) (fun cdv A outer s H vs Q E hr h => ?_)
  · obtain ⟨p, a, rfl, _⟩ := h
    rfl
  · obtain ⟨p, a, rfl, hp, ha, q⟩ := h
    refine ⟨_, pss_cons (ps_if (pt_cmpR op_in_seq (pv 0) (pe_tup (pa_cons pe_str (pa_cons pe_str (pa_cons pe_str pa_nil)))) (by rfl)) (pss_one (ps_ret (pv 0))) pss_nil)
      (pss_cons (ps_if (pt_cmpR op_eq (pv 1) pe_str (nomark _)) (pss_one (ps_ret (pe_ifExp (pt_val (pe_call GI (hr.mono (by decide)) (by rfl) gI kI bI .nil pass0 (pa_cons (pv 0) pa_nil))) pe_str pe_str))) pss_nil)
      (pss_one (ps_ret (pe_ifExp (pt_val (pe_call GA hr (by rfl) gA kA bA .nil pass0 (pa_cons (pv 0) pa_nil))) pe_str pe_str)))), ?_⟩
    refine ⟨_, rfl, (by show 3 ≤ sizeLine; decide), fun t ht => ⟨t, _, rfl, .inr (SqT.of upd_same), rfl, by decide, _, rfl, ?_⟩⟩
    have st := same_upd (o := .tup [V.str "(", V.str ")", V.str ", "]) ht
    generalize upd H t _ = H1 at st
    have sb : ∀ a b : List Nat, (V.str (S a) = V.str (S b)) ↔ a = b := fun a b => ⟨fun z => SX.S_inj (V.str.inj z), fun z => by rw [z]⟩
    have e1 : (S [40] : Str) = "(" := by decide +kernel
    have e2 : (S [41] : Str) = ")" := by decide +kernel
    have e3 : (S [44, 32] : Str) = ", " := by decide +kernel
    have ei : inV (V.str (S p)) [V.str "(", V.str ")", V.str ", "] = (decide (p = [40]) || (decide (p = [41]) || decide (p = [44, 32]))) := by
      unfold inV
      simp only [List.any_cons, List.any_nil, Bool.or_false]
      rw [← e1, ← e2, ← e3]
      have q : ∀ b : List Nat, eqV (V.str (S b)) (V.str (S p)) = decide (p = b) := fun b => by
        show (S b == S p) = _
        rw [SX.S_beq_eq]
        exact decide_eq_decide.mpr ⟨fun z => z.symm, fun z => z.symm⟩
      rw [q, q, q]
    rw [ei]
    unfold VL.kindOf at q
    by_cases h1 : p = [40]
    · subst h1
      exact iteT ⟨_, rfl, q H1 st⟩
    rw [if_neg h1] at q
    by_cases h2 : p = [41]
    · subst h2
      exact iteT ⟨_, rfl, q H1 st⟩
    rw [if_neg h2] at q
    by_cases h3 : p = [44, 32]
    · subst h3
      exact iteT ⟨_, rfl, q H1 st⟩
    rw [if_neg h3] at q
    rw [decide_eq_false h1, decide_eq_false h2, decide_eq_false h3]
    refine iteF ⟨_, rfl, rfl, _, rfl, ?_⟩
    have ea : decide (V.str (S a) = V.str "(") = decide (a = [40]) := by
      rw [← e1]
      exact decide_eq_decide.mpr (sb a [40])
    rw [ea]
    by_cases h4 : a = [40]
    · rw [if_pos h4] at q
      rw [decide_eq_true h4]
      refine iteT ⟨_, rfl, fun _ => True, _, .str (S p), rfl, .at (.str _), hp.sml, fun H' s' => ⟨_, rfl, ?_⟩⟩
      rw [name_S]
      have z := q H' (st.trans s')
      cases hn : nameL p with
      | true =>
        rw [hn] at z
        exact iteT z
      | false =>
        rw [hn] at z
        exact iteF z
    · rw [if_neg h4] at q
      rw [decide_eq_false h4]
      refine iteF ⟨_, rfl, p, rfl, hp, fun H' s' => ⟨_, rfl, ?_⟩⟩
      have z := q H' (st.trans s')
      cases hn : atomL p with
      | true =>
        rw [hn] at z
        exact iteT z
      | false =>
        rw [hn] at z
        exact iteF z
end
end OM

namespace OM
open PySem PySem.Spec PyProof.Rows L2 VL
abbrev sKinds : Stmt := top 23
/-- over two lists side by side, the second one not longer -/
theorem lc_zipL {K : PySem.W.Frag} {a b : Addr} {xs ys : List V} {g : TG} {tt : TT} {te : TE} {vs : List Nat} {σ : L2.St} {H1 : Hp} {D : Addr} {Qd : Hp → Prop} (hlen : ys.length ≤ xs.length) (Pv : Nat → Hp → Prop) (h0 : Pv 0 (upd H1 D (.lst []))) (hl : ∀ i H, Pv i H → SqL K H a xs ∧ SqL K H b ys)
    (hs : ∀ i x y T H, xs[i]? = some x → ys[i]? = some y → Pv i H → H T = none → g (.ref T) (wipe σ vs) (upd H T (.tup [x, y])) fun σ2 H2 => wipe σ2 vs = wipe σ vs ∧ tt σ2 H2 fun b H3 =>
      if b = true then te σ2 H3 fun y H4 => ∃ acc, H4 D = some (.lst acc) ∧ acc.length < sizeLine ∧ Pv (i + 1) (upd H4 D (.lst (acc ++ [y]))) else Pv (i + 1) H3) (hd : ∀ H, Pv ys.length H → Qd H) :
    ∃ W : Nat → Nat → Hp → Prop, (∃ m, W 0 m (upd H1 D (.lst []))) ∧ ∀ i m H, W i m H →
      ((Itz K a b).stop i H ∧ Qd H) ∨ ((Itz K a b).go i H ∧ ∃ Nx : Hp → Prop, (∀ H', Nx H' → ∃ m', m' < m ∧ W (i + 1) m' H') ∧ ∀ v H', (Itz K a b).yld i H v H' → g v (wipe σ vs) H' fun σ2 H2 => wipe σ2 vs = wipe σ vs ∧ tt σ2 H2 fun b H3 =>
        if b = true then te σ2 H3 fun y H4 => ∃ acc, H4 D = some (.lst acc) ∧ acc.length < sizeLine ∧ Nx (upd H4 D (.lst (acc ++ [y]))) else Nx H3) := by
  refine ⟨fun i m H => i ≤ ys.length ∧ m = ys.length - i ∧ Pv i H, ⟨_, Nat.zero_le _, rfl, h0⟩, ?_⟩
  rintro i m H ⟨hi, rfl, p⟩
  obtain ⟨qx, qy⟩ := hl i H p
  rcases Nat.lt_or_ge i ys.length with hlt | hge
  · have hx : xs[i]? = some (xs[i]'(by omega)) := List.getElem?_eq_getElem (by omega)
    have hy : ys[i]? = some ys[i] := List.getElem?_eq_getElem hlt
    refine .inr ⟨⟨xs, ys, _, _, qx, qy, hx, hy⟩, Pv (i + 1), fun H' p' => ⟨ys.length - (i + 1), by omega, hlt, rfl, p'⟩, ?_⟩
    rintro v H' ⟨T, x', y', rfl, hT, rfl, f1, f2⟩
    exact hs i x' y' T H (f1 xs qx) (f2 ys qy) p hT
  · obtain rfl : i = ys.length := by omega
    exact .inl ⟨⟨xs, ys, qx, qy, .inr (Nat.le_refl _)⟩, hd H p⟩
/-- a list that grows into zs -/
def PvV (H : Hp) (D : Addr) (zs : List V) (i : Nat) (G : Hp) : Prop := Same H G ∧ G D = some (.lst (zs.take i))
theorem PvV.zero {H : Hp} {D : Addr} {zs : List V} (hD : H D = none) : PvV H D zs 0 (upd H D (.lst [])) := ⟨same_upd hD, by rw [upd_same, List.take_zero]⟩
theorem PvV.step {H G G2 : Hp} {D : Addr} {zs : List V} {i : Nat} {z : V} (p : PvV H D zs i G) (hD : H D = none) (s : Same G G2) (hz : zs[i]? = some z) (hl : zs.length ≤ 1000) : ∃ acc, G2 D = some (.lst acc) ∧ acc.length < sizeLine ∧ PvV H D zs (i + 1) (upd G2 D (.lst (acc ++ [z]))) := by
  refine ⟨_, s _ _ p.2, ?_, same_put hD (p.1.trans s), ?_⟩
  · rw [List.length_take]
    have li := (List.getElem?_eq_some_iff.mp hz).1
    have : (1000 : Nat) < sizeLine := by decide
    omega
  · rw [upd_same, List.take_add_one, hz]
    rfl
theorem PvV.all {H G : Hp} {D : Addr} {zs : List V} {i : Nat} (p : PvV H D zs i G) (h : zs.length ≤ i) : Same H G ∧ G D = some (.lst zs) := by
  have e := p.2
  rw [List.take_of_length_le h] at e
  exact ⟨p.1, e⟩
abbrev vS (l : List Nat) : V := .str (S l)
abbrev vK (k : Kd) : V := .str (kdS k)
theorem kinds_zip : ∀ ps : List (List Nat), kinds ps = List.zipWith kindOf ps (ps.tail ++ [[]])
  | [] => rfl
  | p :: r => by
    show kindOf p (r.headD []) :: kinds r = List.zipWith kindOf (p :: r) (r ++ [[]])
    rw [kinds_zip r]
    cases r with
    | nil => rfl
    | cons q r => rfl
theorem kinds_len (ps : List (List Nat)) : (kinds ps).length = ps.length := by
  induction ps with
  | nil => rfl
  | cons p r ih =>
    show (kindOf p (r.headD []) :: kinds r).length = _
    rw [List.length_cons, List.length_cons, ih]
theorem kinds_at {ps : List (List Nat)} {i : Nat} {p a : List Nat} (h1 : ps[i]? = some p) (h2 : (ps.tail ++ [[]])[i]? = some a) : (kinds ps)[i]? = some (kindOf p a) := by
  rw [kinds_zip, List.getElem?_zipWith, h1, h2]
def spKinds : Sp := fun vs H Q _ => ∃ (a : Addr) (ps : List (List Nat)), vs = [.ref a] ∧ H a = some (.lst (ps.map vS)) ∧ (∀ p ∈ ps, okS p) ∧ ps.length ≤ 900 ∧ ∀ H' b, Same H H' → H b = none → H' b = some (.lst ((kinds ps).map vK)) → Q (.ref b) H'
theorem cutT {x : V} {r : List V} : cutV (x :: r) (some 1) none = r := by
  unfold cutV
  rw [show HT.sIx (x :: r).length 0 (some 1) = 1 from by
    rw [show (some (1 : Int)) = some ((1 : Nat) : Int) from rfl, HT.sIx_nat]
    show min 1 (r.length + 1) = 1
    omega, HT.sIx_none]
  show (r.take (r.length + 1 - 1)) = r
  rw [Nat.add_sub_cancel, List.take_length]
/-- the first list is empty -/
theorem lc_zip0 {K : PySem.W.Frag} {a b : Addr} {ys : List V} {g : TG} {tt : TT} {te : TE} {vs : List Nat} {σ : L2.St} {H1 : Hp} {D : Addr} {Qd : Hp → Prop} (ha : SqL K (upd H1 D (.lst [])) a []) (hb : SqL K (upd H1 D (.lst [])) b ys) (hd : Qd (upd H1 D (.lst []))) :
    ∃ W : Nat → Nat → Hp → Prop, (∃ m, W 0 m (upd H1 D (.lst []))) ∧ ∀ i m H, W i m H →
      ((Itz K a b).stop i H ∧ Qd H) ∨ ((Itz K a b).go i H ∧ ∃ Nx : Hp → Prop, (∀ H', Nx H' → ∃ m', m' < m ∧ W (i + 1) m' H') ∧ ∀ v H', (Itz K a b).yld i H v H' → g v (wipe σ vs) H' fun σ2 H2 => wipe σ2 vs = wipe σ vs ∧ tt σ2 H2 fun b H3 =>
        if b = true then te σ2 H3 fun y H4 => ∃ acc, H4 D = some (.lst acc) ∧ acc.length < sizeLine ∧ Nx (upd H4 D (.lst (acc ++ [y]))) else Nx H3) := by
  refine ⟨fun i m H => H = upd H1 D (.lst []), ⟨0, rfl⟩, ?_⟩
  rintro i m H rfl
  exact .inl ⟨⟨[], ys, ha, hb, .inl (Nat.zero_le _)⟩, hd⟩
section
variable {P : Program} {w : World} {K : PySem.W.Frag} {mg : Str → Option Value} {base : Heap} {f fK : Addr} {fd dK : FuncData}
theorem scKs : FnScope ["pieces", "piece", "after"] ["pieces"] (defScope sKinds) := ⟨rfl, rfl, rfl, by decide +kernel, rfl, by decide +kernel, by decide +kernel⟩
theorem ok_kinds (F : Fun K "_kinds" "_kinds" sKinds f fd) (zp : mg "zip" = none) (gK : mg "_kind" = some (.ref fK)) (kK : PySem.W.keepIn K (.ref fK) = true) (bK : Binds K dK ["piece", "after"] []) (GK : FnOk P w K mg base CX0 3 fK dK ["piece", "after"] spKindN) : FnOk P w K mg base CX0 4 f fd ["pieces"] spKinds := by
  refine F.ok scKs (fun vs H Q E h => ?_) (fun cdv A outer s H vs Q E hr h => ?_)
  · obtain ⟨a, ps, rfl, _⟩ := h
    rfl
  · obtain ⟨a, ps, rfl, ea, hp, hl, q⟩ := h
    refine ⟨_, pss_one (ps_ret (pe_lc (g := gTup K 2 (gCons (gName 1) (gCons (gName 2) gNil))) (own := [("piece", 1), ("after", 2)]) rfl scKs.nd (pi_zip (by rfl) zp (pa_cons (pv 0) (pa_cons (pe_op op_cat (pe_slice sl_list (pv 0) (po_some pe_int) po_none) (pe_lst (pa_cons pe_str pa_nil))) pa_nil))) (blkOk_by (N := ["pieces", "piece", "after"]) (sc := defScope sKinds) (by decide +kernel))
          (fun _ _ _ _ _ => pg_tup rfl (pgs_cons (pg_name (i := 1) scKs.nd rfl (Or.inl rfl)) (pgs_cons (pg_name (i := 2) scKs.nd rfl (Or.inl rfl)) pgs_nil))) (fun _ _ _ _ _ => pts_nil) (fun _ _ _ _ _ => pe_call GK hr (by rfl) gK kK bK .nil pass0 (pa_cons (pv 1) (pa_cons (pv 2) pa_nil))))), ?_⟩
    refine ⟨_, rfl, _, rfl, 1, rfl, a, _, rfl, SqL.of ea, fun p1 hp1 => ?_⟩
    have ect : cutV (ps.map vS) (some 1) none = ps.tail.map vS := by
      cases ps with
      | nil => rfl
      | cons p r => exact cutT
    rw [ect]
    refine ⟨(by show 1 ≤ sizeLine; decide), fun p2 hp2 => ?_⟩
    have s1 := same_upd (o := .lst (ps.tail.map vS)) hp1
    have s2 := same_upd (o := .lst [V.str ""]) hp2
    refine ⟨p1, p2, _, _, rfl, rfl, s2 _ _ upd_same, upd_same, ?_, fun p3 hp3 => ?_⟩
    · rw [List.length_map, List.length_tail]
      have : (1000 : Nat) < sizeLine := by decide
      show ps.length - 1 + 1 ≤ _
      omega
    have s3 := same_upd (o := .lst (ps.tail.map vS ++ [V.str ""])) hp3
    have ey : ps.tail.map vS ++ [V.str ""] = (ps.tail ++ [[]]).map vS := by
      rw [List.map_append]
      rfl
    have e3 : (upd (upd (upd H p1 (.lst (ps.tail.map vS))) p2 (.lst [V.str ""])) p3 (.lst (ps.tail.map vS ++ [V.str ""]))) p3 = some (.lst ((ps.tail ++ [[]]).map vS)) := by
      rw [← ey]
      exact upd_same
    have s13 := (s1.trans s2).trans s3
    generalize upd _ p3 _ = H3 at s13 e3
    cases ps with
    | nil =>
      refine ⟨a, p3, [], _, rfl, SqL.of (s13 _ _ ea), SqL.of e3, fun D hD => lc_zip0 (SqL.of (same_upd hD _ _ (s13 _ _ ea))) (SqL.of (same_upd hD _ _ e3)) ?_⟩
      exact q _ D (s13.trans (same_upd hD)) (s13.free hD) upd_same
    | cons p0 r =>
      refine ⟨a, p3, _, _, rfl, SqL.of (s13 _ _ ea), SqL.of e3, fun D hD => lc_zipL (by simp) (PvV H3 D ((kinds (p0 :: r)).map vK)) (PvV.zero hD) (fun i G p => ⟨SqL.of (p.1 _ _ (s13 _ _ ea)), SqL.of (p.1 _ _ e3)⟩) (fun i x y T G hi hj p hT => ?_) (fun G p => ?_)⟩
      · rw [List.getElem?_map] at hi hj
        obtain ⟨pp, g1, rfl⟩ := Option.map_eq_some_iff.mp hi
        obtain ⟨aa, g2, rfl⟩ := Option.map_eq_some_iff.mp hj
        have oa : okS aa := by
          rcases List.mem_append.mp (List.mem_of_getElem? g2) with z | z
          · exact hp aa (List.mem_of_mem_tail z)
          · rw [List.mem_singleton.mp z]
            exact ⟨Nat.zero_le _, by decide +kernel⟩
        refine ⟨T, _, rfl, SqT.of upd_same, rfl, _, _, rfl, _, _, rfl, rfl, rfl, _, rfl, _, rfl, pp, aa, rfl, hp pp (List.mem_of_getElem? g1), oa, fun G2 s => ?_⟩
        exact p.step hD ((same_upd hT).trans s) (by rw [List.getElem?_map, kinds_at g1 g2]; rfl) (by rw [List.length_map, kinds_len]; omega)
      · obtain ⟨sD, eD⟩ := p.all (by rw [List.length_map, kinds_len, List.length_map]; simp)
        exact q G D (s13.trans sD) (s13.free hD) eD
end
end OM

namespace OM
open PySem PySem.Spec PyProof.Rows L2 VL
abbrev sNest : Stmt := top 28
/-- xs[-1], as a value that is changed -/
def rLast (K : PySem.W.Frag) : V → V → Hp → VK → Prop := fun x y H Q => ∃ p xs v, x = .ref p ∧ y = .int (-1) ∧ SqL K H p xs ∧ xs[xs.length - 1]? = some v ∧ Q v H
theorem pget_last {X : Cx} : PGet X (rLast X.K) := by
  intro pins s σ H x y v u Q I rx ry h
  obtain ⟨p, xs, z, rfl, rfl, hq, he, q⟩ := h
  cases rx
  obtain ⟨t, rfl⟩ := ry
  obtain ⟨its, r, pl, hz⟩ := I.list hq
  obtain ⟨w, ew, rw'⟩ := r.get he
  have hl := r.length
  have li := (List.getElem?_eq_some_iff.mp he).1
  have hn := line63
  have e : ((-1 : Int) + (its.toArray.size : Int)).toNat = xs.length - 1 := by
    rw [List.size_toArray]
    omega
  exact wpAny_getItem_list_neg pl.isList (by decide) (by rw [List.size_toArray]; omega) (by omega) (by rw [e]; simpa using ew) ⟨z, H, I, rw', q⟩
theorem isK (k : Kd) : decide (vK k = V.str "(") = decide (k = .op) ∧ decide (vK k = V.str ")") = decide (k = .cl) ∧ decide (vK k = V.str ", ") = decide (k = .cm) := by cases k <;> decide +kernel
abbrev vI (n : Nat) : V := .int (n : Int)
def spNest : Sp := fun vs H Q _ => ∃ (a : Addr) (ks : List Kd), vs = [.ref a] ∧ H a = some (.lst (ks.map vK)) ∧ ks.length ≤ 900 ∧ ∀ H', Same H H' → Q (.bl (nest [] ks)) H'
/-- the stack of commas, as the list at c has it -/
def NS (H : Hp) (c : Addr) (ks : List Kd) (i : Nat) (G : Hp) : Prop := Same H G ∧ ∃ st : List Nat, G c = some (.lst (st.reverse.map vI)) ∧ nest [] ks = nest st (ks.drop i) ∧ st.length ≤ i ∧ ∀ n ∈ st, n ≤ 1
section
variable {P : Program} {w : World} {K : PySem.W.Frag} {mg : Str → Option Value} {base : Heap} {f : Addr} {fd : FuncData}
theorem scNs : FnScope ["kinds", "commas", "kind"] ["kinds"] (defScope sNest) := ⟨rfl, rfl, rfl, by decide +kernel, rfl, by decide +kernel, by decide +kernel⟩
theorem ok_nestP (F : Fun K "_is_nested" "_is_nested" sNest f fd) (mA : ∃ t, mg "MAX_ARGUMENTS" = some (.int 2 t)) : FnOk P w K mg base CX0 1 f fd ["kinds"] spNest := by
  obtain ⟨t2, g2⟩ := mA
  refine F.ok scNs (fun vs H Q E h => ?_) (fun cdv A outer s H vs Q E hr h => ?_)
  · obtain ⟨a, ks, rfl, _⟩ := h
    rfl
  · obtain ⟨a, ks, rfl, ea, hl, q⟩ := h
    refine ⟨_, pss_cons (ps_set (i := 1) scNs.nd rfl (Or.inl rfl) (pe_lst pa_nil))
      (pss_cons (ps_for PassesOwn.never rfl (pi_list (pv 0)) (pg_name (i := 2) scNs.nd rfl (Or.inl rfl))
        (pss_one (ps_if (pt_cmpR op_eq (pv 2) pe_str (nomark _)) (pss_one (ps_expr (pe_bm PySem.F.plainAttrs_list PySem.F.slot_list_append PySem.F.type_list_append mt_append (pv 1) (pa_cons pe_int pa_nil))))
          (pss_one (ps_if (pt_cmpR op_eq (pv 2) pe_str (nomark _)) (pss_cons (ps_if (pt_not (pt_truth (pv 1) (fun _ => rfl))) (pss_one (ps_ret pe_bl)) pss_nil) (pss_one (ps_expr (pe_bm0 PySem.F.plainAttrs_list PySem.F.slot_list_pop PySem.F.type_list_pop mt_pop (pv 1)))))
            (pss_one (ps_if (pt_cmpR op_eq (pv 2) pe_str (nomark _))
              (pss_cons (ps_if (PW.pt (pw_or (pt_not (pt_truth (pv 1) (fun _ => rfl))) (pw_or1 (pt_cmpR op_eq (pe_ix ix_list (pv 1) (pe_un un_neg pe_int) (fun _ _ => rfl)) (pe_op op_sub (pe_glob (v := .int 2) (by rfl) g2 ⟨t2, rfl⟩) pe_int) (nomark _))))) (pss_one (ps_ret pe_bl)) pss_nil)
                (pss_one (ps_augS (pv 1) (pe_un un_neg pe_int) pget_last pe_int ip_add L2.set_list))) pss_nil)))))))
      (pss_one (ps_ret (pe_notT (pv 1))))), ?_⟩
    have line : (1000 : Nat) < sizeLine := by decide
    refine ⟨(by show 0 ≤ sizeLine; decide), fun c hc => ?_⟩
    have sc := same_upd (o := .lst []) hc
    refine ⟨_, rfl, _, rfl, ⟨_, SqL.of (sc _ _ ea)⟩, for_list (xs := ks.map vK) (fun i σ G => (∃ x2, σ = [some (.ref a), some (.ref c), x2]) ∧ NS H c ks i G) ⟨⟨_, rfl⟩, sc, [], upd_same, rfl, Nat.zero_le _, fun n hn => by cases hn⟩ (fun i σ G _ h => SqL.of (h.2.1 _ _ ea)) (fun i x σ G hx h => ?_) (fun σ G h => ?_)⟩
    · obtain ⟨⟨x2, rfl⟩, sG, st, ec, en, ll, bd⟩ := h
      rw [List.getElem?_map] at hx
      obtain ⟨k, hk, rfl⟩ := Option.map_eq_some_iff.mp hx
      have ik := (List.getElem?_eq_some_iff.mp hk).1
      have ed : ks.drop i = k :: ks.drop (i + 1) := by
        rw [List.drop_eq_getElem_cons ik]
        congr 1
        have := List.getElem?_eq_getElem ik
        rw [hk] at this
        exact (Option.some.inj this).symm
      rw [ed] at en
      have sq : SqL K G c (st.reverse.map vI) := SqL.of ec
      have lr : (st.reverse.map vI).length = st.length := by rw [List.length_map, List.length_reverse]
      have put : ∀ st' : List Nat, Same H (upd G c (.lst (st'.reverse.map vI))) := fun _ => same_put hc sG
      obtain ⟨i1, i2, i3⟩ := isK k
      refine ⟨_, rfl, rfl, _, rfl, ?_⟩
      rw [i1]
      cases k with
      | op =>
        refine iteT ⟨_, rfl, .inl ⟨rfl, _, sq⟩, c, _, _, rfl, rfl, ec, by rw [lr]; omega, ⟨_, rfl⟩, ?_⟩
        have e : st.reverse.map vI ++ [.int 0] = (0 :: st).reverse.map vI := by
          rw [List.reverse_cons, List.map_append]
          rfl
        rw [e]
        refine ⟨put _, 0 :: st, upd_same, en, by rw [List.length_cons]; omega, fun n hn => ?_⟩
        rcases List.mem_cons.mp hn with rfl | hn
        · omega
        · exact bd n hn
      | cl =>
        refine iteF ⟨_, rfl, rfl, _, rfl, ?_⟩
        rw [i2]
        refine iteT ?_
        cases st with
        | nil =>
          have z := q G sG
          rw [en] at z
          exact ⟨_, rfl, false, .inl ⟨_, sq, rfl⟩, z⟩
        | cons n st =>
          have e : (n :: st).reverse.map vI = st.reverse.map vI ++ [vI n] := by
            rw [List.reverse_cons, List.map_append]
            rfl
          rw [e] at sq ec
          refine ⟨_, rfl, true, .inl ⟨_, sq, by simp⟩, ?_⟩
          refine ⟨_, rfl, .inl ⟨rfl, _, sq⟩, c, _, vI n, rfl, rfl, ec, by simp, ⟨_, rfl⟩, ?_⟩
          rw [List.dropLast_concat]
          exact ⟨put _, st, upd_same, en, by rw [List.length_cons] at ll; omega, fun m hm => bd m (List.mem_cons_of_mem _ hm)⟩
      | cm =>
        refine iteF ⟨_, rfl, rfl, _, rfl, ?_⟩
        rw [i2]
        refine iteF ⟨_, rfl, rfl, _, rfl, ?_⟩
        rw [i3]
        refine iteT ?_
        cases st with
        | nil =>
          have z := q G sG
          rw [en] at z
          exact ⟨_, rfl, false, .inl ⟨_, sq, rfl⟩, z⟩
        | cons n st =>
          have e : (n :: st).reverse.map vI = st.reverse.map vI ++ [vI n] := by
            rw [List.reverse_cons, List.map_append]
            rfl
          rw [e] at sq ec
          refine ⟨_, rfl, true, .inl ⟨_, sq, by simp⟩, ?_⟩
          have nb := bd n (List.mem_cons_self ..)
          refine ⟨_, rfl, 1, rfl, ⟨c, _, _, vI n, rfl, rfl, sq, atI_last _ _, 2, 1, rfl, rfl, rfl, _, rfl, ?_⟩⟩
          by_cases h1 : n = 1
          · subst h1
            have z := q G sG
            rw [en] at z
            exact z
          · have h0 : n = 0 := by omega
            subst h0
            refine ⟨_, rfl, 1, rfl, c, _, vI 0, rfl, rfl, sq, by simp, 0, 1, rfl, rfl, c, _, _, st.reverse.length, rfl, rfl, ec, ?_, ⟨_, rfl⟩, ?_⟩
            · unfold ixN
              rw [List.length_append, List.length_map, if_neg (by decide), if_pos (by simp; omega)]
              congr 1
              simp
              omega
            · have es : (st.reverse.map vI ++ [vI 0]).set st.reverse.length (.int (0 + 1)) = (1 :: st).reverse.map vI := by
                rw [List.set_append_right _ _ (by simp), List.reverse_cons, List.map_append]
                simp
              rw [es]
              refine ⟨put _, 1 :: st, upd_same, en, Nat.le_succ_of_le ll, fun m hm => ?_⟩
              rcases List.mem_cons.mp hm with rfl | hm
              · exact Nat.le_refl _
              · exact bd m (List.mem_cons_of_mem _ hm)
      | fn =>
        refine iteF ⟨_, rfl, rfl, _, rfl, ?_⟩
        rw [i2]
        refine iteF ⟨_, rfl, rfl, _, rfl, ?_⟩
        rw [i3]
        exact iteF ⟨⟨_, rfl⟩, sG, st, ec, en, by omega, bd⟩
      | «at» =>
        refine iteF ⟨_, rfl, rfl, _, rfl, ?_⟩
        rw [i2]
        refine iteF ⟨_, rfl, rfl, _, rfl, ?_⟩
        rw [i3]
        exact iteF ⟨⟨_, rfl⟩, sG, st, ec, en, by omega, bd⟩
      | wr =>
        refine iteF ⟨_, rfl, rfl, _, rfl, ?_⟩
        rw [i2]
        refine iteF ⟨_, rfl, rfl, _, rfl, ?_⟩
        rw [i3]
        exact iteF ⟨⟨_, rfl⟩, sG, st, ec, en, by omega, bd⟩
    · obtain ⟨⟨x2, rfl⟩, sG, st, ec, en, ll, bd⟩ := h
      have le : (ks.map vK).length = ks.length := List.length_map _
      rw [le, List.drop_length] at en
      refine ⟨_, rfl, _, .inl ⟨_, SqL.of ec, rfl⟩, ?_⟩
      have z := q G sG
      rw [en] at z
      have e : (!(!(st.reverse.map vI).isEmpty)) = st.isEmpty := by
        rw [Bool.not_not]
        cases st with
        | nil => rfl
        | cons n st => simp
      rw [e]
      exact z
end
end OM

namespace OM
open PySem PySem.Spec PyProof.Rows L2 VL
section
variable {X : Cx} {d : Addr} {es : Array DictEntry} {n : Nat}
/-- a written dict's get with a default -/
def tKGet (d : Addr) (K : PySem.W.Frag) (td ty tx : TE) : TE := fun σ H Q => td σ H fun x H1 => x = .ref d ∧ ty σ H1 fun y H2 => tx σ H2 fun z H3 => ∃ (k : Str) (r : Option Value), y = .str k ∧ PySem.W.nsIn K d k = some r ∧ (∀ u0, r = some u0 → ∃ v0, RelV v0 u0 ∧ Q v0 H3) ∧ (r = none → Q z H3)
theorem pe_kget {o e f : Expr} {apos cpos : Pos} {td ty tx : TE} (D : KDict X.K X.w d es n) (ho : PE X o td) (he : PE X e ty) (hf : PE X f tx) (m : M2 X o "get" apos e f cpos) : PE X (.Call (.Attribute o "get" apos) [e, f] [] cpos) (tKGet d X.K td ty tx) := by
  refine ⟨fun pins s σ H Q I h => ?_⟩
  refine wpAny_Call_method m.base m.few m.line PySem.F.plainAttrs_dict PySem.F.slot_dict_get PySem.F.type_dict_get (thn (ho.run pins s σ H _ I h) fun u s1 ⟨x, H1, I1, rx, ex, q1⟩ => ?_)
  subst ex
  obtain rfl : u = Value.ref d := rx
  refine ⟨kd_type D I1, fun b q => ?_, ?_⟩
  · cases q
    exact ⟨_, I1.kIn d _ D.at_, rfl⟩
  rw [m.trees]
  refine Calls.callWith_builtin rfl (Calls.evalArgs_plain (Calls.spliced_cons (thn (he.run pins s1 σ H1 _ I1 q1) fun iv s2 ⟨y, H2, I2, ry, q2⟩ =>
    Calls.spliced_cons (thn (hf.run pins s2 σ H2 _ I2 q2) fun fv s3 ⟨z, H3, I3, rz, k, r, ek, hk, q3, q4⟩ => Calls.spliced_nil ?_))))
  subst ek
  obtain ⟨t, rfl⟩ := ry
  refine call_meetsIn PySem.F.slot_dict_get (kd_type D I3) PySem.F.entry_dict_get (PySem.F.args_dict_get_3 _ _ _) (meets_dict_get_default (PySem.strKind X.prog X.w) d (PySem.strKind_is X.prog X.w k t) D.low fv) ⟨_, PySem.W.mapOf_K (prog := X.prog) I3.kIn D.at_ D.lit, ?_⟩
  rw [PySem.W.find_K D.at_ hk]
  cases r with
  | none => exact ⟨z, H3, I3.tok _, rz, q4 rfl⟩
  | some u0 =>
    obtain ⟨v0, r0, q0⟩ := q3 u0 rfl
    exact ⟨v0, H3, I3.tok _, r0, q0⟩
theorem pe_kgetK {K : PySem.W.Frag} {w : World} {o e f : Expr} {apos cpos : Pos} {td ty tx : TE} (D : KDict K w d es n) (ho : PE X o td) (he : PE X e ty) (hf : PE X f tx) (hK : X.K = K) (hw : X.w = w) (m : M2 X o "get" apos e f cpos) : PE X (.Call (.Attribute o "get" apos) [e, f] [] cpos) (tKGet d K td ty tx) := by
  subst hK hw
  exact pe_kget D ho he hf m
end
theorem op_in_seqK {X : Cx} {K : PySem.W.Frag} (hK : X.K = K) : OpR X (compareOp .In) (rIn K false) := by
  subst hK
  exact op_in_seq
abbrev sTurn : Stmt := top 27
/-- FOLLOWERS -/
def folL : Option Kd → List Str
  | none => ["function", "atom"]
  | some .fn => ["("]
  | some .op => ["function", "atom", ")"]
  | some .cm => ["function", "atom"]
  | some .at => [", ", ")", "end"]
  | some .cl => [", ", ")", "end"]
  | some .wr => []
def prS : Option Kd → Str
  | none => "start"
  | some k => kdS k
def nxS : Option Kd → Str
  | none => "end"
  | some k => kdS k
theorem fol_in (a b : Option Kd) : inV (.str (nxS b)) ((folL a).map V.str) = fol a b := by
  cases a with
  | none =>
    cases b with
    | none => decide +kernel
    | some k => cases k <;> decide +kernel
  | some j =>
    cases b with
    | none => cases j <;> decide +kernel
    | some k => cases j <;> cases k <;> decide +kernel
structure FollF (K : PySem.W.Frag) (w : World) (mg : Str → Option Value) : Prop where
  ex : ∃ d es n, mg "FOLLOWERS" = some (.ref d) ∧ KDict K w d es n ∧ (∀ a, a ≠ some .wr → ∃ t, PySem.W.nsIn K d (prS a) = some (some (.ref t)) ∧ ∀ H, SqT K H t ((folL a).map V.str)) ∧ PySem.W.nsIn K d "wrong" = some none
theorem turn_zip : ∀ (ks : List Kd) (prev : Option Kd), turn prev ks = (List.zipWith fol (prev :: ks.map some) (ks.map some ++ [none])).all id
  | [], prev => by
    show fol prev none = (fol prev none && true)
    rw [Bool.and_true]
  | k :: r, prev => by
    show (fol prev (some k) && turn (some k) r) = (fol prev (some k) && (List.zipWith fol (some k :: r.map some) (r.map some ++ [none])).all id)
    rw [turn_zip r (some k)]
def spTurn : Sp := fun vs H Q _ => ∃ (a : Addr) (ks : List Kd), vs = [.ref a] ∧ H a = some (.lst (ks.map vK)) ∧ ks.length ≤ 900 ∧ ∀ H', Same H H' → Q (.bl (turn none ks)) H'
section
variable {P : Program} {w : World} {K : PySem.W.Frag} {mg : Str → Option Value} {base : Heap} {f : Addr} {fd : FuncData}
theorem scTu : FnScope ["kinds", "kind", "after"] ["kinds"] (defScope sTurn) := ⟨rfl, rfl, rfl, by decide +kernel, rfl, by decide +kernel, by decide +kernel⟩
theorem ok_turn (F : Fun K "_is_in_turn" "_is_in_turn" sTurn f fd) (zp : mg "zip" = none) (al : mg "all" = none) (FF : FollF K w mg) : FnOk P w K mg base CX0 1 f fd ["kinds"] spTurn := by
  obtain ⟨d, es, n, gF, D, six, wr⟩ := FF.ex
  refine F.ok scTu (fun vs H Q E h => ?_) (fun cdv A outer s H vs Q E hr h => ?_)
  · obtain ⟨a, ks, rfl, _⟩ := h
    rfl
  · obtain ⟨a, ks, rfl, ea, hl, q⟩ := h
    refine ⟨_, pss_one (ps_ret (pe_callB (cr_all rfl) (by rfl) al (by decide +kernel) (pa_cons (pe_lc (g := gTup K 2 (gCons (gName 1) (gCons (gName 2) gNil))) (own := [("kind", 1), ("after", 2)]) rfl scTu.nd (pi_zip (by rfl) zp (pa_cons (pe_op op_cat (pe_lst (pa_cons pe_str pa_nil)) (pv 0)) (pa_cons (pe_op op_cat (pv 0) (pe_lst (pa_cons pe_str pa_nil))) pa_nil))) (blkOk_by (N := ["kinds", "kind", "after"]) (sc := defScope sTurn) (by decide +kernel))
          (fun _ _ _ _ _ => pg_tup rfl (pgs_cons (pg_name (i := 1) scTu.nd rfl (Or.inl rfl)) (pgs_cons (pg_name (i := 2) scTu.nd rfl (Or.inl rfl)) pgs_nil))) (fun _ _ _ _ _ => pts_nil) (fun _ _ _ _ _ => pe_cmpR (op_in_seqK (K := K) rfl) (pv 2) (pe_kgetK (K := K) (w := w) D (pe_glob (v := .ref d) (by rfl) gF rfl) (pv 1) (pe_tup pa_nil) rfl rfl ⟨rfl, rfl, rfl, rfl⟩) (by rfl))) pa_nil))), ?_⟩
    have line : (1000 : Nat) < sizeLine := by decide
    refine ⟨(by show 1 ≤ sizeLine; decide), fun p1 h1 => ?_⟩
    have s1 := same_upd (o := .lst [V.str "start"]) h1
    refine ⟨_, rfl, p1, a, _, _, rfl, rfl, upd_same, s1 _ _ ea, (by show 1 + (ks.map vK).length ≤ _; rw [List.length_map]; omega), fun p2 h2 => ?_⟩
    have ex : [V.str "start"] ++ ks.map vK = (none :: ks.map some).map (fun b => V.str (prS b)) := by
      rw [List.map_cons, List.map_map]
      rfl
    rw [ex]
    have s2 := same_upd (o := .lst ((none :: ks.map some).map (fun b => V.str (prS b)))) h2
    refine ⟨_, rfl, (by show 1 ≤ sizeLine; decide), fun p3 h3 => ?_⟩
    have s3 := same_upd (o := .lst [V.str "end"]) h3
    refine ⟨a, p3, _, _, rfl, rfl, s3 _ _ (s2 _ _ (s1 _ _ ea)), upd_same, (by show (ks.map vK).length + 1 ≤ _; rw [List.length_map]; omega), fun p4 h4 => ?_⟩
    have ey : ks.map vK ++ [V.str "end"] = (ks.map some ++ [none]).map (fun b => V.str (nxS b)) := by
      rw [List.map_append, List.map_map]
      rfl
    rw [ey]
    have s4 := same_upd (o := .lst ((ks.map some ++ [none]).map (fun b => V.str (nxS b)))) h4
    have e2 := s4 _ _ (s3 _ _ (upd_same (H := upd H p1 (.lst [V.str "start"])) (a := p2) (o := .lst ((none :: ks.map some).map (fun b => V.str (prS b))))))
    have e4 := upd_same (H := upd (upd (upd H p1 (.lst [V.str "start"])) p2 (.lst ((none :: ks.map some).map (fun b => V.str (prS b))))) p3 (.lst [V.str "end"])) (a := p4) (o := .lst ((ks.map some ++ [none]).map (fun b => V.str (nxS b))))
    have s14 := ((s1.trans s2).trans s3).trans s4
    generalize upd _ p4 _ = H4 at s14 e2 e4
    have lz : (List.zipWith fol (none :: ks.map some) (ks.map some ++ [none])).length = ks.length + 1 := by
      rw [List.length_zipWith]
      simp
    refine ⟨p2, p4, _, _, rfl, SqL.of e2, SqL.of e4, fun D0 hD => lc_zipL (by simp) (PvV H4 D0 ((List.zipWith fol (none :: ks.map some) (ks.map some ++ [none])).map V.bl)) (PvV.zero hD) (fun i G p => ⟨SqL.of (p.1 _ _ e2), SqL.of (p.1 _ _ e4)⟩) (fun i x y T G hi hj p hT => ?_) (fun G p => ?_)⟩
    · rw [List.getElem?_map] at hi hj
      obtain ⟨pa, g1, rfl⟩ := Option.map_eq_some_iff.mp hi
      obtain ⟨nb, g2, rfl⟩ := Option.map_eq_some_iff.mp hj
      have fin : ∀ G2, Same G G2 → ∃ acc, G2 D0 = some (.lst acc) ∧ acc.length < sizeLine ∧ PvV H4 D0 ((List.zipWith fol (none :: ks.map some) (ks.map some ++ [none])).map V.bl) (i + 1) (upd G2 D0 (.lst (acc ++ [.bl (fol pa nb)]))) := fun G2 s => p.step hD s (by
        rw [List.getElem?_map, List.getElem?_zipWith, g1, g2]
        rfl) (by rw [List.length_map, lz]; omega)
      have sT := same_upd (o := .tup [V.str (prS pa), V.str (nxS nb)]) hT
      refine ⟨T, _, rfl, SqT.of upd_same, rfl, _, _, rfl, _, _, rfl, rfl, rfl, _, rfl, rfl, _, rfl, (by show 0 ≤ sizeLine; decide), fun T2 hT2 => ?_⟩
      have sT2 := same_upd (o := .tup []) hT2
      by_cases hw : pa = some .wr
      · subst hw
        refine ⟨"wrong", none, rfl, wr, (fun u0 z => by cases z), fun _ => ⟨T2, [], rfl, .inr (SqT.of upd_same), rfl, by decide, ?_⟩⟩
        have e : inV (V.str (nxS nb)) [] = fol (some .wr) nb := fol_in (some .wr) nb
        rw [e]
        exact fin _ (sT.trans sT2)
      · obtain ⟨t, ht, sq⟩ := six pa hw
        refine ⟨prS pa, _, rfl, ht, fun u0 z => ?_, fun z => by cases z⟩
        cases z
        refine ⟨.ref t, rfl, t, _, rfl, .inr (sq _), rfl, ?_, ?_⟩
        · cases pa with
          | none => decide
          | some k => cases k <;> decide
        · rw [fol_in]
          exact fin _ (sT.trans sT2)
    · obtain ⟨sD, eD⟩ := p.all (by rw [List.length_map, lz]; simp)
      refine ⟨D0, _, rfl, SqL.of eD, ?_⟩
      rw [← turn_zip ks none]
      exact q G (s14.trans sD)
end
end OM

namespace OM
open PySem PySem.Spec PyProof.Rows L2 VL
abbrev sIsVal : Stmt := top 17
/-- words and signs: what they are made of -/
theorem toks_of : ∀ (n : Nat) (l acc : List Nat), l.length ≤ n → ∀ p ∈ toks acc l, (∀ c ∈ p, c ∈ acc ++ l) ∧ p.length ≤ acc.length + l.length
  | _, [], acc, _, p, hp => by
    have hp : p ∈ fl acc [] := hp
    unfold fl at hp
    split at hp
    · cases hp
    · rw [List.mem_singleton.mp hp, List.append_nil]
      exact ⟨fun c hc => hc, Nat.le_refl _⟩
  | 0, c :: r, _, h, _, _ => absurd h (Nat.not_succ_le_zero _)
  | n + 1, c :: r, acc, hl, p, hp => by
    have lr : r.length ≤ n := by simp at hl; omega
    have flm : ∀ {t : List Nat} {L : List (List Nat)}, p ∈ fl acc (t :: L) → p = acc ∨ p = t ∨ p ∈ L := fun {t L} h => by
      unfold fl at h
      split at h
      · rcases List.mem_cons.mp h with z | z
        · exact .inr (.inl z)
        · exact .inr (.inr z)
      · rcases List.mem_cons.mp h with z | h
        · exact .inl z
        · rcases List.mem_cons.mp h with z | z
          · exact .inr (.inl z)
          · exact .inr (.inr z)
    rcases way c r with h | ⟨r', rfl, rfl⟩ | ⟨h, h2⟩
    · rw [toks_d h] at hp
      rcases flm hp with rfl | rfl | hp
      · exact ⟨fun x hx => List.mem_append_left _ hx, by omega⟩
      · exact ⟨fun x hx => by rw [List.mem_singleton.mp hx]; simp, by simp; omega⟩
      · obtain ⟨a, b⟩ := toks_of n r [] lr p hp
        exact ⟨fun x hx => List.mem_append_right _ (List.mem_cons_of_mem _ (a x hx)), by simp at b ⊢; omega⟩
    · rw [toks_cm] at hp
      rcases flm hp with rfl | rfl | hp
      · exact ⟨fun x hx => List.mem_append_left _ hx, by omega⟩
      · exact ⟨fun x hx => by
          rcases List.mem_cons.mp hx with rfl | hx
          · simp
          · rw [List.mem_singleton.mp hx]; simp, by simp; omega⟩
      · obtain ⟨a, b⟩ := toks_of n r' [] (by simp at lr; omega) p hp
        exact ⟨fun x hx => List.mem_append_right _ (List.mem_cons_of_mem _ (List.mem_cons_of_mem _ (a x hx))), by simp at b ⊢; omega⟩
    · rw [toks_o h h2] at hp
      obtain ⟨a, b⟩ := toks_of n r (acc ++ [c]) lr p hp
      refine ⟨fun x hx => ?_, by simp at b ⊢; omega⟩
      have := a x hx
      simp at this ⊢
      rcases this with h | h | h
      · exact .inl h
      · exact .inr (.inl h)
      · exact .inr (.inr h)
theorem toks_many : ∀ (n : Nat) (l acc : List Nat), l.length ≤ n → (toks acc l).length ≤ l.length + 1 ∧ (acc = [] → (toks acc l).length ≤ l.length)
  | _, [], acc, _ => by
    show (fl acc []).length ≤ 1 ∧ (acc = [] → (fl acc []).length ≤ 0)
    unfold fl
    split
    · exact ⟨Nat.zero_le _, fun _ => Nat.le_refl _⟩
    · rename_i h
      exact ⟨Nat.le_refl _, fun z => absurd z h⟩
  | 0, c :: r, _, h => absurd h (Nat.not_succ_le_zero _)
  | n + 1, c :: r, acc, hl => by
    have lr : r.length ≤ n := by simp at hl; omega
    have fll : ∀ {t : List Nat} {L : List (List Nat)}, (fl acc (t :: L)).length ≤ L.length + 2 ∧ (acc = [] → (fl acc (t :: L)).length ≤ L.length + 1) := fun {t L} => by
      unfold fl
      split
      · exact ⟨by simp, fun _ => by simp⟩
      · rename_i h
        exact ⟨by simp, fun z => absurd z h⟩
    rcases way c r with h | ⟨r', rfl, rfl⟩ | ⟨h, h2⟩
    · rw [toks_d h]
      have a := (toks_many n r [] lr).2 rfl
      have b := fll (t := [c]) (L := toks [] r)
      exact ⟨by simp; omega, fun z => by have := b.2 z; simp; omega⟩
    · rw [toks_cm]
      have a := (toks_many n r' [] (by simp at lr; omega)).2 rfl
      have b := fll (t := [44, 32]) (L := toks [] r')
      exact ⟨by simp; omega, fun z => by have := b.2 z; simp; omega⟩
    · rw [toks_o h h2]
      have a := (toks_many n r (acc ++ [c]) lr).1
      exact ⟨by simp; omega, fun _ => by simp; omega⟩
theorem toks_ok {l p : List Nat} (h : okS l) (hp : p ∈ toks [] l) : okS p := by
  rw [ok_all] at h ⊢
  obtain ⟨h1, h2⟩ := h
  obtain ⟨a, b⟩ := toks_of l.length l [] (Nat.le_refl _) p hp
  refine ⟨by simp at b; omega, List.all_eq_true.mpr fun c hc => ?_⟩
  have := a c hc
  rw [List.nil_append] at this
  exact List.all_eq_true.mp h2 c this
def spPieces : Sp := fun vs H Q _ => ∃ l : List Nat, vs = [.str (S l)] ∧ okS l ∧ l.length ≤ 900 ∧ 10 ∉ l ∧ ∀ H' b, Same H H' → H b = none → H' b = some (.lst ((toks [] l).map vS)) → Q (.ref b) H'
/-- whether a datum is a value -/
def isValL (l : List Nat) : Bool := !l.contains 10 && valueL l
def isValD : PyData → Bool
  | .str x => isValL x.cps.toList
  | _ => false
def shortD : PyData → Bool
  | .str x => decide (x.length ≤ 900)
  | _ => true
def spVal : Sp := fun vs H Q _ => ∃ (S : Addr → Prop) (v : V) (d : PyData), vs = [v] ∧ Dt S H v d ∧ smlD d = true ∧ shortD d = true ∧ ∀ H', Same H H' → Q (.bl (isValD d)) H'
theorem in_nl (x : Str) : (!(Builtin.Str.occurrences x ⟨#[10]⟩ 0 x.length 1).isEmpty) = x.cps.toList.contains 10 := by
  rw [StrLaws.found_one, Bool.eq_iff_iff, decide_eq_true_eq, List.contains_iff_mem]
section
variable {P : Program} {w : World} {K : PySem.W.Frag} {mg : Str → Option Value} {base : Heap} {f fP fK fT fN : Addr} {fd dP dK dT dN : FuncData}
theorem scIV : FnScope ["value", "kinds"] ["value"] (defScope sIsVal) := ⟨rfl, rfl, rfl, by decide +kernel, rfl, by decide +kernel, by decide +kernel⟩
theorem ok_isval (F : Fun K "is_value" "is_value" sIsVal f fd) (isi : mg "isinstance" = none) (st : mg "str" = none) (gP : mg "_pieces" = some (.ref fP)) (kP : PySem.W.keepIn K (.ref fP) = true) (bP : Binds K dP ["text"] []) (GP : FnOk P w K mg base CX0 1 fP dP ["text"] spPieces)
    (gK : mg "_kinds" = some (.ref fK)) (kK : PySem.W.keepIn K (.ref fK) = true) (bK : Binds K dK ["pieces"] []) (GK : FnOk P w K mg base CX0 4 fK dK ["pieces"] spKinds)
    (gT : mg "_is_in_turn" = some (.ref fT)) (kT : PySem.W.keepIn K (.ref fT) = true) (bT : Binds K dT ["kinds"] []) (GT : FnOk P w K mg base CX0 1 fT dT ["kinds"] spTurn)
    (gN : mg "_is_nested" = some (.ref fN)) (kN : PySem.W.keepIn K (.ref fN) = true) (bN : Binds K dN ["kinds"] []) (GN : FnOk P w K mg base CX0 1 fN dN ["kinds"] spNest) : FnOk P w K mg base CX0 5 f fd ["value"] spVal := by
  refine F.ok scIV (fun vs H Q E h => ?_) (fun cdv A outer s H vs Q E hr h => ?_)
  · obtain ⟨_, v, d, rfl, _⟩ := h
    rfl
  · obtain ⟨S0, v, d, rfl, hd, sm, sh, q⟩ := h
    refine ⟨_, pss_cons (ps_if (PW.pt (pw_or (pt_not (pt_val (pe_callB call_isi (by rfl) isi (by decide +kernel) (pa_cons (pv 0) (pa_cons (pe_bltn (v := .ty "str") (u := .type "str") (by rfl) st (by decide +kernel) rfl) pa_nil))))) (pw_or1 (pt_cmpR op_in_str pe_str (pv 0) (by rfl))))) (pss_one (ps_ret pe_bl)) pss_nil)
      (pss_cons (ps_set (i := 1) scIV.nd rfl (Or.inl rfl) (pe_call GK hr (by rfl) gK kK bK .nil pass0 (pa_cons (pe_call GP (hr.mono (by decide)) (by rfl) gP kP bP .nil pass0 (pa_cons (pv 0) pa_nil)) pa_nil)))
      (pss_one (ps_ret (pe_and (pe_call GT (hr.mono (by decide)) (by rfl) gT kT bT .nil pass0 (pa_cons (pv 1) pa_nil)) (pe_one (pe_call GN (hr.mono (by decide)) (by rfl) gN kN bN .nil pass0 (pa_cons (pv 1) pa_nil))))))), ?_⟩
    cases hs : isStrD d with
    | false =>
      have e : isValD d = false := by cases d <;> first | rfl | cases hs
      refine isi_te (x := v) rfl hd.tyx ((kit_str d).trans (congrArg some hs)) ⟨_, rfl, ?_⟩
      have z := q H (Same.refl _)
      rw [e] at z
      exact z
    | true =>
      cases d with
      | str x =>
        have ev : v = .str x := by
          cases hd with
          | «at» a => cases a <;> rfl
        subst ev
        obtain ⟨l, rfl⟩ : ∃ l : List Nat, x = S l := ⟨x.cps.toList, (SX.S_tl x).symm⟩
        have sm2 : (decide ((S l).length ≤ 1000) && PyData.strOk (S l)) = true := by unfold smlD at sm; exact sm
        rw [Bool.and_eq_true, decide_eq_true_eq, SX.S_len] at sm2
        have ok : okS l := ⟨sm2.1, sm2.2⟩
        have l9 : l.length ≤ 900 := by
          have : decide ((S l).length ≤ 900) = true := sh
          rw [decide_eq_true_eq, SX.S_len] at this
          exact this
        refine isi_te (x := .str (S l)) rfl hd.tyx ((kit_str (.str (S l))).trans rfl) ⟨_, rfl, ?_⟩
        have en : ("\n" : Str) = ⟨#[10]⟩ := by decide +kernel
        refine ⟨_, rfl, "\n", S l, rfl, rfl, _, rfl, ?_⟩
        have eo : (!(Builtin.Str.occurrences (S l) ("\n" : Str) 0 (S l).length 1).isEmpty) = l.contains 10 := by
          rw [en]
          exact in_nl (S l)
        rw [eo]
        cases h10 : l.contains 10 with
        | true =>
          have e : isValD (.str (S l)) = false := by
            show (!l.contains 10 && valueL l) = false
            rw [h10]
            rfl
          have z := q H (Same.refl _)
          rw [e] at z
          exact iteT z
        | false =>
          have n10 : 10 ∉ l := fun z => by
            have := List.contains_iff_mem.mpr z
            rw [h10] at this
            cases this
          have e : isValD (.str (S l)) = valueL l := by
            show (!l.contains 10 && valueL l) = valueL l
            rw [h10]
            rfl
          rw [e] at q
          have many := (toks_many l.length l [] (Nat.le_refl _)).2 rfl
          refine iteF ⟨_, rfl, l, rfl, ok, l9, n10, fun H1 b s1 _ eb => ⟨b, toks [] l, rfl, eb, fun p hp => toks_ok ok hp, by omega, fun H2 k s2 _ ek => ?_⟩⟩
          have kl : (KS l).length ≤ 900 := by
            rw [show (KS l).length = (toks [] l).length from kinds_len _]
            omega
          refine ⟨_, rfl, k, KS l, rfl, ek, kl, fun H3 s3 => ⟨_, rfl, ?_⟩⟩
          unfold valueL at q
          cases ht : turn none (KS l) with
          | false =>
            have z := q H3 ((s1.trans s2).trans s3)
            rw [ht] at z
            exact iteF z
          | true =>
            refine iteT ⟨_, rfl, k, KS l, rfl, s3 _ _ ek, kl, fun H4 s4 => ?_⟩
            have z := q H4 (((s1.trans s2).trans s3).trans s4)
            rw [ht, Bool.true_and] at z
            exact z
      | _ => cases hs
end
end OM

namespace OM
open PySem PySem.Spec PyProof.Rows L2
abbrev sIsAns : Stmt := top 18
abbrev sAsked : Stmt := top 19
abbrev sAsc : Stmt := top 59
/-! ### answers -/
structure VOk (x : Str) : Prop where
  sml : smlD (.str x) = true
  shr : shortD (.str x) = true
  val : isValD (.str x) = true
/-- a dict of answers, as a list -/
structure AnsK (kvs : List (List Key × V)) : Prop where
  nd : (kvs.map (·.1)).Nodup
  at_ : ∀ p ∈ kvs, ∃ (t x : Str) (b : Bool), p = (keyP (t, x), .bl b) ∧ Nm t ∧ VOk x
  few : kvs.length ≤ 50
def askK (kvs : List (List Key × V)) (p x : Str) : Bool := match valV kvs (keyP (p, x)) with
  | some (.bl b) => b
  | _ => false
theorem AnsK.ask {kvs : List (List Key × V)} (h : AnsK kvs) (p x : Str) : (valV kvs (keyP (p, x))).getD (.bl false) = .bl (askK kvs p x) := by
  unfold askK
  cases e : valV kvs (keyP (p, x)) with
  | none => rfl
  | some v =>
    obtain ⟨t, y, b, e2, _⟩ := h.at_ _ (valV_some e)
    injection e2 with _ e2
    subst e2
    rfl
theorem AnsK.askD {H : Hp} {a : Addr} {kvs : List (List Key × V)} (h : AnsK kvs) (e : H a = some (.dT kvs)) : AskD H a (askK kvs) := ⟨kvs, e, h.ask⟩
theorem AnsK.nil : AnsK [] := ⟨List.nodup_nil, fun _ h => (by cases h), Nat.zero_le _⟩
theorem putK_keys {α : Type} [DecidableEq α] {kvs : List (α × V)} {k : α} {v : V} : (putK kvs k v).map (·.1) = if (valV kvs k).isSome then kvs.map (·.1) else kvs.map (·.1) ++ [k] := by
  unfold putK
  rw [valV_any]
  split
  · rw [List.map_map]
    refine List.map_congr_left fun p _ => ?_
    show (if p.1 = k then (p.1, v) else p).1 = p.1
    split <;> rfl
  · rw [List.map_append]
    rfl
theorem AnsK.put {kvs : List (List Key × V)} (h : AnsK kvs) {t x : Str} {b : Bool} (ht : Nm t) (hx : VOk x) (l : kvs.length < 50) : AnsK (putK kvs (keyP (t, x)) (.bl b)) := by
  refine ⟨?_, fun p hp => ?_, Nat.le_trans (length_putK _ _ _) l⟩
  · rw [putK_keys]
    cases e : valV kvs (keyP (t, x)) with
    | some v => exact h.nd
    | none =>
      refine List.nodup_append.mpr ⟨h.nd, by simp, fun a ha c hc => ?_⟩
      rw [List.mem_singleton.mp hc]
      intro z
      obtain ⟨p, hp, rfl⟩ := List.mem_map.mp ha
      exact valV_none e p hp z
  · unfold putK at hp
    split at hp
    · obtain ⟨q, hq, rfl⟩ := List.mem_map.mp hp
      show ∃ t' x' b', (if q.1 = keyP (t, x) then (q.1, V.bl b) else q) = _ ∧ _
      split
      · rename_i z
        exact ⟨t, x, b, by rw [z], ht, hx⟩
      · exact h.at_ q hq
    · rcases List.mem_append.mp hp with hp | hp
      · exact h.at_ p hp
      · rw [List.mem_singleton.mp hp]
        exact ⟨t, x, b, rfl, ht, hx⟩
theorem isiK {K : PySem.W.Frag} (X : Cx) (h : X.K = K) : CallR X (.builtin "isinstance") (rIsi K) := h ▸ call_isi
def spAsked : Sp := fun vs H Q _ => ∃ (a : Addr) (t x : Str), vs = [.ref a] ∧ H a = some (.tup [.str t, .str x]) ∧ Nm t ∧ VOk x ∧ ∀ H', Same H H' → Q (.bl true) H'
def spIsAns : Sp := fun vs H Q _ => ∃ (a : Addr) (kvs : List (List Key × V)), vs = [.ref a] ∧ H a = some (.dT kvs) ∧ AnsK kvs ∧ ∀ H', Same H H' → Q (.bl true) H'
/-- a dict in order: the same at each key -/
def spAscT : Sp := fun vs H Q _ => (vs = [.non] ∧ ∀ H' D, Same H H' → H D = none → H' D = some (.dT []) → Q (.ref D) H') ∨
  ∃ (a : Addr) (kvs : List (List Key × V)), vs = [.ref a] ∧ H a = some (.dT kvs) ∧ AnsK kvs ∧ ∀ H' D lvs, Same H H' → H D = none → H' D = some (.dT lvs) → AnsK lvs → (∀ k, valV lvs k = valV kvs k) → Q (.ref D) H'
def spAscK : Sp := fun vs H Q _ => ∃ v : V, vs = [v] ∧ (v = .non ∨ ∃ a, v = .ref a ∧ H a = some (.dK [])) ∧ ∀ H' D, Same H H' → H D = none → H' D = some (.dK []) → Q (.ref D) H'
section
variable {P : Program} {w : World} {K : PySem.W.Frag} {mg : Str → Option Value} {base : Heap} {f fN fV fA : Addr} {fd dN dV dA : FuncData}
theorem scAk : FnScope ["value"] ["value"] (defScope sAsked) := ⟨rfl, rfl, rfl, by decide +kernel, rfl, by decide +kernel, by decide +kernel⟩
theorem ok_asked (F : Fun K "_is_asked" "_is_asked" sAsked f fd) (T : TxtN K mg) (tup : mg "tuple" = none) (gN : mg "is_name" = some (.ref fN)) (FN : Fun K "is_name" "is_name" sIsName fN dN) (bN : Binds K dN ["value"] [])
    (gV : mg "is_value" = some (.ref fV)) (kV' : PySem.W.keepIn K (.ref fV) = true) (bV : Binds K dV ["value"] []) (GV : FnOk P w K mg base CX0 5 fV dV ["value"] spVal) : FnOk P w K mg base CX0 6 f fd ["value"] spAsked := by
  have GN : FnOk P w K mg base CX0 1 fN dN ["value"] spName := ok_isname FN T
  refine F.ok scAk (fun vs H Q E h => ?_) (fun cdv A outer s H vs Q E hr h => ?_)
  · obtain ⟨a, t, x, rfl, _⟩ := h
    rfl
  · obtain ⟨a, t, x, rfl, ea, ht, hx, q⟩ := h
    refine ⟨_, pss_one (ps_ret (pe_and (pe_callB call_isi (by rfl) T.isi (by decide +kernel) (pa_cons (pv 0) (pa_cons (pe_bltn (v := .ty "tuple") (u := .type "tuple") (by rfl) tup (by decide +kernel) rfl) pa_nil)))
      (pe_and (pe_cmpR op_eq (pe_callB call_len_seq (by rfl) T.len PySem.boot_len (pa_cons (pv 0) pa_nil)) pe_int (nomark _))
      (pe_and (pe_call GN (hr.mono (by decide)) (by rfl) gN FN.kp bN .nil pass0 (pa_cons (pe_ix (r := rIxT K) ix_tup (pv 0) pe_int (fun _ _ => rfl)) pa_nil))
      (pe_one (pe_call GV hr (by rfl) gV kV' bV .nil pass0 (pa_cons (pe_ix (r := rIxT K) ix_tup (pv 0) pe_int (fun _ _ => rfl)) pa_nil))))))), ?_⟩
    refine isi_te (x := .ref a) rfl (.base (.tup ea)) (r := true) (show kitB "tuple" "tuple" = some true by decide +kernel) ⟨_, rfl, iteT ?_⟩
    refine ⟨_, rfl, a, _, rfl, .inr (SqT.of ea), rfl, _, rfl, ?_⟩
    refine iteT ⟨_, rfl, a, _, 0, _, rfl, rfl, SqT.of ea, at0, fun _ => True, .str t, .str t, rfl, .at (.str t), nm_sml ht, fun H1 s1 => ⟨_, rfl, ?_⟩⟩
    have et : isNameD (.str t) = true := ht
    rw [et]
    refine iteT ⟨_, rfl, a, _, 1, .str x, rfl, rfl, SqT.of (s1 _ _ ea), rfl, fun _ => True, .str x, .str x, rfl, .at (.str x), hx.sml, hx.shr, fun H2 s2 => ?_⟩
    rw [hx.val]
    exact q _ (s1.trans s2)
theorem scIAn : FnScope ["value", "pair"] ["value"] (defScope sIsAns) := ⟨rfl, rfl, rfl, by decide +kernel, rfl, by decide +kernel, by decide +kernel⟩
theorem ok_isans (F : Fun K "is_answers" "is_answers" sIsAns f fd) (isi : mg "isinstance" = none) (di : mg "dict" = none) (bo : mg "bool" = none) (al : mg "all" = none) (gA : mg "_is_asked" = some (.ref fA)) (kA : PySem.W.keepIn K (.ref fA) = true) (bA : Binds K dA ["value"] []) (GA : FnOk P w K mg base CX0 6 fA dA ["value"] spAsked) :
    FnOk P w K mg base CX0 7 f fd ["value"] spIsAns := by
  refine F.ok scIAn (fun vs H Q E h => ?_) (fun cdv A outer s H vs Q E hr h => ?_)
  · obtain ⟨a, kvs, rfl, _⟩ := h
    rfl
  · obtain ⟨a, kvs, rfl, ea, hk, q⟩ := h
    refine ⟨_, pss_one (ps_ret (pe_and (pe_callB call_isi (by rfl) isi (by decide +kernel) (pa_cons (pv 0) (pa_cons (pe_bltn (v := .ty "dict") (u := .type "dict") (by rfl) di (by decide +kernel) rfl) pa_nil)))
      (pe_one (pe_callB (cr_all rfl) (by rfl) al (by decide +kernel) (pa_cons (pe_lock (pe_lc (own := [("pair", 1)]) rfl scIAn.nd (pi_keys (pv 0)) (blkOk_by (N := ["value", "pair"]) (sc := defScope sIsAns) (by decide +kernel)) (fun _ _ _ _ _ => pg_name (i := 1) scIAn.nd rfl (Or.inl rfl)) (fun _ _ _ _ _ => pts_nil)
        (fun _ _ _ _ _ => pe_and (pe_call GA hr (by rfl) gA kA bA .nil pass0 (pa_cons (pv 1) pa_nil)) (pe_one (pe_callB (isiK (K := K) _ rfl) (by rfl) isi (by decide +kernel) (pa_cons (pe_dget (hu_of hr) (pv 0) (pv 1) (fun _ _ => rfl)) (pa_cons (pe_bltn (v := .ty "bool") (u := .type "bool") (by rfl) bo (by decide +kernel) rfl) pa_nil))))))) pa_nil))))), ?_⟩
    refine isi_te (x := .ref a) rfl (.base (.dT ea)) (r := true) (show kitB "dict" "dict" = some true by decide +kernel) ⟨_, rfl, iteT ?_⟩
    refine ⟨a, .dT kvs, ea, True.intro, fun od => ⟨_, rfl, a, od, rfl, .inr ⟨kvs, upd_same, fun D hD => lc_it walk_keysT (PvM (upd H a (.frz od (.dT kvs))) D (kvs.map fun _ => true)) (PvM.zero hD) (fun i G _ p => p.1 _ _ upd_same) (fun i x G G' hi p y => ?_) (fun G p => ?_)⟩⟩⟩
    · obtain ⟨rfl, k, v, qk, hk1, rfl, eqk⟩ := y
      obtain ⟨t, x, b, e2, ht, hx⟩ := hk.at_ _ (List.mem_of_getElem? hk1)
      injection e2 with e2 e3
      subst e2
      subst e3
      have ev := valV_at hk.nd _ (List.mem_of_getElem? hk1)
      refine ⟨rfl, _, rfl, qk, t, x, rfl, eqk, ht, hx, fun G2 s2 => ⟨_, rfl, iteT ?_⟩⟩
      refine ⟨_, rfl, _, rfl, a, _, rfl, .inr ⟨kvs, keyP (t, x), qk, .inr ⟨od, s2 _ _ (p.1 _ _ upd_same)⟩, rfl, s2 _ _ eqk, ev.symm⟩, ?_⟩
      show rIsi K [V.bl b, V.ty "bool"] G2 (fun y H4 => ∃ acc, H4 D = some (.lst acc) ∧ acc.length < sizeLine ∧ PvM (upd H a (.frz od (.dT kvs))) D (kvs.map fun _ => true) (i + 1) (upd H4 D (.lst (acc ++ [y]))))
      refine isi_b (.base (.bl b)) (show kitB "bool" "bool" = some true by decide +kernel) ?_
      exact PvM.step hD (by rw [List.length_map]; have := hk.few; omega) (by rw [List.getElem?_map, hk1]; rfl) p s2
    · obtain ⟨s5, e5⟩ := p.all (by rw [List.length_map])
      have aD : D ≠ a := fun z => by
        rw [z, upd_same] at hD
        cases hD
      refine ⟨s5 _ _ upd_same, D, kvs.map fun _ => true, rfl, SqL.of (by rw [upd_ne aD]; exact e5), ?_⟩
      have ev : ((kvs.map fun _ => true).all id) = true := List.all_eq_true.mpr fun b hb => by
        obtain ⟨_, _, rfl⟩ := List.mem_map.mp hb
        rfl
      rw [ev]
      exact q _ (unlock_same ea s5)
abbrev nAsc : List Str := ["told", "key"]
theorem scAsc : FnScope nAsc ["told"] (defScope sAsc) := ⟨rfl, rfl, rfl, by decide +kernel, rfl, by decide +kernel, by decide +kernel⟩
theorem ok_ascT (F : Fun K "_ascending" "_ascending" sAsc f fd) (srt : mg "sorted" = none) : FnOk P w K mg base CX0 1 f fd ["told"] spAscT := by
  refine F.ok scAsc (fun vs H Q E h => ?_) (fun cdv A outer s H vs Q E hr h => ?_)
  · rcases h with ⟨rfl, _⟩ | ⟨a, kvs, rfl, _⟩ <;> rfl
  · refine ⟨_, pss_one (ps_ret (pe_ifExp (pt_cmp (pc_isN (pv 0))) pe_dnewT (pe_dcT (own := [("key", 1)]) (Nat.lt_of_succ_lt (hu_of hr)) rfl scAsc.nd (pi_list (pe_callB (call_sortedDT rfl) (by rfl) srt (by decide +kernel) (pa_cons (pv 0) pa_nil))) (blkOk_by (N := nAsc) (sc := defScope sAsc) (by decide +kernel))
      (fun _ _ _ _ _ => pg_name (i := 1) scAsc.nd rfl (Or.inl rfl)) (fun _ _ _ _ _ => pv 1) (fun _ _ _ _ _ => pe_dget (hu_of hr) (pv 0) (pv 1) (fun _ _ => rfl))))), ?_⟩
    rcases h with ⟨rfl, q⟩ | ⟨a, kvs, rfl, ea, hk, q⟩
    · refine ⟨_, rfl, true, rfl, iteT fun D hD => q _ D (same_upd hD) hD upd_same⟩
    · refine ⟨_, rfl, false, rfl, iteF ?_⟩
      have ks0 : ∃ ks : List (Str × Str), kvs.map (·.1) = ks.map keyP := by
        have : ∀ l : List (List Key × V), (∀ p ∈ l, p ∈ kvs) → ∃ ks : List (Str × Str), l.map (·.1) = ks.map keyP := fun l => by
          induction l with
          | nil => exact fun _ => ⟨[], rfl⟩
          | cons p r ih =>
            intro hl
            obtain ⟨ks, e⟩ := ih fun x hx => hl x (List.mem_cons_of_mem _ hx)
            obtain ⟨t, x, b, rfl, _⟩ := hk.at_ p (hl p (by simp))
            exact ⟨(t, x) :: ks, by rw [List.map_cons, List.map_cons, e]⟩
        exact this kvs fun _ h => h
      obtain ⟨ks, eks⟩ := ks0
      have lks : ks.length = kvs.length := by
        have := congrArg List.length eks
        rw [List.length_map, List.length_map] at this
        exact this.symm
      have few := hk.few
      refine ⟨_, rfl, a, kvs, ks, rfl, ea, eks, by omega, fun zs p perm _ zat hp => ?_⟩
      have s1 := same_upd (o := .lst (zs.map fun z => V.ref z.1)) hp
      have lz : zs.length = ks.length := by
        have := perm.length_eq
        rw [List.length_map] at this
        exact this
      have ndk : ks.Nodup := by
        have h1 := hk.nd
        rw [eks] at h1
        exact List.Pairwise.of_map keyP (fun a b hab e => hab (by rw [e])) h1
      have ndz : (zs.map (·.2)).Nodup := perm.nodup_iff.mpr ndk
      have val : (Str × Str) → V := fun y => (valV kvs (keyP y)).getD .non
      refine ⟨p, rfl, ⟨_, SqL.of upd_same⟩, fun D hD => dct_list (K := K) (a := p) (xs := zs.map fun z => V.ref z.1) (fun i G => Same (upd H p (.lst (zs.map fun z => V.ref z.1))) G ∧ G D = some (.dT (((zs.map (·.2)).take i).map fun y => (keyP y, (valV kvs (keyP y)).getD .non)))) ⟨same_upd hD, upd_same⟩ (fun i G z => SqL.of (z.1 _ _ upd_same)) (fun i x G hx z => ?_) (fun G z => ?_)⟩
      · obtain ⟨sG, eD⟩ := z
        rw [List.getElem?_map] at hx
        obtain ⟨y, hy, rfl⟩ := Option.map_eq_some_iff.mp hx
        have yk : y.2 ∈ ks := perm.mem_iff.mp (List.mem_map.mpr ⟨y, List.mem_of_getElem? hy, rfl⟩)
        have ym : keyP y.2 ∈ kvs.map (·.1) := by
          rw [eks]
          exact List.mem_map.mpr ⟨_, yk, rfl⟩
        obtain ⟨pr, hpr, epr⟩ := List.mem_map.mp ym
        have ev := valV_at hk.nd pr hpr
        rw [epr] at ev
        have ey : G y.1 = some (.tup ((keyP y.2).map kV)) := sG _ _ (s1 _ _ (zat y (List.mem_of_getElem? hy)))
        have dg := DGet.t (k := keyP y.2) (sG _ _ (s1 _ _ ea)) ey
        rw [ev] at dg
        refine ⟨rfl, _, rfl, _, rfl, _, rfl, a, pr.2, rfl, dg, _, keyP y.2, y.1, rfl, ey, eD, ?_, same_put hD sG, ?_⟩
        · simp only [List.length_map, List.length_take]
          have : (1000 : Nat) < sizeLine := by decide
          omega
        · rw [upd_same]
          have z := asc_put (key := keyP) (fun _ _ => keyP_inj) ndz (i := i) (z := y.2) (by rw [List.getElem?_map, hy]; rfl) (fun y => (valV kvs (keyP y)).getD .non)
          rw [ev] at z
          rw [← z]
          rfl
      · obtain ⟨sG, eD⟩ := z
        rw [List.take_of_length_le (by simp)] at eD
        have mem : ∀ pr ∈ (zs.map (·.2)).map fun y => (keyP y, (valV kvs (keyP y)).getD .non), pr ∈ kvs := fun pr hpr => by
          obtain ⟨y, hy, rfl⟩ := List.mem_map.mp hpr
          have ym : keyP y ∈ kvs.map (·.1) := by
            rw [eks]
            exact List.mem_map.mpr ⟨_, perm.mem_iff.mp hy, rfl⟩
          obtain ⟨pr, hpr, epr⟩ := List.mem_map.mp ym
          have ev := valV_at hk.nd pr hpr
          rw [epr] at ev
          rw [ev]
          rw [← epr]
          exact hpr
        have keys : ((zs.map (·.2)).map fun y => (keyP y, (valV kvs (keyP y)).getD .non)).map (·.1) = (zs.map (·.2)).map keyP := by
          rw [List.map_map]
          rfl
        have ndl : ((zs.map (·.2)).map keyP).Nodup := by
          have h1 := hk.nd
          rw [eks] at h1
          exact (perm.map keyP).nodup_iff.mpr h1
        have ak : AnsK ((zs.map (·.2)).map fun y => (keyP y, (valV kvs (keyP y)).getD .non)) := ⟨by rw [keys]; exact ndl, fun pr hpr => hk.at_ pr (mem pr hpr), by simp; omega⟩
        refine q G D _ (s1.trans sG) (s1.free hD) eD ak fun k => ?_
        cases e : valV kvs k with
        | none =>
          refine valV_miss fun pr hpr z => ?_
          exact valV_none e pr (mem pr hpr) z
        | some v =>
          have hm := valV_some e
          obtain ⟨t, x, b, e2, _⟩ := hk.at_ _ hm
          injection e2 with e2 e3
          subst e2
          subst e3
          have hy : (t, x) ∈ ks := by
            have : keyP (t, x) ∈ kvs.map (·.1) := List.mem_map.mpr ⟨_, hm, rfl⟩
            rw [eks] at this
            obtain ⟨y, hy, ey⟩ := List.mem_map.mp this
            rw [← keyP_inj ey]
            exact hy
          have hz : (keyP (t, x), (valV kvs (keyP (t, x))).getD .non) ∈ (zs.map (·.2)).map fun y => (keyP y, (valV kvs (keyP y)).getD .non) := List.mem_map.mpr ⟨(t, x), perm.mem_iff.mpr hy, rfl⟩
          rw [e] at hz
          exact valV_at ak.nd _ hz
end
end OM

namespace OM
open PySem PySem.Spec PyProof.Rows L2
abbrev sIsThr : Stmt := top 58
abbrev sPIn : Stmt := inStK 51 0
abbrev sPCells : Stmt := inStK 51 2
abbrev sPAns : Stmt := inStK 51 3
abbrev sPNames : Stmt := inStK 51 4
abbrev sPLen : Stmt := inStK 51 7
abbrev sPEq : Stmt := inStK 51 8
theorem fn_or {P : Program} {w : World} {K : PySem.W.Frag} {mg : Str → Option Value} {base : Heap} {CX : CXT} {k : Nat} {f : Addr} {fd : FuncData} {ps : List Str} {sp1 sp2 : Sp} (F1 : FnOk P w K mg base CX k f fd ps sp1) (F2 : FnOk P w K mg base CX k f fd ps sp2) :
    FnOk P w K mg base CX k f fd ps (fun vs H Q E => sp1 vs H Q E ∨ sp2 vs H Q E) :=
  ⟨fun vs H Q E h => h.elim (F1.len vs H Q E) (F2.len vs H Q E), fun A o s H ar us vs Q E hr e b r h => h.elim (F1.run A o s H ar us vs Q E hr e b r) (F2.run A o s H ar us vs Q E hr e b r)⟩
def spAsc : Sp := fun vs H Q E => spAscT vs H Q E ∨ spAscK vs H Q E
/-- a program of one quiet thread, without cells -/
structure PrM (C : Addr) (H : Hp) (p : Addr) (c : QL) (kvs : List (List Key × V)) : Prop where
  ex : ∃ (dx th ce an : Addr) (cv : V), H p = some (.ins C dx [("_threads", .ref th), ("_cells", .ref ce), ("_answers", .ref an)]) ∧ H th = some (.tup [cv]) ∧ Tp H cv (.tuple c.ds) ∧ H ce = some (.dK []) ∧ H an = some (.dT kvs)
  ok : QOk c
  ans : AnsK kvs
theorem PrM.mv {C : Addr} {H H' : Hp} {p : Addr} {c : QL} {kvs : List (List Key × V)} (h : PrM C H p c kvs) (s : Same H H') : PrM C H' p c kvs := by
  obtain ⟨⟨dx, th, ce, an, cv, e1, e2, e3, e4, e5⟩, ok, ans⟩ := h
  exact ⟨⟨dx, th, ce, an, cv, s _ _ e1, s _ _ e2, e3.mv (TupS.same s), s _ _ e4, s _ _ e5⟩, ok, ans⟩
structure PrC (K : PySem.W.Frag) (C : Addr) : Prop where
  I : ClsI K C
  na : ∀ f ∈ ([("_threads" : Str), "_cells", "_answers"] : List Str), NoAttr K C f
theorem PrC.nt {K : PySem.W.Frag} {C : Addr} (R : PrC K C) : NoAttr K C "_threads" := R.na _ (by simp)
theorem PrC.nc {K : PySem.W.Frag} {C : Addr} (R : PrC K C) : NoAttr K C "_cells" := R.na _ (by simp)
theorem PrC.nan {K : PySem.W.Frag} {C : Addr} (R : PrC K C) : NoAttr K C "_answers" := R.na _ (by simp)
def spIsThr : Sp := fun vs H Q _ => ∃ (th : Addr) (cv : V) (c : QL), vs = [.ref th] ∧ H th = some (.tup [cv]) ∧ Tp H cv (.tuple c.ds) ∧ QOk c ∧ ∀ H', Same H H' → Q (.bl true) H'
def spPIn (C : Addr) : Sp := fun vs H Q _ => ∃ (me dx th : Addr) (cv av : V) (c : QL), vs = [.ref me, .ref th, .non, av] ∧ H me = some (.ins C dx []) ∧ H th = some (.tup [cv]) ∧ Tp H cv (.tuple c.ds) ∧ QOk c ∧
  ((av = .non ∧ ∀ H', But me H H' → PrM C H' me c [] → Q .non H') ∨ ∃ a kvs, av = .ref a ∧ H a = some (.dT kvs) ∧ AnsK kvs ∧ ∀ H' lvs, But me H H' → PrM C H' me c lvs → (∀ k, valV lvs k = valV kvs k) → Q .non H')
section
variable {P : Program} {w : World} {K : PySem.W.Frag} {mg : Str → Option Value} {base : Heap} {f fT fH fA fI C : Addr} {fd dT dH dA dI : FuncData}
theorem ok_ascK (F : Fun K "_ascending" "_ascending" sAsc f fd) (srt : mg "sorted" = none) : FnOk P w K mg base CX0 1 f fd ["told"] spAscK := by
  refine F.ok scAsc (fun vs H Q E h => ?_) (fun cdv A outer s H vs Q E hr h => ?_)
  · obtain ⟨v, rfl, _⟩ := h
    rfl
  · refine ⟨_, pss_one (ps_ret (pe_ifExp (pt_cmp (pc_isN (pv 0))) pe_dnewK (pe_dc (own := [("key", 1)]) rfl scAsc.nd (pi_list (pe_callB (call_sortedD rfl) (by rfl) srt (by decide +kernel) (pa_cons (pv 0) pa_nil))) (blkOk_by (N := nAsc) (sc := defScope sAsc) (by decide +kernel))
      (fun _ _ _ _ _ => pg_name (i := 1) scAsc.nd rfl (Or.inl rfl)) (fun _ _ _ _ _ => pts_nil) (fun _ _ _ _ _ => pe_never) (fun _ _ _ _ _ => pe_never)))), ?_⟩
    obtain ⟨v, rfl, hv, q⟩ := h
    rcases hv with rfl | ⟨a, rfl, ea⟩
    · exact ⟨_, rfl, true, rfl, iteT fun D hD => q _ D (same_upd hD) hD upd_same⟩
    · refine ⟨_, rfl, false, rfl, iteF ⟨_, rfl, a, [], [], rfl, .of ea, rfl, by decide, fun ys p py sy hp2 => ?_⟩⟩
      obtain rfl : ys = [] := List.length_eq_zero_iff.mp (by have := py.length_eq; simpa using this)
      have s1 := same_upd (o := .lst (([] : List Str).map V.str)) hp2
      refine ⟨p, rfl, ⟨[], SqL.of upd_same⟩, fun D hD => dc_list (K := K) (a := p) (xs := []) (g := gName 1) (tt := L2.tYes) (tk := fun _ _ _ => False) (tv := fun _ _ _ => False) (vs := [1]) (fun _ G => G = upd (upd H p (.lst (([] : List Str).map V.str))) D (.dK [])) rfl (fun i G z => by rw [z]; exact SqL.of (same_upd hD _ _ upd_same)) (fun i x G hx => by simp at hx) (fun G z => ?_)⟩
      subst z
      exact q _ D (s1.trans (same_upd hD)) (s1.free hD) upd_same
theorem ok_asc (F : Fun K "_ascending" "_ascending" sAsc f fd) (srt : mg "sorted" = none) : FnOk P w K mg base CX0 1 f fd ["told"] spAsc := fn_or (ok_ascT F srt) (ok_ascK F srt)
theorem scIT : FnScope ["value", "code"] ["value"] (defScope sIsThr) := ⟨rfl, rfl, rfl, by decide +kernel, rfl, by decide +kernel, by decide +kernel⟩
theorem ok_isthr (F : Fun K "_is_threads" "_is_threads" sIsThr f fd) (isi : mg "isinstance" = none) (tup : mg "tuple" = none) (ln : mg "len" = none) (al : mg "all" = none) (gM : ∃ t, mg "MAX_THREADS" = some (.int 3 t))
    (gT : mg "is_thread_code" = some (.ref fT)) (kT : PySem.W.keepIn K (.ref fT) = true) (bT : Binds K dT ["value"] []) (GT : FnOk P w K mg base CX0 14 fT dT ["value"] spThr) : FnOk P w K mg base CX0 15 f fd ["value"] spIsThr := by
  obtain ⟨t3, g3⟩ := gM
  refine F.ok scIT (fun vs H Q E h => ?_) (fun cdv A outer s H vs Q E hr h => ?_)
  · obtain ⟨th, cv, c, rfl, _⟩ := h
    rfl
  · obtain ⟨th, cv, c, rfl, et, hc, ok, q⟩ := h
    refine ⟨_, pss_one (ps_ret (pe_and (pe_callB call_isi (by rfl) isi (by decide +kernel) (pa_cons (pv 0) (pa_cons (pe_bltn (v := .ty "tuple") (u := .type "tuple") (by rfl) tup (by decide +kernel) rfl) pa_nil)))
      (pe_and (pe_chain op_le op_le pe_int (pe_callB call_len_seq (by rfl) ln PySem.boot_len (pa_cons (pv 0) pa_nil)) (pe_glob (v := .int 3) (by rfl) g3 ⟨t3, rfl⟩))
      (pe_one (pe_callB (cr_all rfl) (by rfl) al (by decide +kernel) (pa_cons (pe_lc (own := [("code", 1)]) rfl scIT.nd (pi_tup (pv 0)) (blkOk_by (N := ["value", "code"]) (sc := defScope sIsThr) (by decide +kernel)) (fun _ _ _ _ _ => pg_name (i := 1) scIT.nd rfl (Or.inl rfl)) (fun _ _ _ _ _ => pts_nil)
        (fun _ _ _ _ _ => pe_call GT hr (by rfl) gT kT bT .nil pass0 (pa_cons (pv 1) pa_nil))) pa_nil)))))), ?_⟩
    refine isi_te (x := .ref th) rfl (.base (.tup et)) (r := true) (show kitB "tuple" "tuple" = some true by decide +kernel) ⟨_, rfl, iteT ?_⟩
    refine ⟨_, rfl, th, _, rfl, .inr (SqT.of et), 1, 1, rfl, rfl, _, rfl, iteT ⟨1, 3, rfl, rfl, _, rfl, iteT ?_⟩⟩
    refine ⟨_, rfl, th, rfl, ⟨_, SqT.of et⟩, fun D hD => lc_tup (xs := [cv]) (PvM H D [true]) (PvM.zero hD) (fun i G _ p => SqT.of (p.1 _ _ et)) (fun i x G hx p => ?_) (fun G p => ?_)⟩
    · obtain ⟨rfl, rfl⟩ : i = 0 ∧ x = cv := by
        cases i with
        | zero => exact ⟨rfl, (Option.some.inj hx).symm⟩
        | succ i => simp at hx
      refine ⟨rfl, _, rfl, x, c.ds, rfl, (hc.mv (TupS.same p.1)).dt, ok.thr, fun G2 s2 => ?_⟩
      exact PvM.step hD (by decide) rfl p s2
    · obtain ⟨s5, e5⟩ := p.all rfl
      exact ⟨D, [true], rfl, SqL.of e5, q _ s5⟩
end
end OM

namespace OM
open PySem PySem.Spec PyProof.Rows L2
section
variable {P : Program} {w : World} {K : PySem.W.Frag} {mg : Str → Option Value} {base : Heap} {f fT fH fA fI C : Addr} {fd dT dH dA dI : FuncData}
theorem scPI : FnScope ["self", "threads", "cells", "answers"] ["self", "threads", "cells", "answers"] (defScope sPIn) := ⟨rfl, rfl, rfl, by decide +kernel, rfl, by decide +kernel, by decide +kernel⟩
theorem ok_pin {kws : List (Str × V)} (F : FunD K "__init__" "Program.__init__" (defArgs sPIn) (defBody sPIn) (defScope sPIn) [] kws f fd) (R : PrC K C) (ct : CallN P w K mg base "_is_threads" 15 ["value"] spIsThr) (ca : CallN P w K mg base "is_answers" 7 ["value"] spIsAns) (cs : CallN P w K mg base "_ascending" 1 ["told"] spAsc) :
    FnOk P w K mg base CX0 16 f fd ["self", "threads", "cells", "answers"] (spPIn C) := by
  obtain ⟨q1, e1, g1, k1, b1, G1⟩ := ct
  obtain ⟨q2, e2, g2, k2, b2, G2⟩ := ca
  obtain ⟨q3, e3, g3, k3, b3, G3⟩ := cs
  refine F.ok scPI (fun vs H Q E h => ?_) (fun cdv A outer s H vs Q E hr h => ?_)
  · obtain ⟨me, dx, th, cv, av, c, rfl, _⟩ := h
    rfl
  · obtain ⟨me, dx, th, cv, av, c, rfl, em, et, hc, ok, q⟩ := h
    refine ⟨_, pss_cons (ps_if (pt_not (pt_val (pe_call G1 hr (by rfl) g1 k1 b1 .nil pass0 (pa_cons (pv 1) pa_nil)))) pss_never pss_nil)
      (pss_cons (ps_if (PW.pt (pw_and (pt_cmp (pc_notN (pv 2))) (pw_and1 (pt_not (pt_val pe_never))))) pss_never pss_nil)
      (pss_cons (ps_if (PW.pt (pw_and (pt_cmp (pc_notN (pv 3))) (pw_and1 (pt_not (pt_val (pe_call G2 (hr.mono (by decide)) (by rfl) g2 k2 b2 .nil pass0 (pa_cons (pv 3) pa_nil))))))) pss_never pss_nil)
      (pss_cons (ps_fld (pv 0) (pv 1) rfl)
      (pss_cons (ps_fld (pv 0) (pe_call G3 (hr.mono (by decide)) (by rfl) g3 k3 b3 .nil pass0 (pa_cons (pv 2) pa_nil)) rfl)
      (pss_one (ps_fld (pv 0) (pe_call G3 (hr.mono (by decide)) (by rfl) g3 k3 b3 .nil pass0 (pa_cons (pv 3) pa_nil)) rfl)))))), ?_⟩
    have line : (1000 : Nat) < sizeLine := by decide
    have nt := R.nt
    have nc := R.nc
    have na := R.nan
    refine ⟨_, rfl, th, cv, c, rfl, et, hc, ok, fun H1 s1 => ⟨_, rfl, iteF ?_⟩⟩
    have i0 : InitS H H1 me C dx [] [] := ⟨s1 _ _ em, fun b o _ e => s1 b o e, fun p hp => (by cases hp), List.nodup_nil⟩
    refine ⟨_, rfl, false, rfl, iteF (iteF ?_)⟩
    have thm : th ≠ me := fun z => by rw [z, em] at et; cases et
    have mk : ∀ {G2 G4 G5 : Hp} {ce an : Addr} {lvs : List (List Key × V)}, InitS H G5 me C dx [("_threads", .ref th), ("_cells", .ref ce), ("_answers", .ref an)] [] → G5 ce = some (.dK []) → G5 an = some (.dT lvs) → AnsK lvs → PrM C G5 me c lvs := by
      intro _ _ G5 ce an lvs i5 ec ea hk
      have ts : TupS H G5 := fun x xs e => i5.but x _ (fun z => by rw [z, em] at e; cases e) e
      exact ⟨⟨dx, th, ce, an, cv, i5.ins, i5.but _ _ thm et, hc.mv ts, ec, ea⟩, ok, hk⟩
    rcases q with ⟨rfl, q⟩ | ⟨a, kvs, rfl, ea, hk, q⟩
    · refine ⟨_, rfl, false, rfl, iteF (iteF ?_)⟩
      refine ⟨_, rfl, _, rfl, me, C, dx, [], rfl, i0.ins, R.I.cl, nt, (by show 0 < 1000; decide), ?_⟩
      have i1 := i0.old (f := "_threads") (v := .ref th)
      generalize upd H1 me _ = K1 at i1 ⊢
      refine ⟨_, rfl, .inr ⟨.non, rfl, .inl rfl, fun K2 ce s3 hce ece => ?_⟩⟩
      have i2 := i1.ext s3
      have cem : ce ≠ me := fun z => by rw [z, i1.ins] at hce; cases hce
      refine ⟨_, rfl, me, C, dx, _, rfl, i2.ins, R.I.cl, nc, (by show 1 < 1000; decide), ?_⟩
      have i3 := i2.old (f := "_cells") (v := .ref ce)
      have ec3 : upd K2 me (.ins C dx (putF "_cells" (.ref ce) (putF "_threads" (.ref th) []))) ce = some (.dK []) := by rw [upd_ne cem]; exact ece
      generalize upd K2 me _ = K3 at i3 ec3 ⊢
      refine ⟨_, rfl, .inl (.inl ⟨rfl, fun K4 an s5 han ean => ?_⟩)⟩
      have i4 := i3.ext s5
      have anm : an ≠ me := fun z => by rw [z, i3.ins] at han; cases han
      refine ⟨_, rfl, me, C, dx, _, rfl, i4.ins, R.I.cl, na, (by show 2 < 1000; decide), ?_⟩
      have i5 := i4.old (f := "_answers") (v := .ref an)
      refine q _ i5.but (mk (G2 := H) (G4 := H) i5 ?_ ?_ AnsK.nil)
      · rw [upd_ne cem]
        exact s5 _ _ ec3
      · rw [upd_ne anm]
        exact ean
    · have am : a ≠ me := fun z => by rw [z, em] at ea; cases ea
      refine ⟨_, rfl, true, rfl, iteT ⟨_, rfl, a, kvs, rfl, s1 _ _ ea, hk, fun H2 s2 => ⟨_, rfl, iteF ?_⟩⟩⟩
      have i0 := i0.ext s2
      refine ⟨_, rfl, _, rfl, me, C, dx, [], rfl, i0.ins, R.I.cl, nt, (by show 0 < 1000; decide), ?_⟩
      have i1 := i0.old (f := "_threads") (v := .ref th)
      generalize upd H2 me _ = K1 at i1 ⊢
      refine ⟨_, rfl, .inr ⟨.non, rfl, .inl rfl, fun K2 ce s3 hce ece => ?_⟩⟩
      have i2 := i1.ext s3
      have cem : ce ≠ me := fun z => by rw [z, i1.ins] at hce; cases hce
      refine ⟨_, rfl, me, C, dx, _, rfl, i2.ins, R.I.cl, nc, (by show 1 < 1000; decide), ?_⟩
      have i3 := i2.old (f := "_cells") (v := .ref ce)
      have ec3 : upd K2 me (.ins C dx (putF "_cells" (.ref ce) (putF "_threads" (.ref th) []))) ce = some (.dK []) := by rw [upd_ne cem]; exact ece
      generalize upd K2 me _ = K3 at i3 ec3 ⊢
      refine ⟨_, rfl, .inl (.inr ⟨a, kvs, rfl, i3.but _ _ am ea, hk, fun K4 an lvs s5 han ean hl hv => ?_⟩)⟩
      have i4 := i3.ext s5
      have anm : an ≠ me := fun z => by rw [z, i3.ins] at han; cases han
      refine ⟨_, rfl, me, C, dx, _, rfl, i4.ins, R.I.cl, na, (by show 2 < 1000; decide), ?_⟩
      have i5 := i4.old (f := "_answers") (v := .ref an)
      refine q _ lvs i5.but (mk (G2 := H) (G4 := H) i5 ?_ ?_ hl) hv
      · rw [upd_ne cem]
        exact s5 _ _ ec3
      · rw [upd_ne anm]
        exact ean
end
end OM

namespace OM
open PySem PySem.Spec PyProof.Rows L2
/-! ### data can be laid -/
mutual
theorem Tp.lay {H : Hp} : ∀ {v : V} {d : PyData}, Tp H v d → smlD d = true → PyData.canLay0 d = true
  | _, _, .str x, h => by
    unfold smlD at h
    exact (Bool.and_eq_true_iff.mp h).2
  | _, _, .tup _ _ r, h => by
    unfold PyData.canLay0
    unfold smlD at h
    exact TpAll.lay r h
theorem TpAll.lay {H : Hp} : ∀ {vs : List V} {ds : List PyData}, TpAll H vs ds → smlAll ds = true → PyData.canLayAll0 ds = true
  | _, _, .nil, _ => rfl
  | _, _, .cons a r, h => by
    unfold smlAll at h
    unfold PyData.canLayAll0
    rw [Bool.and_eq_true] at h ⊢
    exact ⟨Tp.lay a h.1, TpAll.lay r h.2⟩
end
mutual
theorem Tp.dp {K : PySem.W.Frag} {H : Hp} : ∀ {v : V} {d : PyData}, Tp H v d → Dp K H v d
  | _, _, .str x => .str x
  | _, _, .tup e _ r => .tup (SqT.of e) (TpAll.dp r)
theorem TpAll.dp {K : PySem.W.Frag} {H : Hp} : ∀ {vs : List V} {ds : List PyData}, TpAll H vs ds → DpAll K H vs ds
  | _, _, .nil => .nil
  | _, _, .cons a r => .cons (Tp.dp a) (TpAll.dp r)
end
theorem dep_strs : ∀ as : List Str, PyData.depthAll (as.map PyData.str) = 0
  | [] => rfl
  | a :: r => by
    show max (PyData.depth (.str a)) (PyData.depthAll (r.map PyData.str)) = 0
    rw [dep_strs r]
    rfl
mutual
theorem QS.dep : ∀ (x : QS) {n : Nat}, x.dp n → x.d.depth ≤ 2 * n + 2
  | .set r f as, n, _ => by
    show max 0 (max 0 (max 0 (max ((PyData.depthAll (as.map PyData.str)) + 1) 0))) + 1 ≤ _
    rw [dep_strs]
    omega
  | .copy r q, n, _ => by
    show max 0 (max 0 (max 0 0)) + 1 ≤ _
    omega
  | .shw r, n, _ => by
    show max 0 (max 0 0) + 1 ≤ _
    omega
  | .iff p r ys ns, 0, h => h.elim
  | .iff p r ys ns, n + 1, h => by
    have a := QL.dep ys h.1
    have b := QL.dep ns h.2
    show max 0 (max 0 (max 0 (max (PyData.depthAll ys.ds + 1) (max (PyData.depthAll ns.ds + 1) 0)))) + 1 ≤ _
    omega
theorem QL.dep : ∀ (c : QL) {n : Nat}, c.dp n → PyData.depthAll c.ds ≤ 2 * n + 2
  | .nil, n, _ => Nat.zero_le _
  | .cons x t, n, h => by
    have a := QS.dep x h.1
    have b := QL.dep t h.2
    show max x.d.depth (PyData.depthAll t.ds) ≤ _
    omega
end
theorem QOk.shape {c : QL} {H : Hp} {v : V} (h : QOk c) (t : Tp H v (.tuple c.ds)) : SeqAt.shaped (.tuple [.tuple c.ds]) = true ∧ PyData.eqv (.tuple [.tuple c.ds]) (.tuple [.tuple c.ds]) = true := by
  have l : PyData.canLay0 (.tuple [.tuple c.ds]) = true := by
    show (PyData.canLay0 (.tuple c.ds) && true) = true
    rw [Tp.lay t (by unfold smlD; exact QL.sml c h.ok)]
    rfl
  have d := QL.dep c h.dp
  refine ⟨?_, PySem.SeqAt.eqv_refl _ l⟩
  show (PyData.canLay0 (.tuple [.tuple c.ds]) && decide ((PyData.tuple [.tuple c.ds]).depth ≤ 64)) = true
  rw [l, decide_eq_true]
  · rfl
  · show max (PyData.depthAll c.ds + 1) 0 + 1 ≤ 64
    omega
theorem nf_at {K : PySem.W.Frag} {C : Addr} (R : ClsI K C) : True := True.intro
/-! ### what a program tells -/
def spPCells (C : Addr) : Sp := fun vs H Q _ => ∃ (p : Addr) (c : QL) (kvs : List (List Key × V)), vs = [.ref p] ∧ PrM C H p c kvs ∧ ∀ H' D, Same H H' → H D = none → H' D = some (.dK []) → Q (.ref D) H'
def spPAns (C : Addr) : Sp := fun vs H Q _ => ∃ (p : Addr) (c : QL) (kvs : List (List Key × V)), vs = [.ref p] ∧ PrM C H p c kvs ∧ ∀ H' D lvs, Same H H' → H D = none → H' D = some (.dT lvs) → AnsK lvs → (∀ k, valV lvs k = valV kvs k) → Q (.ref D) H'
def spPNames (C : Addr) : Sp := fun vs H Q _ => ∃ (p : Addr) (c : QL) (kvs : List (List Key × V)), vs = [.ref p] ∧ PrM C H p c kvs ∧ ∀ H' D, Same H H' → H' D = some (.tup []) → Q (.ref D) H'
def spPLen (C : Addr) : Sp := fun vs H Q _ => ∃ (p : Addr) (c : QL) (kvs : List (List Key × V)), vs = [.ref p] ∧ PrM C H p c kvs ∧ Q (.int 1) H
def spPEq (C : Addr) : Sp := fun vs H Q _ => ∃ (p : Addr) (c : QL) (kvs : List (List Key × V)), vs = [.ref p, .ref p] ∧ PrM C H p c kvs ∧ ∀ H', Same H H' → Q (.bl true) H'
section
variable {P : Program} {w : World} {K : PySem.W.Frag} {mg : Str → Option Value} {base : Heap} {f C : Addr} {fd : FuncData}
theorem scPc : FnScope ["self"] ["self"] (defScope sPCells) := ⟨rfl, rfl, rfl, by decide +kernel, rfl, by decide +kernel, by decide +kernel⟩
theorem scPa : FnScope ["self"] ["self"] (defScope sPAns) := ⟨rfl, rfl, rfl, by decide +kernel, rfl, by decide +kernel, by decide +kernel⟩
theorem scPl : FnScope ["self"] ["self"] (defScope sPLen) := ⟨rfl, rfl, rfl, by decide +kernel, rfl, by decide +kernel, by decide +kernel⟩
theorem scPe : FnScope ["self", "other"] ["self", "other"] (defScope sPEq) := ⟨rfl, rfl, rfl, by decide +kernel, rfl, by decide +kernel, by decide +kernel⟩
theorem scPn : FnScope ["self", "found", "code"] ["self"] (defScope sPNames) := ⟨rfl, rfl, rfl, by decide +kernel, rfl, by decide +kernel, by decide +kernel⟩
theorem ok_pcells (F : Fun K "cells" "Program.cells" sPCells f fd) (R : PrC K C) (cs : CallN P w K mg base "_ascending" 1 ["told"] spAsc) : FnOk P w K mg base CX0 2 f fd ["self"] (spPCells C) := by
  obtain ⟨q3, e3, g3, k3, b3, G3⟩ := cs
  refine F.ok scPc (fun vs H Q E h => ?_) (fun cdv A outer s H vs Q E hr h => ?_)
  · obtain ⟨p, c, kvs, rfl, _⟩ := h
    rfl
  · obtain ⟨p, c, kvs, rfl, ⟨⟨dx, th, ce, an, cv, e1, e2, ht, ec, ea⟩, ok, ans⟩, q⟩ := h
    refine ⟨_, pss_one (ps_ret (pe_call G3 hr (by rfl) g3 k3 b3 .nil pass0 (pa_cons (pe_fld (pv 0) rfl) pa_nil))), ?_⟩
    exact ⟨_, rfl, p, C, dx, _, .ref ce, rfl, e1, R.I.cl, R.nc, rfl, .inr ⟨_, rfl, .inr ⟨ce, rfl, ec⟩, q⟩⟩
theorem ok_pans (F : Fun K "answers" "Program.answers" sPAns f fd) (R : PrC K C) (cs : CallN P w K mg base "_ascending" 1 ["told"] spAsc) : FnOk P w K mg base CX0 2 f fd ["self"] (spPAns C) := by
  obtain ⟨q3, e3, g3, k3, b3, G3⟩ := cs
  refine F.ok scPa (fun vs H Q E h => ?_) (fun cdv A outer s H vs Q E hr h => ?_)
  · obtain ⟨p, c, kvs, rfl, _⟩ := h
    rfl
  · obtain ⟨p, c, kvs, rfl, ⟨⟨dx, th, ce, an, cv, e1, e2, ht, ec, ea⟩, ok, ans⟩, q⟩ := h
    refine ⟨_, pss_one (ps_ret (pe_call G3 hr (by rfl) g3 k3 b3 .nil pass0 (pa_cons (pe_fld (pv 0) rfl) pa_nil))), ?_⟩
    exact ⟨_, rfl, p, C, dx, _, .ref an, rfl, e1, R.I.cl, R.nan, rfl, .inl (.inr ⟨an, kvs, rfl, ea, ans, q⟩)⟩
theorem ok_plen (F : Fun K "__len__" "Program.__len__" sPLen f fd) (R : PrC K C) (ln : mg "len" = none) : FnOk P w K mg base CX0 1 f fd ["self"] (spPLen C) := by
  refine F.ok scPl (fun vs H Q E h => ?_) (fun cdv A outer s H vs Q E hr h => ?_)
  · obtain ⟨p, c, kvs, rfl, _⟩ := h
    rfl
  · obtain ⟨p, c, kvs, rfl, ⟨⟨dx, th, ce, an, cv, e1, e2, ht, ec, ea⟩, ok, ans⟩, q⟩ := h
    refine ⟨_, pss_one (ps_ret (pe_callB call_len_seq (by rfl) ln PySem.boot_len (pa_cons (pe_fld (pv 0) rfl) pa_nil))), ?_⟩
    exact ⟨_, rfl, p, C, dx, _, .ref th, rfl, e1, R.I.cl, R.nt, rfl, th, _, rfl, .inr (SqT.of e2), q⟩
theorem ok_peq (F : Fun K "__eq__" "Program.__eq__" sPEq f fd) (R : PrC K C) (isi : mg "isinstance" = none) (gC : mg "Program" = some (.ref C)) : FnOk P w K mg base CX0 1 f fd ["self", "other"] (spPEq C) := by
  refine F.ok scPe (fun vs H Q E h => ?_) (fun cdv A outer s H vs Q E hr h => ?_)
  · obtain ⟨p, c, kvs, rfl, _⟩ := h
    rfl
  · obtain ⟨p, c, kvs, rfl, ⟨⟨dx, th, ce, an, cv, e1, e2, ht, ec, ea⟩, ok, ans⟩, q⟩ := h
    have hu : (A.deeper (envOfC "Program.__eq__" (defScope sPEq) s.heap.objs.size f cdv)).units + 64 < cLine := by
      have := hr.un
      omega
    refine ⟨_, pss_one (ps_ret (pe_and (pe_callB call_isi (by rfl) isi (by decide +kernel) (pa_cons (pv 1) (pa_cons (pe_glob (v := .ref C) (by rfl) gC rfl) pa_nil)))
      (pe_and (pe_cmpR (op_eqD hu) (pe_fld (pv 0) rfl) (pe_fld (pv 1) rfl) (nomark _))
      (pe_and (pe_cmpR (op_eq_dict (Nat.lt_of_succ_lt (hu_of hr))) (pe_fld (pv 0) rfl) (pe_fld (pv 1) rfl) (nomark _))
      (pe_one (pe_cmpR (op_eq_dT (hu_of hr)) (pe_fld (pv 0) rfl) (pe_fld (pv 1) rfl) (nomark _))))))), ?_⟩
    obtain ⟨sh, eq⟩ := ok.shape ht
    have dp : Dp K H (.ref th) (.tuple [.tuple c.ds]) := .tup (SqT.of e2) (.cons (Tp.dp ht) .nil)
    refine ⟨_, rfl, .ref p, .ref C, .ref C, .ref C, true, rfl, .own C, .base (.ins e1 R.I.cl R.I.ha R.I.hn R.I.htk R.I.hm), R.I.kit, _, rfl, iteT ?_⟩
    refine ⟨_, rfl, p, C, dx, _, .ref th, rfl, e1, R.I.cl, R.nt, rfl, _, rfl, p, C, dx, _, .ref th, rfl, e1, R.I.cl, R.nt, rfl, _, _, dp, dp, sh, sh, _, rfl, ?_⟩
    rw [eq]
    refine iteT ⟨_, rfl, p, C, dx, _, .ref ce, rfl, e1, R.I.cl, R.nc, rfl, _, rfl, p, C, dx, _, .ref ce, rfl, e1, R.I.cl, R.nc, rfl, ce, ce, [], rfl, rfl, ec, ec, List.nodup_nil, fun _ h => (by cases h), _, rfl, iteT ?_⟩
    refine ⟨_, rfl, p, C, dx, _, .ref an, rfl, e1, R.I.cl, R.nan, rfl, _, rfl, p, C, dx, _, .ref an, rfl, e1, R.I.cl, R.nan, rfl, an, an, kvs, kvs, rfl, rfl, ea, ea, ?_, ?_, ?_⟩
    · intro x hx
      obtain ⟨_, _, b, rfl, _⟩ := ans.at_ x hx
      rfl
    · intro x hx
      obtain ⟨_, _, b, rfl, _⟩ := ans.at_ x hx
      rfl
    · rw [sameT_of ans.nd ans.nd (fun x hx => by
        obtain ⟨_, _, b, rfl, _⟩ := ans.at_ x hx
        cases b <;> rfl) fun _ => rfl]
      exact q _ (Same.refl H)
theorem ok_pnames {fN : Addr} {dN : FuncData} (F : Fun K "names" "Program.names" sPNames f fd) (R : PrC K C) (ls : mg "list" = none) (st : mg "set" = none) (srt : mg "sorted" = none) (tup : mg "tuple" = none) (cn : CallN P w K mg base "names_in" 6 ["code", "role"] spNamesIn) : FnOk P w K mg base CX0 7 f fd ["self"] (spPNames C) := by
  obtain ⟨q3, e3, g3, k3, b3, G3⟩ := cn
  refine F.ok scPn (fun vs H Q E h => ?_) (fun cdv A outer s H vs Q E hr h => ?_)
  · obtain ⟨p, c, kvs, rfl, _⟩ := h
    rfl
  · obtain ⟨p, c, kvs, rfl, ⟨⟨dx, th, ce, an, cv, e1, e2, ht, ec, ea⟩, ok, ans⟩, q⟩ := h
    refine ⟨_, pss_cons (ps_set (i := 1) scPn.nd rfl (Or.inl rfl) (pe_callTy (call_listD rfl) (by rfl) ls (by decide +kernel) (pa_cons (pe_fld (pv 0) rfl) pa_nil)))
      (pss_cons (ps_for PassesOwn.never rfl (pi_tup (pe_fld (pv 0) rfl)) (pg_name (i := 2) scPn.nd rfl (Or.inl rfl))
        (pss_one (ps_expr (pe_bm PySem.F.plainAttrs_list PySem.F.slot_list_extend PySem.F.type_list_extend mt_extT (pv 1) (pa_cons (pe_call G3 hr (by rfl) g3 k3 b3 .nil pass0 (pa_cons (pv 2) (pa_cons pe_str pa_nil))) pa_nil)))))
      (pss_one (ps_ret (pe_callTy call_tuple_of (by rfl) tup (by decide +kernel) (pa_cons (pe_callB (cr_sortX rfl) (by rfl) srt (by decide +kernel) (pa_cons (pe_callTy (cr_setX rfl) (by rfl) st (by decide +kernel) (pa_cons (pv 1) pa_nil)) pa_nil)) pa_nil))))), ?_⟩
    have line : (1000 : Nat) < sizeLine := by decide
    refine ⟨_, rfl, p, C, dx, _, .ref ce, rfl, e1, R.I.cl, R.nc, rfl, ce, [], rfl, .of ec, fun l hl => ?_⟩
    have s1 := same_upd (o := .lst []) hl
    refine ⟨_, rfl, p, C, dx, _, .ref th, rfl, s1 _ _ e1, R.I.cl, R.nt, rfl, th, rfl, ⟨_, SqT.of (s1 _ _ e2)⟩, for_tup (xs := [cv]) (fun i σ G => (∃ x2, σ = [some (.ref p), some (.ref l), x2]) ∧ Same H G ∧ G l = some (.lst [])) ⟨⟨_, rfl⟩, s1, upd_same⟩ (fun i σ G _ h => SqT.of (h.2.1 _ _ e2)) (fun i x σ G hx h => ?_) (fun σ G h => ?_)⟩
    · obtain ⟨⟨x2, rfl⟩, sG, el⟩ := h
      obtain ⟨rfl, rfl⟩ : i = 0 ∧ x = cv := by
        cases i with
        | zero => exact ⟨rfl, (Option.some.inj hx).symm⟩
        | succ i => simp at hx
      refine ⟨_, rfl, .inl ⟨rfl, _, SqL.of el⟩, _, rfl, _, x, c.ds, "cell", rfl, by decide +kernel, (ht.mv (TupS.same sG)).dt, ok.thr.rows, Nat.le_trans ok.thr.few (by decide), fun G2 pz ys s2 hpz epz py sy => ?_⟩
      rw [(QL.flat c 3).2] at py
      obtain rfl : ys = [] := List.length_eq_zero_iff.mp py.length_eq
      have el2 := s2 _ _ el
      refine ⟨l, pz, [], [], rfl, rfl, el2, SqT.of epz, (by show 0 ≤ sizeLine; decide), ⟨_, rfl⟩, same_put hl (sG.trans s2), upd_same⟩
    · obtain ⟨⟨x2, rfl⟩, sG, el⟩ := h
      refine ⟨_, rfl, l, [], rfl, .inl (SqL.of el), by decide, fun pS hpS => ⟨pS, [], rfl, upd_same, fun ys p2 py sy hp2 => ?_⟩⟩
      obtain rfl : ys = [] := List.length_eq_zero_iff.mp py.length_eq
      have s2 := same_upd (o := SetTO w pS (firsts [] [])) hpS
      have s3 := same_upd (o := .lst (([] : List Str).map V.str)) hp2
      refine ⟨p2, _, rfl, .inl ⟨SqL.of upd_same, fun t ht2 => ?_⟩⟩
      exact q _ t (((sG.trans s2).trans s3).trans (same_upd ht2)) upd_same
end
end OM

namespace OM
open PySem PySem.Spec PyProof.Rows L2
abbrev sMaIn : Stmt := inStK 53 0
abbrev sValOf : Stmt := inStK 53 1
abbrev sMoIn : Stmt := inStK 54 0
abbrev sRowOf : Stmt := inStK 54 3
abbrev sStepOf : Stmt := inStK 54 4
abbrev sCanStep : Stmt := inStK 54 5
abbrev sMovable : Stmt := inStK 54 6
abbrev sClashes : Stmt := inStK 54 7
abbrev sStepped : Stmt := inStK 54 8
abbrev sTakeStep : Stmt := inStK 54 9
abbrev sSettle : Stmt := inStK 54 10
abbrev sIsYes : Stmt := inStK 54 11
abbrev sValueIn : Stmt := inStK 54 12
abbrev sAssign : Stmt := inStK 54 13
/-! ### a machine and a moment of one quiet thread -/
structure MA where
  me : Addr
  dx : Addr
  ma : Addr
  dm : Addr
  tl : Addr
  t0 : Addr
  td : Addr
  kn : Addr
  sp : Addr
  wo : Addr
  he : Addr
  co : Addr
  qu : Addr
  qe : Addr
  ro : Addr
def MA.own (A : MA) : List Addr := [A.kn, A.sp, A.he, A.ro]
def RowFine : QRow → Prop
  | .set _ f as => f.length ≤ 8 ∧ as.length ≤ 2
  | _ => True
def KnR (H : Hp) (p : Addr) (t : Nat) : Prop := ∃ kvs : List (List Key × V), H p = some (.dT kvs) ∧ kvs.length ≤ t ∧ ∀ x ∈ kvs, ∃ (f : Str) (vs : List Str), x = (Sum.inr f :: vs.map Sum.inr, .str (wrT f vs))
def HeR (H : Hp) (p : Addr) (e : Rg) (t : Nat) : Prop := ∃ kw : List (Key × V), H p = some (.dK kw) ∧ kw.length ≤ t ∧ ∀ n, (valV kw (Sum.inr n)).getD (.str n) = .str (e n)
structure MacM (CK : Addr) (H : Hp) (A : MA) (T : List QRow) (ask : Str → Str → Bool) (t : Nat) : Prop where
  ins : H A.ma = some (.ins CK A.dm [("tracks", .ref A.tl), ("told", .ref A.td), ("known", .ref A.kn)])
  tl : H A.tl = some (.lst [.ref A.t0])
  t0 : ∃ xs, H A.t0 = some (.lst xs) ∧ Paired (RowAt H) xs T
  td : AskD H A.td ask
  kn : KnR H A.kn t
  fine : ∀ r ∈ T, RowFine r
  few : T.length ≤ 100 ∧ t ≤ 900
structure MoM (CM CK : Addr) (H : Hp) (A : MA) (T : List QRow) (ask : Str → Str → Bool) (i : Nat) (e : Rg) (sh : List Str) (t : Nat) : Prop where
  ins : H A.me = some (.ins CM A.dx [("machine", .ref A.ma), ("spots", .ref A.sp), ("worths", .ref A.wo), ("contents", .ref A.co), ("queues", .ref A.qu), ("rows", .ref A.ro)])
  mac : MacM CK H A T ask t
  sp : H A.sp = some (.lst [.int (i : Nat)])
  wo : H A.wo = some (.lst [.ref A.he])
  he : HeR H A.he e t
  co : H A.co = some (.dK [])
  qu : H A.qu = some (.lst [.ref A.qe])
  qe : H A.qe = some (.tup [])
  ro : ∃ rt, H A.ro = some (.lst [.ref rt]) ∧ H rt = some (.tup (sh.map V.str))
  ne : A.sp ≠ A.ro ∧ A.sp ≠ A.wo ∧ A.sp ≠ A.qu ∧ A.sp ≠ A.tl ∧ A.sp ≠ A.t0 ∧ A.ro ≠ A.wo ∧ A.ro ≠ A.qu ∧ A.ro ≠ A.tl ∧ A.ro ≠ A.t0 ∧ A.kn ≠ A.td ∧ A.he ≠ A.co
  few : sh.length ≤ 900
structure MaC (K : PySem.W.Frag) (C : Addr) : Prop where
  cl : Cls K C
  na : ∀ f ∈ ([("tracks" : Str), "told", "known"] : List Str), NoAttr K C f
structure MoC (K : PySem.W.Frag) (C : Addr) : Prop where
  cl : Cls K C
  na : ∀ f ∈ ([("machine" : Str), "spots", "worths", "contents", "queues", "rows"] : List Str), NoAttr K C f
section
variable {K : PySem.W.Frag} {C : Addr}
theorem MaC.nt (R : MaC K C) : NoAttr K C "tracks" := R.na _ (by simp)
theorem MaC.ntd (R : MaC K C) : NoAttr K C "told" := R.na _ (by simp)
theorem MaC.nk (R : MaC K C) : NoAttr K C "known" := R.na _ (by simp)
theorem MoC.nm (R : MoC K C) : NoAttr K C "machine" := R.na _ (by simp)
theorem MoC.ns (R : MoC K C) : NoAttr K C "spots" := R.na _ (by simp)
theorem MoC.nw (R : MoC K C) : NoAttr K C "worths" := R.na _ (by simp)
theorem MoC.nc (R : MoC K C) : NoAttr K C "contents" := R.na _ (by simp)
theorem MoC.nq (R : MoC K C) : NoAttr K C "queues" := R.na _ (by simp)
theorem MoC.nr (R : MoC K C) : NoAttr K C "rows" := R.na _ (by simp)
end
theorem KnR.mv {H H' : Hp} {p : Addr} {t t' : Nat} (h : KnR H p t) (e : H' p = H p) (l : t ≤ t') : KnR H' p t' := by
  obtain ⟨kvs, e1, e2, e3⟩ := h
  exact ⟨kvs, by rw [e]; exact e1, Nat.le_trans e2 l, e3⟩
theorem HeR.mv {H H' : Hp} {p : Addr} {e : Rg} {t t' : Nat} (h : HeR H p e t) (q : H' p = H p) (l : t ≤ t') : HeR H' p e t' := by
  obtain ⟨kvs, e1, e2, e3⟩ := h
  exact ⟨kvs, by rw [q]; exact e1, Nat.le_trans e2 l, e3⟩
/-- a machine stands where its parts do -/
theorem MacM.mv {CK : Addr} {H H' : Hp} {A : MA} {T : List QRow} {ask : Str → Str → Bool} {t t' : Nat} (h : MacM CK H A T ask t) (ts : TupS H H') (e1 : H' A.ma = H A.ma) (e2 : H' A.tl = H A.tl) (e3 : H' A.t0 = H A.t0) (e4 : H' A.td = H A.td) (kn : KnR H' A.kn t') (l : t' ≤ 900) : MacM CK H' A T ask t' := by
  obtain ⟨xs, x1, x2⟩ := h.t0
  exact ⟨by rw [e1]; exact h.ins, by rw [e2]; exact h.tl, ⟨xs, by rw [e3]; exact x1, rows_mv ts x2⟩, h.td.mv e4, kn, h.fine, h.few.1, l⟩
theorem MoM.mv {CM CK : Addr} {H H' : Hp} {A : MA} {T : List QRow} {ask : Str → Str → Bool} {i : Nat} {e : Rg} {sh : List Str} {t : Nat} (h : MoM CM CK H A T ask i e sh t) (s : Same H H') : MoM CM CK H' A T ask i e sh t := by
  have eq : ∀ {x o}, H x = some o → H' x = H x := fun e => by rw [e]; exact s _ _ e
  obtain ⟨rt, r1, r2⟩ := h.ro
  obtain ⟨kvs, k1, _⟩ := h.mac.kn
  obtain ⟨kw, w1, _⟩ := h.he
  obtain ⟨xs, x1, _⟩ := h.mac.t0
  obtain ⟨ks, y1, _⟩ := h.mac.td
  exact ⟨s _ _ h.ins, h.mac.mv (TupS.same s) (eq h.mac.ins) (eq h.mac.tl) (eq x1) (eq y1) (h.mac.kn.mv (eq k1) (Nat.le_refl _)) h.mac.few.2, s _ _ h.sp, s _ _ h.wo, h.he.mv (eq w1) (Nat.le_refl _), s _ _ h.co, s _ _ h.qu, s _ _ h.qe, ⟨rt, s _ _ r1, s _ _ r2⟩, h.ne, h.few⟩
/-- what is apart -/
theorem MoM.apart {CM CK : Addr} {H : Hp} {A : MA} {T : List QRow} {ask : Str → Str → Bool} {i : Nat} {e : Rg} {sh : List Str} {t : Nat} (h : MoM CM CK H A T ask i e sh t) : (∀ x ∈ A.own, x ≠ A.me ∧ x ≠ A.ma ∧ x ≠ A.tl ∧ x ≠ A.t0 ∧ x ≠ A.td ∧ x ≠ A.wo ∧ x ≠ A.co ∧ x ≠ A.qu ∧ x ≠ A.qe) ∧ A.kn ≠ A.sp ∧ A.kn ≠ A.he ∧ A.kn ≠ A.ro ∧ A.sp ≠ A.he ∧ A.he ≠ A.ro := by
  obtain ⟨rt, r1, r2⟩ := h.ro
  obtain ⟨kvs, k1, _⟩ := h.mac.kn
  obtain ⟨kw, w1, _⟩ := h.he
  obtain ⟨xs, x1, _⟩ := h.mac.t0
  obtain ⟨ks, y1, _⟩ := h.mac.td
  have i1 := h.ins
  have i2 := h.mac.ins
  have i3 := h.mac.tl
  have i4 := h.sp
  have i5 := h.wo
  have i6 := h.co
  have i7 := h.qu
  have i8 := h.qe
  obtain ⟨n1, n2, n3, n4, n5, n6, n7, n8, n9, n10, n11⟩ := h.ne
  have nn : ∀ {a b : Addr} {x y : HO}, H a = some x → H b = some y → x ≠ y → a ≠ b := fun ea eb q z => by
    rw [z, eb] at ea
    exact q (Option.some.inj ea).symm
  refine ⟨fun x hx => ?_, nn k1 i4 (fun z => nomatch z), nn k1 w1 (fun z => nomatch z), nn k1 r1 (fun z => nomatch z), nn i4 w1 (fun z => nomatch z), nn w1 r1 (fun z => nomatch z)⟩
  unfold MA.own at hx
  simp only [List.mem_cons, List.not_mem_nil, or_false] at hx
  rcases hx with rfl | rfl | rfl | rfl
  · exact ⟨nn k1 i1 (fun z => nomatch z), nn k1 i2 (fun z => nomatch z), nn k1 i3 (fun z => nomatch z), nn k1 x1 (fun z => nomatch z), n10, nn k1 i5 (fun z => nomatch z), nn k1 i6 (fun z => nomatch z), nn k1 i7 (fun z => nomatch z), nn k1 i8 (fun z => nomatch z)⟩
  · exact ⟨nn i4 i1 (fun z => nomatch z), nn i4 i2 (fun z => nomatch z), n4, n5, nn i4 y1 (fun z => nomatch z), n2, nn i4 i6 (fun z => nomatch z), n3, nn i4 i8 (fun z => nomatch z)⟩
  · exact ⟨nn w1 i1 (fun z => nomatch z), nn w1 i2 (fun z => nomatch z), nn w1 i3 (fun z => nomatch z), nn w1 x1 (fun z => nomatch z), nn w1 y1 (fun z => nomatch z), nn w1 i5 (fun z => nomatch z), n11, nn w1 i7 (fun z => nomatch z), nn w1 i8 (fun z => nomatch z)⟩
  · exact ⟨nn r1 i1 (fun z => nomatch z), nn r1 i2 (fun z => nomatch z), n8, n9, nn r1 y1 (fun z => nomatch z), n6, nn r1 i6 (fun z => nomatch z), n7, nn r1 i8 (fun z => nomatch z)⟩
section
variable {CM CK : Addr} {H : Hp} {A : MA} {T : List QRow} {ask : Str → Str → Bool} {i : Nat} {e : Rg} {sh : List Str} {t : Nat}
/-- the thread goes on -/
theorem MoM.goto (h : MoM CM CK H A T ask i e sh t) (j : Nat) : MoM CM CK (upd H A.sp (.lst [.int (j : Nat)])) A T ask j e sh t ∧ Chg A.own H (upd H A.sp (.lst [.int (j : Nat)])) := by
  obtain ⟨ap, a1, a2, a3, a4, a5⟩ := h.apart
  obtain ⟨m1, m2, m3, m4, m5, m6, m7, m8, m9⟩ := ap A.sp (by unfold MA.own; simp)
  have cg : Chg A.own H (upd H A.sp (.lst [.int (j : Nat)])) := Chg.put (by unfold MA.own; simp) h.sp fun _ z => nomatch z
  obtain ⟨rt, r1, r2⟩ := h.ro
  exact ⟨⟨by rw [upd_ne m1.symm]; exact h.ins, h.mac.mv cg.tups (upd_ne m2.symm) (upd_ne m3.symm) (upd_ne m4.symm) (upd_ne m5.symm) (h.mac.kn.mv (upd_ne a1) (Nat.le_refl _)) h.mac.few.2, upd_same, by rw [upd_ne m6.symm]; exact h.wo, h.he.mv (upd_ne a4.symm) (Nat.le_refl _), by rw [upd_ne m7.symm]; exact h.co, by rw [upd_ne m8.symm]; exact h.qu, by rw [upd_ne m9.symm]; exact h.qe, ⟨rt, by rw [upd_ne h.ne.1.symm]; exact r1, cg.tups _ _ r2⟩, h.ne, h.few⟩, cg⟩
/-- a register gets a value -/
theorem MoM.let {n v : Str} (h : MoM CM CK H A T ask i e sh t) (ht : t < 900) : ∃ kw : List (Key × V), H A.he = some (.dK kw) ∧ kw.length < sizeLine ∧
    MoM CM CK (upd H A.he (.dK (putK kw (Sum.inr n) (.str v)))) A T ask i (e.put n v) sh (t + 1) ∧ Chg A.own H (upd H A.he (.dK (putK kw (Sum.inr n) (.str v)))) := by
  obtain ⟨ap, a1, a2, a3, a4, a5⟩ := h.apart
  obtain ⟨m1, m2, m3, m4, m5, m6, m7, m8, m9⟩ := ap A.he (by unfold MA.own; simp)
  obtain ⟨kw, w1, w2, w3⟩ := h.he
  have cg : Chg A.own H (upd H A.he (.dK (putK kw (Sum.inr n) (.str v)))) := Chg.put (by unfold MA.own; simp) w1 fun _ z => nomatch z
  obtain ⟨rt, r1, r2⟩ := h.ro
  have line : (1000 : Nat) < sizeLine := by decide
  refine ⟨kw, w1, by omega, ⟨by rw [upd_ne m1.symm]; exact h.ins, h.mac.mv cg.tups (upd_ne m2.symm) (upd_ne m3.symm) (upd_ne m4.symm) (upd_ne m5.symm) (h.mac.kn.mv (upd_ne a2) (Nat.le_succ _)) ht, by rw [upd_ne a4]; exact h.sp, by rw [upd_ne m6.symm]; exact h.wo, ⟨_, upd_same, ?_, fun j => ?_⟩, by rw [upd_ne m7.symm]; exact h.co, by rw [upd_ne m8.symm]; exact h.qu, by rw [upd_ne m9.symm]; exact h.qe, ⟨rt, by rw [upd_ne a5.symm]; exact r1, cg.tups _ _ r2⟩, h.ne, h.few⟩, cg⟩
  · have := length_putK kw (Sum.inr n) (.str v)
    omega
  · rw [valV_put]
    show (if (Sum.inr j : Key) = Sum.inr n then some (V.str v) else _).getD _ = .str (if j = n then v else e j)
    by_cases hj : j = n
    · subst hj
      rw [if_pos rfl, if_pos rfl]
      rfl
    · rw [if_neg (fun z => hj (Sum.inr.inj z)), if_neg hj]
      exact w3 j
end
theorem valV_drop {α : Type} [DecidableEq α] {k j : α} : ∀ {kvs : List (α × V)}, valV (dropK kvs k) j = if j = k then none else valV kvs j
  | [] => by
    show valV [] j = _
    split <;> rfl
  | p :: r => by
    by_cases h : p.1 = k
    · have e : dropK (p :: r) k = dropK r k := by
        unfold dropK
        rw [List.filter_cons_of_neg]
        simp [h]
      rw [e, valV_drop]
      by_cases hj : j = k
      · rw [if_pos hj, if_pos hj]
      · rw [if_neg hj, if_neg hj, valV_neg (fun z => hj (by rw [← z, h]))]
    · have e : dropK (p :: r) k = p :: dropK r k := by
        unfold dropK
        rw [List.filter_cons_of_pos]
        simp [h]
      rw [e]
      by_cases hp : p.1 = j
      · rw [valV_pos hp, valV_pos hp, if_neg (fun z => h (by rw [hp, z]))]
      · rw [valV_neg hp, valV_drop, valV_neg hp]
end OM

namespace OM
open PySem PySem.Spec PyProof.Rows L2
/-- the first item of a list, as a value that is changed -/
def rFst (K : PySem.W.Frag) : V → V → Hp → VK → Prop := fun x y H Q => ∃ p v vs, x = .ref p ∧ y = .int 0 ∧ SqL K H p (v :: vs) ∧ Q v H
theorem pget_fst {X : Cx} : PGet X (rFst X.K) := by
  intro pins s σ H x y v u Q I rx ry h
  obtain ⟨p, z, vs, rfl, rfl, hq, q⟩ := h
  cases rx
  obtain ⟨t, rfl⟩ := ry
  obtain ⟨its, r, pl, hz⟩ := I.list hq
  have he : (z :: vs)[0]? = some z := rfl
  obtain ⟨w, ew, rw'⟩ := r.get he
  exact wpAny_getItem_list pl.isList (by decide) (by decide) (by simpa using ew) ⟨z, H, I, rw', q⟩
abbrev spM (CM CK : Addr) (f : V → MA → List QRow → (Str → Str → Bool) → Nat → Rg → List Str → Nat → List V → Hp → VK → Prop) : Sp := fun vs H Q _ => ∃ (A : MA) (T : List QRow) (ask : Str → Str → Bool) (i : Nat) (e : Rg) (sh : List Str) (t : Nat), MoM CM CK H A T ask i e sh t ∧ f (.ref A.me) A T ask i e sh t vs H Q
def spRowOf (CM CK : Addr) : Sp := spM CM CK fun me A T ask i e sh t vs H Q => ∃ row, vs = [me, .int 0] ∧ T[i]? = some row ∧ ∀ v, RowAt H v row → Q v H
def spValueIn (CM CK : Addr) : Sp := spM CM CK fun me A T ask i e sh t vs H Q => ∃ n : Str, vs = [me, .int 0, .str n] ∧ Q (.str (e n)) H
def spIsYes (CM CK : Addr) : Sp := spM CM CK fun me A T ask i e sh t vs H Q => ∃ p x : Str, vs = [me, .str p, .str x] ∧ ∀ H', Same H H' → Q (.bl (ask p x)) H'
def spAssign (CM CK : Addr) : Sp := spM CM CK fun me A T ask i e sh t vs H Q => ∃ n v : Str, vs = [me, .int 0, .str n, .str v] ∧ t < 900 ∧ ∀ H', Chg A.own H H' → MoM CM CK H' A T ask i (e.put n v) sh (t + 1) → Q .non H'
def spValOf (CM CK : Addr) (K : PySem.W.Frag) : Sp := spM CM CK fun me A T ask i e sh t vs H Q => ∃ (f : Str) (p : Addr) (as : List Str), vs = [.ref A.ma, .str f, .ref p] ∧ H p = some (.lst (as.map V.str)) ∧ p ∉ A.own ∧ t < 900 ∧ f.length ≤ 8 ∧ as.length ≤ 2 ∧ (∀ a ∈ as, a.length ≤ 4000000) ∧ ∀ H', Chg A.own H H' → MoM CM CK H' A T ask i e sh (t + 1) → Q (.str (wrT f as)) H'
section
variable {P : Program} {w : World} {K : PySem.W.Frag} {mg : Str → Option Value} {base : Heap} {f CM CK : Addr} {fd : FuncData}
theorem scRo : FnScope ["self", "thread"] ["self", "thread"] (defScope sRowOf) := ⟨rfl, rfl, rfl, by decide +kernel, rfl, by decide +kernel, by decide +kernel⟩
theorem ok_rowof (F : Fun K "row_of" "Moment.row_of" sRowOf f fd) (R : MoC K CM) (RK : MaC K CK) : FnOk P w K mg base CX0 1 f fd ["self", "thread"] (spRowOf CM CK) := by
  refine F.ok scRo (fun vs H Q E h => ?_) (fun cdv A0 outer s H vs Q E hr h => ?_)
  · obtain ⟨A, T, ask, i, e, sh, t, _, row, rfl, _⟩ := h
    rfl
  · obtain ⟨A, T, ask, i, e, sh, t, h, row, rfl, hrow, q⟩ := h
    refine ⟨_, pss_one (ps_ret (pe_ix ix_list (pe_ix ix_list (pe_fld (pe_fld (pv 0) rfl) rfl) (pv 1) (fun _ _ => rfl)) (pe_ix ix_list (pe_fld (pv 0) rfl) (pv 1) (fun _ _ => rfl)) (fun _ _ => rfl))), ?_⟩
    obtain ⟨xs, x1, x2⟩ := h.mac.t0
    obtain ⟨v, hv, hx⟩ := Paired.of x2 hrow
    refine ⟨_, rfl, A.me, CM, A.dx, _, .ref A.ma, rfl, h.ins, R.cl, R.nm, rfl, A.ma, CK, A.dm, _, .ref A.tl, rfl, h.mac.ins, RK.cl, RK.nt, rfl, _, rfl, A.tl, _, 0, .ref A.t0, rfl, rfl, SqL.of h.mac.tl, at0, _, rfl, A.me, CM, A.dx, _, .ref A.sp, rfl, h.ins, R.cl, R.ns, rfl, _, rfl, A.sp, _, 0, .int (i : Nat), rfl, rfl, SqL.of h.sp, at0, A.t0, xs, (i : Nat), v, rfl, rfl, SqL.of x1, atI_nat hv, q v hx⟩
theorem scVi : FnScope ["self", "thread", "name"] ["self", "thread", "name"] (defScope sValueIn) := ⟨rfl, rfl, rfl, by decide +kernel, rfl, by decide +kernel, by decide +kernel⟩
theorem ok_valuein (F : Fun K "value_in" "Moment.value_in" sValueIn f fd) (R : MoC K CM) : FnOk P w K mg base CX0 1 f fd ["self", "thread", "name"] (spValueIn CM CK) := by
  refine F.ok scVi (fun vs H Q E h => ?_) (fun cdv A0 outer s H vs Q E hr h => ?_)
  · obtain ⟨A, T, ask, i, e, sh, t, _, n, rfl, _⟩ := h
    rfl
  · obtain ⟨A, T, ask, i, e, sh, t, h, n, rfl, q⟩ := h
    refine ⟨_, pss_one (ps_ret (pe_dget2 (hu_of hr) (pe_ix ix_list (pe_fld (pv 0) rfl) (pv 1) (fun _ _ => rfl)) (pv 2) (pv 2) ⟨rfl, rfl, rfl, rfl⟩)), ?_⟩
    obtain ⟨kw, w1, w2, w3⟩ := h.he
    refine ⟨_, rfl, A.me, CM, A.dx, _, .ref A.wo, rfl, h.ins, R.cl, R.nw, rfl, _, rfl, A.wo, _, 0, .ref A.he, rfl, rfl, SqL.of h.wo, at0, A.he, rfl, .inl ⟨kw, .inl w1⟩, _, rfl, _, rfl, _, DGet.k (k := Sum.inr n) w1, ?_⟩
    rw [w3]
    exact q
theorem scIy : FnScope ["self", "test", "value"] ["self", "test", "value"] (defScope sIsYes) := ⟨rfl, rfl, rfl, by decide +kernel, rfl, by decide +kernel, by decide +kernel⟩
theorem ok_isyes (F : Fun K "is_yes" "Moment.is_yes" sIsYes f fd) (R : MoC K CM) (RK : MaC K CK) : FnOk P w K mg base CX0 1 f fd ["self", "test", "value"] (spIsYes CM CK) := by
  refine F.ok scIy (fun vs H Q E h => ?_) (fun cdv A0 outer s H vs Q E hr h => ?_)
  · obtain ⟨A, T, ask, i, e, sh, t, _, p, x, rfl, _⟩ := h
    rfl
  · obtain ⟨A, T, ask, i, e, sh, t, h, p, x, rfl, q⟩ := h
    refine ⟨_, pss_one (ps_ret (pe_dget2 (hu_of hr) (pe_fld (pe_fld (pv 0) rfl) rfl) (pe_tup (pa_cons (pv 1) (pa_cons (pv 2) pa_nil))) pe_bl ⟨rfl, rfl, rfl, rfl⟩)), ?_⟩
    obtain ⟨kvs, k1, k2⟩ := h.mac.td
    refine ⟨_, rfl, A.me, CM, A.dx, _, .ref A.ma, rfl, h.ins, R.cl, R.nm, rfl, A.ma, CK, A.dm, _, .ref A.td, rfl, h.mac.ins, RK.cl, RK.ntd, rfl, A.td, rfl, .inr ⟨kvs, .inl k1⟩, _, rfl, _, rfl, (by show 2 ≤ sizeLine; decide), fun kp hkp => ?_⟩
    have s1 := same_upd (o := .tup [.str p, .str x]) hkp
    refine ⟨_, DGet.t (k := keyP (p, x)) (s1 _ _ k1) upd_same, ?_⟩
    rw [k2]
    exact q _ s1
theorem scAs : FnScope ["self", "thread", "name", "value"] ["self", "thread", "name", "value"] (defScope sAssign) := ⟨rfl, rfl, rfl, by decide +kernel, rfl, by decide +kernel, by decide +kernel⟩
theorem MoM.lose {H : Hp} {A : MA} {T : List QRow} {ask : Str → Str → Bool} {i : Nat} {e : Rg} {sh : List Str} {t : Nat} (h : MoM CM CK H A T ask i e sh t) {n : Str} {kw : List (Key × V)} (hk : H A.he = some (.dK kw)) (hn : e n = n) :
    MoM CM CK (upd H A.he (.dK (dropK kw (Sum.inr n)))) A T ask i e sh t ∧ Chg A.own H (upd H A.he (.dK (dropK kw (Sum.inr n)))) := by
  obtain ⟨ap, a1, a2, a3, a4, a5⟩ := h.apart
  obtain ⟨m1, m2, m3, m4, m5, m6, m7, m8, m9⟩ := ap A.he (by unfold MA.own; simp)
  obtain ⟨kw', w1, w2, w3⟩ := h.he
  obtain rfl : kw' = kw := by
    rw [hk] at w1
    injection w1 with w1
    injection w1 with w1
    exact w1.symm
  have cg : Chg A.own H (upd H A.he (.dK (dropK kw' (Sum.inr n)))) := Chg.put (by unfold MA.own; simp) w1 fun _ z => nomatch z
  obtain ⟨rt, r1, r2⟩ := h.ro
  refine ⟨⟨by rw [upd_ne m1.symm]; exact h.ins, h.mac.mv cg.tups (upd_ne m2.symm) (upd_ne m3.symm) (upd_ne m4.symm) (upd_ne m5.symm) (h.mac.kn.mv (upd_ne a2) (Nat.le_refl _)) h.mac.few.2, by rw [upd_ne a4]; exact h.sp, by rw [upd_ne m6.symm]; exact h.wo, ⟨_, upd_same, Nat.le_trans (dropK_le _ _) w2, fun j => ?_⟩, by rw [upd_ne m7.symm]; exact h.co, by rw [upd_ne m8.symm]; exact h.qu, by rw [upd_ne m9.symm]; exact h.qe, ⟨rt, by rw [upd_ne a5.symm]; exact r1, cg.tups _ _ r2⟩, h.ne, h.few⟩, cg⟩
  rw [valV_drop]
  by_cases hj : j = n
  · subst hj
    rw [if_pos rfl, hn]
    rfl
  · rw [if_neg (fun z => hj (Sum.inr.inj z))]
    exact w3 j
theorem ok_assign (F : Fun K "assign" "Moment.assign" sAssign f fd) (R : MoC K CM) : FnOk P w K mg base CX0 1 f fd ["self", "thread", "name", "value"] (spAssign CM CK) := by
  refine F.ok scAs (fun vs H Q E h => ?_) (fun cdv A0 outer s H vs Q E hr h => ?_)
  · obtain ⟨A, T, ask, i, e, sh, t, _, n, v, rfl, _⟩ := h
    rfl
  · obtain ⟨A, T, ask, i, e, sh, t, h, n, v, rfl, ht, q⟩ := h
    refine ⟨_, pss_cons (ps_dput (hu_of hr) (pe_ix ix_list (pe_fld (pv 0) rfl) (pv 1) (fun _ _ => rfl)) (pv 2) (pv 3) rfl)
      (pss_one (ps_if (pt_cmpR op_eq (pv 3) (pv 2) (nomark _)) (pss_one (ps_ddel (pe_ix ix_list (pe_fld (pv 0) rfl) (pv 1) (fun _ _ => rfl)) (pv 2))) pss_nil)), ?_⟩
    obtain ⟨kw, w1, w2, h1, c1⟩ := h.let (n := n) (v := v) ht
    refine ⟨_, rfl, _, rfl, A.me, CM, A.dx, _, .ref A.wo, rfl, h.ins, R.cl, R.nw, rfl, _, rfl, A.wo, _, 0, .ref A.he, rfl, rfl, SqL.of h.wo, at0, _, rfl, A.he, _, rfl, DPut.k (k := Sum.inr n) w1 w2, ?_⟩
    refine ⟨_, rfl, _, rfl, rfl, _, rfl, ite2 (fun hv => ?_) (fun hv => q _ c1 h1)⟩
    have ev : v = n := V.str.inj (of_decide_eq_true hv)
    obtain ⟨h2, c2⟩ := h1.lose (n := n) upd_same (by unfold Rg.put; rw [if_pos rfl]; exact ev)
    refine ⟨_, rfl, A.me, CM, A.dx, _, .ref A.wo, rfl, h1.ins, R.cl, R.nw, rfl, _, rfl, A.wo, _, 0, .ref A.he, rfl, rfl, SqL.of h1.wo, at0, _, rfl, A.he, _, Sum.inr n, rfl, upd_same, rfl, ?_, q _ (c1.trans c2) h2⟩
    rw [valV_put, if_pos rfl]
    rfl
end
end OM

namespace OM
open PySem PySem.Spec PyProof.Rows L2
theorem inr_inj : ∀ {a b : List Str}, a.map (Sum.inr : Str → Key) = b.map Sum.inr → a = b
  | [], [], _ => rfl
  | [], _ :: _, h => by cases h
  | _ :: _, [], h => by cases h
  | x :: a, y :: b, h => by
    injection h with h1 h2
    rw [Sum.inr.inj h1, inr_inj h2]
theorem kV_strs (as : List Str) : (as.map (Sum.inr : Str → Key)).map kV = as.map V.str := by
  rw [List.map_map]
  rfl
section
variable {P : Program} {w : World} {K : PySem.W.Frag} {mg : Str → Option Value} {base : Heap} {f CM CK : Addr} {fd : FuncData}
/-- a value is known -/
theorem MoM.know {H : Hp} {A : MA} {T : List QRow} {ask : Str → Str → Bool} {i : Nat} {e : Rg} {sh : List Str} {t : Nat} (h : MoM CM CK H A T ask i e sh t) (ht : t < 900) {kvs : List (List Key × V)} (hk : H A.kn = some (.dT kvs)) {f : Str} {as : List Str} :
    kvs.length < sizeLine ∧ MoM CM CK (upd H A.kn (.dT (putK kvs (Sum.inr f :: as.map Sum.inr) (.str (wrT f as))))) A T ask i e sh (t + 1) ∧ Chg A.own H (upd H A.kn (.dT (putK kvs (Sum.inr f :: as.map Sum.inr) (.str (wrT f as))))) := by
  obtain ⟨ap, a1, a2, a3, a4, a5⟩ := h.apart
  obtain ⟨m1, m2, m3, m4, m5, m6, m7, m8, m9⟩ := ap A.kn (by unfold MA.own; simp)
  obtain ⟨kvs', w1, w2, w3⟩ := h.mac.kn
  obtain rfl : kvs' = kvs := by
    rw [hk] at w1
    injection w1 with w1
    injection w1 with w1
    exact w1.symm
  have line : (1000 : Nat) < sizeLine := by decide
  have cg : Chg A.own H (upd H A.kn (.dT (putK kvs' (Sum.inr f :: as.map Sum.inr) (.str (wrT f as))))) := Chg.put (by unfold MA.own; simp) w1 fun _ z => nomatch z
  obtain ⟨rt, r1, r2⟩ := h.ro
  refine ⟨by omega, ⟨by rw [upd_ne m1.symm]; exact h.ins, h.mac.mv cg.tups (upd_ne m2.symm) (upd_ne m3.symm) (upd_ne m4.symm) (upd_ne m5.symm) ⟨_, upd_same, ?_, fun x hx => ?_⟩ ht, by rw [upd_ne a1.symm]; exact h.sp, by rw [upd_ne m6.symm]; exact h.wo, h.he.mv (upd_ne a2.symm) (Nat.le_succ _), by rw [upd_ne m7.symm]; exact h.co, by rw [upd_ne m8.symm]; exact h.qu, by rw [upd_ne m9.symm]; exact h.qe, ⟨rt, by rw [upd_ne a3.symm]; exact r1, cg.tups _ _ r2⟩, h.ne, h.few⟩, cg⟩
  · have := length_putK kvs' (Sum.inr f :: as.map Sum.inr) (.str (wrT f as))
    omega
  · unfold putK at hx
    split at hx
    · obtain ⟨y, hy, rfl⟩ := List.mem_map.mp hx
      by_cases z : y.1 = Sum.inr f :: as.map Sum.inr
      · rw [if_pos z, z]
        exact ⟨f, as, rfl⟩
      · rw [if_neg z]
        exact w3 y hy
    · rcases List.mem_append.mp hx with hx | hx
      · exact w3 x hx
      · rw [List.mem_singleton.mp hx]
        exact ⟨f, as, rfl⟩
theorem scVo : FnScope ["self", "function", "values", "key"] ["self", "function", "values"] (defScope sValOf) := ⟨rfl, rfl, rfl, by decide +kernel, rfl, by decide +kernel, by decide +kernel⟩
theorem ok_valof (F : Fun K "value_of" "Machine.value_of" sValOf f fd) (RK : MaC K CK) (cw : CallN P w K mg base "written" 1 ["function", "values"] (spWrit K)) : FnOk P w K mg base CX0 2 f fd ["self", "function", "values"] (spValOf CM CK K) := by
  obtain ⟨gW, dW, aW, kW, bW, GW⟩ := cw
  refine F.ok scVo (fun vs H Q E h => ?_) (fun cdv A0 outer s H vs Q E hr h => ?_)
  · obtain ⟨A, T, ask, i, e, sh, t, _, fn, p, as, rfl, _⟩ := h
    rfl
  · obtain ⟨A, T, ask, i, e, sh, t, h, fn, p, as, rfl, ep, po, ht, hf, h2, hl, q⟩ := h
    refine ⟨_, pss_cons (ps_set (i := 3) scVo.nd rfl (Or.inl rfl) (pe_tup (pa_cons (pv 1) (StX.pa_star (pv 2) pa_nil))))
      (pss_cons (ps_if (pt_cmp (pc_dnotin (hu_of hr) (pv 3) (pe_fld (pv 0) rfl))) (pss_one (ps_dput (hu_of hr) (pe_fld (pv 0) rfl) (pv 3) (pe_call GW hr (by rfl) aW kW bW .nil pass0 (pa_cons (pv 1) (pa_cons (pv 2) pa_nil))) rfl)) pss_nil)
      (pss_one (ps_ret (pe_dget (hu_of hr) (pe_fld (pv 0) rfl) (pv 3) (fun _ _ => rfl))))), ?_⟩
    obtain ⟨kvs, k1, k2, k3⟩ := h.mac.kn
    have line : (1000 : Nat) < sizeLine := by decide
    refine ⟨_, rfl, _, rfl, p, _, rfl, .inr (SqL.of ep), ?_, fun kp hkp => ?_⟩
    · show (V.str fn :: (as.map V.str ++ [])).length ≤ sizeLine
      rw [List.append_nil, List.length_cons, List.length_map]
      omega
    have ek : (V.str fn :: (as.map V.str ++ [])) = (Sum.inr fn :: as.map (Sum.inr : Str → Key)).map kV := by
      rw [List.append_nil, List.map_cons, kV_strs]
      rfl
    rw [ek]
    have s1 := same_upd (o := .tup ((Sum.inr fn :: as.map (Sum.inr : Str → Key)).map kV)) hkp
    have e1 : upd H kp (.tup ((Sum.inr fn :: as.map (Sum.inr : Str → Key)).map kV)) kp = some (.tup ((Sum.inr fn :: as.map (Sum.inr : Str → Key)).map kV)) := upd_same
    have h1 := h.mv s1
    generalize upd H kp (.tup ((Sum.inr fn :: as.map (Sum.inr : Str → Key)).map kV)) = H1 at s1 e1 h1 ⊢
    have kn1 := s1 _ _ k1
    refine ⟨_, rfl, _, rfl, A.ma, CK, A.dm, _, .ref A.kn, rfl, h1.mac.ins, RK.cl, RK.nk, rfl, A.kn, _, rfl, DGet.t (k := Sum.inr fn :: as.map Sum.inr) kn1 e1, _, rfl, ?_⟩
    cases hv : valV kvs (Sum.inr fn :: as.map Sum.inr) with
    | some v =>
      obtain ⟨f', vs', e2⟩ := k3 _ (valV_some hv)
      injection e2 with e2 e3
      injection e2 with e4 e5
      obtain rfl := Sum.inr.inj e4
      obtain rfl := inr_inj e5
      subst e3
      refine iteF ⟨_, rfl, A.ma, CK, A.dm, _, .ref A.kn, rfl, h1.mac.ins, RK.cl, RK.nk, rfl, _, rfl, A.kn, .str (wrT fn as), rfl, ?_, ?_⟩
      · have z := DGet.t (k := Sum.inr fn :: as.map Sum.inr) kn1 e1
        rw [hv] at z
        exact z
      · have n900 : t + 1 ≤ 900 := ht
        refine q H1 (Chg.same s1) ?_
        have hm := h1.mac
        exact ⟨h1.ins, hm.mv (TupS.same (Same.refl _)) rfl rfl rfl rfl (hm.kn.mv rfl (Nat.le_succ _)) n900, h1.sp, h1.wo, h1.he.mv rfl (Nat.le_succ _), h1.co, h1.qu, h1.qe, h1.ro, h1.ne, h1.few⟩
    | none =>
      obtain ⟨l2, h2', c2⟩ := h1.know ht kn1 (f := fn) (as := as)
      refine iteT ⟨_, rfl, _, rfl, fn, p, as, 4000000, rfl, hf, SqL.of (s1 _ _ ep), h2, hl, Nat.le_refl _, _, rfl, A.ma, CK, A.dm, _, .ref A.kn, rfl, h1.mac.ins, RK.cl, RK.nk, rfl, _, rfl, A.kn, _, rfl, DPut.t (k := Sum.inr fn :: as.map Sum.inr) kn1 e1 l2, ?_⟩
      refine ⟨_, rfl, A.ma, CK, A.dm, _, .ref A.kn, rfl, h2'.mac.ins, RK.cl, RK.nk, rfl, _, rfl, A.kn, .str (wrT fn as), rfl, ?_, q _ ((Chg.same s1).trans c2) h2'⟩
      have z := DGet.t (k := Sum.inr fn :: as.map Sum.inr) (kvs := putK kvs (Sum.inr fn :: as.map Sum.inr) (.str (wrT fn as))) (H := upd H1 A.kn (.dT (putK kvs (Sum.inr fn :: as.map Sum.inr) (.str (wrT fn as))))) upd_same (c2.tups _ _ e1)
      rw [valV_put, if_pos rfl] at z
      exact z
end
end OM

namespace OM
open PySem PySem.Spec PyProof.Rows L2
def stops6 : List Str := ["read", "write", "get", "put", "show", "over"]
/-- where a thread stands between two steps -/
def QRow.stop : QRow → Prop
  | .shw _ => True
  | .over => True
  | _ => False
def spSettle (CM CK : Addr) : Sp := spM CM CK fun me A T ask i e sh t vs H Q => ∃ (L : List Str) (e' : Rg), vs = [me, .int 0] ∧ Trc ask T i e L e' ∧ t ≤ 3 * i ∧
  ∀ H' i2 e2 t2 row, Chg A.own H H' → MoM CM CK H' A T ask i2 e2 sh t2 → Trc ask T i2 e2 L e' → T[i2]? = some row → row.stop → t2 ≤ 3 * i2 → Q .non H'
/-- the methods of a moment -/
structure MoF (P : Program) (w : World) (K : PySem.W.Frag) (mg : Str → Option Value) (base : Heap) (CM CK : Addr) : Prop where
  R : MoC K CM
  RK : MaC K CK
  row : MethN P w K mg base CM "row_of" 1 ["self", "thread"] (spRowOf CM CK)
  val : MethN P w K mg base CM "value_in" 1 ["self", "thread", "name"] (spValueIn CM CK)
  yes : MethN P w K mg base CM "is_yes" 1 ["self", "test", "value"] (spIsYes CM CK)
  asg : MethN P w K mg base CM "assign" 1 ["self", "thread", "name", "value"] (spAssign CM CK)
  vof : MethN P w K mg base CK "value_of" 2 ["self", "function", "values"] (spValOf CM CK K)
  stops : ∃ a, mg "STOPS" = some (.ref a) ∧ ∀ H, SqT K H a (stops6.map V.str)
section
variable {P : Program} {w : World} {K : PySem.W.Frag} {mg : Str → Option Value} {base : Heap} {f CM CK : Addr} {fd : FuncData}
theorem MoM.there {CM CK : Addr} {H : Hp} {A : MA} {T : List QRow} {ask : Str → Str → Bool} {i : Nat} {e : Rg} {sh : List Str} {t : Nat} (h : MoM CM CK H A T ask i e sh t) : ∀ x ∈ A.own, ∃ o, H x = some o := by
  obtain ⟨rt, r1, r2⟩ := h.ro
  obtain ⟨kvs, k1, _⟩ := h.mac.kn
  obtain ⟨kw, w1, _⟩ := h.he
  intro x hx
  unfold MA.own at hx
  simp only [List.mem_cons, List.not_mem_nil, or_false] at hx
  rcases hx with rfl | rfl | rfl | rfl
  · exact ⟨_, k1⟩
  · exact ⟨_, h.sp⟩
  · exact ⟨_, w1⟩
  · exact ⟨_, r1⟩
/-- a row as an object, by its word -/
theorem RowAt.word {H : Hp} {v : V} {r : QRow} (h : RowAt H v r) : ∃ p rest, v = .ref p ∧ H p = some (.tup (.str (match r with | .set .. => "set" | .copy .. => "copy" | .shw .. => "show" | .iff .. => "if" | .skip .. => "skip" | .over => "over") :: rest)) := by
  cases r with
  | set r f as =>
    obtain ⟨p, q, z1, z2, _⟩ := h
    exact ⟨p, _, z1, z2⟩
  | _ =>
    obtain ⟨p, z1, z2⟩ := h
    exact ⟨p, _, z1, z2⟩
abbrev nSet : List Str := ["self", "thread", "row", "values", "name"]
theorem scSet29 : FnScope nSet ["self", "thread"] (defScope sSettle) := ⟨rfl, rfl, rfl, by decide +kernel, rfl, by decide +kernel, by decide +kernel⟩
theorem ok_settle (F : Fun K "settle" "Moment.settle" sSettle f fd) (M : MoF P w K mg base CM CK) : FnOk P w K mg base CX0 3 f fd ["self", "thread"] (spSettle CM CK) := by
  obtain ⟨gR, dR, aR, bR, GR⟩ := M.row
  obtain ⟨gV, dV, aV, bV, GV⟩ := M.val
  obtain ⟨gY, dY, aY, bY, GY⟩ := M.yes
  obtain ⟨gA, dA, aA, bA, GA⟩ := M.asg
  obtain ⟨gO, dO, aO, bO, GO⟩ := M.vof
  obtain ⟨aS, gS, hS⟩ := M.stops
  have R := M.R
  have RK := M.RK
  refine F.ok scSet29 (fun vs H Q E h => ?_) (fun cdv A0 outer s H vs Q E hr h => ?_)
  · obtain ⟨A, T, ask, i, e, sh, t, _, L, e', rfl, _⟩ := h
    rfl
  · obtain ⟨A, T, ask, i, e, sh, t, h, L, e', rfl, tr, ht, q⟩ := h
    refine ⟨_, pss_cons (ps_set (i := 2) scSet29.nd rfl (Or.inl rfl) (pe_meth (pv 0) R.cl aR GR (hr.mono (by decide)) bR .nil pass0 (pa_cons (pv 1) pa_nil)))
      (pss_one (ps_while PassesOwn.never (pt_cmpR op_notIn_seq (pe_ix (r := rIxT K) ix_tup (pv 2) pe_int (fun _ _ => rfl)) (pe_glob (v := .ref aS) (by rfl) gS rfl) (by rfl))
        (pss_cons (ps_augS (pe_fld (pv 0) rfl) (pv 1) pget_fst pe_int ip_add L2.set_list)
        (pss_cons (ps_if (pt_cmpR op_eq (pe_ix (r := rIxT K) ix_tup (pv 2) pe_int (fun _ _ => rfl)) pe_str (nomark _))
            (pss_one (ps_augS (pe_fld (pv 0) rfl) (pv 1) pget_fst (pe_ix (r := rIxT K) ix_tup (pv 2) pe_int (fun _ _ => rfl)) ip_add L2.set_list))
          (pss_one (ps_if (pt_cmpR op_eq (pe_ix (r := rIxT K) ix_tup (pv 2) pe_int (fun _ _ => rfl)) pe_str (nomark _))
            (pss_one (ps_if (pt_not (pt_val (pe_meth (pv 0) R.cl aY GY (hr.mono (by decide)) bY .nil pass0 (pa_cons (pe_ix (r := rIxT K) ix_tup (pv 2) pe_int (fun _ _ => rfl)) (pa_cons (pe_meth (pv 0) R.cl aV GV (hr.mono (by decide)) bV .nil pass0 (pa_cons (pv 1) (pa_cons (pe_ix (r := rIxT K) ix_tup (pv 2) pe_int (fun _ _ => rfl)) pa_nil))) pa_nil)))))
              (pss_one (ps_augS (pe_fld (pv 0) rfl) (pv 1) pget_fst (pe_ix (r := rIxT K) ix_tup (pv 2) pe_int (fun _ _ => rfl)) ip_add L2.set_list)) pss_nil))
          (pss_one (ps_if (pt_cmpR op_eq (pe_ix (r := rIxT K) ix_tup (pv 2) pe_int (fun _ _ => rfl)) pe_str (nomark _))
            (pss_one (ps_expr (pe_meth (pv 0) R.cl aA GA (hr.mono (by decide)) bA .nil pass0 (pa_cons (pv 1) (pa_cons (pe_ix (r := rIxT K) ix_tup (pv 2) pe_int (fun _ _ => rfl)) (pa_cons (pe_meth (pv 0) R.cl aV GV (hr.mono (by decide)) bV .nil pass0 (pa_cons (pv 1) (pa_cons (pe_ix (r := rIxT K) ix_tup (pv 2) pe_int (fun _ _ => rfl)) pa_nil))) pa_nil))))))
            (pss_cons (ps_setLc (i := 3) (own := [("name", 4)]) rfl scSet29.nd rfl rfl (by rfl) (pi_tup (pe_ix (r := rIxT K) ix_tup (pv 2) pe_int (fun _ _ => rfl))) (blkOk_by (N := nSet) (sc := defScope sSettle) (by decide +kernel))
                (fun _ _ _ _ _ => pg_name (i := 4) scSet29.nd rfl (Or.inl rfl)) (fun _ _ _ _ _ => pts_nil) (fun _ _ _ _ _ => pe_meth (pv 0) R.cl aV GV (hr.mono (by decide)) bV .nil pass0 (pa_cons (pv 1) (pa_cons (pv 4) pa_nil))))
            (pss_one (ps_expr (pe_meth (pv 0) R.cl aA GA (hr.mono (by decide)) bA .nil pass0 (pa_cons (pv 1) (pa_cons (pe_ix (r := rIxT K) ix_tup (pv 2) pe_int (fun _ _ => rfl)) (pa_cons (pe_meth (pe_fld (pv 0) rfl) RK.cl aO GO hr bO .nil pass0 (pa_cons (pe_ix (r := rIxT K) ix_tup (pv 2) pe_int (fun _ _ => rfl)) (pa_cons (pv 3) pa_nil))) pa_nil))))))))))))
        (pss_one (ps_set (i := 2) scSet29.nd rfl (Or.inl rfl) (pe_meth (pv 0) R.cl aR GR (hr.mono (by decide)) bR .nil pass0 (pa_cons (pv 1) pa_nil)))))))), ?_⟩
    have hat : ∀ {T : List QRow} {i : Nat} {e : Rg} {L : List Str} {e' : Rg}, Trc ask T i e L e' → ∃ row, T[i]? = some row := fun tr => by
      cases tr with
      | over h => exact ⟨_, h⟩
      | shw h _ => exact ⟨_, h⟩
      | set h _ _ => exact ⟨_, h⟩
      | copy h _ => exact ⟨_, h⟩
      | yes h _ _ => exact ⟨_, h⟩
      | no h _ _ => exact ⟨_, h⟩
      | skip h _ => exact ⟨_, h⟩
    have fT := h.mac.few.1
    have fine := h.mac.fine
    obtain ⟨row, hrow⟩ := hat tr
    refine ⟨_, rfl, A.me, A.dx, _, rfl, h.ins, rfl, _, rfl, A, T, ask, i, e, sh, t, h, row, rfl, hrow, fun v hv => ?_⟩
    refine ⟨fun m σ G => ∃ i e t row v, m = T.length - i ∧ (∃ x3 x4, σ = [some (.ref A.me), some (.int 0), some v, x3, x4]) ∧ Chg A.own H G ∧ MoM CM CK G A T ask i e sh t ∧ Trc ask T i e L e' ∧ t ≤ 3 * i ∧ T[i]? = some row ∧ RowAt G v row, ⟨_, i, e, t, row, v, rfl, ⟨_, _, rfl⟩, Chg.refl _ _, h, tr, ht, hrow, hv⟩, ?_⟩
    rintro m σ G ⟨i, e, t, row, v, rfl, ⟨x3, x4, rfl⟩, cg, hm, tr, ht, hrow, hv⟩
    have il : i < T.length := (List.getElem?_eq_some_iff.mp hrow).1
    have ne : ∀ {x y : Str}, x ≠ y → decide (V.str x = V.str y) = false := fun h => decide_eq_false fun z => h (V.str.inj z)
    obtain ⟨p, rest, rfl, ep⟩ := hv.word
    refine ⟨_, rfl, p, _, 0, _, rfl, rfl, SqT.of ep, at0, aS, _, rfl, .inr (hS _), rfl, by decide +kernel, _, rfl, ?_⟩
    cases tr with
    | over h0 =>
      obtain rfl := Option.some.inj (hrow.symm.trans h0)
      exact iteF (q G i _ t _ cg hm (.over h0) h0 True.intro ht)
    | shw h0 k =>
      obtain rfl := Option.some.inj (hrow.symm.trans h0)
      exact iteF (q G i e t _ cg hm (.shw h0 k) h0 True.intro ht)
    | @skip _ n _ _ _ h0 k =>
      obtain rfl := Option.some.inj (hrow.symm.trans h0)
      obtain ⟨p', e1, ep'⟩ := hv
      obtain rfl := V.ref.inj e1
      refine iteT ⟨fun σ' G' => ∃ i' e t row v, i < i' ∧ (∃ x3 x4, σ' = [some (.ref A.me), some (.int 0), some v, x3, x4]) ∧ Chg A.own H G' ∧ MoM CM CK G' A T ask i' e sh t ∧ Trc ask T i' e L e' ∧ t ≤ 3 * i' ∧ T[i']? = some row ∧ RowAt G' v row, fun σ' G' z => ?_, ?_⟩
      · obtain ⟨i', e, t, row, v, l, z⟩ := z
        exact ⟨T.length - i', by omega, i', e, t, row, v, rfl, z⟩
      refine ⟨_, rfl, A.me, CM, A.dx, _, .ref A.sp, rfl, hm.ins, R.cl, R.ns, rfl, _, rfl, A.sp, .int (i : Nat), [], rfl, rfl, SqL.of hm.sp, ((i : Nat) : Int), 1, rfl, rfl, A.sp, [.int (i : Nat)], 0, 0, rfl, rfl, hm.sp, rfl, ?_⟩
      obtain ⟨h1, c1⟩ := hm.goto (i + 1)
      have il1 : i + 1 ≤ T.length := il
      refine ⟨_, rfl, p, _, 0, _, rfl, rfl, SqT.of (c1.tups _ _ ep), at0, rfl, _, rfl, ?_⟩
      rw [decide_eq_true rfl]
      refine iteT ⟨_, rfl, A.me, CM, A.dx, _, .ref A.sp, rfl, h1.ins, R.cl, R.ns, rfl, _, rfl, A.sp, .int ((i + 1) : Nat), [], rfl, rfl, SqL.of h1.sp, _, rfl, p, _, 1, .int (n : Nat), rfl, rfl, SqT.of (c1.tups _ _ ep'), rfl, (((i + 1) : Nat) : Int), (n : Nat), rfl, rfl, A.sp, [.int ((i + 1) : Nat)], 0, 0, rfl, rfl, h1.sp, rfl, ?_⟩
      obtain ⟨h2, c2⟩ := h1.goto (i + 1 + n)
      have cg2 := (cg.trans c1).trans c2
      obtain ⟨row', hrow'⟩ := hat k
      exact ⟨_, rfl, A.me, A.dx, _, rfl, h2.ins, rfl, _, rfl, A, T, ask, (i + 1 + n), e, sh, t, h2, row', rfl, hrow', fun v' hv' => ⟨(i + 1 + n), e, t, row', v', by omega, ⟨_, _, rfl⟩, cg2, h2, k, by omega, hrow', hv'⟩⟩
    | @yes _ n _ _ pp r _ h0 ha k =>
      obtain rfl := Option.some.inj (hrow.symm.trans h0)
      obtain ⟨p', e1, ep'⟩ := hv
      obtain rfl := V.ref.inj e1
      refine iteT ⟨fun σ' G' => ∃ i' e t row v, i < i' ∧ (∃ x3 x4, σ' = [some (.ref A.me), some (.int 0), some v, x3, x4]) ∧ Chg A.own H G' ∧ MoM CM CK G' A T ask i' e sh t ∧ Trc ask T i' e L e' ∧ t ≤ 3 * i' ∧ T[i']? = some row ∧ RowAt G' v row, fun σ' G' z => ?_, ?_⟩
      · obtain ⟨i', e, t, row, v, l, z⟩ := z
        exact ⟨T.length - i', by omega, i', e, t, row, v, rfl, z⟩
      refine ⟨_, rfl, A.me, CM, A.dx, _, .ref A.sp, rfl, hm.ins, R.cl, R.ns, rfl, _, rfl, A.sp, .int (i : Nat), [], rfl, rfl, SqL.of hm.sp, ((i : Nat) : Int), 1, rfl, rfl, A.sp, [.int (i : Nat)], 0, 0, rfl, rfl, hm.sp, rfl, ?_⟩
      obtain ⟨h1, c1⟩ := hm.goto (i + 1)
      have il1 : i + 1 ≤ T.length := il
      refine ⟨_, rfl, p, _, 0, _, rfl, rfl, SqT.of (c1.tups _ _ ep), at0, rfl, _, rfl, ?_⟩
      rw [ne (by show ("if" : Str) ≠ "skip"; decide +kernel)]
      refine iteF ⟨_, rfl, p, _, 0, _, rfl, rfl, SqT.of (c1.tups _ _ ep), at0, rfl, _, rfl, ?_⟩
      rw [decide_eq_true rfl]
      refine iteT ⟨_, rfl, A.me, A.dx, _, rfl, h1.ins, rfl, _, rfl, p, _, 1, .str pp, rfl, rfl, SqT.of (c1.tups _ _ ep'), rfl, _, rfl, A.me, A.dx, _, rfl, h1.ins, rfl, _, rfl, _, rfl, p, _, 2, .str r, rfl, rfl, SqT.of (c1.tups _ _ ep'), rfl, A, T, ask, i + 1, e, sh, t, h1, r, rfl, A, T, ask, i + 1, e, sh, t, h1, pp, e r, rfl, fun G2 s2 => ⟨_, rfl, ?_⟩⟩
      rw [ha]
      have h2 := h1.mv s2
      have cg2 := (cg.trans c1).trans (Chg.same s2)
      refine iteF ?_
      obtain ⟨row', hrow'⟩ := hat k
      exact ⟨_, rfl, A.me, A.dx, _, rfl, h2.ins, rfl, _, rfl, A, T, ask, (i + 1), e, sh, t, h2, row', rfl, hrow', fun v' hv' => ⟨(i + 1), e, t, row', v', by omega, ⟨_, _, rfl⟩, cg2, h2, k, by omega, hrow', hv'⟩⟩
    | @no _ n _ _ pp r _ h0 ha k =>
      obtain rfl := Option.some.inj (hrow.symm.trans h0)
      obtain ⟨p', e1, ep'⟩ := hv
      obtain rfl := V.ref.inj e1
      refine iteT ⟨fun σ' G' => ∃ i' e t row v, i < i' ∧ (∃ x3 x4, σ' = [some (.ref A.me), some (.int 0), some v, x3, x4]) ∧ Chg A.own H G' ∧ MoM CM CK G' A T ask i' e sh t ∧ Trc ask T i' e L e' ∧ t ≤ 3 * i' ∧ T[i']? = some row ∧ RowAt G' v row, fun σ' G' z => ?_, ?_⟩
      · obtain ⟨i', e, t, row, v, l, z⟩ := z
        exact ⟨T.length - i', by omega, i', e, t, row, v, rfl, z⟩
      refine ⟨_, rfl, A.me, CM, A.dx, _, .ref A.sp, rfl, hm.ins, R.cl, R.ns, rfl, _, rfl, A.sp, .int (i : Nat), [], rfl, rfl, SqL.of hm.sp, ((i : Nat) : Int), 1, rfl, rfl, A.sp, [.int (i : Nat)], 0, 0, rfl, rfl, hm.sp, rfl, ?_⟩
      obtain ⟨h1, c1⟩ := hm.goto (i + 1)
      have il1 : i + 1 ≤ T.length := il
      refine ⟨_, rfl, p, _, 0, _, rfl, rfl, SqT.of (c1.tups _ _ ep), at0, rfl, _, rfl, ?_⟩
      rw [ne (by show ("if" : Str) ≠ "skip"; decide +kernel)]
      refine iteF ⟨_, rfl, p, _, 0, _, rfl, rfl, SqT.of (c1.tups _ _ ep), at0, rfl, _, rfl, ?_⟩
      rw [decide_eq_true rfl]
      refine iteT ⟨_, rfl, A.me, A.dx, _, rfl, h1.ins, rfl, _, rfl, p, _, 1, .str pp, rfl, rfl, SqT.of (c1.tups _ _ ep'), rfl, _, rfl, A.me, A.dx, _, rfl, h1.ins, rfl, _, rfl, _, rfl, p, _, 2, .str r, rfl, rfl, SqT.of (c1.tups _ _ ep'), rfl, A, T, ask, i + 1, e, sh, t, h1, r, rfl, A, T, ask, i + 1, e, sh, t, h1, pp, e r, rfl, fun G2 s2 => ⟨_, rfl, ?_⟩⟩
      rw [ha]
      have h2 := h1.mv s2
      have cg2 := (cg.trans c1).trans (Chg.same s2)
      refine iteT ⟨_, rfl, A.me, CM, A.dx, _, .ref A.sp, rfl, h2.ins, R.cl, R.ns, rfl, _, rfl, A.sp, .int ((i + 1) : Nat), [], rfl, rfl, SqL.of h2.sp, _, rfl, p, _, 3, .int (n : Nat), rfl, rfl, SqT.of (s2 _ _ (c1.tups _ _ ep')), rfl, (((i + 1) : Nat) : Int), (n : Nat), rfl, rfl, A.sp, [.int ((i + 1) : Nat)], 0, 0, rfl, rfl, h2.sp, rfl, ?_⟩
      obtain ⟨h3, c3⟩ := h2.goto (i + 1 + n)
      have cg3 := cg2.trans c3
      obtain ⟨row', hrow'⟩ := hat k
      exact ⟨_, rfl, A.me, A.dx, _, rfl, h3.ins, rfl, _, rfl, A, T, ask, (i + 1 + n), e, sh, t, h3, row', rfl, hrow', fun v' hv' => ⟨(i + 1 + n), e, t, row', v', by omega, ⟨_, _, rfl⟩, cg3, h3, k, by omega, hrow', hv'⟩⟩
    | @copy _ _ _ r r2 _ h0 k =>
      obtain rfl := Option.some.inj (hrow.symm.trans h0)
      obtain ⟨p', e1, ep'⟩ := hv
      obtain rfl := V.ref.inj e1
      refine iteT ⟨fun σ' G' => ∃ i' e t row v, i < i' ∧ (∃ x3 x4, σ' = [some (.ref A.me), some (.int 0), some v, x3, x4]) ∧ Chg A.own H G' ∧ MoM CM CK G' A T ask i' e sh t ∧ Trc ask T i' e L e' ∧ t ≤ 3 * i' ∧ T[i']? = some row ∧ RowAt G' v row, fun σ' G' z => ?_, ?_⟩
      · obtain ⟨i', e, t, row, v, l, z⟩ := z
        exact ⟨T.length - i', by omega, i', e, t, row, v, rfl, z⟩
      refine ⟨_, rfl, A.me, CM, A.dx, _, .ref A.sp, rfl, hm.ins, R.cl, R.ns, rfl, _, rfl, A.sp, .int (i : Nat), [], rfl, rfl, SqL.of hm.sp, ((i : Nat) : Int), 1, rfl, rfl, A.sp, [.int (i : Nat)], 0, 0, rfl, rfl, hm.sp, rfl, ?_⟩
      obtain ⟨h1, c1⟩ := hm.goto (i + 1)
      have il1 : i + 1 ≤ T.length := il
      refine ⟨_, rfl, p, _, 0, _, rfl, rfl, SqT.of (c1.tups _ _ ep), at0, rfl, _, rfl, ?_⟩
      rw [ne (by show ("copy" : Str) ≠ "skip"; decide +kernel)]
      refine iteF ⟨_, rfl, p, _, 0, _, rfl, rfl, SqT.of (c1.tups _ _ ep), at0, rfl, _, rfl, ?_⟩
      rw [ne (by show ("copy" : Str) ≠ "if"; decide +kernel)]
      refine iteF ⟨_, rfl, p, _, 0, _, rfl, rfl, SqT.of (c1.tups _ _ ep), at0, rfl, _, rfl, ?_⟩
      rw [decide_eq_true rfl]
      refine iteT ⟨_, rfl, A.me, A.dx, _, rfl, h1.ins, rfl, _, rfl, _, rfl, p, _, 1, .str r, rfl, rfl, SqT.of (c1.tups _ _ ep'), rfl, _, rfl, A.me, A.dx, _, rfl, h1.ins, rfl, _, rfl, _, rfl, p, _, 2, .str r2, rfl, rfl, SqT.of (c1.tups _ _ ep'), rfl, A, T, ask, i + 1, e, sh, t, h1, r2, rfl, A, T, ask, i + 1, e, sh, t, h1, r, e r2, rfl, by omega, fun G2 c2 h2 => ?_⟩
      have cg2 := (cg.trans c1).trans c2
      obtain ⟨row', hrow'⟩ := hat k
      exact ⟨_, rfl, A.me, A.dx, _, rfl, h2.ins, rfl, _, rfl, A, T, ask, (i + 1), (e.put r (e r2)), sh, (t + 1), h2, row', rfl, hrow', fun v' hv' => ⟨(i + 1), (e.put r (e r2)), (t + 1), row', v', by omega, ⟨_, _, rfl⟩, cg2, h2, k, by omega, hrow', hv'⟩⟩
    | @set _ _ _ r fn as _ h0 sm k =>
      obtain rfl := Option.some.inj (hrow.symm.trans h0)
      obtain ⟨p', pq, e1, ep', eq'⟩ := hv
      obtain rfl := V.ref.inj e1
      have fi : fn.length ≤ 8 ∧ as.length ≤ 2 := fine _ (List.mem_of_getElem? h0)
      refine iteT ⟨fun σ' G' => ∃ i' e t row v, i < i' ∧ (∃ x3 x4, σ' = [some (.ref A.me), some (.int 0), some v, x3, x4]) ∧ Chg A.own H G' ∧ MoM CM CK G' A T ask i' e sh t ∧ Trc ask T i' e L e' ∧ t ≤ 3 * i' ∧ T[i']? = some row ∧ RowAt G' v row, fun σ' G' z => ?_, ?_⟩
      · obtain ⟨i', e, t, row, v, l, z⟩ := z
        exact ⟨T.length - i', by omega, i', e, t, row, v, rfl, z⟩
      refine ⟨_, rfl, A.me, CM, A.dx, _, .ref A.sp, rfl, hm.ins, R.cl, R.ns, rfl, _, rfl, A.sp, .int (i : Nat), [], rfl, rfl, SqL.of hm.sp, ((i : Nat) : Int), 1, rfl, rfl, A.sp, [.int (i : Nat)], 0, 0, rfl, rfl, hm.sp, rfl, ?_⟩
      obtain ⟨h1, c1⟩ := hm.goto (i + 1)
      have il1 : i + 1 ≤ T.length := il
      refine ⟨_, rfl, p, _, 0, _, rfl, rfl, SqT.of (c1.tups _ _ ep), at0, rfl, _, rfl, ?_⟩
      rw [ne (by show ("set" : Str) ≠ "skip"; decide +kernel)]
      refine iteF ⟨_, rfl, p, _, 0, _, rfl, rfl, SqT.of (c1.tups _ _ ep), at0, rfl, _, rfl, ?_⟩
      rw [ne (by show ("set" : Str) ≠ "if"; decide +kernel)]
      refine iteF ⟨_, rfl, p, _, 0, _, rfl, rfl, SqT.of (c1.tups _ _ ep), at0, rfl, _, rfl, ?_⟩
      rw [ne (by show ("set" : Str) ≠ "copy"; decide +kernel)]
      have line : (1000 : Nat) < sizeLine := by decide
      refine iteF ⟨_, rfl, p, _, 3, .ref pq, rfl, rfl, SqT.of (c1.tups _ _ ep'), rfl, pq, rfl, ⟨_, SqT.of (c1.tups _ _ eq')⟩, fun D hD => lc_tup (xs := as.map V.str) (fun j G2 => Same (upd G A.sp (.lst [.int ((i + 1 : Nat))])) G2 ∧ G2 D = some (.lst (((as.take j).map e).map V.str))) ⟨same_upd hD, upd_same⟩ (fun j G2 _ z => SqT.of (z.1 _ _ (c1.tups _ _ eq'))) (fun j y2 G2 hj z => ?_) (fun G2 z => ?_)⟩
      · obtain ⟨s2, e2⟩ := z
        rw [List.getElem?_map] at hj
        obtain ⟨a2, ha2, rfl⟩ := Option.map_eq_some_iff.mp hj
        have h2 := h1.mv s2
        refine ⟨rfl, _, rfl, A.me, A.dx, _, rfl, h2.ins, rfl, _, rfl, _, rfl, A, T, ask, i + 1, e, sh, t, h2, a2, rfl, _, e2, ?_, same_put hD s2, ?_⟩
        · simp only [List.length_map, List.length_take]
          omega
        · rw [upd_same, List.take_add_one, ha2, List.map_append, List.map_append]
          rfl
      · obtain ⟨s2, e2⟩ := z
        rw [List.length_map, List.take_length] at e2
        have h2 := h1.mv s2
        have cg2 := (cg.trans c1).trans (Chg.same s2)
        have nD : D ∉ A.own := fun z => by
          obtain ⟨o, e⟩ := h1.there D z
          have hD' : upd G A.sp (.lst [.int ((i + 1 : Nat))]) D = none := hD
          rw [hD'] at e
          cases e
        have epp := s2 _ _ (c1.tups _ _ ep')
        refine ⟨_, rfl, A.me, A.dx, _, rfl, h2.ins, rfl, _, rfl, _, rfl, p, _, 1, .str r, rfl, rfl, SqT.of epp, rfl, _, rfl, A.me, CM, A.dx, _, .ref A.ma, rfl, h2.ins, R.cl, R.nm, rfl, A.ma, A.dm, _, rfl, h2.mac.ins, rfl, _, rfl, p, _, 2, .str fn, rfl, rfl, SqT.of epp, rfl, _, rfl, A, T, ask, i + 1, e, sh, t, h2, fn, D, as.map e, rfl, e2, nD, by omega, fi.1, by rw [List.length_map]; exact fi.2, fun x hx => ?_, fun G3 c3 h3 => ⟨A, T, ask, i + 1, e, sh, t + 1, h3, r, wrT fn (as.map e), rfl, by omega, fun G4 c4 h4 => ?_⟩⟩
        · obtain ⟨a, ha, rfl⟩ := List.mem_map.mp hx
          exact sm a ha
        have cg4 := (cg2.trans c3).trans c4
        obtain ⟨row', hrow'⟩ := hat k
        exact ⟨_, rfl, A.me, A.dx, _, rfl, h4.ins, rfl, _, rfl, A, T, ask, (i + 1), (e.put r (wrT fn (as.map e))), sh, (t + 1 + 1), h4, row', rfl, hrow', fun v' hv' => ⟨(i + 1), (e.put r (wrT fn (as.map e))), (t + 1 + 1), row', v', by omega, ⟨_, _, rfl⟩, cg4, h4, k, by omega, hrow', hv'⟩⟩
end
end OM

namespace OM
open PySem PySem.Spec PyProof.Rows L2
/-! ### a range object that is kept -/
section
variable {X : Cx} {tg : Expr}
theorem cr_range1 : CallR X (.type "range") (fun vs H Q => ∃ j, vs = [V.int j] ∧ ∀ p, H p = none → Q (.ref p) (upd H p (.rng 0 j))) := by
  intro pins s σ H vs us Q I r h
  obtain ⟨j, rfl, q⟩ := h
  obtain ⟨u1, rfl, rj⟩ := vals1 r
  obtain ⟨t, rfl⟩ := rj
  refine call_range_1 ⟨.ref s.heap.objs.size, upd H s.heap.objs.size (.rng 0 j), I.laid (t' := s.toks + 1 + 1) (fun b o e => Heap.get?_push_of_some _ e) (Nat.le_refl _) ?_, rfl, q _ (I.hok.fresh (Nat.le_refl _))⟩
  exact ⟨s.toks, t, s.toks + 1, Heap.get?_push_size _ rfl⟩
def iRngO (tl : TE) : TI := fun σ H R => tl σ H fun x H1 => ∃ a lo hi, x = .ref a ∧ H1 a = some (.rng lo hi) ∧ (-(2 ^ 62) ≤ lo ∧ lo < 2 ^ 62 ∧ -(2 ^ 62) ≤ hi ∧ hi < 2 ^ 62) ∧ R (Itr lo (hi - lo).toNat) H1
theorem pi_rngO {l : Expr} {tl : TE} (hl : PE X l tl) : PI X tg l (iRngO tl) := by
  refine ⟨fun pins s σ H R I h => ?_⟩
  refine thn (hl.run pins s σ H _ I h) fun v s1 ⟨x, H1, I1, r1, q1⟩ => ?_
  obtain ⟨a, lo, hi, e, ha, ⟨h1, h2, h3, h4⟩, q⟩ := q1
  subst e
  cases r1
  obtain ⟨t, u, v, hr⟩ : ∃ t u v, s1.heap.get? a = some { cls := .type "range", data := .fields #[.int lo t, .int hi u, .int 1 v] } := rd_of I1.hok (.inl ha)
  refine wpAny_pyIter_range (t := t) (u := u) (v := v) hr (small_one h1 h2 h3 h4) ?_
  refine ⟨s1.heap.objs.size, [s1.heap.objs.size], _, _, H1, rfl, I1.kept (t' := s1.toks) fun b o e => Heap.get?_push_of_some _ e, turn_range _ lo (hi - lo).toNat, ?_, fun b hb => ?_, q⟩
  · have e1 : lo + ((0 : Nat) : Int) * 1 = lo := by simp
    have e2 : (((hi - lo).toNat : Nat) : Int) - ((0 : Nat) : Int) = Builtin.Range.rangeSize lo hi 1 := by rw [rangeSize_one]; split <;> omega
    show IsRangeIter _ _ (lo + ((0 : Nat) : Int) * 1) ((((hi - lo).toNat : Nat) : Int) - ((0 : Nat) : Int)) 1
    rw [e1, e2]
    exact Heap.get?_push_size _ rfl
  · have e : b = s1.heap.objs.size := by simpa using hb
    subst e
    exact I1.fpOk (Nat.le_refl _) (I1.hok.fresh (Nat.le_refl _))
end
end OM

namespace OM
open PySem PySem.Spec PyProof.Rows L2
theorem sl_one {K : PySem.W.Frag} {a : Addr} {xs : List V} {lo hi : Option Int} {H : Hp} {Q : VK} (ea : H a = some (.tup xs)) (q : ∀ c H', Same H H' → (c = a ∨ H c = none) → H' c = some (.tup (cutV xs lo hi)) → Q (.ref c) H') : rSlA K (.ref a) lo hi H Q := by
  refine ⟨a, xs, rfl, SqT.of ea, fun hw => ?_, fun _ p hp => q p _ (same_upd hp) (.inr hp) upd_same⟩
  have e : cutV xs lo hi = xs := by
    unfold cutV
    rw [hw.1, hw.2, List.drop_zero, Nat.sub_zero, List.take_length]
  exact q a H (Same.refl H) (.inl rfl) (by rw [e]; exact ea)
def QRow.isS : QRow → Bool
  | .shw _ => true
  | _ => false
def StepV (H : Hp) (v : V) : QRow → Prop
  | .shw _ => ∃ p, v = .ref p ∧ H p = some (.tup [.str "show"])
  | _ => v = .non
theorem StepV.mv {H H' : Hp} (t : TupS H H') {v : V} : ∀ {r : QRow}, StepV H v r → StepV H' v r
  | .shw _, ⟨p, e, h⟩ => ⟨p, e, t _ _ h⟩
  | .over, h => h
  | .set .., h => h
  | .copy .., h => h
  | .iff .., h => h
  | .skip _, h => h
def spStepOf (CM CK : Addr) : Sp := spM CM CK fun me A T ask i e sh t vs H Q => ∃ row, vs = [me, .int 0] ∧ T[i]? = some row ∧ row.stop ∧ ∀ H' v, Same H H' → StepV H' v row → Q v H'
def spCanStep (CM CK : Addr) : Sp := spM CM CK fun me A T ask i e sh t vs H Q => ∃ row, vs = [me, .int 0] ∧ T[i]? = some row ∧ row.stop ∧ Q (.bl row.isS) H
def spMovable (CM CK : Addr) : Sp := spM CM CK fun me A T ask i e sh t vs H Q => ∃ row, vs = [me] ∧ T[i]? = some row ∧ row.stop ∧ ∀ H' p, Same H H' → H' p = some (.tup (if row.isS = true then [.int 0] else [])) → Q (.ref p) H'
def spClashes (CM CK : Addr) : Sp := spM CM CK fun me A T ask i e sh t vs H Q => ∃ row, vs = [me] ∧ T[i]? = some row ∧ row.stop ∧ ∀ H' p, Same H H' → H' p = some (.tup []) → Q (.ref p) H'
def spTakeStep (CM CK : Addr) : Sp := spM CM CK fun me A T ask i e sh t vs H Q => ∃ r, vs = [me, .int 0] ∧ T[i]? = some (.shw r) ∧ sh.length < 900 ∧ ∀ H', Chg A.own H H' → MoM CM CK H' A T ask (i + 1) e (sh ++ [e r]) t → Q .non H'
section
variable {P : Program} {w : World} {K : PySem.W.Frag} {mg : Str → Option Value} {base : Heap} {f CM CK : Addr} {fd : FuncData}
theorem scSo : FnScope ["self", "thread", "row"] ["self", "thread"] (defScope sStepOf) := ⟨rfl, rfl, rfl, by decide +kernel, rfl, by decide +kernel, by decide +kernel⟩
theorem neS {x y : Str} (h : x ≠ y) : decide (V.str x = V.str y) = false := decide_eq_false fun z => h (V.str.inj z)
theorem ok_stepof (F : Fun K "step_of" "Moment.step_of" sStepOf f fd) (M : MoF P w K mg base CM CK) : FnOk P w K mg base CX0 2 f fd ["self", "thread"] (spStepOf CM CK) := by
  obtain ⟨gR, dR, aR, bR, GR⟩ := M.row
  have R := M.R
  refine F.ok scSo (fun vs H Q E h => ?_) (fun cdv A0 outer s H vs Q E hr h => ?_)
  · obtain ⟨A, T, ask, i, e, sh, t, _, row, rfl, _⟩ := h
    rfl
  · obtain ⟨A, T, ask, i, e, sh, t, h, row, rfl, hrow, st, q⟩ := h
    refine ⟨_, pss_cons (ps_set (i := 2) scSo.nd rfl (Or.inl rfl) (pe_meth (pv 0) R.cl aR GR hr bR .nil pass0 (pa_cons (pv 1) pa_nil)))
      (pss_cons (ps_if (pt_cmpR op_eq (pe_ix (r := rIxT K) ix_tup (pv 2) pe_int (fun _ _ => rfl)) pe_str (nomark _)) (pss_one (ps_ret pe_non)) pss_nil)
      (pss_cons (ps_if (pt_cmpR op_eq (pe_ix (r := rIxT K) ix_tup (pv 2) pe_int (fun _ _ => rfl)) pe_str (nomark _)) pss_never pss_nil)
      (pss_one (ps_ret (pe_ifExp (pt_cmpR op_eq (pe_ix (r := rIxT K) ix_tup (pv 2) pe_int (fun _ _ => rfl)) pe_str (nomark _)) pe_never (pe_slice (r := rSlA K) sl_tupA (pv 2) po_none (po_some pe_int))))))), ?_⟩
    refine ⟨_, rfl, A.me, A.dx, _, rfl, h.ins, rfl, _, rfl, A, T, ask, i, e, sh, t, h, row, rfl, hrow, fun v hv => ?_⟩
    cases row with
    | over =>
      obtain ⟨p, rfl, ep⟩ := hv
      refine ⟨_, rfl, p, _, 0, _, rfl, rfl, SqT.of ep, at0, rfl, _, rfl, ?_⟩
      rw [decide_eq_true rfl]
      exact iteT (q H .non (Same.refl H) rfl)
    | shw r =>
      obtain ⟨p, rfl, ep⟩ := hv
      refine ⟨_, rfl, p, _, 0, _, rfl, rfl, SqT.of ep, at0, rfl, _, rfl, ?_⟩
      rw [neS (by decide +kernel)]
      refine iteF ⟨_, rfl, p, _, 0, _, rfl, rfl, SqT.of ep, at0, rfl, _, rfl, ?_⟩
      rw [neS (by decide +kernel)]
      refine iteF ⟨_, rfl, p, _, 0, _, rfl, rfl, SqT.of ep, at0, rfl, _, rfl, ?_⟩
      rw [neS (by decide +kernel)]
      exact iteF ⟨_, rfl, 1, rfl, sl_one ep fun c H' s' _ ec => q H' _ s' ⟨c, rfl, ec⟩⟩
    | _ => exact st.elim
theorem scCs : FnScope ["self", "thread", "word"] ["self", "thread"] (defScope sCanStep) := ⟨rfl, rfl, rfl, by decide +kernel, rfl, by decide +kernel, by decide +kernel⟩
theorem ok_canstep (F : Fun K "can_step" "Moment.can_step" sCanStep f fd) (M : MoF P w K mg base CM CK) : FnOk P w K mg base CX0 2 f fd ["self", "thread"] (spCanStep CM CK) := by
  obtain ⟨gR, dR, aR, bR, GR⟩ := M.row
  have R := M.R
  refine F.ok scCs (fun vs H Q E h => ?_) (fun cdv A0 outer s H vs Q E hr h => ?_)
  · obtain ⟨A, T, ask, i, e, sh, t, _, row, rfl, _⟩ := h
    rfl
  · obtain ⟨A, T, ask, i, e, sh, t, h, row, rfl, hrow, st, q⟩ := h
    refine ⟨_, pss_cons (ps_set (i := 2) scCs.nd rfl (Or.inl rfl) (pe_ix (r := rIxT K) ix_tup (pe_meth (pv 0) R.cl aR GR hr bR .nil pass0 (pa_cons (pv 1) pa_nil)) pe_int (fun _ _ => rfl)))
      (pss_one (ps_ret (pe_and (pe_cmpR op_ne (pv 2) pe_str (nomark _)) (pe_one (pe_or (pe_cmpR op_ne (pv 2) pe_str (nomark _)) (pe_one pe_never)))))), ?_⟩
    refine ⟨_, rfl, A.me, A.dx, _, rfl, h.ins, rfl, _, rfl, A, T, ask, i, e, sh, t, h, row, rfl, hrow, fun v hv => ?_⟩
    cases row with
    | over =>
      obtain ⟨p, rfl, ep⟩ := hv
      refine ⟨p, _, 0, _, rfl, rfl, SqT.of ep, at0, _, rfl, rfl, _, rfl, ?_⟩
      rw [decide_eq_true rfl]
      exact iteF q
    | shw r =>
      obtain ⟨p, rfl, ep⟩ := hv
      refine ⟨p, _, 0, _, rfl, rfl, SqT.of ep, at0, _, rfl, rfl, _, rfl, ?_⟩
      rw [neS (by decide +kernel)]
      refine iteT ⟨_, rfl, rfl, _, rfl, ?_⟩
      rw [neS (by decide +kernel)]
      exact iteT q
    | _ => exact st.elim
theorem scMv : FnScope ["self", "thread"] ["self"] (defScope sMovable) := ⟨rfl, rfl, rfl, by decide +kernel, rfl, by decide +kernel, by decide +kernel⟩
theorem ok_movable (F : Fun K "movable" "Moment.movable" sMovable f fd) (R : MoC K CM) (tup : mg "tuple" = none) (rng : mg "range" = none) (ln : mg "len" = none) (mc : MethN P w K mg base CM "can_step" 2 ["self", "thread"] (spCanStep CM CK)) : FnOk P w K mg base CX0 3 f fd ["self"] (spMovable CM CK) := by
  obtain ⟨gR, dR, aR, bR, GR⟩ := mc
  refine F.ok scMv (fun vs H Q E h => ?_) (fun cdv A0 outer s H vs Q E hr h => ?_)
  · obtain ⟨A, T, ask, i, e, sh, t, _, row, rfl, _⟩ := h
    rfl
  · obtain ⟨A, T, ask, i, e, sh, t, h, row, rfl, hrow, st, q⟩ := h
    refine ⟨_, pss_one (ps_ret (pe_callTy call_tuple_of (by rfl) tup (by decide +kernel) (pa_cons (pe_lc (own := [("thread", 1)]) rfl scMv.nd (pi_range1 (by rfl) rng (pa_cons (pe_callB call_len_seq (by rfl) ln PySem.boot_len (pa_cons (pe_fld (pv 0) rfl) pa_nil)) pa_nil)) (blkOk_by (N := ["self", "thread"]) (sc := defScope sMovable) (by decide +kernel))
      (fun _ _ _ _ _ => pg_name (i := 1) scMv.nd rfl (Or.inl rfl)) (fun _ _ _ _ _ => pts_one (pt_val (pe_meth (pv 0) R.cl aR GR hr bR .nil pass0 (pa_cons (pv 1) pa_nil)))) (fun _ _ _ _ _ => pv 1)) pa_nil))), ?_⟩
    refine ⟨_, rfl, A.me, CM, A.dx, _, .ref A.sp, rfl, h.ins, R.cl, R.ns, rfl, A.sp, _, rfl, .inl (SqL.of h.sp), 1, rfl, by decide, by decide, fun D hD => lc_range (fun j G => Same H G ∧ G D = some (.lst (if j = 0 then [] else if row.isS = true then [.int 0] else []))) ⟨same_upd hD, upd_same⟩ (fun j G hj z => ?_) (fun G z => ?_)⟩
    · obtain ⟨s1, e1⟩ := z
      obtain rfl : j = 0 := Nat.lt_one_iff.mp hj
      have h1 := h.mv s1
      refine ⟨rfl, _, rfl, A.me, A.dx, _, rfl, h1.ins, rfl, _, rfl, A, T, ask, i, e, sh, t, h1, row, rfl, hrow, st, ⟨_, rfl, ?_⟩⟩
      cases hs : row.isS with
      | true => exact iteT ⟨_, rfl, [], e1, by decide, same_put hD s1, upd_same⟩
      | false => exact iteF ⟨s1, e1⟩
    · obtain ⟨s1, e1⟩ := z
      exact ⟨D, _, rfl, .inl ⟨SqL.of e1, fun p hp => q _ p (s1.trans (same_upd hp)) upd_same⟩⟩
def rLenK (K : PySem.W.Frag) : List V → Hp → VK → Prop := fun xs H Q => ∃ p ys, xs = [.ref p] ∧ (SqL K H p ys ∨ SqT K H p ys) ∧ Q (.int ys.length) H
theorem lenK {K : PySem.W.Frag} (X : Cx) (h : X.K = K) : CallR X (.builtin "len") (rLenK K) := h ▸ call_len_seq
theorem scCl : FnScope ["self", "steps", "thread", "one", "other"] ["self"] (defScope sClashes) := ⟨rfl, rfl, rfl, by decide +kernel, rfl, by decide +kernel, by decide +kernel⟩
theorem ok_clashes (F : Fun K "clashes" "Moment.clashes" sClashes f fd) (R : MoC K CM) (tup : mg "tuple" = none) (rng : mg "range" = none) (ln : mg "len" = none) (mc : MethN P w K mg base CM "step_of" 2 ["self", "thread"] (spStepOf CM CK)) : FnOk P w K mg base CX0 3 f fd ["self"] (spClashes CM CK) := by
  obtain ⟨gR, dR, aR, bR, GR⟩ := mc
  refine F.ok scCl (fun vs H Q E h => ?_) (fun cdv A0 outer s H vs Q E hr h => ?_)
  · obtain ⟨A, T, ask, i, e, sh, t, _, row, rfl, _⟩ := h
    rfl
  · obtain ⟨A, T, ask, i, e, sh, t, h, row, rfl, hrow, st, q⟩ := h
    refine ⟨_, pss_cons (ps_set (i := 1) scCl.nd rfl (Or.inr rfl) (pe_lc (own := [("thread", 2)]) rfl scCl.nd (pi_range1 (by rfl) rng (pa_cons (pe_callB call_len_seq (by rfl) ln PySem.boot_len (pa_cons (pe_fld (pv 0) rfl) pa_nil)) pa_nil)) (blkOk_by (N := ["self", "steps", "thread", "one", "other"]) (sc := defScope sClashes) (by decide +kernel))
        (fun _ _ _ _ _ => pg_name (i := 2) scCl.nd rfl (Or.inl rfl)) (fun _ _ _ _ _ => pts_nil) (fun _ _ _ _ _ => pe_meth (pv 0) R.cl aR GR hr bR .nil pass0 (pa_cons (pv 2) pa_nil))))
      (pss_one (ps_ret (pe_callTy call_tuple_of (by rfl) tup (by decide +kernel) (pa_cons (pe_lc2 (own := [("one", 3), ("other", 4)]) (vs1 := [4]) rfl scCl.nd (pi_range1 (by rfl) rng (pa_cons (pe_callB call_len_seq (by rfl) ln PySem.boot_len (pa_cons (pv 1) pa_nil)) pa_nil)) (blkOk_by (N := ["self", "steps", "thread", "one", "other"]) (sc := defScope sClashes) (by decide +kernel)) (by decide)
        (fun _ _ _ _ _ => pg_name (i := 3) scCl.nd rfl (Or.inl rfl)) (fun _ _ _ _ _ => pts_nil) (fun _ _ _ _ _ => pi_range2 (by rfl) rng (pa_cons (pe_op op_add (pv 3) pe_int) (pa_cons (pe_callB (lenK (K := K) _ rfl) (by rfl) ln PySem.boot_len (pa_cons (pv 1) pa_nil)) pa_nil))) (fun _ _ _ _ _ => pg_name (i := 4) scCl.nd rfl (Or.inl rfl)) (fun _ _ _ _ _ => pts_one (pt_val pe_never)) (fun _ _ _ _ _ => pe_never)) pa_nil)))), ?_⟩
    refine ⟨_, rfl, A.me, CM, A.dx, _, .ref A.sp, rfl, h.ins, R.cl, R.ns, rfl, A.sp, _, rfl, .inl (SqL.of h.sp), 1, rfl, by decide, by decide, fun D hD => lc_range (fun j G => Same H G ∧ ∃ vs, G D = some (.lst vs) ∧ vs.length = j) ⟨same_upd hD, [], upd_same, rfl⟩ (fun j G hj z => ?_) (fun G z => ?_)⟩
    · obtain ⟨s1, vs, e1, l1⟩ := z
      have h1 := h.mv s1
      refine ⟨rfl, _, rfl, A.me, A.dx, _, rfl, h1.ins, rfl, _, rfl, A, T, ask, i, e, sh, t, h1, row, ?_, hrow, st, fun G2 v s2 _ => ⟨vs, s2 _ _ e1, ?_, same_put hD (s1.trans s2), vs ++ [v], upd_same, by rw [List.length_append, l1]; rfl⟩⟩
      · obtain rfl : j = 0 := Nat.lt_one_iff.mp hj
        rfl
      · have : (1000 : Nat) < sizeLine := by decide
        have : j < 1 := hj
        omega
    · obtain ⟨s1, vs, e1, l1⟩ := z
      refine ⟨_, rfl, D, vs, rfl, .inl (SqL.of e1), (vs.length : Nat), rfl, by rw [l1]; decide, by rw [l1]; decide, fun D2 hD2 => ?_⟩
      have l1' : vs.length = 1 := l1
      rw [l1']
      have hn : (((1 : Nat) : Int)).toNat = 1 := rfl
      rw [hn]
      refine ⟨fun j m G' => j + m = 1 ∧ Same G G' ∧ G' D2 = some (.lst []), ⟨1, rfl, same_upd hD2, upd_same⟩, ?_⟩
      rintro j m G' ⟨jm, s3, e3⟩
      by_cases hj : j = 0
      · subst hj
        refine .inr ⟨(by show 0 < 1; decide), fun G' => Same G G' ∧ G' D2 = some (.lst []), fun G' z => ⟨0, by omega, rfl, z⟩, ?_⟩
        rintro x G'' ⟨rfl, rfl⟩
        refine ⟨rfl, _, rfl, _, _, rfl, rfl, _, rfl, D, vs, rfl, .inl (SqL.of (s3 _ _ e1)), 1, 1, ?_, by decide, ?_⟩
        · rw [l1']
          rfl
        · exact ⟨fun j k K' => j = 0 ∧ Same G K' ∧ K' D2 = some (.lst []), ⟨0, rfl, s3, e3⟩, fun j k K' z => .inl ⟨(by obtain ⟨rfl, _⟩ := z; exact Nat.le_refl _), z.2⟩⟩
      · obtain rfl : j = 1 := by omega
        exact .inl ⟨Nat.le_refl _, D2, [], rfl, .inl ⟨SqL.of e3, fun p hp => q _ p ((s1.trans s3).trans (same_upd hp)) upd_same⟩⟩
theorem scTs : FnScope ["self", "thread", "row", "following"] ["self", "thread"] (defScope sTakeStep) := ⟨rfl, rfl, rfl, by decide +kernel, rfl, by decide +kernel, by decide +kernel⟩
theorem ok_takestep (F : Fun K "take_step" "Moment.take_step" sTakeStep f fd) (M : MoF P w K mg base CM CK) : FnOk P w K mg base CX0 2 f fd ["self", "thread"] (spTakeStep CM CK) := by
  obtain ⟨gR, dR, aR, bR, GR⟩ := M.row
  obtain ⟨gV, dV, aV, bV, GV⟩ := M.val
  have R := M.R
  refine F.ok scTs (fun vs H Q E h => ?_) (fun cdv A0 outer s H vs Q E hr h => ?_)
  · obtain ⟨A, T, ask, i, e, sh, t, _, r, rfl, _⟩ := h
    rfl
  · obtain ⟨A, T, ask, i, e, sh, t, h, r, rfl, hrow, l9, q⟩ := h
    refine ⟨_, pss_cons (ps_set (i := 2) scTs.nd rfl (Or.inl rfl) (pe_meth (pv 0) R.cl aR GR hr bR .nil pass0 (pa_cons (pv 1) pa_nil)))
      (pss_cons (ps_augS (pe_fld (pv 0) rfl) (pv 1) pget_fst pe_int ip_add L2.set_list)
      (pss_one (ps_if (pt_cmpR op_eq (pe_ix (r := rIxT K) ix_tup (pv 2) pe_int (fun _ _ => rfl)) pe_str (nomark _)) pss_never
      (pss_one (ps_if (pt_cmpR op_eq (pe_ix (r := rIxT K) ix_tup (pv 2) pe_int (fun _ _ => rfl)) pe_str (nomark _)) pss_never
      (pss_one (ps_if (pt_cmpR op_eq (pe_ix (r := rIxT K) ix_tup (pv 2) pe_int (fun _ _ => rfl)) pe_str (nomark _)) pss_never
      (pss_one (ps_if (pt_cmpR op_eq (pe_ix (r := rIxT K) ix_tup (pv 2) pe_int (fun _ _ => rfl)) pe_str (nomark _)) pss_never
        (pss_one (ps_asg (pe_op op_catA (pe_ix ix_list (pe_fld (pv 0) rfl) (pv 1) (fun _ _ => rfl)) (pe_tup (pa_cons (pe_meth (pv 0) R.cl aV GV hr bV .nil pass0 (pa_cons (pv 1) (pa_cons (pe_ix (r := rIxT K) ix_tup (pv 2) pe_int (fun _ _ => rfl)) pa_nil))) pa_nil))) (pg_sub (pe_fld (pv 0) rfl) (pv 1) L2.set_list)))))))))))), ?_⟩
    refine ⟨_, rfl, A.me, A.dx, _, rfl, h.ins, rfl, _, rfl, A, T, ask, i, e, sh, t, h, .shw r, rfl, hrow, fun v hv => ?_⟩
    obtain ⟨p, rfl, ep⟩ := hv
    refine ⟨_, rfl, A.me, CM, A.dx, _, .ref A.sp, rfl, h.ins, R.cl, R.ns, rfl, _, rfl, A.sp, .int (i : Nat), [], rfl, rfl, SqL.of h.sp, ((i : Nat) : Int), 1, rfl, rfl, A.sp, [.int (i : Nat)], 0, 0, rfl, rfl, h.sp, rfl, ?_⟩
    obtain ⟨h1, c1⟩ := h.goto (i + 1)
    refine ⟨_, rfl, p, _, 0, _, rfl, rfl, SqT.of (c1.tups _ _ ep), at0, rfl, _, rfl, ?_⟩
    rw [neS (by decide +kernel)]
    refine iteF ⟨_, rfl, p, _, 0, _, rfl, rfl, SqT.of (c1.tups _ _ ep), at0, rfl, _, rfl, ?_⟩
    rw [neS (by decide +kernel)]
    refine iteF ⟨_, rfl, p, _, 0, _, rfl, rfl, SqT.of (c1.tups _ _ ep), at0, rfl, _, rfl, ?_⟩
    rw [neS (by decide +kernel)]
    refine iteF ⟨_, rfl, p, _, 0, _, rfl, rfl, SqT.of (c1.tups _ _ ep), at0, rfl, _, rfl, ?_⟩
    rw [neS (by decide +kernel)]
    obtain ⟨rt, r1, r2⟩ := h1.ro
    refine iteF ⟨_, rfl, A.me, CM, A.dx, _, .ref A.ro, rfl, h1.ins, R.cl, R.nr, rfl, _, rfl, A.ro, _, 0, .ref rt, rfl, rfl, SqL.of r1, at0, _, rfl, A.me, A.dx, _, rfl, h1.ins, rfl, _, rfl, _, rfl, p, _, 1, .str r, rfl, rfl, SqT.of (c1.tups _ _ ep), rfl, A, T, ask, i + 1, e, sh, t, h1, r, rfl, (by show 1 ≤ sizeLine; decide), fun tp htp => ?_⟩
    have s2 := same_upd (o := .tup [.str (e r)]) htp
    have cat : ∀ (G : Hp) (b : Addr), Same (upd H A.sp (.lst [.int ((i + 1 : Nat))])) G → G b = some (.tup ((sh ++ [e r]).map V.str)) → G A.ro = some (.lst [.ref rt]) ∧ Q .non (upd G A.ro (.lst [.ref b])) := by
      intro G b s3 eb
      have h3 := h1.mv s3
      have er := s3 _ _ r1
      obtain ⟨ap, a1, a2, a3, a4, a5⟩ := h3.apart
      obtain ⟨m1, m2, m3, m4, m5, m6, m7, m8, m9⟩ := ap A.ro (by unfold MA.own; simp)
      have cg : Chg A.own G (upd G A.ro (.lst [.ref b])) := Chg.put (by unfold MA.own; simp) er fun _ z => nomatch z
      refine ⟨er, q _ ((c1.trans (Chg.same s3)).trans cg) ⟨by rw [upd_ne m1.symm]; exact h3.ins, h3.mac.mv cg.tups (upd_ne m2.symm) (upd_ne m3.symm) (upd_ne m4.symm) (upd_ne m5.symm) (h3.mac.kn.mv (upd_ne a3) (Nat.le_refl _)) h3.mac.few.2, by rw [upd_ne h3.ne.1]; exact h3.sp, by rw [upd_ne m6.symm]; exact h3.wo, h3.he.mv (upd_ne a5) (Nat.le_refl _), by rw [upd_ne m7.symm]; exact h3.co, by rw [upd_ne m8.symm]; exact h3.qu, by rw [upd_ne m9.symm]; exact h3.qe, ⟨b, upd_same, cg.tups _ _ eb⟩, h3.ne, by rw [List.length_append]; show sh.length + 1 ≤ 900; omega⟩⟩
    have line : (1000 : Nat) < sizeLine := by decide
    have ins2 := (h1.mv s2).ins
    refine ⟨rt, tp, sh.map V.str, [.str (e r)], rfl, rfl, SqT.of (s2 _ _ r2), SqT.of upd_same, by rw [List.length_map]; show sh.length + 1 ≤ _; omega, fun hx => ?_, fun _ z => (by cases z), fun hx _ b hb => ?_⟩
    · obtain rfl : sh = [] := List.map_eq_nil_iff.mp hx
      obtain ⟨er, fin⟩ := cat _ tp s2 upd_same
      exact ⟨_, rfl, A.me, CM, A.dx, _, .ref A.ro, rfl, ins2, R.cl, R.nr, rfl, _, rfl, A.ro, _, 0, 0, rfl, rfl, er, rfl, fin⟩
    · have s3 := same_upd (o := .tup (sh.map V.str ++ [.str (e r)])) hb
      have ins3 := (h1.mv (s2.trans s3)).ins
      obtain ⟨er, fin⟩ := cat _ b (s2.trans s3) (by rw [upd_same, List.map_append]; rfl)
      exact ⟨_, rfl, A.me, CM, A.dx, _, .ref A.ro, rfl, ins3, R.cl, R.nr, rfl, _, rfl, A.ro, _, 0, 0, rfl, rfl, er, rfl, fin⟩
end
end OM

namespace OM
open PySem PySem.Spec PyProof.Rows L2
def moFs (v1 v2 v3 v4 v5 v6 : V) : List (Str × V) := [("machine", v1), ("spots", v2), ("worths", v3), ("contents", v4), ("queues", v5), ("rows", v6)]
def spMoIn (CM : Addr) : Sp := fun vs H Q _ => ∃ (me dx : Addr) (v1 v2 v3 v4 v5 v6 : V), vs = [.ref me, v1, v2, v3, v4, v5, v6] ∧ H me = some (.ins CM dx []) ∧ ∀ H', But me H H' → H' me = some (.ins CM dx (moFs v1 v2 v3 v4 v5 v6)) → Q .non H'
/-- a machine made for a program -/
def spMaIn (C CK : Addr) : Sp := fun vs H Q _ => ∃ (ma dm p : Addr) (c : QL) (kvs : List (List Key × V)), vs = [.ref ma, .ref p] ∧ H ma = some (.ins CK dm []) ∧ PrM C H p c kvs ∧
  ∀ H' (A : MA), A.ma = ma → A.dm = dm → But ma H H' → MacM CK H' A (c.tr ++ [.over]) (askK kvs) 0 → A.kn ≠ A.td → (∀ x ∈ ([A.tl, A.t0, A.td, A.kn] : List Addr), H x = none) → Q .non H'
theorem PrM.but {C CK : Addr} {H G : Hp} {p ma dm : Addr} {c : QL} {kvs : List (List Key × V)} (h : PrM C H p c kvs) (em : H ma = some (.ins CK dm [])) (b : But ma H G) : PrM C G p c kvs := by
  obtain ⟨⟨dx, th, ce, an, cv, e1, e2, e3, e4, e5⟩, ok, ans⟩ := h
  have n : ∀ {x : Addr} {o : HO}, H x = some o → o ≠ .ins CK dm [] → G x = some o := fun e q => b _ _ (fun z => by rw [z, em] at e; exact q (Option.some.inj e).symm) e
  exact ⟨⟨dx, th, ce, an, cv, n e1 (fun z => by injection z with _ _ z; cases z), n e2 (fun z => nomatch z), e3.mv fun x xs e => n e (fun z => nomatch z), n e4 (fun z => nomatch z), n e5 (fun z => nomatch z)⟩, ok, ans⟩
section
variable {P : Program} {w : World} {K : PySem.W.Frag} {mg : Str → Option Value} {base : Heap} {f C CM CK : Addr} {fd : FuncData}
abbrev nMoIn : List Str := ["self", "machine", "spots", "worths", "contents", "queues", "rows"]
theorem scMoIn : FnScope nMoIn nMoIn (defScope sMoIn) := ⟨rfl, rfl, rfl, by decide +kernel, rfl, by decide +kernel, by decide +kernel⟩
theorem ok_moin (F : Fun K "__init__" "Moment.__init__" sMoIn f fd) (R : MoC K CM) : FnOk P w K mg base CX0 1 f fd nMoIn (spMoIn CM) := by
  refine F.ok scMoIn (fun vs H Q E h => ?_) (fun cdv A0 outer s H vs Q E hr h => ?_)
  · obtain ⟨me, dx, v1, v2, v3, v4, v5, v6, rfl, _⟩ := h
    rfl
  · obtain ⟨me, dx, v1, v2, v3, v4, v5, v6, rfl, em, q⟩ := h
    refine ⟨_, pss_cons (ps_fld (pv 0) (pv 1) rfl) (pss_cons (ps_fld (pv 0) (pv 2) rfl) (pss_cons (ps_fld (pv 0) (pv 3) rfl) (pss_cons (ps_fld (pv 0) (pv 4) rfl) (pss_cons (ps_fld (pv 0) (pv 5) rfl) (pss_one (ps_fld (pv 0) (pv 6) rfl)))))), ?_⟩
    have i0 : InitS H H me CM dx [] [] := ⟨em, fun _ _ _ e => e, fun p hp => (by cases hp), List.nodup_nil⟩
    refine ⟨_, rfl, _, rfl, me, CM, dx, [], rfl, i0.ins, R.cl, R.nm, (by show 0 < 1000; decide), ?_⟩
    have i1 := i0.old (f := "machine") (v := v1)
    refine ⟨_, rfl, _, rfl, me, CM, dx, _, rfl, i1.ins, R.cl, R.ns, (by show 1 < 1000; decide), ?_⟩
    have i2 := i1.old (f := "spots") (v := v2)
    refine ⟨_, rfl, _, rfl, me, CM, dx, _, rfl, i2.ins, R.cl, R.nw, (by show 2 < 1000; decide), ?_⟩
    have i3 := i2.old (f := "worths") (v := v3)
    refine ⟨_, rfl, _, rfl, me, CM, dx, _, rfl, i3.ins, R.cl, R.nc, (by show 3 < 1000; decide), ?_⟩
    have i4 := i3.old (f := "contents") (v := v4)
    refine ⟨_, rfl, _, rfl, me, CM, dx, _, rfl, i4.ins, R.cl, R.nq, (by show 4 < 1000; decide), ?_⟩
    have i5 := i4.old (f := "queues") (v := v5)
    refine ⟨_, rfl, _, rfl, me, CM, dx, _, rfl, i5.ins, R.cl, R.nr, (by show 5 < 1000; decide), ?_⟩
    have i6 := i5.old (f := "rows") (v := v6)
    exact q _ i6.but i6.ins
theorem scMaIn : FnScope ["self", "program", "code"] ["self", "program"] (defScope sMaIn) := ⟨rfl, rfl, rfl, by decide +kernel, rfl, by decide +kernel, by decide +kernel⟩
theorem tr_fine : ∀ {c : QL}, c.ok → ∀ r ∈ c.tr ++ [QRow.over], RowFine r := by
  have key : (∀ (c : QL), c.ok → ∀ r ∈ c.tr, RowFine r) := by
    intro c
    refine QL.rec (motive_1 := fun x => x.ok → ∀ r ∈ x.tr, RowFine r) (motive_2 := fun c => c.ok → ∀ r ∈ c.tr, RowFine r) ?_ ?_ ?_ ?_ ?_ ?_ c
    · intro r f as ok x hx
      rw [List.mem_singleton.mp hx]
      exact ⟨nm_len ok.2.1, ok.2.2.1⟩
    · intro r q ok x hx
      rw [List.mem_singleton.mp hx]
      exact True.intro
    · intro r ok x hx
      rw [List.mem_singleton.mp hx]
      exact True.intro
    · intro p r ys ns hy hn ok x hx
      have hx : x ∈ QRow.iff p r (ys.tr.length + 1) :: (ys.tr ++ QRow.skip ns.tr.length :: ns.tr) := hx
      rcases List.mem_cons.mp hx with rfl | hx
      · exact True.intro
      · rcases List.mem_append.mp hx with hx | hx
        · exact hy ok.2.2.1 x hx
        · rcases List.mem_cons.mp hx with rfl | hx
          · exact True.intro
          · exact hn ok.2.2.2 x hx
    · intro _ x hx
      cases hx
    · intro h t hh ht ok x hx
      rcases List.mem_append.mp (show x ∈ h.tr ++ t.tr from hx) with hx | hx
      · exact hh ok.1 x hx
      · exact ht ok.2 x hx
  intro c ok r hr
  rcases List.mem_append.mp hr with hr | hr
  · exact key c ok r hr
  · rw [List.mem_singleton.mp hr]
    exact True.intro
theorem ok_main29 (F : Fun K "__init__" "Machine.__init__" sMaIn f fd) (RK : MaC K CK) (R : PrC K C) (ct : CallN P w K mg base "_track" 5 ["code"] (spTrack 4)) (pt : PropM P w K mg base C "threads" 1 (getSp C "_threads")) (pa : PropM P w K mg base C "answers" 2 (spPAns C)) : FnOk P w K mg base CX0 6 f fd ["self", "program"] (spMaIn C CK) := by
  obtain ⟨q1, e1, g1, k1, b1, G1⟩ := ct
  obtain ⟨pT, gT, dT, hT, GT, bT⟩ := pt
  obtain ⟨pA, gA, dA, hA, GA, bA⟩ := pa
  refine F.ok scMaIn (fun vs H Q E h => ?_) (fun cdv A0 outer s H vs Q E hr h => ?_)
  · obtain ⟨ma, dm, p, c, kvs, rfl, _⟩ := h
    rfl
  · obtain ⟨ma, dm, p, c, kvs, rfl, em, hp, q⟩ := h
    refine ⟨_, pss_cons (ps_fld (pv 0) (pe_lc (own := [("code", 2)]) rfl scMaIn.nd (pi_tup (pe_prop (E := E0) (pv 1) R.I.cl hT GT (hr.mono (by decide)) bT .nil pass0 (by rfl))) (blkOk_by (N := ["self", "program", "code"]) (sc := defScope sMaIn) (by decide +kernel))
        (fun _ _ _ _ _ => pg_name (i := 2) scMaIn.nd rfl (Or.inl rfl)) (fun _ _ _ _ _ => pts_nil) (fun _ _ _ _ _ => pe_op op_cat (pe_call G1 hr (by rfl) g1 k1 b1 .nil pass0 (pa_cons (pv 2) pa_nil)) (pe_lst (pa_cons (pe_tup (pa_cons pe_str pa_nil)) pa_nil)))) rfl)
      (pss_cons (ps_fld (pv 0) (pe_prop (E := E0) (pv 1) R.I.cl hA GA (hr.mono (by decide)) bA .nil pass0 (by rfl)) rfl)
      (pss_one (ps_fld (pv 0) pe_dnewT rfl))), ?_⟩
    obtain ⟨⟨dx, th, ce, an, cv, e1, e2, ht, ec, ea⟩, ok, ans⟩ := id hp
    have line : (1000 : Nat) < sizeLine := by decide
    refine ⟨_, rfl, p, dx, _, rfl, e1, p, dx, _, .ref th, rfl, e1, rfl, th, rfl, ⟨_, SqT.of e2⟩, fun D hD => lc_tup (xs := [cv]) (fun j G => Same H G ∧ ((j = 0 ∧ G D = some (.lst [])) ∨ (j = 1 ∧ ∃ t0 xs, G D = some (.lst [.ref t0]) ∧ H t0 = none ∧ t0 ≠ D ∧ G t0 = some (.lst xs) ∧ Paired (RowAt G) xs (c.tr ++ [.over])))) ⟨same_upd hD, .inl ⟨rfl, upd_same⟩⟩ (fun j G _ z => SqT.of (z.1 _ _ e2)) (fun j x G hx z => ?_) (fun G z => ?_)⟩
    · obtain ⟨sG, z⟩ := z
      obtain ⟨rfl, rfl⟩ : j = 0 ∧ x = cv := by
        cases j with
        | zero => exact ⟨rfl, (Option.some.inj hx).symm⟩
        | succ j => simp at hx
      rcases z with ⟨_, eD⟩ | ⟨z, _⟩
      · refine ⟨rfl, _, rfl, x, c, rfl, ht.mv (TupS.same sG), ok.dp, Nat.le_trans ok.few (by decide), fun G1 p1 xs1 s1 hp1 e1' h1 => ?_⟩
        refine ⟨(by show 1 ≤ sizeLine; decide), fun tp htp => ⟨(by show 1 ≤ sizeLine; decide), fun lp hlp => ?_⟩⟩
        have s2 := same_upd (o := .tup [.str "over"]) htp
        have s3 := same_upd (o := .lst [.ref tp]) hlp
        have l1 := h1.length
        have few := ok.few
        refine ⟨p1, lp, xs1, [.ref tp], rfl, rfl, s3 _ _ (s2 _ _ e1'), upd_same, by show xs1.length + 1 ≤ _; omega, fun z hz => ?_⟩
        have s4 := same_upd (o := .lst (xs1 ++ [.ref tp])) hz
        have s14 := (s1.trans (s2.trans s3)).trans s4
        have zD : z ≠ D := fun q => by
          rw [q] at hz
          rw [(s1.trans (s2.trans s3)) _ _ eD] at hz
          cases hz
        refine ⟨[], s14 _ _ eD, by decide, same_put hD (sG.trans s14), .inr ⟨rfl, z, xs1 ++ [.ref tp], upd_same, (sG.trans (s1.trans (s2.trans s3))).free hz, zD, by rw [upd_ne zD]; exact upd_same, ?_⟩⟩
        have ts : TupS G1 (upd (upd (upd (upd G1 tp (.tup [.str "over"])) lp (.lst [.ref tp])) z (.lst (xs1 ++ [.ref tp]))) D (.lst ([] ++ [.ref z]))) := ((TupS.same s2).trans (TupS.same s3)).trans ((TupS.same s4).trans (TupS.put (s14 _ _ eD) fun _ q => nomatch q))
        refine Paired.app (rows_mv ts h1) (.cons ⟨tp, rfl, ?_⟩ .nil)
        have e3 : upd G1 tp (.tup [.str "over"]) tp = some (.tup [.str "over"]) := upd_same
        exact ((TupS.same s3).trans ((TupS.same s4).trans (TupS.put (s14 _ _ eD) fun _ q => nomatch q))) _ _ e3
      · cases z
    · obtain ⟨sG, z⟩ := z
      rcases z with ⟨z, _⟩ | ⟨_, t0, xs, eD, ht0, tD, et0, hT⟩
      · cases z
      have i0 : InitS H G ma CK dm [] [] := ⟨sG _ _ em, fun b o _ e => sG b o e, fun p hp => (by cases hp), List.nodup_nil⟩
      have Dm : D ≠ ma := fun z => by rw [z, em] at hD; cases hD
      have tm : t0 ≠ ma := fun z => by rw [z, em] at ht0; cases ht0
      refine ⟨_, rfl, ma, CK, dm, [], rfl, i0.ins, RK.cl, RK.nt, (by show 0 < 1000; decide), ?_⟩
      have i1 := i0.old (f := "tracks") (v := .ref D)
      have eD1 : upd G ma (.ins CK dm (putF "tracks" (.ref D) [])) D = some (.lst [.ref t0]) := by rw [upd_ne Dm]; exact eD
      have et1 : upd G ma (.ins CK dm (putF "tracks" (.ref D) [])) t0 = some (.lst xs) := by rw [upd_ne tm]; exact et0
      have hT1 : Paired (RowAt (upd G ma (.ins CK dm (putF "tracks" (.ref D) [])))) xs (c.tr ++ [.over]) := rows_mv (TupS.put i0.ins fun _ q => nomatch q) hT
      generalize upd G ma _ = G1 at i1 eD1 et1 hT1 ⊢
      have hp1 := hp.but em i1.but
      obtain ⟨⟨dx', th', ce', an', cv', z1, _⟩, _⟩ := id hp1
      refine ⟨_, rfl, p, dx', _, rfl, z1, p, c, kvs, rfl, hp1, fun G2 ad lvs s2 had ead hl hv => ?_⟩
      have i2 := i1.ext s2
      have adm : ad ≠ ma := fun z => by rw [z, i1.ins] at had; cases had
      refine ⟨_, rfl, ma, CK, dm, _, rfl, i2.ins, RK.cl, RK.ntd, (by show 1 < 1000; decide), ?_⟩
      have i3 := i2.old (f := "told") (v := .ref ad)
      have ts3 : TupS G2 (upd G2 ma (.ins CK dm (putF "told" (.ref ad) (putF "tracks" (.ref D) [])))) := TupS.put i2.ins fun _ q => nomatch q
      have k3 : ∀ {x : Addr} {o : HO}, x ≠ ma → G2 x = some o → upd G2 ma (.ins CK dm (putF "told" (.ref ad) (putF "tracks" (.ref D) []))) x = some o := fun n e => by rw [upd_ne n]; exact e
      have eD3 := k3 Dm (s2 _ _ eD1)
      have et3 := k3 tm (s2 _ _ et1)
      have ea3 := k3 adm ead
      have hT3 := rows_mv ((TupS.same s2).trans ts3) hT1
      have hada : H ad = none := by
        cases e : H ad with
        | none => rfl
        | some o =>
          rw [i1.but ad o adm e] at had
          cases had
      generalize upd G2 ma _ = G3 at i3 eD3 et3 ea3 hT3 ⊢
      refine fun kn hkn => ?_
      have s4 := same_upd (o := .dT []) hkn
      have i4 := i3.ext s4
      have knm : kn ≠ ma := fun z => by rw [z, i3.ins] at hkn; cases hkn
      have hkna : H kn = none := by
        cases e : H kn with
        | none => rfl
        | some o =>
          rw [i3.but kn o knm e] at hkn
          cases hkn
      refine ⟨_, rfl, ma, CK, dm, _, rfl, i4.ins, RK.cl, RK.nk, (by show 2 < 1000; decide), ?_⟩
      have i5 := i4.old (f := "known") (v := .ref kn)
      have ts5 : TupS (upd G3 kn (.dT [])) (upd (upd G3 kn (.dT [])) ma (.ins CK dm (putF "known" (.ref kn) (putF "told" (.ref ad) (putF "tracks" (.ref D) []))))) := TupS.put i4.ins fun _ q => nomatch q
      have k5 : ∀ {x : Addr} {o : HO}, x ≠ ma → upd G3 kn (.dT []) x = some o → upd (upd G3 kn (.dT [])) ma (.ins CK dm (putF "known" (.ref kn) (putF "told" (.ref ad) (putF "tracks" (.ref D) [])))) x = some o := fun n e => by rw [upd_ne n]; exact e
      have few := ok.few
      refine q _ ⟨ma, ma, ma, dm, D, t0, ad, kn, ma, ma, ma, ma, ma, ma, ma⟩ rfl rfl i5.but ⟨i5.ins, k5 Dm (s4 _ _ eD3), ⟨xs, k5 tm (s4 _ _ et3), rows_mv ((TupS.same s4).trans ts5) hT3⟩, ⟨lvs, k5 adm (s4 _ _ ea3), fun pp x => ?_⟩, ⟨[], k5 knm upd_same, Nat.le_refl _, fun x hx => (by cases hx)⟩, tr_fine ok.ok, by rw [List.length_append]; show c.tr.length + 1 ≤ 100; omega, by decide⟩ ?_ ?_
      · rw [hv]
        exact ans.ask pp x
      · intro z
        have z : kn = ad := z
        rw [z, ea3] at hkn
        cases hkn
      · intro x hx
        simp only [List.mem_cons, List.not_mem_nil, or_false] at hx
        rcases hx with rfl | rfl | rfl | rfl
        · exact hD
        · exact ht0
        · exact hada
        · exact hkna
end
end OM

namespace OM
open PySem PySem.Spec PyProof.Rows L2
def spStepped (CM CK : Addr) : Sp := spM CM CK fun me A T ask i e sh t vs H Q => ∃ (r : Str) (L : List Str) (e' : Rg), vs = [me, .int 0] ∧ T[i]? = some (.shw r) ∧ Trc ask T (i + 1) e L e' ∧ t ≤ 3 * i ∧ sh.length < 900 ∧
  ∀ H' A' i2 e2 t2 row, A'.kn = A.kn → Chg [A.kn] H H' → MoM CM CK H' A' T ask i2 e2 (sh ++ [e r]) t2 → Trc ask T i2 e2 L e' → T[i2]? = some row → row.stop → t2 ≤ 3 * i2 → Q (.ref A'.me) H'
/-- how a class is made -/
structure MkM (P : Program) (w : World) (K : PySem.W.Frag) (mg : Str → Option Value) (base : Heap) (name : Str) (C : Addr) (k : Nat) (ps : List Str) (sp : Sp) : Prop where
  ex : ∃ (g : Addr) (d : FuncData), Mk K C g ∧ mg name = some (.ref C) ∧ Binds K d ps [] ∧ FnOk P w K mg base CX0 k g d ps sp
section
variable {P : Program} {w : World} {K : PySem.W.Frag} {mg : Str → Option Value} {base : Heap} {f C CM CK : Addr} {fd : FuncData}
theorem scStp : FnScope ["self", "thread", "worths", "made"] ["self", "thread"] (defScope sStepped) := ⟨rfl, rfl, rfl, by decide +kernel, rfl, by decide +kernel, by decide +kernel⟩
theorem ok_stepped (F : Fun K "stepped" "Moment.stepped" sStepped f fd) (R : MoC K CM) (ls : mg "list" = none) (di : mg "dict" = none) (mk : MkM P w K mg base "Moment" CM 1 nMoIn (spMoIn CM)) (mt : MethN P w K mg base CM "take_step" 2 ["self", "thread"] (spTakeStep CM CK)) (ms : MethN P w K mg base CM "settle" 3 ["self", "thread"] (spSettle CM CK)) :
    FnOk P w K mg base CX0 4 f fd ["self", "thread"] (spStepped CM CK) := by
  obtain ⟨gT, dT, aT, bT, GT⟩ := mt
  obtain ⟨gS, dS, aS, bS, GS⟩ := ms
  obtain ⟨g1, d1, m1, e1, b1, G1⟩ := mk
  refine F.ok scStp (fun vs H Q E h => ?_) (fun cdv A0 outer s H vs Q E hr h => ?_)
  · obtain ⟨A, T, ask, i, e, sh, t, _, r, L, e', rfl, _⟩ := h
    rfl
  · obtain ⟨A, T, ask, i, e, sh, t, h, r, L, e', rfl, hrow, tr, ht, l9, q⟩ := h
    refine ⟨_, pss_cons (ps_set (i := 2) scStp.nd rfl (Or.inl rfl) (pe_callTy call_list_of (by rfl) ls (by decide +kernel) (pa_cons (pe_fld (pv 0) rfl) pa_nil)))
      (pss_cons (ps_asg (pe_callTy call_dictD (by rfl) di (by decide +kernel) (pa_cons (pe_ix ix_list (pv 2) (pv 1) (fun _ _ => rfl)) pa_nil)) (pg_sub (pv 2) (pv 1) L2.set_list))
      (pss_cons (ps_set (i := 3) scStp.nd rfl (Or.inl rfl) (pe_make m1 G1 (hr.mono (by decide)) (by rfl) e1 b1 .nil pass0 (pa_cons (pe_fld (pv 0) rfl) (pa_cons (pe_callTy call_list_of (by rfl) ls (by decide +kernel) (pa_cons (pe_fld (pv 0) rfl) pa_nil)) (pa_cons (pv 2) (pa_cons (pe_callTy call_dictD (by rfl) di (by decide +kernel) (pa_cons (pe_fld (pv 0) rfl) pa_nil))
          (pa_cons (pe_callTy call_list_of (by rfl) ls (by decide +kernel) (pa_cons (pe_fld (pv 0) rfl) pa_nil)) (pa_cons (pe_callTy call_list_of (by rfl) ls (by decide +kernel) (pa_cons (pe_fld (pv 0) rfl) pa_nil)) pa_nil))))))))
      (pss_cons (ps_expr (pe_meth (pv 3) R.cl aT GT (hr.mono (by decide)) bT .nil pass0 (pa_cons (pv 1) pa_nil)))
      (pss_cons (ps_expr (pe_meth (pv 3) R.cl aS GS hr bS .nil pass0 (pa_cons (pv 1) pa_nil)))
      (pss_one (ps_ret (pv 3))))))), ?_⟩
    obtain ⟨kw, w1, w2, w3⟩ := h.he
    obtain ⟨rt, r1, r2⟩ := h.ro
    -- the copies
    refine ⟨_, rfl, A.me, CM, A.dx, _, .ref A.wo, rfl, h.ins, R.cl, R.nw, rfl, A.wo, _, rfl, .inl (SqL.of h.wo), fun W hW => ?_⟩
    have s1 := same_upd (o := .lst [.ref A.he]) hW
    refine ⟨_, rfl, _, rfl, W, _, 0, .ref A.he, rfl, rfl, SqL.of upd_same, at0, A.he, kw, rfl, .of (s1 _ _ w1), fun D hD => ?_⟩
    have s2 := same_upd (o := .dK kw) hD
    have WD : W ≠ D := fun z => by
      rw [← z, upd_same] at hD
      cases hD
    refine ⟨_, rfl, _, rfl, W, [.ref A.he], 0, 0, rfl, rfl, s2 _ _ upd_same, rfl, ?_⟩
    generalize hG3 : upd (upd _ D _) W _ = G3
    have t3 : Same H G3 := by rw [← hG3]; exact same_put hW (s1.trans s2)
    have eW : G3 W = some (.lst [.ref D]) := by rw [← hG3]; exact upd_same
    have eD : G3 D = some (.dK kw) := by rw [← hG3, upd_ne WD.symm]; exact upd_same
    have hDH : H D = none := s1.free hD
    clear hG3 s1 s2 hD
    have h3 := h.mv t3
    refine ⟨_, rfl, A.me, CM, A.dx, _, .ref A.ma, rfl, h3.ins, R.cl, R.nm, rfl, _, rfl, A.me, CM, A.dx, _, .ref A.sp, rfl, h3.ins, R.cl, R.ns, rfl, A.sp, _, rfl, .inl (SqL.of h3.sp), fun sp' hsp => ?_⟩
    have s4 := same_upd (o := .lst [.int (i : Nat)]) hsp
    have e4 : upd G3 sp' (.lst [.int (i : Nat)]) sp' = some (.lst [.int (i : Nat)]) := upd_same
    generalize upd G3 sp' _ = G4 at s4 e4 ⊢
    have h4 := h3.mv s4
    refine ⟨_, rfl, _, rfl, A.me, CM, A.dx, _, .ref A.co, rfl, h4.ins, R.cl, R.nc, rfl, A.co, [], rfl, .of h4.co, fun co' hco => ?_⟩
    have s5 := same_upd (o := .dK []) hco
    have e5 : upd G4 co' (.dK []) co' = some (.dK []) := upd_same
    generalize upd G4 co' _ = G5 at s5 e5 ⊢
    have h5 := h4.mv s5
    refine ⟨_, rfl, A.me, CM, A.dx, _, .ref A.qu, rfl, h5.ins, R.cl, R.nq, rfl, A.qu, _, rfl, .inl (SqL.of h5.qu), fun qu' hqu => ?_⟩
    have s6 := same_upd (o := .lst [.ref A.qe]) hqu
    have e6 : upd G5 qu' (.lst [.ref A.qe]) qu' = some (.lst [.ref A.qe]) := upd_same
    generalize upd G5 qu' _ = G6 at s6 e6 ⊢
    have h6 := h5.mv s6
    have r16 : G6 A.ro = some (.lst [.ref rt]) := s6 _ _ (s5 _ _ (s4 _ _ (t3 _ _ r1)))
    refine ⟨_, rfl, A.me, CM, A.dx, _, .ref A.ro, rfl, h6.ins, R.cl, R.nr, rfl, A.ro, _, rfl, .inl (SqL.of r16), fun ro' hro => ?_⟩
    have s7 := same_upd (o := .lst [.ref rt]) hro
    have e7 : upd G6 ro' (.lst [.ref rt]) ro' = some (.lst [.ref rt]) := upd_same
    generalize upd G6 ro' _ = G7 at s7 e7 ⊢
    have h7 := h6.mv s7
    refine fun x dx hx hdx nx => ?_
    have ndx : upd G7 dx (.own x) x = none := by
      rw [upd_ne (fun z => nx z.symm)]
      exact hx
    have s8 := (same_upd (o := .own x) hdx).trans (same_upd (o := .ins CM dx []) ndx)
    have e8 : upd (upd G7 dx (.own x)) x (.ins CM dx []) x = some (.ins CM dx []) := upd_same
    generalize upd (upd G7 dx (.own x)) x (.ins CM dx []) = G8 at s8 e8 ⊢
    refine ⟨x, dx, _, _, _, _, _, _, rfl, e8, fun G9 bt e9 => ⟨rfl, ?_⟩⟩
    have s9 : ∀ {b : Addr} {o : HO}, G7 b = some o → G9 b = some o := fun {b o} e => bt b o (ne_of_none e hx) (s8 b o e)
    have s79 : Same G7 G9 := fun b o e => s9 e
    have t9 : Same H G9 := t3.trans (s4.trans (s5.trans (s6.trans (s7.trans s79))))
    have h9 := h7.mv s79
    obtain ⟨xs0, x01, x02⟩ := h9.mac.t0
    have hA : MoM CM CK G9 ⟨x, dx, A.ma, A.dm, A.tl, A.t0, A.td, A.kn, sp', W, D, co', qu', A.qe, ro'⟩ T ask i e sh t := by
      obtain ⟨y3, y31, _⟩ := h3.mac.t0
      obtain ⟨y6, y61, _⟩ := h6.mac.t0
      refine ⟨e9, ⟨h9.mac.ins, h9.mac.tl, h9.mac.t0, h9.mac.td, h9.mac.kn, h9.mac.fine, h9.mac.few⟩, s79 _ _ (s7 _ _ (s6 _ _ (s5 _ _ e4))), s79 _ _ (s7 _ _ (s6 _ _ (s5 _ _ (s4 _ _ eW)))), ⟨kw, s79 _ _ (s7 _ _ (s6 _ _ (s5 _ _ (s4 _ _ eD)))), w2, w3⟩, s79 _ _ (s7 _ _ (s6 _ _ e5)), s79 _ _ (s7 _ _ e6), h9.qe, ⟨rt, s79 _ _ e7, t9 _ _ r2⟩, ?_, h.few⟩
      exact ⟨ne_of_none (s6 _ _ (s5 _ _ e4)) hro, (ne_of_none eW hsp).symm, ne_of_none (s5 _ _ e4) hqu, (ne_of_none h3.mac.tl hsp).symm, (ne_of_none y31 hsp).symm, (ne_of_none (s6 _ _ (s5 _ _ (s4 _ _ eW))) hro).symm, (ne_of_none e6 hro).symm, (ne_of_none h6.mac.tl hro).symm, (ne_of_none y61 hro).symm, h.ne.2.2.2.2.2.2.2.2.2.1, ne_of_none (s4 _ _ eD) hco⟩
    have hspH : H sp' = none := t3.free hsp
    have hroH : H ro' = none := (t3.trans (s4.trans (s5.trans s6))).free hro
    refine ⟨_, rfl, x, dx, _, rfl, e9, rfl, _, rfl, ⟨x, dx, A.ma, A.dm, A.tl, A.t0, A.td, A.kn, sp', W, D, co', qu', A.qe, ro'⟩, T, ask, i, e, sh, t, hA, r, rfl, hrow, l9, fun G10 c10 h10 => ?_⟩
    refine ⟨_, rfl, x, dx, _, rfl, h10.ins, rfl, _, rfl, _, T, ask, i + 1, e, sh ++ [e r], t, h10, L, e', rfl, tr, by omega, fun G11 i2 e2 t2 row c11 h11 tr2 hrow2 st2 ht2 => ⟨_, rfl, ?_⟩⟩
    have c := c10.trans c11
    refine q G11 ⟨x, dx, A.ma, A.dm, A.tl, A.t0, A.td, A.kn, sp', W, D, co', qu', A.qe, ro'⟩ i2 e2 t2 row rfl ⟨fun b o nb eb => c.keep b o (fun z => ?_) (t9 _ _ eb), (TupS.same t9).trans c.tups⟩ h11 tr2 hrow2 st2 ht2
    unfold MA.own at z
    simp only [List.mem_cons, List.not_mem_nil, or_false] at z nb
    rcases z with z | z | z | z
    · exact nb z
    · rw [z, hspH] at eb
      cases eb
    · rw [z, hDH] at eb
      cases eb
    · rw [z, hroH] at eb
      cases eb
end
end OM

namespace OM
open PySem PySem.Spec PyProof.Rows L2
section
variable {X : Cx}
/-- y = {k: v for ..}, y a local that no block catches -/
theorem ps_setDc {i : Nat} {y : Str} {py : Pos} {kx vx tg iter : Expr} {ifs : List Expr} {scope : Scope} {own : List (Str × Nat)} {pos spos : Pos} {wi : TI} {g : TG} {tt : TT} {tk tv : TE} (hc : X.calm = true) (hN : X.N.Nodup) (hy : X.N[i]? = some y) (hyl : X.env.scope.names.lookup y = some .local)
    (hsw : swapsWith (.DictComp kx vx [⟨tg, iter, ifs, 0⟩] scope pos) (some (.Name y py)) spos.line X.env = pure true) (hi : PI X tg iter wi) (ok : BlkOk X.N X.env.scope scope own)
    (hg : ∀ (s : Shared) (H : Hp) (C : Addr) (cl : List (Str × Addr)) (fp : List Addr), PG (X.blk s H scope (compEnvC scope cl C X.env) fp) tg g) (ht : ∀ (s : Shared) (H : Hp) (C : Addr) (cl : List (Str × Addr)) (fp : List Addr), PTs (X.blk s H scope (compEnvC scope cl C X.env) fp) ifs tt)
    (hk : ∀ (s : Shared) (H : Hp) (C : Addr) (cl : List (Str × Addr)) (fp : List Addr), PE (X.blk s H scope (compEnvC scope cl C X.env) fp) kx tk)
    (he : ∀ (s : Shared) (H : Hp) (C : Addr) (cl : List (Str × Addr)) (fp : List Addr), PE (X.blk s H scope (compEnvC scope cl C X.env) fp) vx tv) (hs : ∀ x, foldedSetIterable iter X.env x = pure x := by intro _; rfl) :
    PS X (.Assign [.Name y py] (.DictComp kx vx [⟨tg, iter, ifs, 0⟩] scope pos) spos) (tAsg (tDc wi g tt tk tv (own.map (·.2))) (gName i)) := by
  refine ⟨fun pins s σ H D I h => ?_⟩
  rw [exec_Assign_Name_used _ _ _ _ hsw]
  refine wpAny_bind (wpAny_standAt (wpAny_bind ?_))
  show wpAny _ X.A (do let _ ← comprehension (.DictComp kx vx [⟨tg, iter, ifs, 0⟩] scope pos) scope X.env (firstIterPos [⟨tg, iter, ifs, 0⟩] pos) newDict false (eval iter X.env) (some (assign (.Name y py) X.env))) _ _ s
  have h : tDc wi g tt tk tv (own.map (·.2)) σ H (fun x H1 => gName i x σ H1 D.nx) := h
  refine wpAny_bind (thn (dc_core (Qf := fun _ s' => SP X pins D .next s') hc hN I hi ok hg ht hk he hs h fun L C s' m H' I' q hn f => ?_) fun _ s' hq => wpAny_pure (wpAny_pure hq))
  show wpAny _ _ (assign (.Name y py) X.env (.ref L)) _ _ _
  refine wpAny_assign_Name (store_ok2 (v := V.ref L) I' hN hy (.inl hyl) rfl (fun s2 I2 ⟨a, sb, ha⟩ => ?_) (.inr hyl))
  obtain ⟨f0, f1, f2, f3, f4, f5⟩ := f
  have haC : C ≠ a := by
    rcases ha with z | z
    · rw [z]; exact f1
    · exact fun e => f4 y a z e.symm
  refine ⟨m, hn.sameBut sb haC, fun h3 sb3 => ?_⟩
  exact ⟨_, H', I2.turned (t' := s2.toks) (fun b o hb e => (sb3.2 b hb).trans e) f0 f1 f3 f4 f5, q⟩
end
end OM

namespace OM
open PySem PySem.Spec PyProof.Rows L2
abbrev sFirstM : Stmt := top 55
abbrev sMomAft : Stmt := top 56
/-- the registers of the beginning -/
def rg0 : Rg := fun n => n
def spFirst (C CM CK : Addr) : Sp := fun vs H Q _ => ∃ (p : Addr) (c : QL) (kvs : List (List Key × V)) (L : List Str) (e' : Rg), vs = [.ref p] ∧ PrM C H p c kvs ∧ Trc (askK kvs) (c.tr ++ [.over]) 0 rg0 L e' ∧
  ∀ H' A i e t row, Same H H' → H A.kn = none → MoM CM CK H' A (c.tr ++ [.over]) (askK kvs) i e [] t → Trc (askK kvs) (c.tr ++ [.over]) i e L e' → (c.tr ++ [.over])[i]? = some row → row.stop → t ≤ 3 * i → Q (.ref A.me) H'
section
variable {P : Program} {w : World} {K : PySem.W.Frag} {mg : Str → Option Value} {base : Heap} {f fL C CM CK : Addr} {fd dL : FuncData}
abbrev nFm : List Str := ["program", "threads", "told", "contents", "name", "empty", "_", "made", "thread"]
theorem scFm : FnScope nFm ["program"] (defScope sFirstM) := ⟨rfl, rfl, rfl, by decide +kernel, rfl, by decide +kernel, by decide +kernel⟩
theorem MacM.sm {CK : Addr} {H H' : Hp} {A : MA} {T : List QRow} {ask : Str → Str → Bool} {t : Nat} (h : MacM CK H A T ask t) (s : Same H H') : MacM CK H' A T ask t := by
  have eq : ∀ {x o}, H x = some o → H' x = H x := fun e => by rw [e]; exact s _ _ e
  obtain ⟨kvs, k1, _⟩ := h.kn
  obtain ⟨xs, x1, _⟩ := h.t0
  obtain ⟨ks, y1, _⟩ := h.td
  exact h.mv (TupS.same s) (eq h.ins) (eq h.tl) (eq x1) (eq y1) (h.kn.mv (eq k1) (Nat.le_refl _)) h.few.2
theorem ok_first {oh : PySem.W.findIn K (.ref C) "__len__" = some (some (.ref fL))} (F : Fun K "first_moment" "first_moment" sFirstM f fd) (RP : PrC K C) (R : MoC K CM) (rng : mg "range" = none) (ln : mg "len" = none) (ls : mg "list" = none) (of : PySem.W.isFn K (.ref fL) = true) (bL : Binds K dL ["self"] []) (GL : FnOk P w K mg base CX0 1 fL dL ["self"] (spPLen C))
    (pc : PropM P w K mg base C "cells" 2 (spPCells C)) (pn : PropM P w K mg base C "names" 7 (spPNames C)) (mk : MkM P w K mg base "Moment" CM 1 nMoIn (spMoIn CM)) (mm : MkM P w K mg base "Machine" CK 6 ["self", "program"] (spMaIn C CK)) (ms : MethN P w K mg base CM "settle" 3 ["self", "thread"] (spSettle CM CK)) :
    FnOk P w K mg base CX0 9 f fd ["program"] (spFirst C CM CK) := by
  obtain ⟨pC, gC, dC, hC, GC, bC⟩ := pc
  obtain ⟨pN, gN, dN, hN, GN, bN⟩ := pn
  obtain ⟨gS, dS, aS, bS, GS⟩ := ms
  obtain ⟨g1, d1, m1, e1, b1, G1⟩ := mk
  obtain ⟨g2, d2, m2, e2, b2, G2⟩ := mm
  refine F.ok scFm (fun vs H Q E h => ?_) (fun cdv A0 outer s H vs Q E hr h => ?_)
  · obtain ⟨p, c, kvs, L, e', rfl, _⟩ := h
    rfl
  · obtain ⟨p, c, kvs, L, e', rfl, hp, tr, q⟩ := h
    refine ⟨_, pss_cons (ps_set (i := 1) scFm.nd rfl (Or.inl rfl) (pe_callTy cr_range1 (by rfl) rng (by decide +kernel) (pa_cons (pe_callB (len_own (p := "self") ⟨oh, of, GL, bL⟩ (hr.mono (by decide))) (by rfl) ln PySem.boot_len (pa_cons (pv 0) pa_nil)) pa_nil)))
      (pss_cons (ps_set (i := 2) scFm.nd rfl (Or.inr rfl) (pe_prop (E := E0) (pv 0) RP.I.cl hC GC (hr.mono (by decide)) bC .nil pass0 (by rfl)))
      (pss_cons (ps_setDc (i := 3) (own := [("name", 4)]) rfl scFm.nd rfl rfl (by rfl) (pi_tup (pe_prop (E := E0) (pv 0) RP.I.cl hN GN hr bN .nil pass0 (by rfl))) (blkOk_by (N := nFm) (sc := defScope sFirstM) (by decide +kernel)) (fun _ _ _ _ _ => pg_name (i := 4) scFm.nd rfl (Or.inl rfl)) (fun _ _ _ _ _ => pts_nil) (fun _ _ _ _ _ => pe_never) (fun _ _ _ _ _ => pe_never))
      (pss_cons (ps_setLc (i := 5) (own := [("_", 6)]) rfl scFm.nd rfl rfl (by rfl) (pi_rngO (pv 1)) (blkOk_by (N := nFm) (sc := defScope sFirstM) (by decide +kernel)) (fun _ _ _ _ _ => pg_name (i := 6) scFm.nd rfl (Or.inl rfl)) (fun _ _ _ _ _ => pts_nil) (fun _ _ _ _ _ => pe_tup pa_nil))
      (pss_cons (ps_set (i := 7) scFm.nd rfl (Or.inl rfl) (pe_make m1 G1 (hr.mono (by decide)) (by rfl) e1 b1 .nil pass0 (pa_cons (pe_make m2 G2 (hr.mono (by decide)) (by rfl) e2 b2 .nil pass0 (pa_cons (pv 0) pa_nil))
          (pa_cons (pe_lc (own := [("_", 6)]) rfl scFm.nd (pi_rngO (pv 1)) (blkOk_by (N := nFm) (sc := defScope sFirstM) (by decide +kernel)) (fun _ _ _ _ _ => pg_name (i := 6) scFm.nd rfl (Or.inl rfl)) (fun _ _ _ _ _ => pts_nil) (fun _ _ _ _ _ => pe_int))
          (pa_cons (pe_lc (own := [("_", 6)]) rfl scFm.nd (pi_rngO (pv 1)) (blkOk_by (N := nFm) (sc := defScope sFirstM) (by decide +kernel)) (fun _ _ _ _ _ => pg_name (i := 6) scFm.nd rfl (Or.inl rfl)) (fun _ _ _ _ _ => pts_nil) (fun _ _ _ _ _ => pe_dnewK))
          (pa_cons (pv 3) (pa_cons (pv 5) (pa_cons (pe_callTy call_list_of (by rfl) ls (by decide +kernel) (pa_cons (pv 5) pa_nil)) pa_nil))))))))
      (pss_cons (ps_for PassesOwn.never rfl (pi_rngO (pv 1)) (pg_name (i := 8) scFm.nd rfl (Or.inl rfl)) (pss_one (ps_expr (pe_meth (pv 7) R.cl aS GS (hr.mono (by decide)) bS .nil pass0 (pa_cons (pv 8) pa_nil)))))
      (pss_one (ps_ret (pv 7)))))))), ?_⟩
    obtain ⟨⟨dx, th, ce, an, cv, z1, _⟩, _⟩ := id hp
    refine ⟨_, rfl, p, dx, _, rfl, z1, p, c, kvs, rfl, hp, 1, rfl, by decide, ?_⟩
    refine ⟨1, rfl, fun tg htg => ?_⟩
    have s1 := same_upd (o := .rng 0 1) htg
    have e1r : upd H tg (.rng 0 1) tg = some (.rng 0 1) := upd_same
    generalize upd H tg _ = G1' at s1 e1r ⊢
    refine ⟨_, rfl, p, dx, _, rfl, s1 _ _ z1, p, c, kvs, rfl, hp.mv s1, fun G2' D2 s2 _ _ => ?_⟩
    have s12 := s1.trans s2
    refine ⟨_, rfl, p, dx, _, rfl, s12 _ _ z1, p, c, kvs, rfl, hp.mv s12, fun G3 nt s3 ent => ⟨nt, rfl, ⟨[], SqT.of ent⟩, fun co hco => ?_⟩⟩
    have s13 := s12.trans s3
    refine dc_tup (K := K) (a := nt) (xs := []) (g := gName 4) (tt := L2.tYes) (tk := fun _ _ _ => False) (tv := fun _ _ _ => False) (vs := [4]) (fun _ G => G = upd G3 co (.dK [])) rfl (fun i G _ z => by rw [z]; exact SqT.of (same_upd hco _ _ ent)) (fun i x G hx z => by simp at hx) (fun G z => ?_)
    subst z
    have s4 := s13.trans (same_upd (o := .dK []) hco)
    have eco : upd G3 co (.dK []) co = some (.dK []) := upd_same
    have er4 : upd G3 co (.dK []) tg = some (.rng 0 1) := (same_upd hco) _ _ (s3 _ _ (s2 _ _ e1r))
    generalize upd G3 co _ = G4 at s4 eco er4 ⊢
    have rb : (-(2 ^ 62) ≤ (0 : Int) ∧ (0 : Int) < 2 ^ 62 ∧ -(2 ^ 62) ≤ (1 : Int) ∧ (1 : Int) < 2 ^ 62) := by decide
    have hc4 : H co = none := s13.free hco
    clear hco
    -- the queues
    refine ⟨_, rfl, tg, 0, 1, rfl, er4, rb, fun qu hqu => lc_range (fun j G => Same G4 G ∧ ((j = 0 ∧ G qu = some (.lst [])) ∨ (j = 1 ∧ ∃ qe, G qu = some (.lst [.ref qe]) ∧ G qe = some (.tup [])))) ⟨same_upd hqu, .inl ⟨rfl, upd_same⟩⟩ (fun j G hj z => ?_) (fun G z => ?_)⟩
    · have hj : j < 1 := hj
      obtain ⟨sG, z⟩ := z
      rcases z with ⟨rfl, eq⟩ | ⟨rfl, _⟩
      · refine ⟨rfl, (by show 0 ≤ sizeLine; decide), fun qe hqe => ⟨[], same_upd hqe _ _ eq, by decide, same_put hqu (sG.trans (same_upd hqe)), .inr ⟨rfl, qe, upd_same, ?_⟩⟩⟩
        rw [upd_ne (ne_of_none eq hqe).symm, upd_same]
      · omega
    obtain ⟨s5, z⟩ := z
    rcases z with ⟨z, _⟩ | ⟨_, qe, equ, eqe⟩
    · cases z
    have s15 := s4.trans s5
    have hp5 := hp.mv s15
    -- the machine
    refine ⟨_, rfl, fun ma dm hma hdm nma => ?_⟩
    have ndma : upd G dm (.own ma) ma = none := by
      rw [upd_ne (fun z => nma z.symm)]
      exact hma
    have s6 := (same_upd (o := .own ma) hdm).trans (same_upd (o := .ins CK dm []) ndma)
    have e6 : upd (upd G dm (.own ma)) ma (.ins CK dm []) ma = some (.ins CK dm []) := upd_same
    generalize upd (upd G dm (.own ma)) ma (.ins CK dm []) = G6 at s6 e6 ⊢
    refine ⟨ma, dm, p, c, kvs, rfl, e6, hp5.mv s6, fun G7 B eB1 eB2 b7 mac nkt fresh => ⟨rfl, ?_⟩⟩
    have s7 : Same G G7 := fun b o e => b7 b o (ne_of_none e hma) (s6 b o e)
    have s17 := s15.trans s7
    have er7 := s7 _ _ (s5 _ _ er4)
    -- the spots
    refine ⟨_, rfl, tg, 0, 1, rfl, er7, rb, fun sp hsp => lc_range (fun j G => Same G7 G ∧ ((j = 0 ∧ G sp = some (.lst [])) ∨ (j = 1 ∧ G sp = some (.lst [.int 0])))) ⟨same_upd hsp, .inl ⟨rfl, upd_same⟩⟩ (fun j G hj z => ?_) (fun G8 z => ?_)⟩
    · have hj : j < 1 := hj
      obtain ⟨sG, z⟩ := z
      rcases z with ⟨rfl, eq⟩ | ⟨rfl, _⟩
      · exact ⟨rfl, [], eq, by decide, same_put hsp sG, .inr ⟨rfl, upd_same⟩⟩
      · omega
    obtain ⟨s8, z⟩ := z
    rcases z with ⟨z, _⟩ | ⟨_, esp⟩
    · cases z
    have er8 := s8 _ _ er7
    -- the worths
    refine ⟨_, rfl, tg, 0, 1, rfl, er8, rb, fun wo hwo => lc_range (fun j G => Same G8 G ∧ ((j = 0 ∧ G wo = some (.lst [])) ∨ (j = 1 ∧ ∃ he, G wo = some (.lst [.ref he]) ∧ G he = some (.dK []) ∧ G8 he = none))) ⟨same_upd hwo, .inl ⟨rfl, upd_same⟩⟩ (fun j G hj z => ?_) (fun G9 z => ?_)⟩
    · have hj : j < 1 := hj
      obtain ⟨sG, z⟩ := z
      rcases z with ⟨rfl, eq⟩ | ⟨rfl, _⟩
      · refine ⟨rfl, fun he hhe => ⟨[], same_upd hhe _ _ eq, by decide, same_put hwo (sG.trans (same_upd hhe)), .inr ⟨rfl, he, upd_same, ?_, sG.free hhe⟩⟩⟩
        rw [upd_ne (ne_of_none eq hhe).symm, upd_same]
      · omega
    obtain ⟨s9, z⟩ := z
    rcases z with ⟨z, _⟩ | ⟨_, he, ewo, ehe, hhe⟩
    · cases z
    have equ9 := s9 _ _ (s8 _ _ (s7 _ _ equ))
    refine ⟨_, rfl, _, rfl, _, rfl, qu, _, rfl, .inl (SqL.of equ9), fun ro hro => ?_⟩
    have s10 := same_upd (o := .lst [.ref qe]) hro
    have ero : upd G9 ro (.lst [.ref qe]) ro = some (.lst [.ref qe]) := upd_same
    generalize upd G9 ro _ = G10 at s10 ero ⊢
    -- the moment
    refine fun x dx hx hdx nx => ?_
    have ndx : upd G10 dx (.own x) x = none := by
      rw [upd_ne (fun z => nx z.symm)]
      exact hx
    have s11 := (same_upd (o := .own x) hdx).trans (same_upd (o := .ins CM dx []) ndx)
    have e11 : upd (upd G10 dx (.own x)) x (.ins CM dx []) x = some (.ins CM dx []) := upd_same
    generalize upd (upd G10 dx (.own x)) x (.ins CM dx []) = G11 at s11 e11 ⊢
    refine ⟨x, dx, _, _, _, _, _, _, rfl, e11, fun G12 bt e12 => ⟨rfl, ?_⟩⟩
    have s12' : Same G10 G12 := fun b o e => bt b o (ne_of_none e hx) (s11 b o e)
    have s812 := (s9.trans s10).trans s12'
    have s712 := s8.trans s812
    have t12 : Same H G12 := s17.trans s712
    have macF := mac.sm s712
    obtain ⟨x0, x01, x02⟩ := mac.t0
    subst eB1
    have eco12 := s712 _ _ (s7 _ _ (s5 _ _ eco))
    have hA : MoM CM CK G12 ⟨x, dx, B.ma, B.dm, B.tl, B.t0, B.td, B.kn, sp, wo, he, co, qu, qe, ro⟩ (c.tr ++ [.over]) (askK kvs) 0 rg0 [] 0 := by
      refine ⟨e12, ⟨macF.ins, macF.tl, macF.t0, macF.td, macF.kn, macF.fine, macF.few⟩, s812 _ _ esp, s12' _ _ (s10 _ _ ewo), ⟨[], s12' _ _ (s10 _ _ ehe), Nat.le_refl _, fun n => rfl⟩, eco12, s712 _ _ (s7 _ _ equ), s712 _ _ (s7 _ _ eqe), ⟨qe, s12' _ _ ero, s712 _ _ (s7 _ _ eqe)⟩, ?_, Nat.zero_le _⟩
      exact ⟨ne_of_none (s9 _ _ esp) hro, ne_of_none esp hwo, (ne_of_none (s7 _ _ equ) hsp).symm, (ne_of_none mac.tl hsp).symm, (ne_of_none x01 hsp).symm, (ne_of_none ewo hro).symm, (ne_of_none equ9 hro).symm, (ne_of_none (s9 _ _ (s8 _ _ mac.tl)) hro).symm, (ne_of_none (s9 _ _ (s8 _ _ x01)) hro).symm, nkt, (ne_of_none (s8 _ _ (s7 _ _ (s5 _ _ eco))) hhe).symm⟩
    have er12 := s712 _ _ er7
    have hkn : H B.kn = none := by
      have := fresh B.kn (by simp)
      exact (s15.trans s6).free this
    have hspH : H sp = none := s17.free hsp
    have hheH : H he = none := (s17.trans s8).free hhe
    have hroH : H ro = none := (s17.trans (s8.trans s9)).free hro
    refine ⟨_, rfl, tg, 0, 1, rfl, er12, rb, for_range (fun j σ G => (∃ y4 y6 y8, σ = [some (.ref p), some (.ref tg), some (.ref D2), some (.ref co), y4, some (.ref qu), y6, some (.ref x), y8]) ∧ ((j = 0 ∧ G = G12) ∨ (j = 1 ∧ ∃ i e t row, Chg [B.kn, sp, he, ro] G12 G ∧ MoM CM CK G ⟨x, dx, B.ma, B.dm, B.tl, B.t0, B.td, B.kn, sp, wo, he, co, qu, qe, ro⟩ (c.tr ++ [.over]) (askK kvs) i e [] t ∧ Trc (askK kvs) (c.tr ++ [.over]) i e L e' ∧ (c.tr ++ [.over])[i]? = some row ∧ row.stop ∧ t ≤ 3 * i))) ⟨⟨_, _, _, rfl⟩, .inl ⟨rfl, rfl⟩⟩ (fun j σ G hj z => ?_) (fun σ G z => ?_)⟩
    · have hj : j < 1 := hj
      obtain ⟨⟨y4, y6, y8, rfl⟩, z⟩ := z
      rcases z with ⟨rfl, rfl⟩ | ⟨rfl, _⟩
      · refine ⟨_, rfl, x, dx, _, rfl, e12, rfl, _, rfl, ⟨x, dx, B.ma, B.dm, B.tl, B.t0, B.td, B.kn, sp, wo, he, co, qu, qe, ro⟩, _, _, 0, rg0, [], 0, hA, L, e', rfl, tr, Nat.le_refl _, fun G13 i2 e2 t2 row c13 h13 tr2 hrow st2 ht2 => ?_⟩
        exact ⟨⟨_, _, _, rfl⟩, .inr ⟨rfl, i2, e2, t2, row, c13, h13, tr2, hrow, st2, ht2⟩⟩
      · omega
    · obtain ⟨⟨y4, y6, y8, rfl⟩, z⟩ := z
      rcases z with ⟨z, _⟩ | ⟨_, i2, e2, t2, row, c13, h13, tr2, hrow, st2, ht2⟩
      · cases z
      refine ⟨_, rfl, q G ⟨x, dx, B.ma, B.dm, B.tl, B.t0, B.td, B.kn, sp, wo, he, co, qu, qe, ro⟩ i2 e2 t2 row (fun b o eb => c13.keep b o (fun z => ?_) (t12 _ _ eb)) hkn h13 tr2 hrow st2 ht2⟩
      simp only [List.mem_cons, List.not_mem_nil, or_false] at z
      rcases z with z | z | z | z
      · rw [z, hkn] at eb
        cases eb
      · rw [z, hspH] at eb
        cases eb
      · rw [z, hheH] at eb
        cases eb
      · rw [z, hroH] at eb
        cases eb
end
end OM

namespace OM
open PySem PySem.Spec PyProof.Rows L2
abbrev sIsOrd : Stmt := top 50
abbrev sChkThr : Stmt := top 57
theorem trc_stop {ask : Str → Str → Bool} {T : List QRow} {i : Nat} {e e' : Rg} {L : List Str} {row : QRow} (h : Trc ask T i e L e') (hr : T[i]? = some row) (st : row.stop) : (row = .over ∧ L = [] ∧ e = e') ∨ ∃ r L', row = .shw r ∧ L = e r :: L' ∧ Trc ask T (i + 1) e L' e' := by
  cases h with
  | over h =>
    obtain rfl := Option.some.inj (hr.symm.trans h)
    exact .inl ⟨rfl, rfl, rfl⟩
  | shw h k =>
    obtain rfl := Option.some.inj (hr.symm.trans h)
    exact .inr ⟨_, _, rfl, rfl, k⟩
  | set h _ _ =>
    obtain rfl := Option.some.inj (hr.symm.trans h)
    exact st.elim
  | copy h _ =>
    obtain rfl := Option.some.inj (hr.symm.trans h)
    exact st.elim
  | yes h _ _ =>
    obtain rfl := Option.some.inj (hr.symm.trans h)
    exact st.elim
  | no h _ _ =>
    obtain rfl := Option.some.inj (hr.symm.trans h)
    exact st.elim
  | skip h _ =>
    obtain rfl := Option.some.inj (hr.symm.trans h)
    exact st.elim
def OrdR (H : Hp) (o : Addr) (n : Nat) : Prop := H o = some (.tup (List.replicate n (.int 0)))
def spIsOrd : Sp := fun vs H Q _ => ∃ (o : Addr) (n : Nat), vs = [.ref o, .int 1] ∧ OrdR H o n ∧ n ≤ 200 ∧ ∀ H', Same H H' → Q (.bl true) H'
def spMomAft (C CM CK : Addr) : Sp := fun vs H Q _ => ∃ (p o : Addr) (n : Nat) (c : QL) (kvs : List (List Key × V)) (L : List Str) (e' : Rg), vs = [.ref p, .ref o] ∧ OrdR H o n ∧ n ≤ 200 ∧ n ≤ L.length ∧ PrM C H p c kvs ∧ Trc (askK kvs) (c.tr ++ [.over]) 0 rg0 L e' ∧
  ∀ H' A i e t row, Same H H' → H A.kn = none → MoM CM CK H' A (c.tr ++ [.over]) (askK kvs) i e (L.take n) t → Trc (askK kvs) (c.tr ++ [.over]) i e (L.drop n) e' → (c.tr ++ [.over])[i]? = some row → row.stop → t ≤ 3 * i → Q (.ref A.me) H'
def spChkThr (C : Addr) : Sp := fun vs H Q _ => ∃ (p : Addr) (c : QL) (kvs : List (List Key × V)), vs = [.ref p, .int 0] ∧ PrM C H p c kvs ∧ ∀ H', Same H H' → Q .non H'
section
variable {P : Program} {w : World} {K : PySem.W.Frag} {mg : Str → Option Value} {base : Heap} {f fL C CM CK : Addr} {fd dL : FuncData}
theorem scIO : FnScope ["value", "many", "thread"] ["value", "many"] (defScope sIsOrd) := ⟨rfl, rfl, rfl, by decide +kernel, rfl, by decide +kernel, by decide +kernel⟩
theorem ok_isord (F : Fun K "is_order" "is_order" sIsOrd f fd) (isi : mg "isinstance" = none) (tup : mg "tuple" = none) (ln : mg "len" = none) (al : mg "all" = none) (gM : ∃ t, mg "MAX_ORDER" = some (.int 200 t)) (cn : CallN P w K mg base "is_number" 2 ["value", "low", "high"] spNumber) : FnOk P w K mg base CX0 3 f fd ["value", "many"] spIsOrd := by
  obtain ⟨t3, g3⟩ := gM
  obtain ⟨q1, e1, g1, k1, b1, G1⟩ := cn
  refine F.ok scIO (fun vs H Q E h => ?_) (fun cdv A outer s H vs Q E hr h => ?_)
  · obtain ⟨o, n, rfl, _⟩ := h
    rfl
  · obtain ⟨o, n, rfl, eo, hn, q⟩ := h
    refine ⟨_, pss_one (ps_ret (pe_and (pe_callB call_isi (by rfl) isi (by decide +kernel) (pa_cons (pv 0) (pa_cons (pe_bltn (v := .ty "tuple") (u := .type "tuple") (by rfl) tup (by decide +kernel) rfl) pa_nil)))
      (pe_and (pe_cmpR op_le (pe_callB call_len_seq (by rfl) ln PySem.boot_len (pa_cons (pv 0) pa_nil)) (pe_glob (v := .int 200) (by rfl) g3 ⟨t3, rfl⟩) (nomark _))
      (pe_one (pe_callB (cr_all rfl) (by rfl) al (by decide +kernel) (pa_cons (pe_lc (own := [("thread", 2)]) rfl scIO.nd (pi_tup (pv 0)) (blkOk_by (N := ["value", "many", "thread"]) (sc := defScope sIsOrd) (by decide +kernel)) (fun _ _ _ _ _ => pg_name (i := 2) scIO.nd rfl (Or.inl rfl)) (fun _ _ _ _ _ => pts_nil)
        (fun _ _ _ _ _ => pe_call G1 hr (by rfl) g1 k1 b1 .nil pass0 (pa_cons (pv 2) (pa_cons pe_int (pa_cons (pe_op op_sub (pv 1) pe_int) pa_nil))))) pa_nil)))))), ?_⟩
    unfold OrdR at eo
    refine isi_te (x := .ref o) rfl (.base (.tup eo)) (r := true) (show kitB "tuple" "tuple" = some true by decide +kernel) ⟨_, rfl, iteT ?_⟩
    refine ⟨_, rfl, o, _, rfl, .inr (SqT.of eo), _, _, rfl, rfl, _, rfl, ?_⟩
    rw [List.length_replicate, decide_eq_true (show ((n : Nat) : Int) ≤ 200 by omega)]
    refine iteT ⟨_, rfl, o, rfl, ⟨_, SqT.of eo⟩, fun D hD => lc_tup (xs := List.replicate n (V.int 0)) (PvM H D (List.replicate n true)) (PvM.zero hD) (fun i G _ p => SqT.of (p.1 _ _ eo)) (fun i x G hx p => ?_) (fun G p => ?_)⟩
    · obtain ⟨hi, rfl⟩ := List.getElem?_eq_some_iff.mp hx
      rw [List.length_replicate] at hi
      refine ⟨rfl, _, rfl, _, rfl, _, _, rfl, rfl, ?_⟩
      rw [List.getElem_replicate]
      refine ⟨0, 0, _, rfl, by decide, by decide, fun G2 s2 => ?_⟩
      exact PvM.step hD (by rw [List.length_replicate]; omega) (by rw [List.getElem?_replicate, if_pos hi]) p s2
    · obtain ⟨s5, e5⟩ := p.all (by rw [List.length_replicate, List.length_replicate])
      refine ⟨D, List.replicate n true, rfl, SqL.of e5, ?_⟩
      have ev : (List.replicate n true).all id = true := List.all_eq_true.mpr fun b hb => by
        rw [List.eq_of_mem_replicate hb]
        rfl
      rw [ev]
      exact q _ s5
theorem scCT : FnScope ["program", "value"] ["program", "value"] (defScope sChkThr) := ⟨rfl, rfl, rfl, by decide +kernel, rfl, by decide +kernel, by decide +kernel⟩
theorem ok_chkthr {oh : PySem.W.findIn K (.ref C) "__len__" = some (some (.ref fL))} (F : Fun K "check_thread" "check_thread" sChkThr f fd) (ln : mg "len" = none) (of : PySem.W.isFn K (.ref fL) = true) (bL : Binds K dL ["self"] []) (GL : FnOk P w K mg base CX0 1 fL dL ["self"] (spPLen C)) (cn : CallN P w K mg base "is_number" 2 ["value", "low", "high"] spNumber) : FnOk P w K mg base CX0 3 f fd ["program", "value"] (spChkThr C) := by
  obtain ⟨q1, e1, g1, k1, b1, G1⟩ := cn
  refine F.ok scCT (fun vs H Q E h => ?_) (fun cdv A outer s H vs Q E hr h => ?_)
  · obtain ⟨p, c, kvs, rfl, _⟩ := h
    rfl
  · obtain ⟨p, c, kvs, rfl, hp, q⟩ := h
    refine ⟨_, pss_one (ps_if (pt_not (pt_val (pe_call G1 hr (by rfl) g1 k1 b1 .nil pass0 (pa_cons (pv 1) (pa_cons pe_int (pa_cons (pe_op op_sub (pe_callB (len_own (p := "self") ⟨oh, of, GL, bL⟩ (hr.mono (by decide))) (by rfl) ln PySem.boot_len (pa_cons (pv 0) pa_nil)) pe_int) pa_nil)))))) pss_never pss_nil), ?_⟩
    obtain ⟨⟨dx, th, ce, an, cv, z1, _⟩, _⟩ := id hp
    refine ⟨_, rfl, _, rfl, p, dx, _, rfl, z1, p, c, kvs, rfl, hp, 1, rfl, by decide, _, _, rfl, rfl, ?_⟩
    exact ⟨0, 0, _, rfl, by decide, by decide, fun G s2 => ⟨_, rfl, iteF (q _ s2)⟩⟩
theorem scMAf : FnScope ["program", "order", "moment", "thread"] ["program", "order"] (defScope sMomAft) := ⟨rfl, rfl, rfl, by decide +kernel, rfl, by decide +kernel, by decide +kernel⟩
theorem ok_momaft (F : Fun K "moment_after" "moment_after" sMomAft f fd) (R : MoC K CM) (cf : CallN P w K mg base "first_moment" 9 ["program"] (spFirst C CM CK)) (mc : MethN P w K mg base CM "can_step" 2 ["self", "thread"] (spCanStep CM CK)) (ms : MethN P w K mg base CM "stepped" 4 ["self", "thread"] (spStepped CM CK)) : FnOk P w K mg base CX0 10 f fd ["program", "order"] (spMomAft C CM CK) := by
  obtain ⟨q1, e1, g1, k1, b1, G1⟩ := cf
  obtain ⟨gC, dC, aC, bC, GC⟩ := mc
  obtain ⟨gS, dS, aS, bS, GS⟩ := ms
  refine F.ok scMAf (fun vs H Q E h => ?_) (fun cdv A0 outer s H vs Q E hr h => ?_)
  · obtain ⟨p, o, n, c, kvs, L, e', rfl, _⟩ := h
    rfl
  · obtain ⟨p, o, n, c, kvs, L, e', rfl, eo, hn, hnL, hp, tr, q⟩ := h
    refine ⟨_, pss_cons (ps_set (i := 2) scMAf.nd rfl (Or.inl rfl) (pe_call G1 hr (by rfl) g1 k1 b1 .nil pass0 (pa_cons (pv 0) pa_nil)))
      (pss_cons (ps_for PassesOwn.never rfl (pi_tup (pv 1)) (pg_name (i := 3) scMAf.nd rfl (Or.inl rfl))
        (pss_cons (ps_if (pt_not (pt_val (pe_meth (pv 2) R.cl aC GC (hr.mono (by decide)) bC .nil pass0 (pa_cons (pv 3) pa_nil)))) pss_never pss_nil)
        (pss_one (ps_set (i := 2) scMAf.nd rfl (Or.inl rfl) (pe_meth (pv 2) R.cl aS GS (hr.mono (by decide)) bS .nil pass0 (pa_cons (pv 3) pa_nil))))))
      (pss_one (ps_ret (pv 2)))), ?_⟩
    unfold OrdR at eo
    refine ⟨_, rfl, p, c, kvs, L, e', rfl, hp, tr, fun H1 A1 i1 e1 t1 row1 s1 kn1 m1 tr1 hrow1 st1 ht1 => ?_⟩
    refine ⟨_, rfl, o, rfl, ⟨_, SqT.of (s1 _ _ eo)⟩, for_tup (xs := List.replicate n (V.int 0)) (fun j σ G => ∃ A i e t row x3, σ = [some (.ref p), some (.ref o), some (.ref A.me), x3] ∧ Same H G ∧ H A.kn = none ∧ MoM CM CK G A (c.tr ++ [.over]) (askK kvs) i e (L.take j) t ∧ Trc (askK kvs) (c.tr ++ [.over]) i e (L.drop j) e' ∧ (c.tr ++ [.over])[i]? = some row ∧ row.stop ∧ t ≤ 3 * i)
      ⟨A1, i1, e1, t1, row1, _, rfl, s1, kn1, m1, tr1, hrow1, st1, ht1⟩ (fun j σ G _ h => SqT.of (by obtain ⟨_, _, _, _, _, _, _, sG, _⟩ := h; exact sG _ _ eo)) (fun j x σ G hx h => ?_) (fun σ G h => ?_)⟩
    · obtain ⟨A, i, e, t, row, x3, rfl, sG, kn, m, tr2, hrow, st, ht⟩ := h
      obtain ⟨hj, rfl⟩ := List.getElem?_eq_some_iff.mp hx
      rw [List.length_replicate] at hj
      rw [List.getElem_replicate]
      rcases trc_stop tr2 hrow st with ⟨_, z, _⟩ | ⟨r, L', rfl, eL, tr3⟩
      · have := congrArg List.length z
        rw [List.length_drop] at this
        simp at this
        omega
      have ms := m.ins
      have e1 : L.drop (j + 1) = L' := by rw [← List.drop_drop, eL]; rfl
      have e2 : L.take (j + 1) = L.take j ++ [e r] := by
        have h0 : L[j]? = some (e r) := by
          have := congrArg List.head? eL
          rw [List.head?_drop] at this
          exact this
        rw [List.take_add_one, h0]
        rfl
      refine ⟨_, rfl, A.me, A.dx, _, rfl, m.ins, rfl, _, rfl, A, _, _, i, e, _, t, m, _, rfl, hrow, st, ⟨_, rfl, iteF ?_⟩⟩
      refine ⟨_, rfl, A.me, A.dx, _, rfl, m.ins, rfl, _, rfl, A, _, _, i, e, _, t, m, r, L', e', rfl, hrow, tr3, ht, by rw [List.length_take]; omega, fun G2 A2 i2 e2' t2 row2 ek cg m2 tr4 hrow2 st2 ht2 => ?_⟩
      refine ⟨A2, i2, e2', t2, row2, _, rfl, fun b o eb => cg.keep b o (fun z => ?_) (sG _ _ eb), by rw [ek]; exact kn, by rw [e2]; exact m2, by rw [e1]; exact tr4, hrow2, st2, ht2⟩
      rw [List.mem_singleton.mp z, kn] at eb
      cases eb
    · obtain ⟨A, i, e, t, row, x3, rfl, sG, kn, m, tr2, hrow, st, ht⟩ := h
      rw [List.length_replicate] at m tr2
      exact ⟨_, rfl, q G A i e t row sG kn m tr2 hrow st ht⟩
end
end OM

namespace OM
open PySem PySem.Spec PyProof.Rows L2
abbrev sRuIn : Stmt := inStK 52 0
abbrev sIsEnd : Stmt := inStK 52 8
abbrev sHeld : Stmt := inStK 52 10
abbrev sAfter : Stmt := inStK 52 11
abbrev sRuEq : Stmt := inStK 52 13
abbrev sPCall : Stmt := inStK 51 6
def ruFs (p o m s c l n r g : V) : List (Str × V) := [("_program", p), ("_order", o), ("_moment", m), ("_shown", s), ("_cells", c), ("_lines", l), ("_next_steps", n), ("_ready", r), ("_clashing", g)]
/-- a run by the steps of its one thread: n of them -/
structure RunM (C CR CM CK : Addr) (H : Hp) (u p : Addr) (c : QL) (kvs : List (List Key × V)) (L : List Str) (e' : Rg) (A : MA) (n i : Nat) (e : Rg) (t : Nat) (row : QRow) : Prop where
  ex : ∃ (dx o cc li cl s1 rt ns rd : Addr) (v : V), H u = some (.ins CR dx (ruFs (.ref p) (.ref o) (.ref A.me) (.ref s1) (.ref cc) (.ref li) (.ref ns) (.ref rd) (.ref cl))) ∧ OrdR H o n ∧ H s1 = some (.tup [.ref rt]) ∧ H rt = some (.tup ((L.take n).map V.str)) ∧ H ns = some (.tup [v]) ∧ StepV H v row ∧ H rd = some (.tup (if row.isS = true then [.int 0] else []))
  pr : PrM C H p c kvs
  mo : MoM CM CK H A (c.tr ++ [.over]) (askK kvs) i e (L.take n) t
  tr : Trc (askK kvs) (c.tr ++ [.over]) i e (L.drop n) e'
  hrow : (c.tr ++ [.over])[i]? = some row
  st : row.stop
  t3 : t ≤ 3 * i
  le : n ≤ L.length ∧ L.length ≤ 200
theorem RunM.mv {C CR CM CK : Addr} {H H' : Hp} {u p : Addr} {c : QL} {kvs : List (List Key × V)} {L : List Str} {e' : Rg} {A : MA} {n i : Nat} {e : Rg} {t : Nat} {row : QRow} (h : RunM C CR CM CK H u p c kvs L e' A n i e t row) (s : Same H H') : RunM C CR CM CK H' u p c kvs L e' A n i e t row := by
  obtain ⟨⟨dx, o, cc, li, cl, s1, rt, ns, rd, v, e1, e2, e3, e4, e5, e6, e7⟩, pr, mo, tr, r, st, t3, le⟩ := h
  exact ⟨⟨dx, o, cc, li, cl, s1, rt, ns, rd, v, s _ _ e1, s _ _ e2, s _ _ e3, s _ _ e4, s _ _ e5, e6.mv (TupS.same s), s _ _ e7⟩, pr.mv s, mo.mv s, tr, r, st, t3, le⟩
structure RuC (K : PySem.W.Frag) (C : Addr) : Prop where
  I : ClsI K C
  na : ∀ f ∈ ([("_program" : Str), "_order", "_moment", "_shown", "_cells", "_lines", "_next_steps", "_ready", "_clashing"] : List Str), NoAttr K C f
def spRuIn (C CR CM CK : Addr) : Sp := fun vs H Q _ => ∃ (me dx p o : Addr) (c : QL) (kvs : List (List Key × V)) (L : List Str) (e' : Rg) (A : MA) (n i : Nat) (e : Rg) (t : Nat) (row : QRow), vs = [.ref me, .ref p, .ref o, .ref A.me] ∧ H me = some (.ins CR dx []) ∧ OrdR H o n ∧ PrM C H p c kvs ∧
  MoM CM CK H A (c.tr ++ [.over]) (askK kvs) i e (L.take n) t ∧ Trc (askK kvs) (c.tr ++ [.over]) i e (L.drop n) e' ∧ (c.tr ++ [.over])[i]? = some row ∧ row.stop ∧ t ≤ 3 * i ∧ n ≤ L.length ∧ L.length ≤ 200 ∧ ∀ H', But me H H' → RunM C CR CM CK H' me p c kvs L e' A n i e t row → Q .non H'
theorem MoM.but {CM CK CR : Addr} {H G : Hp} {A : MA} {T : List QRow} {ask : Str → Str → Bool} {i : Nat} {e : Rg} {sh : List Str} {t : Nat} {me dx : Addr} (h : MoM CM CK H A T ask i e sh t) (em : H me = some (.ins CR dx [])) (b : But me H G) : MoM CM CK G A T ask i e sh t := by
  have n : ∀ {x : Addr} {o : HO}, H x = some o → o ≠ .ins CR dx [] → G x = H x := fun e q => by
    rw [e]
    exact b _ _ (fun z => by rw [z, em] at e; exact q (Option.some.inj e).symm) e
  have ts : TupS H G := fun x xs e => b x _ (fun z => by rw [z, em] at e; cases e) e
  obtain ⟨rt, r1, r2⟩ := h.ro
  obtain ⟨ks, k1, _⟩ := h.mac.kn
  obtain ⟨kw, w1, _⟩ := h.he
  obtain ⟨xs, x1, _⟩ := h.mac.t0
  obtain ⟨ys, y1, _⟩ := h.mac.td
  refine ⟨by rw [n h.ins (fun z => by injection z with _ _ z; cases z)]; exact h.ins, h.mac.mv ts (n h.mac.ins (fun z => by injection z with _ _ z; cases z)) (n h.mac.tl (fun z => nomatch z)) (n x1 (fun z => nomatch z)) (n y1 (fun z => nomatch z)) (h.mac.kn.mv (n k1 (fun z => nomatch z)) (Nat.le_refl _)) h.mac.few.2, by rw [n h.sp (fun z => nomatch z)]; exact h.sp, by rw [n h.wo (fun z => nomatch z)]; exact h.wo, h.he.mv (n w1 (fun z => nomatch z)) (Nat.le_refl _), by rw [n h.co (fun z => nomatch z)]; exact h.co, by rw [n h.qu (fun z => nomatch z)]; exact h.qu, ts _ _ h.qe, ⟨rt, by rw [n r1 (fun z => nomatch z)]; exact r1, ts _ _ r2⟩, h.ne, h.few⟩
section
variable {P : Program} {w : World} {K : PySem.W.Frag} {mg : Str → Option Value} {base : Heap} {f fL C CR CM CK : Addr} {fd dL : FuncData}
abbrev nRuIn : List Str := ["self", "program", "order", "moment", "thread"]
theorem scRuIn : FnScope nRuIn ["self", "program", "order", "moment"] (defScope sRuIn) := ⟨rfl, rfl, rfl, by decide +kernel, rfl, by decide +kernel, by decide +kernel⟩
theorem ok_ruin {oh : PySem.W.findIn K (.ref C) "__len__" = some (some (.ref fL))} (F : Fun K "__init__" "Run.__init__" sRuIn f fd) (RR : RuC K CR) (R : MoC K CM) (tup : mg "tuple" = none) (rng : mg "range" = none) (ln : mg "len" = none) (of : PySem.W.isFn K (.ref fL) = true) (bL : Binds K dL ["self"] []) (GL : FnOk P w K mg base CX0 1 fL dL ["self"] (spPLen C))
    (cs : CallN P w K mg base "_ascending" 1 ["told"] spAsc) (mp : MethN P w K mg base CM "step_of" 2 ["self", "thread"] (spStepOf CM CK)) (mm : MethN P w K mg base CM "movable" 3 ["self"] (spMovable CM CK)) (mc : MethN P w K mg base CM "clashes" 3 ["self"] (spClashes CM CK)) : FnOk P w K mg base CX0 4 f fd ["self", "program", "order", "moment"] (spRuIn C CR CM CK) := by
  obtain ⟨q3, e3, g3, k3, b3, G3⟩ := cs
  obtain ⟨gP, dP, aP, bP, GP⟩ := mp
  obtain ⟨gM, dM, aM, bM, GM⟩ := mm
  obtain ⟨gC, dC, aC, bC, GC⟩ := mc
  refine F.ok scRuIn (fun vs H Q E h => ?_) (fun cdv A0 outer s H vs Q E hr h => ?_)
  · obtain ⟨me, dx, p, o, c, kvs, L, e', A, n, i, e, t, row, rfl, _⟩ := h
    rfl
  · obtain ⟨me, dx, p, o, c, kvs, L, e', A, n, i, e, t, row, rfl, em, eo, hp, hm, tr, hrow, st, t3, le1, le2, q⟩ := h
    refine ⟨_, pss_cons (ps_fld (pv 0) (pv 1) rfl) (pss_cons (ps_fld (pv 0) (pv 2) rfl) (pss_cons (ps_fld (pv 0) (pv 3) rfl)
      (pss_cons (ps_fld (pv 0) (pe_callTy call_tuple_of (by rfl) tup (by decide +kernel) (pa_cons (pe_fld (pv 3) rfl) pa_nil)) rfl)
      (pss_cons (ps_fld (pv 0) (pe_call G3 (hr.mono (by decide)) (by rfl) g3 k3 b3 .nil pass0 (pa_cons (pe_fld (pv 3) rfl) pa_nil)) rfl)
      (pss_cons (ps_fld (pv 0) (pe_callTy call_tuple_of (by rfl) tup (by decide +kernel) (pa_cons (pe_fld (pv 3) rfl) pa_nil)) rfl)
      (pss_cons (ps_fld (pv 0) (pe_callTy call_tuple_of (by rfl) tup (by decide +kernel) (pa_cons (pe_lc (own := [("thread", 4)]) rfl scRuIn.nd (pi_range1 (by rfl) rng (pa_cons (pe_callB (len_own (p := "self") ⟨oh, of, GL, bL⟩ (hr.mono (by decide))) (by rfl) ln PySem.boot_len (pa_cons (pv 1) pa_nil)) pa_nil)) (blkOk_by (N := nRuIn) (sc := defScope sRuIn) (by decide +kernel))
          (fun _ _ _ _ _ => pg_name (i := 4) scRuIn.nd rfl (Or.inl rfl)) (fun _ _ _ _ _ => pts_nil) (fun _ _ _ _ _ => pe_meth (pv 3) R.cl aP GP (hr.mono (by decide)) bP .nil pass0 (pa_cons (pv 4) pa_nil))) pa_nil)) rfl)
      (pss_cons (ps_fld (pv 0) (pe_meth0 (pv 3) R.cl aM GM hr bM .nil pass0) rfl)
      (pss_one (ps_fld (pv 0) (pe_meth0 (pv 3) R.cl aC GC hr bC .nil pass0) rfl))))))))), ?_⟩
    have na : ∀ {f : Str}, f ∈ ([("_program" : Str), "_order", "_moment", "_shown", "_cells", "_lines", "_next_steps", "_ready", "_clashing"] : List Str) → NoAttr K CR f := fun h => RR.na _ h
    unfold OrdR at eo
    have i0 : InitS H H me CR dx [] [] := ⟨em, fun _ _ _ e => e, fun p hp => (by cases hp), List.nodup_nil⟩
    refine ⟨_, rfl, _, rfl, me, CR, dx, [], rfl, i0.ins, RR.I.cl, na (by simp), (by show 0 < 1000; decide), ?_⟩
    have i1 := i0.old (f := "_program") (v := .ref p)
    generalize upd H me _ = K1 at i1 ⊢
    refine ⟨_, rfl, _, rfl, me, CR, dx, _, rfl, i1.ins, RR.I.cl, na (by simp), (by show 1 < 1000; decide), ?_⟩
    have i2 := i1.old (f := "_order") (v := .ref o)
    generalize upd K1 me _ = K2 at i2 ⊢
    refine ⟨_, rfl, _, rfl, me, CR, dx, _, rfl, i2.ins, RR.I.cl, na (by simp), (by show 2 < 1000; decide), ?_⟩
    have i3 := i2.old (f := "_moment") (v := .ref A.me)
    generalize upd K2 me _ = K3 at i3 ⊢
    have m3 := hm.but em i3.but
    obtain ⟨rt, r1, r2⟩ := m3.ro
    have ror : A.ro ≠ me := fun z => by rw [z, i3.ins] at r1; cases r1
    refine ⟨_, rfl, A.me, CM, A.dx, _, .ref A.ro, rfl, m3.ins, R.cl, R.nr, rfl, A.ro, _, rfl, .inl ⟨SqL.of r1, fun s1 hs1 => ?_⟩⟩
    obtain ⟨j3, i4⟩ := i3.more (f := "_shown") (v := .ref s1) (o := .tup [.ref rt]) hs1
    refine ⟨_, rfl, me, CR, dx, _, rfl, j3, RR.I.cl, na (by simp), (by show 3 < 1000; decide), ?_⟩
    have t4 : TupS K3 (upd (upd K3 s1 (.tup [.ref rt])) me (.ins CR dx (putF "_shown" (.ref s1) (putF "_moment" (.ref A.me) (putF "_order" (.ref o) (putF "_program" (.ref p) [])))))) := (TupS.same (same_upd hs1)).trans (TupS.put j3 fun _ z => nomatch z)
    have es1 := (i4.new (s1, .tup [.ref rt]) (by simp)).1
    have r2 := t4 _ _ r2
    generalize upd (upd K3 s1 _) me _ = K4 at i4 es1 r2 ⊢
    have m4 := hm.but em i4.but
    refine ⟨_, rfl, A.me, CM, A.dx, _, .ref A.co, rfl, m4.ins, R.cl, R.nc, rfl, .inr ⟨_, rfl, .inr ⟨A.co, rfl, m4.co⟩, fun K5 cc s5 hcc ecc => ?_⟩⟩
    have i5 := i4.ext s5
    refine ⟨_, rfl, me, CR, dx, _, rfl, i5.ins, RR.I.cl, na (by simp), (by show 4 < 1000; decide), ?_⟩
    have i6 := i5.old (f := "_cells") (v := .ref cc)
    have t6 := (TupS.same s5).trans (TupS.put (a := me) (o := .ins CR dx (putF "_cells" (.ref cc) (putF "_shown" (.ref s1) (putF "_moment" (.ref A.me) (putF "_order" (.ref o) (putF "_program" (.ref p) [])))))) i5.ins fun _ z => nomatch z)
    have es1 := t6 _ _ es1
    have r2 := t6 _ _ r2
    clear t6 t4
    generalize upd K5 me _ = K6 at i6 es1 r2 ⊢
    have m6 := hm.but em i6.but
    refine ⟨_, rfl, A.me, CM, A.dx, _, .ref A.qu, rfl, m6.ins, R.cl, R.nq, rfl, A.qu, _, rfl, .inl ⟨SqL.of m6.qu, fun li hli => ?_⟩⟩
    obtain ⟨j6, i7⟩ := i6.more (f := "_lines") (v := .ref li) (o := .tup [.ref A.qe]) hli
    refine ⟨_, rfl, me, CR, dx, _, rfl, j6, RR.I.cl, na (by simp), (by show 5 < 1000; decide), ?_⟩
    have t7 := (TupS.same (same_upd (o := .tup [.ref A.qe]) hli)).trans (TupS.put (a := me) (o := .ins CR dx (putF "_lines" (.ref li) (putF "_cells" (.ref cc) (putF "_shown" (.ref s1) (putF "_moment" (.ref A.me) (putF "_order" (.ref o) (putF "_program" (.ref p) []))))))) j6 fun _ z => nomatch z)
    have es1 := t7 _ _ es1
    have r2 := t7 _ _ r2
    clear t7
    generalize upd (upd K6 li _) me _ = K7 at i7 es1 r2 ⊢
    have m7 := hm.but em i7.but
    have hp7 := hp.but em i7.but
    obtain ⟨⟨dxp, th, ce, an, cv, z1, _⟩, _⟩ := id hp7
    refine ⟨_, rfl, p, dxp, _, rfl, z1, p, c, kvs, rfl, hp7, 1, rfl, by decide, 1, rfl, by decide, by decide, fun D hD => lc_range (fun j G => Same K7 G ∧ ((j = 0 ∧ G D = some (.lst [])) ∨ (j = 1 ∧ ∃ v, G D = some (.lst [v]) ∧ StepV G v row))) ⟨same_upd hD, .inl ⟨rfl, upd_same⟩⟩ (fun j G hj z => ?_) (fun G z => ?_)⟩
    · have hj : j < 1 := hj
      obtain ⟨sG, z⟩ := z
      rcases z with ⟨rfl, eD⟩ | ⟨rfl, _⟩
      · have mG := m7.mv sG
        refine ⟨rfl, _, rfl, A.me, A.dx, _, rfl, mG.ins, rfl, _, rfl, A, _, _, i, e, _, t, mG, row, rfl, hrow, st, fun G2 v s2 hv => ⟨[], s2 _ _ eD, by decide, same_put hD (sG.trans s2), .inr ⟨rfl, v, upd_same, hv.mv (TupS.put (s2 _ _ eD) fun _ z => nomatch z)⟩⟩⟩
      · omega
    obtain ⟨s8, z⟩ := z
    rcases z with ⟨z, _⟩ | ⟨_, v, eD, hv⟩
    · cases z
    have i8 := i7.ext s8
    have es1 := (TupS.same s8) _ _ es1
    have r2 := (TupS.same s8) _ _ r2
    refine ⟨D, _, rfl, .inl ⟨SqL.of eD, fun ns hns => ?_⟩⟩
    obtain ⟨j8, i9⟩ := i8.more (f := "_next_steps") (v := .ref ns) (o := .tup [v]) hns
    refine ⟨_, rfl, me, CR, dx, _, rfl, j8, RR.I.cl, na (by simp), (by show 6 < 1000; decide), ?_⟩
    have t9 := (TupS.same (same_upd (o := .tup [v]) hns)).trans (TupS.put (a := me) (o := .ins CR dx (putF "_next_steps" (.ref ns) (putF "_lines" (.ref li) (putF "_cells" (.ref cc) (putF "_shown" (.ref s1) (putF "_moment" (.ref A.me) (putF "_order" (.ref o) (putF "_program" (.ref p) [])))))))) j8 fun _ z => nomatch z)
    have es1 := t9 _ _ es1
    have r2 := t9 _ _ r2
    have hv := hv.mv t9
    have ens := (i9.new (ns, .tup [v]) (by simp)).1
    clear t9
    generalize upd (upd G ns _) me _ = K9 at i9 es1 r2 hv ens ⊢
    have m9 := hm.but em i9.but
    refine ⟨_, rfl, A.me, A.dx, _, rfl, m9.ins, rfl, A, _, _, i, e, _, t, m9, row, rfl, hrow, st, fun K10 rd s10 erd => ?_⟩
    have i10 := i9.ext s10
    refine ⟨_, rfl, me, CR, dx, _, rfl, i10.ins, RR.I.cl, na (by simp), (by show 7 < 1000; decide), ?_⟩
    have i11 := i10.old (f := "_ready") (v := .ref rd)
    have t10 := TupS.put (a := me) (o := .ins CR dx (putF "_ready" (.ref rd) (putF "_next_steps" (.ref ns) (putF "_lines" (.ref li) (putF "_cells" (.ref cc) (putF "_shown" (.ref s1) (putF "_moment" (.ref A.me) (putF "_order" (.ref o) (putF "_program" (.ref p) []))))))))) i10.ins fun _ z => nomatch z
    have t11 := (TupS.same s10).trans t10
    have es1 := t11 _ _ es1
    have r2 := t11 _ _ r2
    have hv := hv.mv t11
    have ens := t11 _ _ ens
    have erd := t10 _ _ erd
    clear t10 t11
    generalize upd K10 me _ = K11 at i11 es1 r2 hv ens erd ⊢
    have m11 := hm.but em i11.but
    refine ⟨_, rfl, A.me, A.dx, _, rfl, m11.ins, rfl, A, _, _, i, e, _, t, m11, row, rfl, hrow, st, fun K12 cl s12 ecl => ?_⟩
    have i12 := i11.ext s12
    refine ⟨_, rfl, me, CR, dx, _, rfl, i12.ins, RR.I.cl, na (by simp), (by show 8 < 1000; decide), ?_⟩
    have i13 := i12.old (f := "_clashing") (v := .ref cl)
    have t12 := (TupS.same s12).trans (TupS.put (a := me) (o := .ins CR dx (putF "_clashing" (.ref cl) (putF "_ready" (.ref rd) (putF "_next_steps" (.ref ns) (putF "_lines" (.ref li) (putF "_cells" (.ref cc) (putF "_shown" (.ref s1) (putF "_moment" (.ref A.me) (putF "_order" (.ref o) (putF "_program" (.ref p) [])))))))))) i12.ins fun _ z => nomatch z)
    have tH : TupS H _ := fun x xs e => i13.but x _ (fun z => by rw [z, em] at e; cases e) e
    exact q _ i13.but ⟨⟨dx, o, cc, li, cl, s1, rt, ns, rd, v, i13.ins, tH _ _ eo, t12 _ _ es1, t12 _ _ r2, t12 _ _ ens, hv.mv t12, t12 _ _ erd⟩, hp.but em i13.but, hm.but em i13.but, tr, hrow, st, t3, le1, le2⟩
end
end OM

namespace OM
open PySem PySem.Spec PyProof.Rows L2
theorem RuC.np {K : PySem.W.Frag} {C : Addr} (R : RuC K C) : NoAttr K C "_program" := R.na _ (by simp)
theorem RuC.no {K : PySem.W.Frag} {C : Addr} (R : RuC K C) : NoAttr K C "_order" := R.na _ (by simp)
theorem RuC.nm {K : PySem.W.Frag} {C : Addr} (R : RuC K C) : NoAttr K C "_moment" := R.na _ (by simp)
theorem RuC.nr {K : PySem.W.Frag} {C : Addr} (R : RuC K C) : NoAttr K C "_ready" := R.na _ (by simp)
def spIsEnd (C CR CM CK : Addr) : Sp := fun vs H Q _ => ∃ (u p : Addr) (c : QL) (kvs : List (List Key × V)) (L : List Str) (e' : Rg) (A : MA) (n i : Nat) (e : Rg) (t : Nat) (row : QRow), vs = [.ref u] ∧ RunM C CR CM CK H u p c kvs L e' A n i e t row ∧ ∀ H', Same H H' → Q (.bl (!row.isS)) H'
def spHeld (C CR CM CK : Addr) : Sp := fun vs H Q _ => ∃ (u p : Addr) (c : QL) (kvs : List (List Key × V)) (L : List Str) (e' : Rg) (A : MA) (n i : Nat) (e : Rg) (t : Nat) (row : QRow) (x : Str), vs = [.ref u, .int 0, .str x] ∧ Nm x ∧ RunM C CR CM CK H u p c kvs L e' A n i e t row ∧ ∀ H', Same H H' → Q (.str (e x)) H'
def spAfter (C CR CM CK : Addr) : Sp := fun vs H Q _ => ∃ (H0 : Hp) (u p : Addr) (c : QL) (kvs : List (List Key × V)) (L : List Str) (e' : Rg) (A : MA) (n i : Nat) (e : Rg) (t : Nat) (r : Str), vs = [.ref u, .int 0] ∧ Same H0 H ∧ H0 A.kn = none ∧ PrM C H0 p c kvs ∧ RunM C CR CM CK H u p c kvs L e' A n i e t (.shw r) ∧
  ∀ H' u' A' i2 e2 t2 row2, Same H0 H' → H0 A'.kn = none → RunM C CR CM CK H' u' p c kvs L e' A' (n + 1) i2 e2 t2 row2 → Q (.ref u') H'
def spPCall (C CR CM CK : Addr) : Sp := fun vs H Q _ => ∃ (p o : Addr) (n : Nat) (c : QL) (kvs : List (List Key × V)) (L : List Str) (e' : Rg), vs = [.ref p, .ref o] ∧ OrdR H o n ∧ n ≤ L.length ∧ L.length ≤ 200 ∧ PrM C H p c kvs ∧ Trc (askK kvs) (c.tr ++ [.over]) 0 rg0 L e' ∧
  ∀ H' u A i e t row, Same H H' → H A.kn = none → RunM C CR CM CK H' u p c kvs L e' A n i e t row → Q (.ref u) H'
def spRuEq (C CR CM CK : Addr) : Sp := fun vs H Q _ => ∃ (u p : Addr) (c : QL) (kvs : List (List Key × V)) (L : List Str) (e' : Rg) (A : MA) (n i : Nat) (e : Rg) (t : Nat) (row : QRow) (u2 : Addr) (A2 : MA) (i2 : Nat) (e2 : Rg) (t2 : Nat) (row2 : QRow), vs = [.ref u, .ref u2] ∧ RunM C CR CM CK H u p c kvs L e' A n i e t row ∧ RunM C CR CM CK H u2 p c kvs L e' A2 n i2 e2 t2 row2 ∧ ∀ H', Same H H' → Q (.bl true) H'
theorem ord_data (n : Nat) (h : n ≤ 200) : SeqAt.shaped (.tuple (List.replicate n (.int 0))) = true ∧ PyData.eqv (.tuple (List.replicate n (.int 0))) (.tuple (List.replicate n (.int 0))) = true := by
  have l : ∀ n, PyData.canLayAll0 (List.replicate n (.int 0)) = true := fun n => by
    induction n with
    | zero => rfl
    | succ n ih =>
      rw [List.replicate_succ]
      show (true && PyData.canLayAll0 (List.replicate n (.int 0))) = true
      rw [ih]
      rfl
  have d : ∀ n, PyData.depthAll (List.replicate n (.int 0)) = 0 := fun n => by
    induction n with
    | zero => rfl
    | succ n ih =>
      rw [List.replicate_succ]
      show max 0 (PyData.depthAll (List.replicate n (.int 0))) = 0
      rw [ih]
      rfl
  refine ⟨?_, PySem.SeqAt.eqv_refl _ (l n)⟩
  show (PyData.canLayAll0 (List.replicate n (.int 0)) && decide (PyData.depthAll (List.replicate n (.int 0)) + 1 ≤ 64)) = true
  rw [l, d]
  rfl
theorem ord_dp {K : PySem.W.Frag} {H : Hp} : ∀ n : Nat, DpAll K H (List.replicate n (.int 0)) (List.replicate n (.int 0))
  | 0 => .nil
  | n + 1 => .cons (.int 0) (ord_dp n)
section
variable {P : Program} {w : World} {K : PySem.W.Frag} {mg : Str → Option Value} {base : Heap} {f fE C CR CM CK : Addr} {fd dE : FuncData}
theorem scIE : FnScope ["self"] ["self"] (defScope sIsEnd) := ⟨rfl, rfl, rfl, by decide +kernel, rfl, by decide +kernel, by decide +kernel⟩
theorem ok_isend (F : Fun K "is_end" "Run.is_end" sIsEnd f fd) (RR : RuC K CR) : FnOk P w K mg base CX0 1 f fd ["self"] (spIsEnd C CR CM CK) := by
  refine F.ok scIE (fun vs H Q E h => ?_) (fun cdv A0 outer s H vs Q E hr h => ?_)
  · obtain ⟨u, p, c, kvs, L, e', A, n, i, e, t, row, rfl, _⟩ := h
    rfl
  · obtain ⟨u, p, c, kvs, L, e', A, n, i, e, t, row, rfl, h, q⟩ := h
    refine ⟨_, pss_one (ps_ret (pe_cmpR (op_eqT0 (Nat.lt_of_succ_lt (hu_of hr))) (pe_fld (pv 0) rfl) (pe_tup pa_nil) (nomark _))), ?_⟩
    obtain ⟨⟨dx, o, cc, li, cl, s1, rt, ns, rd, v, e1, e2, e3, e4, e5, e6, e7⟩, _⟩ := h
    refine ⟨_, rfl, u, CR, dx, _, .ref rd, rfl, e1, RR.I.cl, RR.nr, rfl, (by show 0 ≤ sizeLine; decide), fun z hz => ?_⟩
    have s2 := same_upd (o := .tup []) hz
    refine ⟨rd, z, _, rfl, rfl, SqT.of (s2 _ _ e7), SqT.of upd_same, ?_⟩
    have ev : (if row.isS = true then [V.int 0] else []).isEmpty = !row.isS := by cases row.isS <;> rfl
    rw [ev]
    exact q _ s2
theorem scHe : FnScope ["self", "thread", "name"] ["self", "thread", "name"] (defScope sHeld) := ⟨rfl, rfl, rfl, by decide +kernel, rfl, by decide +kernel, by decide +kernel⟩
theorem ok_held (F : Fun K "held" "Run.held" sHeld f fd) (RR : RuC K CR) (R : MoC K CM) (cc : CallN P w K mg base "check_thread" 3 ["program", "value"] (spChkThr C)) (cn : CallN P w K mg base "is_name" 1 ["value"] spName) (mv : MethN P w K mg base CM "value_in" 1 ["self", "thread", "name"] (spValueIn CM CK)) : FnOk P w K mg base CX0 4 f fd ["self", "thread", "name"] (spHeld C CR CM CK) := by
  obtain ⟨q1, d1, g1, k1, b1, G1⟩ := cc
  obtain ⟨q2, d2, g2, k2, b2, G2⟩ := cn
  obtain ⟨gV, dV, aV, bV, GV⟩ := mv
  refine F.ok scHe (fun vs H Q E h => ?_) (fun cdv A0 outer s H vs Q E hr h => ?_)
  · obtain ⟨u, p, c, kvs, L, e', A, n, i, e, t, row, x, rfl, _⟩ := h
    rfl
  · obtain ⟨u, p, c, kvs, L, e', A, n, i, e, t, row, x, rfl, hx, h, q⟩ := h
    refine ⟨_, pss_cons (ps_expr (pe_call G1 hr (by rfl) g1 k1 b1 .nil pass0 (pa_cons (pe_fld (pv 0) rfl) (pa_cons (pv 1) pa_nil))))
      (pss_cons (ps_if (pt_not (pt_val (pe_call G2 (hr.mono (by decide)) (by rfl) g2 k2 b2 .nil pass0 (pa_cons (pv 2) pa_nil)))) pss_never pss_nil)
      (pss_one (ps_ret (pe_meth (pe_fld (pv 0) rfl) R.cl aV GV (hr.mono (by decide)) bV .nil pass0 (pa_cons (pv 1) (pa_cons (pv 2) pa_nil)))))), ?_⟩
    obtain ⟨⟨dx, o, cc, li, cl, s1, rt, ns, rd, v, e1, e2, e3, e4, e5, e6, e7⟩, pr, mo, _⟩ := h
    refine ⟨_, rfl, u, CR, dx, _, .ref p, rfl, e1, RR.I.cl, RR.np, rfl, _, rfl, p, c, kvs, rfl, pr, fun G1 s1 => ?_⟩
    refine ⟨_, rfl, fun _ => True, .str x, .str x, rfl, .at (.str x), nm_sml hx, fun G2 s2 => ⟨_, rfl, ?_⟩⟩
    have ev : isNameD (.str x) = true := hx
    rw [ev]
    have s12 := s1.trans s2
    have m2 := mo.mv s12
    exact iteF ⟨_, rfl, u, CR, dx, _, .ref A.me, rfl, s12 _ _ e1, RR.I.cl, RR.nm, rfl, A.me, A.dx, _, rfl, m2.ins, rfl, _, rfl, _, rfl, A, _, _, i, e, _, t, m2, x, rfl, q _ s12⟩
theorem scAf : FnScope ["self", "thread"] ["self", "thread"] (defScope sAfter) := ⟨rfl, rfl, rfl, by decide +kernel, rfl, by decide +kernel, by decide +kernel⟩
theorem ok_after (F : Fun K "after" "Run.after" sAfter f fd) (RR : RuC K CR) (R : MoC K CM) (cc : CallN P w K mg base "check_thread" 3 ["program", "value"] (spChkThr C)) (mc : MethN P w K mg base CM "can_step" 2 ["self", "thread"] (spCanStep CM CK)) (ms : MethN P w K mg base CM "stepped" 4 ["self", "thread"] (spStepped CM CK)) (mk : MkM P w K mg base "Run" CR 4 ["self", "program", "order", "moment"] (spRuIn C CR CM CK)) : FnOk P w K mg base CX0 6 f fd ["self", "thread"] (spAfter C CR CM CK) := by
  obtain ⟨q1, d1, g1, k1, b1, G1⟩ := cc
  obtain ⟨gC, dC, aC, bC, GC⟩ := mc
  obtain ⟨gS, dS, aS, bS, GS⟩ := ms
  obtain ⟨gR, dR, mR, eR, bR, GR⟩ := mk
  refine F.ok scAf (fun vs H Q E h => ?_) (fun cdv A0 outer s H vs Q E hr h => ?_)
  · obtain ⟨H0, u, p, c, kvs, L, e', A, n, i, e, t, r, rfl, _⟩ := h
    rfl
  · obtain ⟨H0, u, p, c, kvs, L, e', A, n, i, e, t, r, rfl, s0, kn0, pr0, h, q⟩ := h
    refine ⟨_, pss_cons (ps_expr (pe_call G1 (hr.mono (by decide)) (by rfl) g1 k1 b1 .nil pass0 (pa_cons (pe_fld (pv 0) rfl) (pa_cons (pv 1) pa_nil))))
      (pss_cons (ps_if (pt_not (pt_val (pe_meth (pe_fld (pv 0) rfl) R.cl aC GC (hr.mono (by decide)) bC .nil pass0 (pa_cons (pv 1) pa_nil)))) pss_never pss_nil)
      (pss_one (ps_ret (pe_make mR GR hr (by rfl) eR bR .nil pass0 (pa_cons (pe_fld (pv 0) rfl) (pa_cons (pe_op op_catA (pe_fld (pv 0) rfl) (pe_tup (pa_cons (pv 1) pa_nil))) (pa_cons (pe_meth (pe_fld (pv 0) rfl) R.cl aS GS (hr.mono (by decide)) bS .nil pass0 (pa_cons (pv 1) pa_nil)) pa_nil))))))), ?_⟩
    obtain ⟨⟨dx, o, cc, li, cl, s1, rt, ns, rd, v, e1, e2, e3, e4, e5, e6, e7⟩, pr, mo, tr, hrow, st, t3, le⟩ := h
    unfold OrdR at e2
    rcases trc_stop tr hrow st with ⟨z, _⟩ | ⟨r', L', er, eL, tr3⟩
    · cases z
    obtain rfl : r = r' := by
      injection er
    have hj : n < L.length := by
      have := congrArg List.length eL
      rw [List.length_drop] at this
      simp at this
      omega
    have eq1 : L.drop (n + 1) = L' := by rw [← List.drop_drop, eL]; rfl
    have eq2 : L.take (n + 1) = L.take n ++ [e r] := by
      have h0 : L[n]? = some (e r) := by
        have := congrArg List.head? eL
        rw [List.head?_drop] at this
        exact this
      rw [List.take_add_one, h0]
      rfl
    refine ⟨_, rfl, u, CR, dx, _, .ref p, rfl, e1, RR.I.cl, RR.np, rfl, _, rfl, p, c, kvs, rfl, pr, fun G1 t1 => ?_⟩
    have m1 := mo.mv t1
    refine ⟨_, rfl, u, CR, dx, _, .ref A.me, rfl, t1 _ _ e1, RR.I.cl, RR.nm, rfl, A.me, A.dx, _, rfl, m1.ins, rfl, _, rfl, A, _, _, i, e, _, t, m1, _, rfl, hrow, st, ⟨_, rfl, iteF ?_⟩⟩
    refine ⟨_, rfl, u, CR, dx, _, .ref p, rfl, t1 _ _ e1, RR.I.cl, RR.np, rfl, _, rfl, u, CR, dx, _, .ref o, rfl, t1 _ _ e1, RR.I.cl, RR.no, rfl, _, rfl, (by show 1 ≤ sizeLine; decide), fun z hz => ?_⟩
    have s2 := same_upd (o := .tup [.int 0]) hz
    have line : (1000 : Nat) < sizeLine := by decide
    have rest : ∀ (G : Hp) (o2 : Addr), Same G1 G → OrdR G o2 (n + 1) → G u = some (.ins CR dx (ruFs (.ref p) (.ref o) (.ref A.me) (.ref s1) (.ref cc) (.ref li) (.ref ns) (.ref rd) (.ref cl))) ∧ MoM CM CK G A (c.tr ++ [.over]) (askK kvs) i e (L.take n) t := fun G o2 sG _ => ⟨sG _ _ (t1 _ _ e1), m1.mv sG⟩
    have go : ∀ (G : Hp) (o2 : Addr), Same G1 G → OrdR G o2 (n + 1) → spStepped CM CK [.ref A.me, .int 0] G (fun v H1 => ∀ x dx, H1 x = none → H1 dx = none → dx ≠ x → spRuIn C CR CM CK [.ref x, .ref p, .ref o2, v] (upd (upd H1 dx (.own x)) x (.ins CR dx [])) (fun v H2 => v = .non ∧ Q (.ref x) H2) E0) E0 := by
      intro G o2 sG eo2
      have mG := m1.mv sG
      refine ⟨A, _, _, i, e, _, t, mG, r, L', e', rfl, hrow, tr3, t3, by rw [List.length_take]; omega, fun G3 A3 i3 e3' t3' row3 ek cg m3 tr4 hrow3 st3 ht3 => ?_⟩
      intro x dxx hx hdxx nxx
      have ndx : upd G3 dxx (.own x) x = none := by
        rw [upd_ne (fun z => nxx z.symm)]
        exact hx
      have s8 := (same_upd (o := .own x) hdxx).trans (same_upd (o := .ins CR dxx []) ndx)
      have s0G : Same H0 G3 := fun b o eb => cg.keep b o (fun z => by rw [List.mem_singleton.mp z, kn0] at eb; cases eb) (sG _ _ (t1 _ _ (s0 _ _ eb)))
      have s08 := s0G.trans s8
      refine ⟨x, dxx, p, o2, c, kvs, L, e', A3, n + 1, i3, e3', t3', row3, rfl, upd_same, (s8 _ _ (cg.tups _ _ eo2)), pr0.mv s08, by rw [eq2]; exact m3.mv s8, by rw [eq1]; exact tr4, hrow3, st3, ht3, hj, le.2, fun H9 bt rm => ⟨rfl, ?_⟩⟩
      refine q H9 x A3 i3 e3' t3' row3 (fun b o eb => bt b o (ne_of_none (s0G _ _ eb) hx) (s08 b o eb)) (by rw [ek]; exact kn0) rm
    refine ⟨o, z, List.replicate n (.int 0), [.int 0], rfl, rfl, SqT.of (s2 _ _ (t1 _ _ e2)), SqT.of upd_same, by rw [List.length_replicate]; show n + 1 ≤ _; omega, fun hx => ?_, fun _ z => (by cases z), fun hx _ b hb => ?_⟩
    · have n0 : n = 0 := by
        have := congrArg List.length hx
        rw [List.length_replicate] at this
        exact this
      have eo2 : OrdR (upd G1 z (.tup [.int 0])) z (n + 1) := by
        unfold OrdR
        rw [upd_same, n0]
        rfl
      obtain ⟨eu, mG⟩ := rest _ z s2 eo2
      exact ⟨_, rfl, u, CR, dx, _, .ref A.me, rfl, eu, RR.I.cl, RR.nm, rfl, A.me, A.dx, _, rfl, mG.ins, rfl, _, rfl, go _ z s2 eo2⟩
    · have s3 := same_upd (o := .tup (List.replicate n (.int 0) ++ [.int 0])) hb
      have s23 := s2.trans s3
      have eo2 : OrdR (upd (upd G1 z (.tup [.int 0])) b (.tup (List.replicate n (.int 0) ++ [.int 0]))) b (n + 1) := by
        unfold OrdR
        rw [upd_same, List.replicate_succ']
      obtain ⟨eu, mG⟩ := rest _ b s23 eo2
      exact ⟨_, rfl, u, CR, dx, _, .ref A.me, rfl, eu, RR.I.cl, RR.nm, rfl, A.me, A.dx, _, rfl, mG.ins, rfl, _, rfl, go _ b s23 eo2⟩
end
end OM

namespace OM
open PySem PySem.Spec PyProof.Rows L2
section
variable {P : Program} {w : World} {K : PySem.W.Frag} {mg : Str → Option Value} {base : Heap} {f fE C CR CM CK : Addr} {fd dE : FuncData}
theorem scRE : FnScope ["self", "other"] ["self", "other"] (defScope sRuEq) := ⟨rfl, rfl, rfl, by decide +kernel, rfl, by decide +kernel, by decide +kernel⟩
theorem ok_rueq {oh : PySem.W.findIn K (.ref C) "__eq__" = some (some (.ref fE))} (F : Fun K "__eq__" "Run.__eq__" sRuEq f fd) (RP : PrC K C) (RR : RuC K CR) (isi : mg "isinstance" = none) (gR : mg "Run" = some (.ref CR)) (nf : PySem.W.notFirst K C (.ref C) = true) (of : PySem.W.isFn K (.ref fE) = true) (bE : Binds K dE ["self", "other"] []) (GE : FnOk P w K mg base CX0 1 fE dE ["self", "other"] (spPEq C)) :
    FnOk P w K mg base CX0 2 f fd ["self", "other"] (spRuEq C CR CM CK) := by
  refine F.ok scRE (fun vs H Q E h => ?_) (fun cdv A0 outer s H vs Q E hr h => ?_)
  · obtain ⟨u, p, c, kvs, L, e', A, n, i, e, t, row, u2, A2, i2, e2, t2, row2, rfl, _⟩ := h
    rfl
  · obtain ⟨u, p, c, kvs, L, e', A, n, i, e, t, row, u2, A2, i2, e2, t2, row2, rfl, h1, h2, q⟩ := h
    have hu : (A0.deeper (envOfC "Run.__eq__" (defScope sRuEq) s.heap.objs.size f cdv)).units + 64 < cLine := by
      have := hr.un
      omega
    refine ⟨_, pss_one (ps_ret (pe_and (pe_callB call_isi (by rfl) isi (by decide +kernel) (pa_cons (pv 1) (pa_cons (pe_glob (v := .ref CR) (by rfl) gR rfl) pa_nil)))
      (pe_and (pe_cmpR (eq_own ⟨oh, of, GE, bE⟩ hr) (pe_fld (pv 0) rfl) (pe_fld (pv 1) rfl) (nomark _))
      (pe_one (pe_cmpR (op_eqD hu) (pe_fld (pv 0) rfl) (pe_fld (pv 1) rfl) (nomark _)))))), ?_⟩
    obtain ⟨⟨dx, o, cc, li, cl, s1, rt, ns, rd, v, x1, x2, _⟩, pr, _, _, _, _, _, le⟩ := h1
    obtain ⟨⟨dx', o', cc', li', cl', s1', rt', ns', rd', v', y1, y2, _⟩, _⟩ := h2
    obtain ⟨⟨dxp, th, ce, an, cv, z1, _⟩, _⟩ := id pr
    refine ⟨_, rfl, .ref u2, .ref CR, .ref CR, .ref CR, true, rfl, .own CR, .base (.ins y1 RR.I.cl RR.I.ha RR.I.hn RR.I.htk RR.I.hm), RR.I.kit, _, rfl, iteT ?_⟩
    refine ⟨_, rfl, u, CR, dx, _, .ref p, rfl, x1, RR.I.cl, RR.np, rfl, _, rfl, u2, CR, dx', _, .ref p, rfl, y1, RR.I.cl, RR.np, rfl, p, dxp, _, .ref C, rfl, z1, .base (.ins z1 RP.I.cl RP.I.ha RP.I.hn RP.I.htk RP.I.hm), nf, p, c, kvs, rfl, pr, fun G s2 => ⟨_, rfl, _, rfl, iteT ?_⟩⟩
    obtain ⟨sh, eq⟩ := ord_data n (by omega)
    refine ⟨_, rfl, u, CR, dx, _, .ref o, rfl, s2 _ _ x1, RR.I.cl, RR.no, rfl, _, rfl, u2, CR, dx', _, .ref o', rfl, s2 _ _ y1, RR.I.cl, RR.no, rfl, .tuple (List.replicate n (.int 0)), .tuple (List.replicate n (.int 0)), .tup (SqT.of (s2 _ _ x2)) (ord_dp n), .tup (SqT.of (s2 _ _ y2)) (ord_dp n), sh, sh, ?_⟩
    rw [eq]
    exact q _ s2
theorem scPCl : FnScope ["self", "order", "moment"] ["self", "order"] (defScope sPCall) := ⟨rfl, rfl, rfl, by decide +kernel, rfl, by decide +kernel, by decide +kernel⟩
theorem ok_pcall (F : Fun K "__call__" "Program.__call__" sPCall f fd) (RP : PrC K C) (ln : mg "len" = none) (co : CallN P w K mg base "is_order" 3 ["value", "many"] spIsOrd) (ca : CallN P w K mg base "moment_after" 10 ["program", "order"] (spMomAft C CM CK)) (mk : MkM P w K mg base "Run" CR 4 ["self", "program", "order", "moment"] (spRuIn C CR CM CK)) : FnOk P w K mg base CX0 11 f fd ["self", "order"] (spPCall C CR CM CK) := by
  obtain ⟨q1, d1, g1, k1, b1, G1⟩ := co
  obtain ⟨q2, d2, g2, k2, b2, G2⟩ := ca
  obtain ⟨gR, dR, mR, eR, bR, GR⟩ := mk
  refine F.ok scPCl (fun vs H Q E h => ?_) (fun cdv A0 outer s H vs Q E hr h => ?_)
  · obtain ⟨p, o, n, c, kvs, L, e', rfl, _⟩ := h
    rfl
  · obtain ⟨p, o, n, c, kvs, L, e', rfl, eo, le1, le2, pr, tr, q⟩ := h
    refine ⟨_, pss_cons (ps_if (pt_not (pt_val (pe_call G1 (hr.mono (by decide)) (by rfl) g1 k1 b1 .nil pass0 (pa_cons (pv 1) (pa_cons (pe_callB call_len_seq (by rfl) ln PySem.boot_len (pa_cons (pe_fld (pv 0) rfl) pa_nil)) pa_nil))))) pss_never pss_nil)
      (pss_cons (ps_set (i := 2) scPCl.nd rfl (Or.inl rfl) (pe_call G2 hr (by rfl) g2 k2 b2 .nil pass0 (pa_cons (pv 0) (pa_cons (pv 1) pa_nil))))
      (pss_cons (ps_if (pt_cmp (pc_isN (pv 2))) pss_never pss_nil)
      (pss_one (ps_ret (pe_make mR GR (hr.mono (by decide)) (by rfl) eR bR .nil pass0 (pa_cons (pv 0) (pa_cons (pv 1) (pa_cons (pv 2) pa_nil)))))))), ?_⟩
    obtain ⟨⟨dxp, th, ce, an, cv, z1, z2, _⟩, _⟩ := id pr
    refine ⟨_, rfl, _, rfl, p, C, dxp, _, .ref th, rfl, z1, RP.I.cl, RP.nt, rfl, th, _, rfl, .inr (SqT.of z2), o, n, rfl, eo, by omega, fun G s1 => ⟨_, rfl, iteF ?_⟩⟩
    unfold OrdR at eo
    refine ⟨_, rfl, _, rfl, p, o, n, c, kvs, L, e', rfl, s1 _ _ eo, by omega, le1, pr.mv s1, tr, fun G2 A i e t row s2 kn m2 tr2 hrow st ht => ?_⟩
    have s12 := s1.trans s2
    refine ⟨_, rfl, false, rfl, iteF ?_⟩
    refine ⟨_, rfl, _, rfl, _, rfl, fun x dx hx hdx nx => ?_⟩
    have ndx : upd G2 dx (.own x) x = none := by
      rw [upd_ne (fun z => nx z.symm)]
      exact hx
    have s8 := (same_upd (o := .own x) hdx).trans (same_upd (o := .ins CR dx []) ndx)
    have s18 := s12.trans s8
    refine ⟨x, dx, p, o, c, kvs, L, e', A, n, i, e, t, row, rfl, upd_same, s18 _ _ eo, pr.mv s18, m2.mv s8, tr2, hrow, st, ht, le1, le2, fun H9 bt rm => ⟨rfl, ?_⟩⟩
    have hxH : H x = none := s12.free hx
    exact q H9 x A i e t row (fun b o eb => bt b o (ne_of_none eb hxH) (s18 b o eb)) (s1.free kn) rm
end
end OM

namespace OM
open PySem PySem.Spec PyProof.Rows L2
/-! ### an instance that is called -/
section
variable {M : Model} {A : Around} {E : Value → Shared → Prop} {s : Shared} {pos : Pos} {x : Addr} {Q : Value → Shared → Prop}
theorem call_inst {as : List (Bool × Sem Value)} {ks : List (Option Str × Sem Value)} (pl : (as.any (·.1) || ks.any (·.1.isNone)) = false)
    (h : wpAny M A (evalArgs (.ref x) true as ks) (fun a s1 => (∃ ox C od, PySem.W.InstAt s1.heap x ox C od ∧ ox.data = .plain) ∧ wpAny M A (call (.ref x) a.pos a.kw) Q E s1) E s) : wpAny M A (callWith pos (.ref x) [] as ks) Q E s := by
  have done : ∀ {t : Sem Value} {s1 : Shared}, wpAny M A t Q E s1 → wpAny M A (t >>= fun r => holding [r] point >>= fun _ => pure r) Q E s1 := fun ht => wpAny_bind (wpAny_mono ht (fun _ _ hr => wpAny_bind (wpAny_holding (wpAny_point (wpAny_pure hr)))) fun _ _ y => y)
  unfold callWith
  refine wpAny_bind (wpAny_holding (wpAny_mono h (fun a s1 z => ?_) fun _ _ y => y))
  obtain ⟨⟨ox, C, od, J, pn⟩, hc⟩ := z
  refine wpAny_bind (wpAny_standAt ?_)
  simp only [pl]
  exact wpAny_bind ((PySem.W.kco_keeper J pn).here (done (wpAny_operateT hc)))
end
/-- x(e, ..), x a local that holds an instance -/
def tCallI (C : Addr) (sp : Sp) (tf : TE) (t : TA) : TE := fun σ H Q => tf σ H fun x H1 => ∃ a, x = .ref a ∧ t σ H1 fun vs H2 => (∃ dx fs, H2 a = some (.ins C dx fs)) ∧ sp (.ref a :: vs) H2 Q E0
section
variable {X : Cx} {k : Nat} {C f : Addr} {fd : FuncData} {sp : Sp} {ps : List Str}
theorem pe_callI {nm : Str} {np pos : Pos} {e : Expr} {es : List Expr} {tf : TE} {t : TA} (O : Own X C f fd "__call__" k ps sp) (hfn : PySem.W.fnIn X.K f = true) (hr : Room k X.A) (hx : PE X (.Name nm np) tf) (ha : PA X (e :: es) t)
    (he : starEach (e :: es) X.env = (false, eval e X.env) :: starEach es X.env := by rfl) (hpl : (backTo pos (starEach es X.env)).any (·.1) = false := by rfl) : PE X (.Call (.Name nm np) (e :: es) [] pos) (tCallI C sp tf t) := by
  refine ⟨fun pins s σ H Q I h => wpAny_Call_Name_kw (thn (hx.run pins s σ H _ I h) fun v s1 ⟨x, H1, I1, rx, a, ex, q⟩ => ?_)⟩
  subst ex
  obtain rfl : v = Value.ref a := rx
  have z := ha.run pos pins s1 σ H1 _ I1 q
  rw [he] at z ⊢
  refine call_inst (by show ((false || (backTo pos (starEach es X.env)).any (·.1)) || false) = false; rw [hpl]; rfl) (PySem.Calls.evalArgs_plain (thn z fun us s2 ⟨vs, H2, I2, r, ⟨dx, fs, ea⟩, q2⟩ => ?_))
  obtain ⟨_, Ob, _⟩ := ins_get I2.hok ea
  obtain ⟨od, J, _⟩ := Ob.look
  refine ⟨⟨_, _, _, J, rfl⟩, wpAny_call (PySem.W.kco_code I2.kIn J rfl O.hs O.hf hfn (codeAny_mono (O.F.run X.A X.stack s2 H2 ⟨.ref a :: us, []⟩ (.ref a :: us) (.ref a :: vs) _ E0 hr I2.env0 (bind_at O.hb I2 _ ?_) (.cons rfl r) q2) fun res z' hq => ?_))⟩
  · have l := O.F.len _ _ _ _ q2
    have l2 := r.length
    rw [List.length_cons] at l ⊢
    omega
  · match res, hq with
    | .ok (.ret w), hq =>
      obtain ⟨y, H', I3, rv, q3⟩ := I2.after hq
      exact ⟨y, H', I3, rv, q3⟩
    | .error er, hq => exact hq.elim
end
end OM

namespace OM
open PySem PySem.Spec PyProof.Rows L2
theorem mul_one (l : Addr) (items : Array Value) (n : Nat) (dd : Option Addr) (sl : Array (Option Value)) (u : Tok) (hne : items.isEmpty = false) :
    Meets (Builtin.«tuple.__mul__» ⟨[.ref l, .int 1 u], []⟩) (fun _ R s => s.heap.get? l = some { cls := .type "tuple", dict := dd, data := .seq items n, slots := sl } ∧ R (.ok (.ret (Value.ref l))) s) :=
  .of_wp fun prog w A R s h => by
    obtain ⟨hp, g, d, tk, os⟩ := s
    obtain ⟨hl, h⟩ := h
    have f1 := AutoSeq1.idx_int
    wp_walk using wpAny_loadPart' hl
    repeat (first
      | exact ⟨_, rfl, h⟩
      | (refine wpAny_ite_true (by rw [hne]; decide) ?_; wp_walk using wpAny_loadPart' hl)
      | (refine wpAny_ite_false (by decide) ?_; wp_walk using wpAny_loadPart' hl))
theorem mul_zero (l : Addr) (items : Array Value) (n : Nat) (dd : Option Addr) (sl : Array (Option Value)) (u : Tok) (hne : items.isEmpty = false) :
    Meets (Builtin.«tuple.__mul__» ⟨[.ref l, .int 0 u], []⟩) (fun _ R s => s.heap.get? l = some { cls := .type "tuple", dict := dd, data := .seq items n, slots := sl } ∧
      R (.ok (.ret (Value.ref s.heap.objs.size))) { s with heap := s.heap.push { cls := Value.type "tuple", data := Data.seq #[] }, toks := s.toks }) :=
  .of_wp fun prog w A R s h => by
    obtain ⟨hp, g, d, tk, os⟩ := s
    obtain ⟨hl, h⟩ := h
    have f1 := AutoSeq1.idx_int
    wp_walk using wpAny_loadPart' hl
    exact ⟨_, rfl, h⟩
theorem op_rep01 {X : Cx} : OpR X (binaryOp .Mult) (fun x y H Q => ∃ (l : Addr) (xs : List V) (b : Bool), x = .ref l ∧ y = .int (if b = true then 1 else 0) ∧ SqT X.K H l xs ∧ xs ≠ [] ∧ (b = true → Q (.ref l) H) ∧ (b = false → ∀ p, H p = none → Q (.ref p) (upd H p (.tup [])))) := by
  intro pins s σ H x y v u Q I rx ry h
  obtain ⟨l, xs, b, rfl, rfl, hT, hne, q1, q0⟩ := h
  cases rx
  obtain ⟨t, rfl⟩ := ry
  obtain ⟨its, r, ⟨⟨cls, dd, data, sl⟩, ho, hc, n, hd⟩, hs⟩ := I.tuple hT
  simp only at hc hd
  subst hc hd
  have hi : its.toArray.isEmpty = false := by
    cases its with
    | nil =>
      have := r.length
      exact absurd (List.eq_nil_of_length_eq_zero this) hne
    | cons a b => rfl
  cases b with
  | true =>
    refine wpAny_binaryOp_repeat_ref (T := "tuple") (U := "int") (by decide) ⟨_, ho, rfl⟩ (fun s' => typeIs_int s' 1 t) noFill_tuple_mul F.fills_int_mul F.slot_int_rmul repeat_tuple F.slot_int_index.lookup
      (call_meets F.slot_int_rmul (typeIs_int s 1 t) F.entry_int_rmul (F.args_int_rmul_2 _ _) (int_rmul_tuple 1 t l its.toArray n dd sl) ⟨ho, rfl, ⟨_, ho, rfl⟩, call_meets F.slot_tuple_mul ⟨_, ho, rfl⟩ F.entry_tuple_mul (F.args_tuple_mul_2 _ _) (mul_one l its.toArray n dd sl t hi) ⟨ho, ?_⟩⟩)
    exact ⟨.ref l, H, I, rfl, q1 rfl⟩
  | false =>
    refine wpAny_binaryOp_repeat_ref (T := "tuple") (U := "int") (by decide) ⟨_, ho, rfl⟩ (fun s' => typeIs_int s' 0 t) noFill_tuple_mul F.fills_int_mul F.slot_int_rmul repeat_tuple F.slot_int_index.lookup
      (call_meets F.slot_int_rmul (typeIs_int s 0 t) F.entry_int_rmul (F.args_int_rmul_2 _ _) (int_rmul_tuple 0 t l its.toArray n dd sl) ⟨ho, rfl, ⟨_, ho, rfl⟩, call_meets F.slot_tuple_mul ⟨_, ho, rfl⟩ F.entry_tuple_mul (F.args_tuple_mul_2 _ _) (mul_zero l its.toArray n dd sl t hi) ⟨ho, ?_⟩⟩)
    refine ⟨.ref s.heap.objs.size, _, I.laid (t' := s.toks) (o := .tup []) (fun b ob q => Heap.get?_push_of_some _ q) (Nat.le_refl _) ?_, rfl, q0 rfl _ (I.hok.fresh (Nat.le_refl _))⟩
    exact ⟨by decide, [], .nil, IsTup.new _ _⟩
/-- (0,) times n -/
theorem op_repN {X : Cx} : OpR X (binaryOp .Mult) (fun x y H Q => ∃ (l : Addr) (n : Nat), x = .ref l ∧ y = .int (n : Nat) ∧ H l = some (.tup [.int 0]) ∧ n ≤ 200 ∧ ∀ H' p, Same H H' → OrdR H' p n → Q (.ref p) H') := by
  intro pins s σ H x y v u Q I rx ry h
  obtain ⟨l, n, rfl, rfl, el, hn, q⟩ := h
  by_cases h2 : 2 ≤ n
  · refine op_repT pins s σ H (.ref l) (.int (n : Nat)) v u Q I rx ry ⟨l, (n : Nat), [.int 0], rfl, rfl, SqT.of el, by simp, by omega, by omega, by decide, fun p hp => q _ p (same_upd hp) ?_⟩
    unfold OrdR
    rw [upd_same, Int.toNat_natCast]
    have : ∀ m, (List.replicate m [V.int 0]).flatten = List.replicate m (V.int 0) := fun m => by
      induction m with
      | zero => rfl
      | succ m ih => rw [List.replicate_succ, List.flatten_cons, ih]; rfl
    rw [this]
  · refine op_rep01 pins s σ H (.ref l) (.int (n : Nat)) v u Q I rx ry ⟨l, [.int 0], decide (n = 1), rfl, ?_, SqT.of el, by simp, fun hb => ?_, fun hb p hp => ?_⟩
    · by_cases h1 : n = 1
      · rw [h1]
        rfl
      · obtain rfl : n = 0 := by omega
        rfl
    · obtain rfl : n = 1 := of_decide_eq_true hb
      exact q H l (Same.refl H) el
    · obtain rfl : n = 0 := by
        have := of_decide_eq_false hb
        omega
      exact q _ p (same_upd hp) upd_same
/-! ### texts of code points -/
theorem ok_app {a b : Str} (ha : PyData.strOk a = true) (hb : PyData.strOk b = true) : PyData.strOk (a ++ b) = true := by
  unfold PyData.strOk at ha hb ⊢
  rw [PySem.Str.cps_append, Array.all_append, ha, hb]
  rfl
theorem ok_join {as : List Str} (h2 : as.length ≤ 2) (h : ∀ a ∈ as, PyData.strOk a = true) : PyData.strOk (Txt.join (", " : Str) as) = true := by
  rw [TL.join_eq]
  match as, h2 with
  | [], _ => decide +kernel
  | [x], _ => exact h x (by simp)
  | [x, y], _ =>
    show PyData.strOk ((x ++ (", " : Str)) ++ y) = true
    exact ok_app (ok_app (h x (by simp)) (by decide +kernel)) (h y (by simp))
theorem ok_wr {f : Str} {as : List Str} (hf : PyData.strOk f = true) (h2 : as.length ≤ 2) (h : ∀ a ∈ as, PyData.strOk a = true) : PyData.strOk (wrT f as) = true :=
  ok_app (ok_app (ok_app hf (by decide +kernel)) (ok_join h2 h)) (by decide +kernel)
theorem nm_strOk {x : Str} (h : Nm x) : PyData.strOk x = true := by
  have z := nm_sml h
  unfold smlD at z
  exact (Bool.and_eq_true_iff.mp z).2
def EOk (e : Rg) : Prop := ∀ n ∈ regs3, PyData.strOk (e n) = true
theorem EOk.put {e : Rg} {r v : Str} (h : EOk e) (hv : PyData.strOk v = true) : EOk (e.put r v) := fun n hn => by
  unfold Rg.put
  split
  · exact hv
  · exact h n hn
section
variable {ask : Str → Str → Bool}
mutual
theorem QS.eok : ∀ (c : QS) {e : Rg}, c.ok → EOk e → EOk (c.en ask e) ∧ ∀ x ∈ c.sh ask e, PyData.strOk x = true
  | .set r f as, e, ok, h => ⟨h.put (ok_wr (nm_strOk ok.2.1) (by rw [List.length_map]; exact ok.2.2.1) fun a ha => by
      obtain ⟨x, hx, rfl⟩ := List.mem_map.mp ha
      exact h x (ok.2.2.2 x hx)), fun x hx => by cases hx⟩
  | .copy r q, e, ok, h => ⟨h.put (h q ok.2), fun x hx => by cases hx⟩
  | .shw r, e, ok, h => ⟨h, fun x hx => by
      rw [List.mem_singleton.mp hx]
      exact h r ok⟩
  | .iff p r ys ns, e, ok, h => by
    have hy := QL.eok ys ok.2.2.1 h
    have hn := QL.eok ns ok.2.2.2 h
    show EOk (if ask p (e r) = true then ys.en ask e else ns.en ask e) ∧ ∀ x ∈ (if ask p (e r) = true then ys.sh ask e else ns.sh ask e), _
    split
    · exact hy
    · exact hn
theorem QL.eok : ∀ (c : QL) {e : Rg}, c.ok → EOk e → EOk (c.en ask e) ∧ ∀ x ∈ c.sh ask e, PyData.strOk x = true
  | .nil, e, _, h => ⟨h, fun x hx => by cases hx⟩
  | .cons y t, e, ok, h => by
    have a := QS.eok y ok.1 h
    have b := QL.eok t ok.2 a.1
    refine ⟨b.1, fun x hx => ?_⟩
    rcases List.mem_append.mp hx with hx | hx
    · exact a.2 x hx
    · exact b.2 x hx
end
end
/-- a list of texts as data -/
theorem strs_dp {K : PySem.W.Frag} {H : Hp} : ∀ l : List Str, DpAll K H (l.map V.str) (l.map PyData.str)
  | [] => .nil
  | x :: r => .cons (.str x) (strs_dp r)
theorem strs_lay : ∀ {l : List Str}, (∀ x ∈ l, PyData.strOk x = true) → PyData.canLayAll0 (l.map PyData.str) = true
  | [], _ => rfl
  | x :: r, h => by
    show (PyData.strOk x && PyData.canLayAll0 (r.map PyData.str)) = true
    rw [h x (by simp), strs_lay fun y hy => h y (List.mem_cons_of_mem _ hy)]
    rfl
theorem shp {d : PyData} (l : PyData.canLay0 d = true) (h : d.depth ≤ 64) : SeqAt.shaped d = true := by
  show (PyData.canLay0 d && decide (d.depth ≤ 64)) = true
  rw [l, decide_eq_true h]
  rfl
end OM

namespace OM
open PySem PySem.Spec PyProof.Rows L2
abbrev sRt29 : Stmt := top 68
abbrev sLaw29 : Stmt := top 69
abbrev psPI : List Str := ["self", "threads", "cells", "answers"]
/-- an own method, as a fact of the text -/
def OwnN (P : Program) (w : World) (K : PySem.W.Frag) (mg : Str → Option Value) (base : Heap) (C : Addr) (name : Str) (k : Nat) (ps : List Str) (sp : Sp) : Prop := ∃ (g : Addr) (d : FuncData), PySem.W.findIn K (.ref C) name = some (some (.ref g)) ∧ PySem.W.isFn K (.ref g) = true ∧ PySem.W.fnIn K g = true ∧ Binds K d ps [] ∧ FnOk P w K mg base CX0 k g d ps sp
/-- what the law's round needs -/
structure LawR (P : Program) (w : World) (K : PySem.W.Frag) (mg : Str → Option Value) (base : Heap) (C CR CM CK : Addr) : Prop where
  RP : PrC K C
  RR : RuC K CR
  roll : CallN P w K mg base "_law_roll" 1 ["_law_dice_here", "_law_total"] spRoll
  one : CallN P w K mg base "_law_one_of" 2 ["_law_dice_here", "_law_items"] (spOneOf K)
  quiet : CallN P w K mg base "_law_quiet_code" 5 ["_law_dice_here", "_law_most", "_law_room", "_law_deep"] (spQuiet 3)
  shown : CallN P w K mg base "_law_shown" 4 ["_law_code", "_law_asked", "_law_regs", "_law_found"] (spShown 3)
  prog : ∃ (g : Addr) (d : FuncData) (mv : List Value) (none1 : Value), Mk K C g ∧ mg "Program" = some (.ref C) ∧ KBn K d psPI 2 ["answers"] (fun us ws => us ++ mv ++ ws) (fun vs zs => vs ++ [.non] ++ zs) ∧ FnOk P w K mg base CX0 16 g d psPI (spPIn C)
  prog0 : ∃ (g : Addr) (d : FuncData) (ds : List Value), Mk K C g ∧ mg "Program" = some (.ref C) ∧ Vals [V.non, V.non] ds ∧ Binds K d psPI ds ∧ FnOk P w K mg base CX0 16 g d psPI (spPIn C)
  call : OwnN P w K mg base C "__call__" 11 ["self", "order"] (spPCall C CR CM CK)
  eq : OwnN P w K mg base CR "__eq__" 2 ["self", "other"] (spRuEq C CR CM CK)
  nf : PySem.W.notFirst K CR (.ref CR) = true
  isEnd : PropM P w K mg base CR "is_end" 1 (spIsEnd C CR CM CK)
  nxt : PropM P w K mg base CR "next_steps" 1 (getSp CR "_next_steps")
  shw : PropM P w K mg base CR "shown" 1 (getSp CR "_shown")
  rdy : PropM P w K mg base CR "ready" 1 (getSp CR "_ready")
  held : MethN P w K mg base CR "held" 4 ["self", "thread", "name"] (spHeld C CR CM CK)
  aft : MethN P w K mg base CR "after" 6 ["self", "thread"] (spAfter C CR CM CK)
  rng : mg "range" = none
  ln : mg "len" = none
  tup : mg "tuple" = none
def spRt29 : Sp := fun vs H Q _ => ∃ d : Addr, vs = [.ref d] ∧ Dice H d ∧ ∀ H', But d H H' → Dice H' d → Q (.bl true) H'
def vals9 : List Str := ["a", "b", "c", "f()", "f(a)", "g(b)", "f(f())", "f(a, b)", "g(c, c)"]
theorem vals_ok : ∀ x ∈ vals9, VOk x := by
  have h : ∀ x ∈ vals9, smlD (.str x) = true ∧ shortD (.str x) = true ∧ isValD (.str x) = true := by decide +kernel
  exact fun x hx => ⟨(h x hx).1, (h x hx).2.1, (h x hx).2.2⟩
theorem cut_list (l : List V) (j : Nat) (h : j ≤ l.length) : cutV l none (some ((j : Nat) : Int)) = l.take j := by
  unfold cutV
  rw [HT.sIx_none, HT.sIx_nat, List.drop_zero, Nat.sub_zero, Nat.min_eq_left h]
mutual
theorem QS.out {ask : Str → Str → Bool} {n : Str} (hn : n ∉ regs3) : ∀ (c : QS) {e : Rg}, c.ok → c.en ask e n = e n
  | .set r f as, e, ok => if_neg (fun z => hn (by rw [z]; exact ok.1))
  | .copy r q, e, ok => if_neg (fun z => hn (by rw [z]; exact ok.1))
  | .shw r, e, ok => rfl
  | .iff p r ys ns, e, ok => by
    have a := QL.out (ask := ask) hn ys (e := e) ok.2.2.1
    have b := QL.out (ask := ask) hn ns (e := e) ok.2.2.2
    show (if ask p (e r) = true then ys.en ask e else ns.en ask e) n = e n
    split
    · exact a
    · exact b
theorem QL.out {ask : Str → Str → Bool} {n : Str} (hn : n ∉ regs3) : ∀ (c : QL) {e : Rg}, c.ok → c.en ask e n = e n
  | .nil, e, ok => rfl
  | .cons x t, e, ok => (QL.out hn t (e := x.en ask e) ok.2).trans (QS.out hn x ok.1)
end
theorem strs_shp {l : List Str} (h : ∀ x ∈ l, PyData.strOk x = true) : SeqAt.shaped (.tuple [.tuple (l.map PyData.str)]) = true ∧ PyData.eqv (.tuple [.tuple (l.map PyData.str)]) (.tuple [.tuple (l.map PyData.str)]) = true := by
  have a : PyData.canLay0 (.tuple [.tuple (l.map PyData.str)]) = true := by
    show (PyData.canLayAll0 (l.map PyData.str) && true) = true
    rw [strs_lay h]
    rfl
  refine ⟨shp a ?_, PySem.SeqAt.eqv_refl _ a⟩
  show max (PyData.depthAll (l.map PyData.str) + 1) 0 + 1 ≤ 64
  rw [dep_strs]
  decide
theorem ntd {ds : List PyData} : (PyData.tuple ds).depth = PyData.depthAll ds + 1 := by
  conv => lhs; unfold PyData.depth
section
variable {P : Program} {w : World} {K : PySem.W.Frag} {mg : Str → Option Value} {base : Heap} {f C CR CM CK : Addr} {fd : FuncData}
abbrev nRt29 : List Str := ["_law_dice_here", "_law_code", "_law_asked", "_law_turn", "_law_value", "_law_regs", "_law_found", "_law_made", "_law_run", "_law_at", "_law_told", "_law_name"]
theorem scRt29 : FnScope nRt29 ["_law_dice_here"] (defScope sRt29) := ⟨rfl, rfl, rfl, by decide +kernel, rfl, by decide +kernel, by decide +kernel⟩
theorem ok_rt29 (F : Fun K "_law_right" "_law_right" sRt29 f fd) (L : LawR P w K mg base C CR CM CK) : FnOk P w K mg base CX0 18 f fd ["_law_dice_here"] spRt29 := by
  obtain ⟨qR, dR, gR, kR, bR, GR⟩ := L.roll
  obtain ⟨qO, dO, gO, kO, bO, GO⟩ := L.one
  obtain ⟨qQ, dQ, gQ, kQ, bQ, GQ⟩ := L.quiet
  obtain ⟨qS, dS, gS, kS, bS, GS⟩ := L.shown
  obtain ⟨gP, dP, mv, _, mkP, gPr, kbP, GP⟩ := L.prog
  obtain ⟨gC, dC, fC, iC, nC, bC, GC⟩ := L.call
  obtain ⟨gE, dE, fE, iE, nE, bE, GE⟩ := L.eq
  obtain ⟨pI, gI, dI, hI, GI, bI⟩ := L.isEnd
  obtain ⟨pN, gN, dN, hN, GN, bN⟩ := L.nxt
  obtain ⟨pW, gW, dW, hW, GW, bW⟩ := L.shw
  obtain ⟨pY, gY, dY, hY, GY, bY⟩ := L.rdy
  obtain ⟨gH, dH, aH, bH, GH⟩ := L.held
  obtain ⟨gA, dA, aA, bA, GA⟩ := L.aft
  have RR := L.RR
  refine F.ok scRt29 (fun vs H Q E h => ?_) (fun cdv A outer s H vs Q E hr h => ?_)
  · obtain ⟨d, rfl, _⟩ := h
    rfl
  · obtain ⟨d, rfl, hd, q⟩ := h
    have hu : (A.deeper (envOfC "_law_right" (defScope sRt29) s.heap.objs.size f cdv)).units + 64 < cLine := by
      have := hr.un
      omega
    refine ⟨_, pss_cons (ps_set (i := 1) scRt29.nd rfl (Or.inl rfl) (pe_call GQ (hr.mono (by decide)) (by rfl) gQ kQ bQ .nil pass0 (pa_cons (pv 0) (pa_cons pe_int (pa_cons (pe_lst (pa_cons pe_int (pa_cons pe_int pa_nil))) (pa_cons pe_int pa_nil))))))
      (pss_cons (ps_set (i := 2) scRt29.nd rfl (Or.inl rfl) pe_dnewT)
      (pss_cons (ps_for PassesOwn.never rfl (pi_range1 (by rfl) L.rng (pa_cons (pe_call GR (hr.mono (by decide)) (by rfl) gR kR bR .nil pass0 (pa_cons (pv 0) (pa_cons pe_int pa_nil))) pa_nil)) (pg_name (i := 3) scRt29.nd rfl (Or.inl rfl))
        (pss_cons (ps_set (i := 4) scRt29.nd rfl (Or.inl rfl) (pe_call GO (hr.mono (by decide)) (by rfl) gO kO bO .nil pass0 (pa_cons (pv 0) (pa_cons (pe_lst (pa_cons pe_str (pa_cons pe_str (pa_cons pe_str (pa_cons pe_str (pa_cons pe_str (pa_cons pe_str (pa_cons pe_str (pa_cons pe_str (pa_cons pe_str pa_nil)))))))))) pa_nil))))
        (pss_one (ps_dput (hu_of hr) (pv 2) (pe_tup (pa_cons (pe_call GO (hr.mono (by decide)) (by rfl) gO kO bO .nil pass0 (pa_cons (pv 0) (pa_cons (pe_lst (pa_cons pe_str (pa_cons pe_str pa_nil))) pa_nil))) (pa_cons (pv 4) pa_nil)))
          (pe_cmpR op_gt (pe_call GR (hr.mono (by decide)) (by rfl) gR kR bR .nil pass0 (pa_cons (pv 0) (pa_cons pe_int pa_nil))) pe_int (nomark _)) rfl))))
      (pss_cons (ps_par (i := 5) (j := 6) rfl scRt29.nd rfl rfl (by decide) (by rfl) (by rfl) (pa_cons (pe_disp (pps_cons pe_str pe_str (pps_cons pe_str pe_str (pps_cons pe_str pe_str pps_nil))) (by rfl) (by rfl) (by simp) (by decide)) (pa_cons (pe_lst pa_nil) pa_nil)) (by rfl))
      (pss_cons (ps_expr (pe_call GS (hr.mono (by decide)) (by rfl) gS kS bS .nil pass0 (pa_cons (pv 1) (pa_cons (pv 2) (pa_cons (pv 5) (pa_cons (pv 6) pa_nil))))))
      (pss_cons (ps_set (i := 7) scRt29.nd rfl (Or.inl rfl) (pe_makeK mkP GP hr (by rfl) gPr kbP pass0 (pa_cons (pe_tup (pa_cons (pv 1) pa_nil)) pa_nil) (pk_cons (pv 2) pk_nil)))
      (pss_cons (ps_set (i := 8) scRt29.nd rfl (Or.inr rfl) (pe_callI ⟨fC, iC, GC, bC⟩ nC (hr.mono (by decide)) (pv 7) (pa_cons (pe_tup pa_nil) pa_nil)))
      (pss_cons (ps_for PassesOwn.never rfl (pi_range1 (by rfl) L.rng (pa_cons (pe_callB call_len_seq (by rfl) L.ln PySem.boot_len (pa_cons (pv 6) pa_nil)) pa_nil)) (pg_name (i := 9) scRt29.nd rfl (Or.inl rfl))
        (pss_cons (ps_if (PW.pt (pw_or (pt_val (pe_prop (E := E0) (pv 8) RR.I.cl hI GI (hr.mono (by decide)) bI .nil pass0 (by rfl))) (pw_or (pt_cmpR (op_neD hu) (pe_prop (E := E0) (pv 8) RR.I.cl hN GN (hr.mono (by decide)) bN .nil pass0 (by rfl)) (pe_tup (pa_cons (pe_tup (pa_cons pe_str pa_nil)) pa_nil)) (nomark _))
            (pw_or1 (pt_cmpR (op_neD hu) (pe_prop (E := E0) (pv 8) RR.I.cl hW GW (hr.mono (by decide)) bW .nil pass0 (by rfl)) (pe_tup (pa_cons (pe_callTy call_tuple_of (by rfl) L.tup (by decide +kernel) (pa_cons (pe_slice sl_list (pv 6) po_none (po_some (pv 9))) pa_nil)) pa_nil)) (nomark _)))))) (pss_one (ps_ret pe_bl)) pss_nil)
        (pss_one (ps_set (i := 8) scRt29.nd rfl (Or.inr rfl) (pe_meth (pv 8) RR.I.cl aA GA (hr.mono (by decide)) bA .nil pass0 (pa_cons pe_int pa_nil))))))
      (pss_cons (ps_set (i := 10) scRt29.nd rfl (Or.inl rfl) (pe_lst (pa_cons (pe_prop (E := E0) (pv 8) RR.I.cl hI GI (hr.mono (by decide)) bI .nil pass0 (by rfl)) (pa_cons (pe_prop (E := E0) (pv 8) RR.I.cl hW GW (hr.mono (by decide)) bW .nil pass0 (by rfl)) (pa_cons (pe_prop (E := E0) (pv 8) RR.I.cl hY GY (hr.mono (by decide)) bY .nil pass0 (by rfl)) (pa_cons (pe_prop (E := E0) (pv 8) RR.I.cl hN GN (hr.mono (by decide)) bN .nil pass0 (by rfl))
          (pa_cons (pe_cmpR (eq_own ⟨fE, iE, GE, bE⟩ (hr.mono (by decide))) (pe_callI ⟨fC, iC, GC, bC⟩ nC (hr.mono (by decide)) (pv 7) (pa_cons (pe_op op_repN (pe_tup (pa_cons pe_int pa_nil)) (pe_callB call_len_seq (by rfl) L.ln PySem.boot_len (pa_cons (pv 6) pa_nil))) pa_nil)) (pv 8) (nomark _)) pa_nil)))))))
      (pss_cons (ps_if (pt_cmpR (op_neD hu) (pv 10) (pe_lst (pa_cons pe_bl (pa_cons (pe_tup (pa_cons (pe_callTy call_tuple_of (by rfl) L.tup (by decide +kernel) (pa_cons (pv 6) pa_nil)) pa_nil)) (pa_cons (pe_tup pa_nil) (pa_cons (pe_tup (pa_cons pe_non pa_nil)) (pa_cons pe_bl pa_nil)))))) (nomark _)) (pss_one (ps_ret pe_bl)) pss_nil)
      (pss_one (ps_ret (pe_cmpR (op_eqD hu) (pe_lc (own := [("_law_name", 11)]) rfl scRt29.nd (pi_list (pe_lst (pa_cons pe_str (pa_cons pe_str (pa_cons pe_str (pa_cons pe_str pa_nil)))))) (blkOk_by (N := nRt29) (sc := defScope sRt29) (by decide +kernel)) (fun _ _ _ _ _ => pg_name (i := 11) scRt29.nd rfl (Or.inl rfl)) (fun _ _ _ _ _ => pts_nil)
          (fun _ _ _ _ _ => pe_meth (pv 8) RR.I.cl aH GH (hr.mono (by decide)) bH .nil pass0 (pa_cons pe_int (pa_cons (pv 11) pa_nil))))
        (pe_lst (pa_cons (pe_dget (hu_of hr) (pv 5) pe_str (fun _ _ => rfl)) (pa_cons (pe_dget (hu_of hr) (pv 5) pe_str (fun _ _ => rfl)) (pa_cons (pe_dget (hu_of hr) (pv 5) pe_str (fun _ _ => rfl)) (pa_cons pe_str pa_nil))))) (nomark _))))))))))))), ?_⟩
    have line : (1000 : Nat) < sizeLine := by decide
    -- the code
    refine ⟨_, rfl, (by show 2 ≤ sizeLine; decide), fun q0 hq0 => ?_⟩
    have sq := same_upd (o := .lst [.int 5, .int 5]) hq0
    have dq : d ≠ q0 := fun z => by rw [← z] at hq0; exact hd.ne hq0
    refine ⟨d, q0, 5, 5, 5, rfl, by decide, by decide, hd.mv sq, upd_same, dq, fun H1 v c b1 hd1 _ cs ct ok dp in2 ln tp => ?_⟩
    have bt1 : But d H H1 := fun b o n e => b1 b o n (fun z => by rw [z, hq0] at e; cases e) (sq b o e)
    have size := QL.size c in2
    have qok : QOk c := ⟨ok, QL.dp_up c (by decide : 2 ≤ 3) dp, by omega, by omega, by omega⟩
    clear b1 hq0 sq dq
    refine fun a ha => ?_
    have sa := same_upd (o := .dT []) ha
    have haH : H a = none := by
      cases e : H a with
      | none => rfl
      | some o =>
        have := bt1 a o (fun z => by rw [z] at ha; exact hd1.ne ha) e
        rw [ha] at this
        cases this
    have ad : a ≠ d := fun z => by rw [z] at ha; exact hd1.ne ha
    -- the answers
    refine ⟨_, rfl, d, 6, rfl, hd1.mv sa, by decide, by decide, fun H2 r r0 r1 b2 hd2 => ⟨r, rfl, by omega, by omega, for_range (fun j σ G => (∃ x3 x4 x5 x6 x7 x8 x9 x10 x11, σ = [some (.ref d), some v, some (.ref a), x3, x4, x5, x6, x7, x8, x9, x10, x11]) ∧ Dice G d ∧ But d H G ∧ Tp G v (.tuple c.ds) ∧ ∃ kvs, G a = some (.dT kvs) ∧ AnsK kvs ∧ kvs.length ≤ j)
      ⟨⟨_, _, _, _, _, _, _, _, _, rfl⟩, hd2, (bt1.trans' (s_bt sa)).trans' b2, tp.mv ((TupS.same sa).trans (but_tup b2 (hd1.mv sa))), [], b2 _ _ ad upd_same, AnsK.nil, Nat.le_refl _⟩ (fun j σ G hj h => ?_) (fun σ G h => ?_)⟩⟩
    · obtain ⟨⟨x3, x4, x5, x6, x7, x8, x9, x10, x11, rfl⟩, hdG, bt, tpG, kvs, ea, hk, lk⟩ := h
      have ei : ((0 : Int) + (j : Int)) = ((j : Nat) : Int) := by omega
      rw [ei]
      refine ⟨_, rfl, (by show 9 ≤ sizeLine; decide), fun p1 hp1 => one_str (E := E) (ws := vals9) hdG hp1 (by decide) (by decide) fun G1 x hx b3 hd3 => ?_⟩
      refine ⟨_, rfl, d, 3, rfl, hd3, by decide, by decide, fun G2 r2 _ _ b4 hd4 => ⟨_, _, rfl, rfl, _, rfl, _, rfl, (by show 2 ≤ sizeLine; decide), fun p2 hp2 => one_str (E := E) (ws := ["p", "q"]) hd4 hp2 (by decide) (by decide) fun G3 t ht b5 hd5 => ⟨_, rfl, (by show 2 ≤ sizeLine; decide), fun kp hkp => ?_⟩⟩⟩
      have s6 := same_upd (o := .tup [.str t, .str x]) hkp
      have b35 := (b3.trans' b4).trans' b5
      have ea5 := s6 _ _ (b35 _ _ ad ea)
      have l50 : kvs.length < 50 := by omega
      refine ⟨a, _, rfl, DPut.t (k := keyP (t, x)) ea5 upd_same (by omega), ?_⟩
      have ts : TupS G (upd (upd G3 kp (.tup [.str t, .str x])) a (.dT (putK kvs (keyP (t, x)) (.bl (decide (0 < r2)))))) := ((but_tup b35 hdG).trans (TupS.same s6)).trans (TupS.put ea5 fun _ z => nomatch z)
      refine ⟨⟨_, _, _, _, _, _, _, _, _, rfl⟩, ?_, ?_, tpG.mv ts, _, upd_same, hk.put (pq_nm ht) (vals_ok x hx) l50, ?_⟩
      · obtain ⟨a1, a2, a3, e⟩ := hd5.mv s6
        exact ⟨a1, a2, a3, by rw [upd_ne ad.symm]; exact e⟩
      · intro b o n e
        rw [upd_ne (ne_of_none e haH)]
        exact s6 _ _ (b35 _ _ n (bt _ _ n e))
      · exact Nat.le_trans (length_putK _ _ _) (Nat.succ_le_succ lk)
    obtain ⟨⟨x3, x4, x5, x6, x7, x8, x9, x10, x11, rfl⟩, hdG, bt, tpG, kvs, ea, hk, lk⟩ := h
    clear b2 hd2 sa tp hd1 bt1 ha
    -- the registers
    refine fun rg hrg => ⟨upd_same, [(Sum.inr "a", .str "a"), (Sum.inr "b", .str "b"), (Sum.inr "c", .str "c")], rfl, by decide, ?_⟩
    have srg : Same G (upd (upd G rg (.dK [])) rg (.dK (mergeK [] [(Sum.inr "a", .str "a"), (Sum.inr "b", .str "b"), (Sum.inr "c", .str "c")]))) := same_put hrg (same_upd hrg)
    have erg : RegD (upd (upd G rg (.dK [])) rg (.dK (mergeK [] [(Sum.inr "a", .str "a"), (Sum.inr "b", .str "b"), (Sum.inr "c", .str "c")]))) rg rg0 := by
      unfold RegD
      rw [upd_same]
      have : mergeK [] [(Sum.inr "a", V.str "a"), (Sum.inr "b", .str "b"), (Sum.inr "c", .str "c")] = rgL rg0 := by decide +kernel
      rw [this]
    generalize upd (upd G rg (.dK [])) rg _ = G4 at srg erg ⊢
    refine ⟨(by show 0 ≤ sizeLine; decide), fun fo hfo => ⟨_, _, rfl, ?_⟩⟩
    have sfo := same_upd (o := .lst []) hfo
    have efo : upd G4 fo (.lst []) fo = some (.lst []) := upd_same
    have erg5 : RegD (upd G4 fo (.lst [])) rg rg0 := sfo _ _ erg
    generalize upd G4 fo (.lst []) = G5 at sfo efo erg5 ⊢
    have s45 := srg.trans sfo
    have hfoH : G fo = none := srg.free hfo
    -- what is shown
    have smb : SmB 52 rg0 := ⟨Nat.le_refl _, by decide +kernel⟩
    have bnd : 2 ^ c.s * 52 ≤ 4000000 := Nat.le_trans (Nat.mul_le_mul_right _ (Nat.pow_le_pow_right (by decide) cs)) (by decide)
    refine ⟨_, rfl, _, rfl, _, rfl, _, rfl, v, a, rg, fo, c, askK kvs, rg0, [], 52, rfl, tpG.mv (TupS.same s45), ok, dp, hk.askD (s45 _ _ ea), erg5, efo, smb, bnd, by show 0 + c.tr.length ≤ 1000; omega, fun G6 c6 g6 f6 => ?_⟩
    have f6 : G6 fo = some (.lst ((c.sh (askK kvs) rg0).map V.str)) := f6
    have s6 : Same G G6 := fun b o e => c6.keep b o (fun z => by
      rcases List.mem_cons.mp z with z | z
      · rw [z, hrg] at e
        cases e
      · rw [List.mem_singleton.mp z, hfoH] at e
        cases e) (s45 _ _ e)
    -- the program
    refine ⟨_, rfl, (by show 1 ≤ sizeLine; decide), fun th hth => ⟨_, rfl, rfl, rfl, fun x dx hx hdx nx => ?_⟩⟩
    have s7 := same_upd (o := .tup [v]) hth
    have ndx : upd (upd G6 th (.tup [v])) dx (.own x) x = none := by
      rw [upd_ne (fun z => nx z.symm)]
      exact hx
    have s8 := (same_upd (o := .own x) hdx).trans (same_upd (o := .ins C dx []) ndx)
    have s68 := s7.trans s8
    refine ⟨x, dx, th, v, .ref a, c, rfl, upd_same, s8 _ _ upd_same, tpG.mv ((TupS.same s6).trans (TupS.same s68)), qok, .inr ⟨a, kvs, rfl, s68 _ _ (s6 _ _ ea), hk, fun G9 lvs b9 pm hv => ⟨rfl, ?_⟩⟩⟩
    have s79 : Same (upd G6 th (.tup [v])) G9 := fun b o e => b9 b o (ne_of_none e hx) (s8 b o e)
    have s69 := s7.trans s79
    have eask : askK lvs = askK kvs := by
      funext p y
      unfold askK
      rw [hv]
    have f9 := s69 _ _ f6
    have g9 : RegD G9 rg (c.en (askK kvs) rg0) := s69 _ _ g6
    have s09 : Same G G9 := s6.trans s69
    rw [← eask] at f9 g9
    clear s68 s8 s7 s79 b9 s69 f6 g6
    -- the run
    have trc := trc_all (ask := askK lvs) ok smb bnd
    have eoks := QL.eok (ask := askK lvs) c (e := rg0) ok (by
      have : ∀ n ∈ regs3, PyData.strOk n = true := by decide +kernel
      exact this)
    have lsh := QL.sh_len (ask := askK lvs) c rg0
    have e'd : c.en (askK lvs) rg0 "d" = "d" := QL.out (by decide +kernel) c ok
    revert trc eoks lsh f9 g9 e'd
    generalize c.sh (askK lvs) rg0 = Ls
    generalize c.en (askK lvs) rg0 = e'
    intro f9 g9 trc eoks lsh e'd
    obtain ⟨eok', lok⟩ := eoks
    have le2 : Ls.length ≤ 200 := by omega
    obtain ⟨⟨dxp, th', ce', an', cv', z1, _⟩, _⟩ := id pm
    refine ⟨_, rfl, x, rfl, (by show 0 ≤ sizeLine; decide), fun o ho => ?_⟩
    have so := same_upd (o := .tup []) ho
    have eo : OrdR (upd G9 o (.tup [])) o 0 := upd_same
    have fA := so _ _ f9
    have gA' : RegD (upd G9 o (.tup [])) rg e' := so _ _ g9
    have pmA := pm.mv so
    have s0A := s09.trans so
    generalize upd G9 o (.tup []) = H0 at eo fA gA' pmA s0A ⊢
    clear f9 g9 pm so ho s09 z1
    obtain ⟨⟨dxp, th', ce', an', cv', z1, _⟩, _⟩ := id pmA
    refine ⟨⟨dxp, _, z1⟩, x, o, 0, c, lvs, Ls, e', rfl, eo, Nat.zero_le _, le2, pmA, trc, fun G10 u A1 i1 e1 t1 row1 s10 kn1 rm1 => ?_⟩
    -- the steps
    refine ⟨_, rfl, fo, _, rfl, .inl (SqL.of (s10 _ _ fA)), ((Ls.map V.str).length : Nat), rfl, by omega, by rw [List.length_map]; omega, ?_⟩
    rw [List.length_map]
    have hn : ((Ls.length : Nat) : Int).toNat = Ls.length := Int.toNat_natCast _
    rw [hn]
    refine for_range (fun j σ G => ∃ u A i e t row x9, (∃ x3 x4 x10 x11, σ = [some (.ref d), some v, some (.ref a), x3, x4, some (.ref rg), some (.ref fo), some (.ref x), some (.ref u), x9, x10, x11]) ∧ Same H0 G ∧ H0 A.kn = none ∧ RunM C CR CM CK G u x c lvs Ls e' A j i e t row)
      ⟨u, A1, i1, e1, t1, row1, _, ⟨_, _, _, _, rfl⟩, s10, kn1, rm1⟩ (fun j σ G' hj h => ?_) (fun σ G' h => ?_)
    · obtain ⟨u, A, i, e, t, row, x9, ⟨x3, x4, x10, x11, rfl⟩, s0, kn, rm⟩ := h
      have ei : ((0 : Int) + (j : Int)) = ((j : Nat) : Int) := by omega
      rw [ei]
      obtain ⟨⟨dx, o', cc, li, cl, s1, rt, ns, rd, vv, y1, y2, y3, y4, y5, y6, y7⟩, _, _, tr, hrow, st, _, _⟩ := id rm
      rcases trc_stop tr hrow st with ⟨_, z, _⟩ | ⟨rr, L', rfl, eL, _⟩
      · have := congrArg List.length z
        rw [List.length_drop] at this
        simp at this
        omega
      obtain ⟨pv', rfl, y6⟩ := y6
      refine ⟨_, rfl, u, dx, _, rfl, y1, u, x, c, lvs, Ls, e', A, j, i, e, t, _, rfl, rm, fun G1 t1 => ⟨_, rfl, iteF ?_⟩⟩
      have q1 := t1 _ _ y1
      refine ⟨_, rfl, u, dx, _, rfl, q1, u, dx, _, .ref ns, rfl, q1, rfl, (by show 1 ≤ sizeLine; decide), fun p1 hp1 => ⟨(by show 1 ≤ sizeLine; decide), fun p2 hp2 => ?_⟩⟩
      have s2 := same_upd (o := .tup [.str "show"]) hp1
      have s3 := same_upd (o := .tup [.ref p1]) hp2
      have s23 := s2.trans s3
      refine ⟨.tuple [.tuple [.str "show"]], .tuple [.tuple [.str "show"]], .tup (SqT.of (s23 _ _ (t1 _ _ y5))) (.cons (.tup (SqT.of (s23 _ _ (t1 _ _ y6))) (.cons (.str _) .nil)) .nil), .tup (SqT.of upd_same) (.cons (.tup (SqT.of (s3 _ _ upd_same)) (.cons (.str _) .nil)) .nil), by decide +kernel, by decide +kernel, _, rfl, ?_⟩
      rw [PySem.SeqAt.eqv_refl _ (by decide +kernel)]
      have t3 := t1.trans s23
      generalize upd (upd G1 p1 (.tup [.str "show"])) p2 (.tup [.ref p1]) = G3 at t3 s3 s23 ⊢
      have q3 := t3 _ _ y1
      refine iteF ⟨_, rfl, u, dx, _, rfl, q3, u, dx, _, .ref s1, rfl, q3, rfl, _, rfl, _, rfl, _, rfl, fo, _, rfl, SqL.of (t3 _ _ (s0 _ _ fA)), fun p4 hp4 => ⟨p4, _, rfl, .inl ⟨SqL.of upd_same, fun p5 hp5 => ⟨(by show 1 ≤ sizeLine; decide), fun p6 hp6 => ?_⟩⟩⟩⟩
      have jl : j ≤ (Ls.map V.str).length := by rw [List.length_map]; omega
      rw [cut_list _ _ jl, ← List.map_take] at *
      have s4 := same_upd (o := .lst ((Ls.take j).map V.str)) hp4
      have s5 := same_upd (o := .tup ((Ls.take j).map V.str)) hp5
      have s6 := same_upd (o := .tup [.ref p5]) hp6
      have s46 := s4.trans (s5.trans s6)
      obtain ⟨sh2, ev2⟩ := strs_shp (l := Ls.take j) fun x hx => lok x (List.mem_of_mem_take hx)
      refine ⟨.tuple [.tuple ((Ls.take j).map PyData.str)], .tuple [.tuple ((Ls.take j).map PyData.str)], .tup (SqT.of (s46 _ _ (t3 _ _ y3))) (.cons (.tup (SqT.of (s46 _ _ (t3 _ _ y4))) (strs_dp _)) .nil), .tup (SqT.of upd_same) (.cons (.tup (SqT.of (s6 _ _ upd_same)) (strs_dp _)) .nil), sh2, sh2, _, rfl, ?_⟩
      rw [ev2]
      have t6 := t3.trans s46
      generalize upd (upd (upd G3 p4 (.lst ((Ls.take j).map V.str))) p5 (.tup ((Ls.take j).map V.str))) p6 (.tup [.ref p5]) = G6 at t6 ⊢
      refine iteF ⟨_, rfl, u, dx, _, rfl, t6 _ _ y1, rfl, H0, u, x, c, lvs, Ls, e', A, j, i, e, t, rr, rfl, s0.trans t6, kn, pmA, rm.mv t6, fun G9 u' A' i2 e2 t2 row2 s9 kn9 rm9 => ?_⟩
      exact ⟨u', A', i2, e2, t2, row2, _, ⟨_, _, _, _, rfl⟩, s9, kn9, rm9⟩
    -- the end
    obtain ⟨u, A, i, e, t, row, x9, ⟨x3, x4, x10, x11, rfl⟩, s0, kn, rm⟩ := h
    obtain ⟨⟨dx, o', cc, li, cl, s1, rt, ns, rd, vv, y1, y2, y3, y4, y5, y6, y7⟩, _, _, tr, hrow, st, _, _⟩ := id rm
    rw [List.drop_length] at tr
    rw [List.take_length] at y4
    rcases trc_stop tr hrow st with ⟨er, _, ee⟩ | ⟨_, _, _, z, _⟩
    · subst er ee
      have y6 : vv = .non := y6
      subst y6
      have y7 : G' rd = some (.tup []) := y7
      refine ⟨_, rfl, u, dx, _, rfl, y1, u, x, c, lvs, Ls, e, A, _, i, e, t, _, rfl, rm, fun G1 t1 => ?_⟩
      have q1 := t1 _ _ y1
      have s01 := s0.trans t1
      refine ⟨_, rfl, u, dx, _, rfl, q1, u, dx, _, .ref s1, rfl, q1, rfl, _, rfl, u, dx, _, rfl, q1, u, dx, _, .ref rd, rfl, q1, rfl, _, rfl, u, dx, _, rfl, q1, u, dx, _, .ref ns, rfl, q1, rfl, ?_⟩
      refine ⟨_, rfl, x, rfl, (by show 1 ≤ sizeLine; decide), fun z hz => ?_⟩
      have s2 := same_upd (o := .tup [.int 0]) hz
      have s02 := s01.trans s2
      refine ⟨_, rfl, fo, _, rfl, .inl (SqL.of (s02 _ _ fA)), z, Ls.length, rfl, by rw [List.length_map], upd_same, le2, fun G2 p2 s3 eo2 => ?_⟩
      have s03 := s02.trans s3
      refine ⟨⟨dxp, _, s03 _ _ z1⟩, x, p2, Ls.length, c, lvs, Ls, e, rfl, eo2, Nat.le_refl _, le2, pmA.mv s03, trc, fun G3 u2 A2 i2 e2 t2 row2 s4 _ rm2 => ?_⟩
      have s04 := s03.trans s4
      have t4 : Same G' G3 := t1.trans (s2.trans (s3.trans s4))
      obtain ⟨⟨dx2, o2, cc2, li2, cl2, s12, rt2, ns2, rd2, vv2, w1, _⟩, _⟩ := id rm2
      refine ⟨_, rfl, u2, dx2, _, .ref CR, rfl, w1, .base (.ins (t4 _ _ y1) RR.I.cl RR.I.ha RR.I.hn RR.I.htk RR.I.hm), L.nf, u2, x, c, lvs, Ls, e, A2, Ls.length, i2, e2, t2, row2, u, A, i, e, t, _, rfl, rm2, rm.mv t4, fun G4 s5 => ⟨_, rfl, (by show 5 ≤ sizeLine; decide), fun lp hlp => ?_⟩⟩
      have s6 := same_upd (o := .lst [.bl (!QRow.over.isS), .ref s1, .ref rd, .ref ns, .bl true]) hlp
      have t6 : Same G' (upd G4 lp (.lst [.bl (!QRow.over.isS), .ref s1, .ref rd, .ref ns, .bl true])) := t4.trans (s5.trans s6)
      have s06 := s0.trans t6
      have elp : upd G4 lp (.lst [.bl (!QRow.over.isS), .ref s1, .ref rd, .ref ns, .bl true]) lp = some (.lst [.bl true, .ref s1, .ref rd, .ref ns, .bl true]) := upd_same
      generalize hG6 : upd G4 lp _ = G6
      have t6 : Same G' G6 := by rw [← hG6]; exact t6
      have elp : G6 lp = some (.lst [.bl true, .ref s1, .ref rd, .ref ns, .bl true]) := by rw [← hG6]; exact elp
      have s06 := s0.trans t6
      clear hG6 s6 hlp
      refine ⟨_, rfl, _, rfl, fo, _, rfl, .inl ⟨SqL.of (s06 _ _ fA), fun ta hta => ⟨(by show 1 ≤ sizeLine; decide), fun tb htb => ⟨(by show 0 ≤ sizeLine; decide), fun tc htc => ⟨(by show 1 ≤ sizeLine; decide), fun td htd => ⟨(by show 5 ≤ sizeLine; decide), fun te hte => ?_⟩⟩⟩⟩⟩⟩
      have sA := same_upd (o := .tup (Ls.map V.str)) hta
      have sB := same_upd (o := .tup [.ref ta]) htb
      have sC := same_upd (o := .tup []) htc
      have sD := same_upd (o := .tup [.non]) htd
      have sE := same_upd (o := .lst [.bl true, .ref tb, .ref tc, .ref td, .bl true]) hte
      have sCE := sC.trans (sD.trans sE)
      have sBE := sB.trans sCE
      have sAE := sA.trans sBE
      have lay : PyData.canLay0 (.list [.bool true, .tuple [.tuple (Ls.map PyData.str)], .tuple [], .tuple [.none], .bool true]) = true := by
        show (true && ((PyData.canLayAll0 (Ls.map PyData.str) && true) && (true && ((true && true) && (true && true))))) = true
        rw [strs_lay lok]
        rfl
      have shp5 : SeqAt.shaped (.list [.bool true, .tuple [.tuple (Ls.map PyData.str)], .tuple [], .tuple [.none], .bool true]) = true := by
        refine shp lay ?_
        show max 0 (max (max (PyData.depthAll (Ls.map PyData.str) + 1) 0 + 1) (max (0 + 1) (max (max 0 0 + 1) (max 0 0)))) + 1 ≤ 64
        rw [dep_strs]
        decide
      have t7 := t6.trans sAE
      refine ⟨.list [.bool true, .tuple [.tuple (Ls.map PyData.str)], .tuple [], .tuple [.none], .bool true], .list [.bool true, .tuple [.tuple (Ls.map PyData.str)], .tuple [], .tuple [.none], .bool true],
        .lst (SqL.of (sAE _ _ elp)) (.cons (.bl true) (.cons (.tup (SqT.of (t7 _ _ y3)) (.cons (.tup (SqT.of (t7 _ _ y4)) (strs_dp _)) .nil)) (.cons (.tup (SqT.of (t7 _ _ y7)) .nil) (.cons (.tup (SqT.of (t7 _ _ y5)) (.cons .non .nil)) (.cons (.bl true) .nil))))),
        .lst (SqL.of upd_same) (.cons (.bl true) (.cons (.tup (SqT.of (sCE _ _ upd_same)) (.cons (.tup (SqT.of (sBE _ _ upd_same)) (strs_dp _)) .nil)) (.cons (.tup (SqT.of ((sD.trans sE) _ _ upd_same)) .nil) (.cons (.tup (SqT.of (sE _ _ upd_same)) (.cons .non .nil)) (.cons (.bl true) .nil))))), shp5, shp5, _, rfl, ?_⟩
      rw [PySem.SeqAt.eqv_refl _ lay]
      refine iteF ?_
      have s07 := s0.trans t7
      have rm7 := rm.mv t7
      generalize upd _ te _ = G7 at t7 s07 rm7 ⊢
      -- what is held
      refine ⟨(by show 4 ≤ sizeLine; decide), fun ln hln => ⟨ln, rfl, ⟨_, SqL.of upd_same⟩, fun D hD => lc_list (xs := [.str "a", .str "b", .str "c", .str "d"]) (fun j G => Same (upd G7 ln (.lst [.str "a", .str "b", .str "c", .str "d"])) G ∧ G D = some (.lst (((["a", "b", "c", "d"] : List Str).take j).map fun n => V.str (e n)))) ⟨same_upd hD, upd_same⟩ (fun j G _ z => SqL.of (z.1 _ _ upd_same)) (fun j y G hy z => ?_) (fun G z => ?_)⟩⟩
      · obtain ⟨sG, eD⟩ := z
        have hy : ((["a", "b", "c", "d"] : List Str).map V.str)[j]? = some y := hy
        rw [List.getElem?_map] at hy
        obtain ⟨nm, hnm, rfl⟩ := Option.map_eq_some_iff.mp hy
        have nmOk : ∀ x ∈ (["a", "b", "c", "d"] : List Str), Nm x := by decide +kernel
        have rmG := rm7.mv ((same_upd hln).trans sG)
        obtain ⟨⟨dx3, o3, cc3, li3, cl3, s13, rt3, ns3, rd3, vv3, w13, _⟩, _⟩ := id rmG
        refine ⟨rfl, _, rfl, u, dx3, _, rfl, w13, rfl, _, rfl, u, x, c, lvs, Ls, e, A, _, i, e, t, _, nm, rfl, nmOk nm (List.mem_of_getElem? hnm), rmG, fun G2 s2 => ⟨_, s2 _ _ eD, ?_, same_put hD (sG.trans s2), ?_⟩⟩
        · simp only [List.length_map, List.length_take]
          have : (["a", "b", "c", "d"] : List Str).length = 4 := rfl
          omega
        · rw [upd_same, List.take_add_one, hnm, List.map_append]
          rfl
      · obtain ⟨sG, eD⟩ := z
        have eD : G D = some (.lst ([e "a", e "b", e "c", e "d"].map V.str)) := eD
        have t8 := ((same_upd (o := .lst [.str "a", .str "b", .str "c", .str "d"]) hln).trans sG)
        have g8 : RegD G rg e := t8 _ _ (s07 _ _ gA')
        have dget : ∀ {r : Str}, r ∈ regs3 → DGet G rg (.str r) (some (.str (e r))) := fun {r} hr => by
          have z := DGet.k (k := Sum.inr r) g8
          rw [rg_get hr] at z
          exact z
        refine ⟨_, rfl, rg, _, rfl, dget (by decide +kernel), _, rfl, rg, _, rfl, dget (by decide +kernel), _, rfl, rg, _, rfl, dget (by decide +kernel), (by show 4 ≤ sizeLine; decide), fun l2 hl2 => ?_⟩
        have s9 := same_upd (o := .lst [.str (e "a"), .str (e "b"), .str (e "c"), .str "d"]) hl2
        have lok4 : ∀ y ∈ [e "a", e "b", e "c", e "d"], PyData.strOk y = true := fun y hy => by
          rcases List.mem_cons.mp hy with rfl | hy
          · exact eok' _ (by decide +kernel)
          rcases List.mem_cons.mp hy with rfl | hy
          · exact eok' _ (by decide +kernel)
          rcases List.mem_cons.mp hy with rfl | hy
          · exact eok' _ (by decide +kernel)
          rcases List.mem_cons.mp hy with rfl | hy
          · rw [e'd]
            decide +kernel
          cases hy
        have lay4 : PyData.canLay0 (.list ([e "a", e "b", e "c", e "d"].map PyData.str)) = true := strs_lay lok4
        have shp4 : SeqAt.shaped (.list ([e "a", e "b", e "c", e "d"].map PyData.str)) = true := by
          refine shp lay4 ?_
          show PyData.depthAll ([e "a", e "b", e "c", e "d"].map PyData.str) + 1 ≤ 64
          rw [dep_strs]
          decide
        refine ⟨.list ([e "a", e "b", e "c", e "d"].map PyData.str), .list ([e "a", e "b", e "c", e "d"].map PyData.str), .lst (SqL.of (s9 _ _ eD)) (strs_dp _), .lst (SqL.of upd_same) ?_, shp4, shp4, ?_⟩
        · have z := strs_dp (K := K) (H := upd G l2 (.lst [.str (e "a"), .str (e "b"), .str (e "c"), .str "d"])) [e "a", e "b", e "c", e "d"]
          rw [show ([e "a", e "b", e "c", e "d"].map V.str) = [.str (e "a"), .str (e "b"), .str (e "c"), .str "d"] by rw [e'd]; rfl] at z
          exact z
        rw [PySem.SeqAt.eqv_refl _ lay4]
        have sF : Same H0 _ := s07.trans (t8.trans s9)
        refine q _ (fun b o n eb => sF _ _ (s0A _ _ (bt _ _ n eb))) ((hdG.mv s0A).mv sF)
    · cases z
end
end OM

namespace OM
open PySem PySem.Spec PyProof.Rows L2
/-! ### {k: v, ..} written out, keys tuples -/
def storeT (acc : List (List Key × V)) (kas : List ((List Key × Addr) × V)) : List (List Key × V) := kas.foldl (fun acc q => putK acc q.1.1 q.2) acc
theorem upd_self {H : Hp} {p : Addr} {a : HO} (h : H p = some a) : upd H p a = H := by
  funext x
  by_cases e : x = p
  · rw [e, upd_same, h]
  · rw [upd_ne e]
section
variable {X : Cx} {pos : Pos}
theorem store_T (hu : X.A.units < cLine) {pins : List (Addr × Obj)} {σ : L2.St} {E : Value → Shared → Prop} {D : Addr} {Q : PUnit → Shared → Prop} : ∀ (kas : List ((List Key × Addr) × V)) (vs : List (Value × Value)) (acc : List (List Key × V)) (H : Hp) (s : Shared), Inv X pins σ H s → H D = some (.dT acc) →
    VV (kas.map fun q => (V.ref q.1.2, q.2)) vs → (∀ q ∈ kas, H q.1.2 = some (.tup (q.1.1.map kV))) → acc.length + kas.length ≤ 1000 → (∀ s', Inv X pins σ (upd H D (.dT (storeT acc kas))) s' → Q PUnit.unit s') →
    wpAny (model X.prog X.w) X.A (forIn vs PUnit.unit fun (y : Value × Value) (_ : PUnit) => (do dictSet D y.1 y.2; pure (ForInStep.yield PUnit.unit) : Sem (ForInStep PUnit))) Q E s := by
  intro kas
  induction kas with
  | nil =>
    intro vs acc H s I hD r _ _ q
    obtain rfl : vs = [] := by
      rw [List.map_nil] at r
      cases r
      rfl
    rw [List.forIn_nil]
    have z : upd H D (.dT (storeT acc [])) = H := upd_self hD
    rw [z] at q
    exact wpAny_pure (q s I)
  | cons q1 kas ih =>
    intro vs acc H s I hD r ht hl q
    rw [List.map_cons] at r
    obtain ⟨⟨ku, vu⟩, vs', rfl, r1, r2, r3⟩ : ∃ (p : Value × Value) (vs' : List (Value × Value)), vs = p :: vs' ∧ RelV (V.ref q1.1.2) p.1 ∧ RelV q1.2 p.2 ∧ VV (kas.map fun q => (V.ref q.1.2, q.2)) vs' := by
      cases r with
      | cons a b => exact ⟨_, _, rfl, a.1, a.2, b⟩
    have ek : ku = Value.ref q1.1.2 := r1
    subst ek
    rw [List.length_cons] at hl
    have few : acc.length < sizeLine := by
      have line : (1000 : Nat) < sizeLine := by decide
      omega
    have lp := length_putK acc q1.1.1 q1.2
    rw [List.forIn_cons]
    refine wpAny_bind (wpAny_bind (set_dT hu I hD (ht q1 (by simp)) few r2 fun s' I' => wpAny_pure ?_))
    refine ih vs' (putK acc q1.1.1 q1.2) _ s' I' upd_same r3 (fun q hq => ?_) (by omega) fun s2 I2 => q s2 (by rw [upd_upd] at I2; exact I2)
    have e := ht q (List.mem_cons_of_mem _ hq)
    rw [upd_ne (fun z => by rw [z, hD] at e; cases e)]
    exact e
def tDispT (trs : List (TE × TE)) : TE := fun σ H Q => ∀ p, H p = none → tPairs trs σ (upd H p (.dT [])) fun ps H2 => H2 p = some (.dT []) ∧ ∃ kas : List ((List Key × Addr) × V), ps = kas.map (fun q => (V.ref q.1.2, q.2)) ∧ (∀ q ∈ kas, H2 q.1.2 = some (.tup (q.1.1.map kV))) ∧ kas.length ≤ 15 ∧ Q (.ref p) (upd H2 p (.dT (storeT [] kas)))
theorem pe_dispT (hu : X.A.units < cLine) {keys : List (Option Expr)} {values : List Expr} {trs : List (TE × TE)} (h : PPs X pos keys values trs) (hall : keys.all (·.isSome) = true) (hl : keys.length = values.length) (h0 : keys ≠ [])
    (h15 : keys.length ≤ 15) : PE X (.Dict keys values pos) (tDispT trs) := by
  refine ⟨fun pins s σ H Q I q => ?_⟩
  have hn := I.hok.fresh (Nat.le_refl s.heap.objs.size)
  have I1 := I.laid (a := s.heap.objs.size) (o := .dT []) (h' := s.heap.push { cls := .type "dict", data := .dict #[] }) (t' := s.toks) (fun _ _ q => Heap.get?_push_of_some _ q) (Nat.le_refl _) (dt_empty s.heap I.big)
  have lp := pairTrees_length keys values X.env pos hall hl
  have np : pairTrees keys values X.env pos ≠ [] := fun z => h0 (List.length_eq_zero_iff.mp (by rw [← lp, z]; rfl))
  rw [arm_eval_Dict, zip_pairTrees keys values X.env pos hall hl, dictDisplay_pairs _ np (by omega)]
  refine wpAny_bind (wpAny_standAt (wpAny_bind ?_))
  unfold subDict
  refine wpAny_bind (wpAny_alloc (wpAny_bind (wpAny_holding ?_)))
  rw [if_pos (by omega)]
  refine wpAny_bind (thn (h.run pins _ σ _ _ I1 (q _ hn)) fun ws s2 ⟨ps, H2, I2, rel, e, kas, ep, ht, lk, q2⟩ => ?_)
  subst ep
  refine wpAny_holding (wpAny_bind (store_T hu kas ws [] H2 s2 I2 e rel ht (by rw [List.length_nil]; omega) fun s3 I3 => ?_))
  exact wpAny_pure (wpAny_pure (wpAny_pure ⟨V.ref s.heap.objs.size, _, I3, rfl, q2⟩))
end
end OM

namespace OM
open PySem PySem.Spec PyProof.Rows L2
theorem key_reads {h : Heap} {k : Key} {u : Value} (e : keyIs k u = true) : Reads h u (kD k) [] := by
  rcases keyIs_shape e with ⟨i, t, rfl, rfl⟩ | ⟨x, t, rfl, rfl⟩
  · exact .int i t
  · exact .str x t
theorem At.reads {h : Heap} {v : V} {u : Value} {d : PyData} (a : At v d) (r : RelV v u) : Reads h u d [] := by
  cases a with
  | non =>
    obtain rfl : u = Value.none := r
    exact .none
  | bl b =>
    obtain rfl : u = Value.bool b := r
    exact .bool b
  | int i =>
    obtain ⟨t, rfl⟩ : ∃ t, u = Value.int i t := r
    exact .int i t
  | str x =>
    obtain ⟨t, rfl⟩ : ∃ t, u = Value.str x t := r
    exact .str x t
section
variable {P : Program} {w : World} {H : Hp} {h : Heap} {S : Addr → Prop}
mutual
theorem Dt.reads (hok : HOk P w H h) : ∀ {v : V} {d : PyData} {u : Value}, Dt S H v d → RelV v u → ∃ as, Reads h u d as ∧ ∀ b ∈ as, H b ≠ none
  | _, _, _, .at a, r => ⟨[], a.reads r, fun _ z => nomatch z⟩
  | _, _, u, @Dt.lst _ _ a xs ds s e hl hx, r => by
    obtain rfl : u = Value.ref a := r
    obtain ⟨_, its, n, rv, eo⟩ := (show ObjOk P w H h a (.lst xs) from hok a _ e)
    obtain ⟨as, ra, na⟩ := DtAll.reads hok hx rv
    refine ⟨a :: as, .list eo rfl rfl (by simpa using ra), fun b hb => ?_⟩
    rcases List.mem_cons.mp hb with rfl | hb
    · rw [e]
      exact fun z => nomatch z
    · exact na b hb
  | _, _, u, @Dt.tup _ _ a xs ds s e hl hx, r => by
    obtain rfl : u = Value.ref a := r
    obtain ⟨_, its, rv, o, eo, ec, n, ed⟩ := (show ObjOk P w H h a (.tup xs) from hok a _ e)
    obtain ⟨as, ra, na⟩ := DtAll.reads hok hx rv
    exact ⟨as, .tuple eo ec ed (by simpa using ra), na⟩
  | _, _, u, @Dt.dic0 _ _ a s e, r => by
    obtain rfl : u = Value.ref a := r
    obtain ⟨_, _, vs, kv, o, es, ep, eo, ex, ed, ks, ps, _⟩ := (show ObjOk P w H h a (.dK []) from hok a _ e)
    cases kv
    have hes : es.toList = [] := by
      have := ps.length
      simpa using this
    refine ⟨a :: [] ++ [], .dict (kvs := []) eo ex.1 ed (by rw [hes]; exact .nil) (by rw [hes]; exact .nil), fun b hb => ?_⟩
    obtain rfl : b = a := by simpa using hb
    rw [e]
    exact fun z => nomatch z
  | _, _, u, @Dt.dic1 _ _ a k v d s e hd, r => by
    obtain rfl : u = Value.ref a := r
    obtain ⟨_, _, vs, kv, o, es, ep, eo, ex, ed, ks, ps, _⟩ := (show ObjOk P w H h a (.dK [(k, v)]) from hok a _ e)
    cases kv with
    | @cons _ q _ _ hq tl =>
      cases tl
      obtain ⟨ek, rv⟩ := hq
      have key : ∀ l, Pairs (mixKind P w) l [q] → ∃ e1, l = [e1] ∧ (mixKind P w).is q.1 e1.key = true ∧ e1.val = q.2 := fun l p => by
        cases p with
        | cons a b c =>
          cases c
          exact ⟨_, rfl, a, b⟩
      obtain ⟨e1, hes, hk, hv⟩ := key _ ps
      have ek' : k = q.1 := ek
      have hk' : keyIs k e1.key = true := by rw [ek']; exact hk
      have rv' : RelV v e1.val := by rw [hv]; exact rv
      refine ⟨a :: ([] ++ []) ++ ([] ++ []), .dict (kvs := [(kD k, d)]) eo ex.1 ed (by rw [hes]; exact .cons (key_reads hk') .nil) (by rw [hes]; exact .cons (hd.reads rv') .nil), fun b hb => ?_⟩
      obtain rfl : b = a := by simpa using hb
      rw [e]
      exact fun z => nomatch z
theorem DtAll.reads (hok : HOk P w H h) : ∀ {vs : List V} {ds : List PyData} {us : List Value}, DtAll S H vs ds → Vals vs us → ∃ as, ReadsAll h us ds as ∧ ∀ b ∈ as, H b ≠ none
  | _, _, _, .nil, .nil => ⟨[], .nil, fun _ z => nomatch z⟩
  | _, _, _, .cons hd tl, .cons r rs => by
    obtain ⟨as, ra, na⟩ := Dt.reads hok hd r
    obtain ⟨bs, rb, nb⟩ := DtAll.reads hok tl rs
    refine ⟨as ++ bs, .cons ra rb, fun b hb => ?_⟩
    rcases List.mem_append.mp hb with hb | hb
    · exact na b hb
    · exact nb b hb
end
end
/-- repr(x) of a datum -/
def rRep : List V → Hp → VK → Prop := fun xs H Q => ∃ (x : V) (d : PyData) (S : Addr → Prop), xs = [x] ∧ Dt S H x d ∧ d.showable = true ∧ d.depth ≤ 20 ∧ d.shown.length ≤ sizeLine ∧ Q (.str d.shown) H
theorem call_rep {X : Cx} (hg : X.A.guards = some []) (hu : X.A.units + 25 < cLine) (hs : ∃ o, X.base.get? sysModules = some o) : CallR X (.builtin "repr") rRep := by
  intro pins s σ H xs us Q I r h
  obtain ⟨x, d, S, rfl, hd, sh, dep, hz, q⟩ := h
  obtain ⟨u, rfl, ru⟩ := vals1 r
  obtain ⟨hp, g, dr, tk, os⟩ := s
  obtain ⟨as, rd, na⟩ := hd.reads I.hok ru
  obtain ⟨om, hom⟩ := hs
  have hns : sysModules ∉ as := fun z => na _ z (I.bs _ _ hom).2
  have big : ∀ {a : Addr}, u = Value.ref a → wpAny (model X.prog X.w) X.A (call (.builtin "repr") [u]) (EP X pins σ Q) X.xe ⟨hp, g, dr, tk, os⟩ := fun {a} e => by
    subst e
    exact repr_of_reads' rd sh (fun _ => hns) hg (by omega) (fun _ _ z => z) (fun h' u tk2 hk => ⟨.str d.shown, H, I.kept (t' := tk2) hk, ⟨_, rfl⟩, q⟩) hz
  cases hd with
  | «at» h =>
    cases h with
    | non =>
      obtain rfl : u = Value.none := ru
      exact PySem.P.repr_of_none ⟨.str _, H, I.tok _, ⟨_, rfl⟩, q⟩
    | bl b =>
      obtain rfl : u = Value.bool b := ru
      cases b with
      | true => exact PySem.P.repr_of_bool ⟨.str _, H, I.tok _, ⟨_, rfl⟩, q⟩
      | false => exact PySem.P.repr_of_bool ⟨.str _, H, I.tok _, ⟨_, rfl⟩, q⟩
    | int i =>
      obtain ⟨t, rfl⟩ : ∃ t, u = Value.int i t := ru
      have sh' : i.natAbs.log2 < 1920 := by
        unfold PyData.showable at sh
        exact of_decide_eq_true sh
      exact PySem.P.repr_of_int sh' ⟨.str _, H, I.tok _, ⟨_, rfl⟩, q⟩
    | str y =>
      obtain ⟨t, rfl⟩ : ∃ t, u = Value.str y t := ru
      exact PySem.P.repr_of_str ⟨.str _, H, I.tok _, ⟨_, rfl⟩, q⟩ hz
  | lst s e hl h => exact big ru
  | tup s e hl h => exact big ru
  | dic0 s e => exact big ru
  | dic1 s e h => exact big ru
end OM

namespace OM
open PySem PySem.Spec PyProof.Rows L2
/-- a function's promise, wherever no text is being shown around it -/
structure GFn (P : Program) (w : World) (K : PySem.W.Frag) (mg : Str → Option Value) (base : Heap) (n : Nat) (g : Addr) (gd : FuncData) (names : List Str) (sp : Sp) : Prop where
  cnt : ∀ xs H Q E, sp xs H Q E → xs.length = names.length
  go : ∀ (B : Around) (out : List Env) (z : Shared) (H : Hp) (ar : Args) (ws : List Value) (xs : List V) (Q : VK) (E : XK), B.guards = some [] → Room n B → Env0 P w K mg base B out z H → BindsTo z gd ar (names.zip ws) → Vals xs ws → sp xs H Q E →
    codeAny (model P w) B (.call (.ref g) ar) (CR CX0 out P w H z Q E) z
section
variable {P : Program} {w : World} {K : PySem.W.Frag} {mg : Str → Option Value} {base : Heap}
theorem gfn_of {x qual : Str} {st : Stmt} {g : Addr} {gd : FuncData} {N names : List Str} {n : Nat} {sp : Sp} (F : Fun K x qual st g gd) (S : FnScope N names (defScope st)) (cnt : ∀ xs H Q E, sp xs H Q E → xs.length = names.length)
    (bd : ∀ (cv : Value) (B : Around) (out : List Env) (z : Shared) (H : Hp) (xs : List V) (Q : VK) (E : XK), B.guards = some [] → Room n (B.deeper (envOfC qual (defScope st) z.heap.objs.size g cv)) → sp xs H Q E →
      ∃ t, PSs (cxOf CX0 P w K mg base N qual (defScope st) g cv B out z H E).nox (defBody st) t ∧ t { nx := fun _ H' => Q .non H', rt := Q } (start N xs) H) : GFn P w K mg base (n + 1) g gd names sp := by
  obtain ⟨oc, od, kV, doc, pm, an, cv, ct, osl, rfl, lk, hcd⟩ := F.ex
  refine ⟨cnt, fun B out z H ar ws xs Q E hg hr e0 hb rv hs => ?_⟩
  have kz : ∀ b o, base.get? b = some o → z.heap.get? b = some o := fun b o e => (e0.bs b o e).1
  have Kz : K.In z.heap := e0.mod.kin.keeps kz
  have hkinds : ∀ y ∈ names.zip ws, (defScope st).names.lookup y.1 = some .local ∨ ((defScope st).names.lookup y.1 = some .cell ∧ ((cellsFrom (z.heap.objs.size + 1) (defScope st).names []).lookup y.1).isSome = true) := by
    rintro ⟨m, v⟩ hy
    refine (S.par m (List.of_mem_zip hy).1).imp id fun c => ⟨c, PySem.W.cellsFrom_some _ _ _ (.inl c)⟩
  refine codeAny_call_function hr.depth (Kz _ _ lk) rfl S.co S.gen rfl (PySem.W.codeRec_of Kz hcd) (hb _ _ _ _ ?_)
  refine wpAny_newFunctionEnv_cells S.kind hkinds fun ev hev z1 ic => ?_
  subst hev
  refine ⟨(e0.mod.nolimit.keeps kz).keeps ic.toInCall.keep, codeAny_func ?_⟩
  obtain ⟨t, ht, hq⟩ := bd cv B out z H xs Q E hg (hr.deeper _) hs
  refine wpAny_mono (ht.nox.run [] z1 (start N xs) H _ (inv_start (CX := CX0) (E := E) S hr.hd e0 (cnt _ _ _ _ hs) rv ic) hq) (fun fl z2 h2 => ?_) fun _ _ h2 => h2
  cases fl with
  | ret u =>
    obtain ⟨v, σ2, H2, J, r2, q2⟩ := h2
    exact ⟨v, H2, J.os, J.bare, J.base, J.hok, r2, q2⟩
  | next =>
    obtain ⟨σ2, H2, J, q2⟩ := h2
    exact ⟨V.non, H2, J.os, J.bare, J.base, J.hok, (show RelV V.non Value.none from rfl), q2⟩
  | brk =>
    obtain ⟨_, _, _, q2⟩ := h2
    cases q2
  | cont =>
    obtain ⟨_, _, _, q2⟩ := h2
    cases q2
end
section
variable {X : Cx} {n : Nat} {g : Addr} {gd : FuncData} {names : List Str} {sp : Sp} {x : Str} {p pos : Pos} {e : Expr} {es : List Expr} {t : TA}
theorem pe_callG (G : GFn X.prog X.w X.K X.mg X.base n g gd names sp) (hgd : X.A.guards = some []) (hr : Room n X.A) (hg : Gl X x) (hm : X.mg x = some (.ref g)) (hk : PySem.W.keepIn X.K (.ref g) = true) (hb : Binds X.K gd names [])
    (ha : PA X (e :: es) t) (hdb : (x == ("__debug__" : Str)) = false := by decide) (h1 : starEach (e :: es) X.env = (false, eval e X.env) :: starEach es X.env := by rfl) (h2 : (backTo pos (starEach es X.env)).any (·.1) = false := by rfl) :
    PE X (.Call (.Name x p) (e :: es) [] pos) (tCall sp [] E0 t) := by
  refine ⟨fun pins s σ H Q I h => ?_⟩
  refine wpAny_Call_Name_kw (ld_glob I hg hm ?_ hdb)
  refine PySem.W.callWith_K (h₀ := X.base) I.ok.mod.kin hk (thn (ha.run pos pins s σ H _ I h) fun us z ⟨vs, H1, I1, r, q⟩ => ⟨I1.kIn, ?_⟩) h1 h2
  have q0 : sp (vs ++ []) H1 Q E0 := q
  rw [List.append_nil] at q0
  have hl : (us ++ []).length = names.length := by
    rw [List.append_nil, ← r.length]
    exact G.cnt _ _ _ _ q0
  have hbt := hb z us I1.kIn hl
  rw [List.append_nil] at hbt
  show wpAny (model X.prog X.w) X.A (call (.ref g) us) _ _ _
  refine wpAny_call (codeAny_mono (G.go X.A X.stack z H1 ⟨us, []⟩ us vs Q E0 hgd hr I1.env0 hbt r q0) fun res z' hq => ?_)
  match res, hq with
  | .ok (.ret u), hq => exact I1.after hq
  | .error er, hq => exact hq.elim
end
/-- the script is known, or held as it is; nothing else is -/
def Scr (K : PySem.W.Frag) (a : Addr) (H : Hp) : Prop := ∀ b u, H b = some u → b = a ∧ K.lookup a = none ∧ ∃ ob xs, u = HO.frz ob (.lst xs)
theorem run_law {P : Program} {w : World} {K : PySem.W.Frag} {mg mb : Str → Option Value} {n : Nat} {fa a : Addr} {gd : FuncData} {x : Str} {sp : Sp} {z : Shared} {vs : List Value} {H : Hp} (Kz : K.In z.heap) (ng : z.heap.Ns mainGlobals mg) (nb : z.heap.Ns builtinsNs mb)
    (bb : ∀ y : Str, y ≠ "__name__" → mb y = bootBuiltins y) (lim : z.heap.NoLimit) (sm : ∃ mm, z.heap.Ns sysModules mm) (hg : z.gens = #[]) (ha : z.heap.get? a = some { cls := .type "list", data := .seq vs.toArray }) (hr : Room n callerA)
    (F : ∀ base : Heap, K.In base → base.Ns mainGlobals mg → (∃ o, base.get? sysModules = some o) → GFn P w K mg base n fa gd [x] sp) (hbind : ∀ (s : Shared) (u : Value), BindsTo s gd ⟨[u], []⟩ [(x, u)])
    (hS : Scr K a H) (hok : HOk P w H z.heap) (hsp : sp [.ref a] H (fun v _ => v = .bl true) E0) :
    codeAny (model P w) callerA (.call (.ref fa) ⟨[.ref a], []⟩) (fun r z' => r = .ok (.ret (.bool true)) ∧ OldK z.heap z'.heap ∧ z'.os = z.os ∧ AllBare z'.gens) z := by
  have toB : ∀ {b : Addr} {m : Str → Option Value}, z.heap.Ns b m → (hidT z.heap H).Ns b m := by
    rintro b m ⟨o, es, ep, e, d, r⟩
    refine ⟨o, es, ep, hidT_get e ?_, d, r⟩
    cases q : H b with
    | none => rfl
    | some u =>
      obtain ⟨rfl, _⟩ := hS _ _ q
      rw [ha] at e
      cases e
      cases (show Data.seq vs.toArray _ = Data.dict es ep from d)
  have Kb : K.In (hidT z.heap H) := fun b o e => hidT_get (Kz b o e) (by
    cases q : H b with
    | none => rfl
    | some u =>
      obtain ⟨rfl, z0, _⟩ := hS _ _ q
      rw [z0] at e
      cases e)
  have M : Mod K mg (hidT z.heap H) := ⟨Kb, toB ng, ⟨mb, toB nb, bb⟩, by
    obtain ⟨mc, h1, h2⟩ := lim
    exact ⟨mc, toB h1, h2⟩⟩
  have hs : ∃ o, (hidT z.heap H).get? sysModules = some o := by
    obtain ⟨mm, q⟩ := sm
    obtain ⟨o, _, _, e, _⟩ := toB q
    exact ⟨o, e⟩
  have e0 : Env0 P w K mg (hidT z.heap H) callerA [] z H := ⟨rfl, M, fun b o e => of_hidT e, Nat.le_of_eq (hidT_size _ _), trivial, (fun b hb => by cases (show b ∈ ([] : List Addr) from hb)), hok, .of_eq hg⟩
  refine codeAny_mono ((F _ Kb (toB ng) hs).go callerA [] z H ⟨[.ref a], []⟩ [.ref a] [.ref a] _ _ rfl hr e0 (hbind z (.ref a)) (.cons rfl .nil) hsp) fun res z' q => ?_
  match res, q with
  | .error e, q => exact q.elim
  | .ok (.ret u), q =>
    obtain ⟨v, H', os, bare, un, hok', r', q'⟩ := q
    subst q'
    obtain rfl : u = Value.bool true := r'
    refine ⟨rfl, OldK.of_keep fun b o e => ?_, os, bare⟩
    cases y : H b with
    | none => exact un.keep b o e y (fun k => by cases (show b ∈ ([] : List Addr) from k)) (fun k => by cases (show b ∈ ([] : List Addr) from k))
    | some u =>
      obtain ⟨rfl, _, ob, xs, rfl⟩ := hS _ _ y
      have h1 := (hok b _ y).1
      have h2 := (hok' b _ (un.frzs b ob _ y)).1
      rw [e] at h1
      cases h1
      exact h2
theorem walkG {l : PySem.W.OpenLaw} {n k : Nat} {q : Program} {loose : List Str} {XP : (Str → Option Value) → Heap → Prop} {YP : World → Heap → Prop} {d : DefRec} {K : Params → PySem.W.Frag} {sp : PySem.W.Frag → Sp} {x : Str} (hn : l.most = some n) (hn2 : n ≤ sizeLine)
    (hdf : d.params.defaults = []) (hi : importsNone q = true) (hr : Room k callerA) (hY : ∀ (w : World) (h : Heap), YP w h → (K w.params).In h)
    (F : ∀ (w : World) (mg : Str → Option Value) (fa : Addr) (h : Heap), (K w.params).In h → h.Ns mainGlobals mg → mg d.name = some (.ref fa) → ∃ gd : FuncData, (∀ (s : Shared) (u : Value), BindsTo s gd ⟨[u], []⟩ [(x, u)]) ∧
      ∀ base : Heap, (K w.params).In base → base.Ns mainGlobals mg → (∃ o, base.get? sysModules = some o) → GFn l.prog w (K w.params) mg base k fa gd [x] (sp (K w.params)))
    (hsp : ∀ (K : PySem.W.Frag) (H : Hp) (a : Addr) (ns : List Int), ns.length ≤ n → SqL K H a (ns.map V.int) → sp K [.ref a] H (fun v _ => v = .bl true) E0) : PySem.W.WalkO q loose XP YP l.row.toRowW d [] (fun f vs => PySem.call f vs) := by
  refine Att.attach_call hn hdf fun w s₀ z mg mb fa o pm cd doc a vs ns G Y ho hd hcd hmg hobj hints hlen hg => ?_
  have Kz := hY w _ Y
  obtain ⟨gd, hb, hF⟩ := F w mg fa _ Kz G.T.g hmg
  have sm : ∃ mm, z.heap.Ns sysModules mm := by
    obtain ⟨mm, h1, _⟩ := (G.T.seer hi).mods
    exact ⟨mm, h1⟩
  have rv := vals_ints hints
  have hl : (ns.map V.int).length ≤ sizeLine := by
    rw [List.length_map]
    omega
  cases hk : (K w.params).lookup a with
  | some o1 =>
    have e := Kz a o1 hk
    rw [hobj] at e
    cases e
    exact run_law (H := fun _ => none) Kz G.T.g G.T.b G.T.builtins G.T.nolimit sm hg hobj hr hF hb (fun b u y => by cases y) (fun b u y => by cases y)
      (hsp _ _ a ns hlen (.inr ⟨_, vs.toArray, _, hk, rfl, rfl, rfl, by rw [List.size_toArray, ← rv.length]; exact hl, by simpa using rv⟩))
  | none =>
    refine run_law (H := fun b => if b = a then some (.frz { cls := .type "list", data := .seq vs.toArray } (.lst (ns.map V.int))) else none) Kz G.T.g G.T.b G.T.builtins G.T.nolimit sm hg hobj hr hF hb (fun b u y => ?_) (fun b u y => ?_)
      (hsp _ _ a ns hlen (.inl (.inr ⟨{ cls := .type "list", data := .seq vs.toArray }, if_pos rfl⟩)))
    · have y1 : (if b = a then some (HO.frz { cls := .type "list", data := .seq vs.toArray } (.lst (ns.map V.int))) else none) = some u := y
      by_cases hb : b = a
      · rw [if_pos hb] at y1
        cases y1
        subst hb
        exact ⟨rfl, hk, _, _, rfl⟩
      · rw [if_neg hb] at y1
        cases y1
    · have y1 : (if b = a then some (HO.frz { cls := .type "list", data := .seq vs.toArray } (.lst (ns.map V.int))) else none) = some u := y
      by_cases hb : b = a
      · rw [if_pos hb] at y1
        cases y1
        subst hb
        exact ⟨hobj, hl, vs, _, rv, hobj⟩
      · rw [if_neg hb] at y1
        cases y1
end OM

namespace OM
open PySem PySem.Spec PyProof.Rows L2
/-! ### tuples of texts, written out -/
def tTp (d : PyData) : TE := fun _ H Q => ∀ v H', Same H H' → Tp H' v d → Q v H'
def tTps (ds : List PyData) : TA := fun _ H Q => ∀ vs H', Same H H' → TpAll H' vs ds → Q vs H'
section
variable {X : Cx} {e : Expr} {es : List Expr} {j k : Nat} {pos : Pos} {x : Str}
theorem pe_tps : PE X (.Constant (.str x) j pos) (tTp (.str x)) := ⟨fun pins s σ H Q I q => pe_str.run pins s σ H Q I (q _ H (Same.refl H) (.str x))⟩
theorem pa_tpn : PA X [] (tTps []) := ⟨fun p pins s σ H Q I q => pa_nil.run p pins s σ H Q I (q _ H (Same.refl H) .nil)⟩
theorem pa_tpc {d : PyData} {ds : List PyData} (h : PE X e (tTp d)) (r : PA X es (tTps ds)) (he : starEach (e :: es) X.env = (false, eval e X.env) :: starEach es X.env := by rfl) : PA X (e :: es) (tTps (d :: ds)) :=
  ⟨fun p pins s σ H Q I q => (pa_cons h r he).run p pins s σ H Q I fun v H1 s1 d1 vs H2 s2 d2 => q _ H2 (s1.trans s2) (.cons (d1.mv (TupS.same s2)) d2)⟩
theorem pe_tpt {ds : List PyData} (h : PA X es (tTps ds)) (hl : ds.length ≤ 1000 := by decide) : PE X (.Tuple es k pos) (tTp (.tuple ds)) :=
  ⟨fun pins s σ H Q I q => (pe_tup h).run pins s σ H Q I fun vs H1 s1 d1 => by
    have l := d1.length
    have : (1000 : Nat) < sizeLine := by decide
    exact ⟨by omega, fun p hp => q _ _ (s1.trans (same_upd hp)) (.tup upd_same (by omega) (d1.mv (TupS.same (same_upd hp))))⟩⟩
end
def q1 : QS := .set "a" "f" ["a", "b"]
def q2 : QS := .set "a" "g" ["a"]
def q3 : QS := .iff "p" "a" (.cons (.shw "a") .nil) (.cons (.shw "b") .nil)
def q4 : QS := .iff "p" "b" .nil (.cons (.shw "c") .nil)
def cLit : QL := .cons q1 (.cons q2 (.cons q3 (.cons q4 .nil)))
def kLit : List (List Key × V) := [(keyP ("p", "g(f(a, b))"), .bl true), (keyP ("p", "b"), .bl true)]
theorem cLit_ok : QOk cLit := by
  have n1 : Nm "f" := by show isNameD _ = true; decide +kernel
  have n2 : Nm "g" := by show isNameD _ = true; decide +kernel
  have n3 : Nm "p" := by show isNameD _ = true; decide +kernel
  have ra : ("a" : Str) ∈ regs3 := by decide +kernel
  have rb : ("b" : Str) ∈ regs3 := by decide +kernel
  have rc : ("c" : Str) ∈ regs3 := by decide +kernel
  refine ⟨⟨⟨ra, n1, by decide, fun a h => ?_⟩, ⟨ra, n2, by decide, fun a h => ?_⟩, ⟨n3, ra, ⟨ra, True.intro⟩, ⟨rb, True.intro⟩⟩, ⟨n3, rb, True.intro, ⟨rc, True.intro⟩⟩, True.intro⟩, ⟨True.intro, True.intro, ⟨⟨True.intro, True.intro⟩, ⟨True.intro, True.intro⟩⟩, ⟨True.intro, ⟨True.intro, True.intro⟩⟩, True.intro⟩, by decide, by decide, by decide⟩
  · rcases List.mem_cons.mp h with rfl | h
    · exact ra
    · rw [List.mem_singleton.mp h]
      exact rb
  · rw [List.mem_singleton.mp h]
    exact ra
theorem kLit_ok : AnsK kLit := by
  have n3 : Nm "p" := by show isNameD _ = true; decide +kernel
  have h1 : ∀ x ∈ (["g(f(a, b))", "b"] : List Str), smlD (.str x) = true ∧ shortD (.str x) = true ∧ isValD (.str x) = true := by decide +kernel
  refine ⟨by decide +kernel, fun p hp => ?_, by decide⟩
  rcases List.mem_cons.mp hp with rfl | hp
  · obtain ⟨a, b, c⟩ := h1 "g(f(a, b))" (by simp)
    exact ⟨_, _, _, rfl, n3, a, b, c⟩
  · rw [List.mem_singleton.mp hp]
    obtain ⟨a, b, c⟩ := h1 "b" (by simp)
    exact ⟨_, _, _, rfl, n3, a, b, c⟩
theorem sh_yes : cLit.sh (askK kLit) rg0 = (["g(f(a, b))"] : List Str) := by decide +kernel
theorem sh_no : cLit.sh (askK []) rg0 = (["b", "c"] : List Str) := by decide +kernel
theorem smb0 : SmB 52 rg0 := ⟨Nat.le_refl _, by decide +kernel⟩
end OM

namespace OM
open PySem PySem.Spec PyProof.Rows L2
abbrev nLaw29 : List Str := ["_law_script", "_law_at", "_law_dice_here", "_law_turn", "_law_sets", "_law_code", "_law_yes", "_law_no"]
structure LawH29 (P : Program) (w : World) (K : PySem.W.Frag) (mg : Str → Option Value) (base : Heap) (C CR CM CK : Addr) : Prop where
  L : LawR P w K mg base C CR CM CK
  dice : CallN P w K mg base "_law_dice" 1 ["_law_script", "_law_at"] (spDice K)
  right : CallN P w K mg base "_law_right" 18 ["_law_dice_here"] spRt29
  max : mg "max" = none
  min : mg "min" = none
def spLaw29 (K : PySem.W.Frag) : Sp := fun vs H Q _ => ∃ (a : Addr) (ns : List Int), vs = [.ref a] ∧ ns.length ≤ 63 ∧ SqL K H a (ns.map V.int) ∧ ∀ H', Q (.bl true) H'
theorem seq_but {K : PySem.W.Frag} {H H1 G : Hp} {a p : Addr} {xs : List V} (h : SqL K H a xs) (n : H p = none) (s : Same H H1) (b : But p H1 G) : SqL K G a xs := by
  have k : ∀ {x : Addr} {o : HO}, H x = some o → G x = some o := fun e => b _ _ (ne_of_none e n) (s _ _ e)
  rcases h with (h | ⟨o, h⟩) | h
  · exact .inl (.inl (k h))
  · exact .inl (.inr ⟨o, k h⟩)
  · exact .inr h
theorem TpAll.app {H : Hp} : ∀ {xs ys : List V} {ds es : List PyData}, TpAll H xs ds → TpAll H ys es → TpAll H (xs ++ ys) (ds ++ es)
  | _, _, _, _, .nil, h => h
  | _, _, _, _, .cons a r, h => .cons a (TpAll.app r h)
section
variable {P : Program} {w : World} {K : PySem.W.Frag} {mg : Str → Option Value} {base : Heap} {f C CR CM CK : Addr} {fd : FuncData}
theorem scLaw29 : FnScope nLaw29 ["_law_script"] (defScope sLaw29) := ⟨rfl, rfl, rfl, by decide +kernel, rfl, by decide +kernel, by decide +kernel⟩
theorem ok_law29 (F : Fun K "law" "law" sLaw29 f fd) (R : LawH29 P w K mg base C CR CM CK) : GFn P w K mg base 19 f fd ["_law_script"] (spLaw29 K) := by
  obtain ⟨fD, dD, gD, kD, bD, GD⟩ := R.dice
  obtain ⟨fR, dR, gR, kR, bR, GR⟩ := R.right
  obtain ⟨gP, dP, mv, _, mkP, gPr, kbP, GP⟩ := R.L.prog
  obtain ⟨gP0, dP0, dsv, mkP0, gPr0, hv0, bP0, GP0⟩ := R.L.prog0
  obtain ⟨gC, dC, fC, iC, nC, bC, GC⟩ := R.L.call
  obtain ⟨pI, gI, dI, hI, GI, bI⟩ := R.L.isEnd
  obtain ⟨pW, gW, dW, hW, GW, bW⟩ := R.L.shw
  have RR := R.L.RR
  refine gfn_of F scLaw29 (fun vs H Q E h => ?_) (fun cdv A outer s H vs Q E hga hr h => ?_)
  · obtain ⟨a, ns, rfl, _⟩ := h
    rfl
  · obtain ⟨a, ns, rfl, hn, hS, q⟩ := h
    have hu : (A.deeper (envOfC "law" (defScope sLaw29) s.heap.objs.size f cdv)).units + 64 < cLine := by
      have := hr.un
      omega
    refine ⟨_, pss_cons (ps_for PassesOwn.never rfl (pi_range1 (by rfl) R.L.rng (pa_cons (pe_callB (call_max2 rfl) (by rfl) R.max (by decide +kernel) (pa_cons pe_int (pa_cons (pe_callB (call_min2 rfl) (by rfl) R.min (by decide +kernel) (pa_cons pe_int
          (pa_cons (pe_callB call_len_seq (by rfl) R.L.ln PySem.boot_len (pa_cons (pv 0) pa_nil)) pa_nil))) pa_nil))) pa_nil)) (pg_name (i := 1) scLaw29.nd rfl (Or.inl rfl))
        (pss_cons (ps_set (i := 2) scLaw29.nd rfl (Or.inl rfl) (pe_call GD (hr.mono (by decide)) (by rfl) gD kD bD .nil pass0 (pa_cons (pv 0) (pa_cons (pv 1) pa_nil))))
        (pss_one (ps_for PassesOwn.never rfl (pi_range1 (by rfl) R.L.rng (pa_cons pe_int pa_nil)) (pg_name (i := 3) scLaw29.nd rfl (Or.inl rfl))
          (pss_one (ps_if (pt_not (pt_val (pe_call GR hr (by rfl) gR kR bR .nil pass0 (pa_cons (pv 2) pa_nil)))) (pss_one (ps_ret pe_bl)) pss_nil))))))
      (pss_cons (ps_set (i := 4) scLaw29.nd rfl (Or.inl rfl) (pe_tpt (ds := [q1.d, q2.d]) (pa_tpc (pe_tpt (pa_tpc pe_tps (pa_tpc pe_tps (pa_tpc pe_tps (pa_tpc (pe_tpt (pa_tpc pe_tps (pa_tpc pe_tps pa_tpn))) pa_tpn))))) (pa_tpc (pe_tpt (pa_tpc pe_tps (pa_tpc pe_tps (pa_tpc pe_tps (pa_tpc (pe_tpt (pa_tpc pe_tps pa_tpn)) pa_tpn))))) pa_tpn))))
      (pss_cons (ps_set (i := 5) scLaw29.nd rfl (Or.inl rfl) (pe_op op_catA (pv 4) (pe_tpt (ds := [q3.d, q4.d]) (pa_tpc (pe_tpt (pa_tpc pe_tps (pa_tpc pe_tps (pa_tpc pe_tps (pa_tpc (pe_tpt (pa_tpc (pe_tpt (pa_tpc pe_tps (pa_tpc pe_tps pa_tpn))) pa_tpn)) (pa_tpc (pe_tpt (pa_tpc (pe_tpt (pa_tpc pe_tps (pa_tpc pe_tps pa_tpn))) pa_tpn)) pa_tpn))))))
          (pa_tpc (pe_tpt (pa_tpc pe_tps (pa_tpc pe_tps (pa_tpc pe_tps (pa_tpc (pe_tpt pa_tpn) (pa_tpc (pe_tpt (pa_tpc (pe_tpt (pa_tpc pe_tps (pa_tpc pe_tps pa_tpn))) pa_tpn)) pa_tpn)))))) pa_tpn)))))
      (pss_cons (ps_par (i := 6) (j := 7) rfl scLaw29.nd rfl rfl (by decide) (by rfl) (by rfl) (pa_cons (pe_makeK mkP GP (hr.mono (by decide)) (by rfl) gPr kbP pass0 (pa_cons (pe_tup (pa_cons (pv 5) pa_nil)) pa_nil) (pk_cons (pe_dispT (Nat.lt_of_succ_lt (hu_of hr)) (pps_cons (pe_tup (pa_cons pe_str (pa_cons pe_str pa_nil))) pe_bl (pps_cons (pe_tup (pa_cons pe_str (pa_cons pe_str pa_nil))) pe_bl pps_nil)) (by rfl) (by rfl) (by simp) (by decide)) pk_nil))
          (pa_cons (pe_make mkP0 GP0 (hr.mono (by decide)) (by rfl) gPr0 bP0 hv0 pass0 (pa_cons (pe_tup (pa_cons (pv 5) pa_nil)) pa_nil)) pa_nil)) (by rfl))
      (pss_one (ps_ret (pe_cmpR (op_eqD hu) (pe_lst (pa_cons (pe_prop (E := E0) (pe_callI ⟨fC, iC, GC, bC⟩ nC (hr.mono (by decide)) (pv 6) (pa_cons (pe_tup (pa_cons pe_int pa_nil)) pa_nil)) RR.I.cl hW GW (hr.mono (by decide)) bW .nil pass0 (by rfl))
          (pa_cons (pe_prop (E := E0) (pe_callI ⟨fC, iC, GC, bC⟩ nC (hr.mono (by decide)) (pv 6) (pa_cons (pe_tup (pa_cons pe_int pa_nil)) pa_nil)) RR.I.cl hI GI (hr.mono (by decide)) bI .nil pass0 (by rfl))
          (pa_cons (pe_prop (E := E0) (pe_callI ⟨fC, iC, GC, bC⟩ nC (hr.mono (by decide)) (pv 7) (pa_cons (pe_tup (pa_cons pe_int (pa_cons pe_int pa_nil))) pa_nil)) RR.I.cl hW GW (hr.mono (by decide)) bW .nil pass0 (by rfl)) pa_nil))))
        (pe_lst (pa_cons (pe_tup (pa_cons (pe_tup (pa_cons pe_str pa_nil)) pa_nil)) (pa_cons pe_bl (pa_cons (pe_tup (pa_cons (pe_tup (pa_cons pe_str (pa_cons pe_str pa_nil))) pa_nil)) pa_nil)))) (nomark _))))))), ?_⟩
    refine ⟨_, rfl, a, _, rfl, .inl hS, 8, _, rfl, 1, _, rfl, _, rfl, ?_⟩
    have hj : 1 ≤ (if (if (((ns.map V.int).length : Nat) : Int) < 8 then (((ns.map V.int).length : Nat) : Int) else 8) > 1 then (if (((ns.map V.int).length : Nat) : Int) < 8 then (((ns.map V.int).length : Nat) : Int) else 8) else 1) ∧
        (if (if (((ns.map V.int).length : Nat) : Int) < 8 then (((ns.map V.int).length : Nat) : Int) else 8) > 1 then (if (((ns.map V.int).length : Nat) : Int) < 8 then (((ns.map V.int).length : Nat) : Int) else 8) else 1) ≤ 8 := by
      split <;> split <;> omega
    revert hj
    generalize (if (if (((ns.map V.int).length : Nat) : Int) < 8 then (((ns.map V.int).length : Nat) : Int) else 8) > 1 then (if (((ns.map V.int).length : Nat) : Int) < 8 then (((ns.map V.int).length : Nat) : Int) else 8) else 1) = jn
    intro hj
    refine ⟨by omega, by omega, fun i m σ H => m = jn.toNat - i ∧ i ≤ jn.toNat ∧ (∃ x1 x2 x3 x4 x5 x6 x7, σ = [some (.ref a), x1, x2, x3, x4, x5, x6, x7]) ∧ SqL K H a (ns.map V.int), ⟨_, rfl, Nat.zero_le _, ⟨_, _, _, _, _, _, _, rfl⟩, hS⟩, ?_⟩
    rintro i m σ H ⟨rfl, hi, ⟨x1, x2, x3, x4, x5, x6, x7, rfl⟩, hS⟩
    rcases Nat.lt_or_ge i jn.toNat with hlt | hge
    · refine .inr ⟨hlt, fun σ' H' => (∃ x1 x2 x3 x4 x5 x6 x7, σ' = [some (.ref a), x1, x2, x3, x4, x5, x6, x7]) ∧ SqL K H' a (ns.map V.int), fun σ' H' h => ⟨jn.toNat - (i + 1), by omega, rfl, hlt, h.1, h.2⟩, ?_⟩
      rintro x H' ⟨rfl, rfl⟩
      refine ⟨_, rfl, _, rfl, a, ns, 0 + i, rfl, hS, fun H1 p s1 n1 d1 => ?_⟩
      refine ⟨4, rfl, by decide, by decide, for_range (fun j σ G => (∃ y1 y3 y4 y5 y6 y7, σ = [some (.ref a), y1, some (.ref p), y3, y4, y5, y6, y7]) ∧ But p H1 G ∧ Dice G p) ⟨⟨_, _, _, _, _, _, rfl⟩, (fun _ _ _ e => e), d1⟩ (fun j σ G hjl h => ?_) (fun σ G h => ?_)⟩
      · obtain ⟨⟨y1, y3, y4, y5, y6, y7, rfl⟩, bG, dG⟩ := h
        exact ⟨_, rfl, p, rfl, dG, fun G2 b2 d2 => ⟨_, rfl, iteF ⟨⟨_, _, _, _, _, _, rfl⟩, bG.tr b2, d2⟩⟩⟩
      · obtain ⟨⟨y1, y3, y4, y5, y6, y7, rfl⟩, bG, dG⟩ := h
        exact ⟨⟨_, _, _, _, _, _, _, rfl⟩, seq_but hS n1 s1 bG⟩
    · refine .inl ⟨hge, ?_⟩
      refine fun v1 H1 s1 d1 => ⟨_, rfl, fun v2 H2 s2 d2 => ?_⟩
      obtain ⟨p1, xs, rfl, e1, l1, h1⟩ := d1.tupI
      obtain ⟨p2, ys, rfl, e2, l2, h2⟩ := d2.tupI
      have lx : xs.length = 2 := h1.length
      have ly : ys.length = 2 := h2.length
      have line : (1000 : Nat) < sizeLine := by decide
      refine ⟨p1, p2, xs, ys, rfl, rfl, SqT.of (s2 _ _ e1), SqT.of e2, by omega, fun z => (by rw [z] at lx; cases lx), fun _ z => (by rw [z] at ly; cases ly), fun _ _ cp hcp => ?_⟩
      have s3 := same_upd (o := .tup (xs ++ ys)) hcp
      have tc : Tp (upd H2 cp (.tup (xs ++ ys))) (.ref cp) (.tuple cLit.ds) := .tup upd_same (by rw [List.length_append]; omega) (TpAll.app (h1.mv ((TupS.same s2).trans (TupS.same s3))) (h2.mv (TupS.same s3)))
      generalize upd H2 cp (.tup (xs ++ ys)) = H3 at tc ⊢
      clear s1 s2 s3 d1 d2 e1 e2 h1 h2 hcp
      -- the first program
      refine ⟨_, rfl, (by show 1 ≤ sizeLine; decide), fun th hth ad had => ⟨(by show 2 ≤ sizeLine; decide), fun k1 hk1 => ⟨(by show 2 ≤ sizeLine; decide), fun k2 hk2 => ?_⟩⟩⟩
      have sa := same_upd (o := .tup [.ref cp]) hth
      have sb := same_upd (o := .dT []) had
      have sc := same_upd (o := .tup [.str "p", .str "g(f(a, b))"]) hk1
      have sd := same_upd (o := .tup [.str "p", .str "b"]) hk2
      have eth := sd _ _ (sc _ _ (sb _ _ (upd_same (H := H3) (a := th) (o := .tup [.ref cp]))))
      have ead := sd _ _ (sc _ _ (upd_same (H := upd H3 th (.tup [.ref cp])) (a := ad) (o := .dT [])))
      have ek1 := sd _ _ (upd_same (H := upd (upd H3 th (.tup [.ref cp])) ad (.dT [])) (a := k1) (o := .tup [.str "p", .str "g(f(a, b))"]))
      have ek2 := upd_same (H := upd (upd (upd H3 th (.tup [.ref cp])) ad (.dT [])) k1 (.tup [.str "p", .str "g(f(a, b))"])) (a := k2) (o := .tup [.str "p", .str "b"])
      have sabcd := sa.trans (sb.trans (sc.trans sd))
      refine ⟨ead, [((keyP ("p", "g(f(a, b))"), k1), .bl true), ((keyP ("p", "b"), k2), .bl true)], rfl, fun q hq => ?_, (by show 2 ≤ 15; decide), rfl, rfl, ?_⟩
      · rcases List.mem_cons.mp hq with rfl | hq
        · exact ek1
        · rw [List.mem_singleton.mp hq]
          exact ek2
      have est : storeT [] [((keyP ("p", "g(f(a, b))"), k1), V.bl true), ((keyP ("p", "b"), k2), .bl true)] = kLit := by
        show putK (putK [] (keyP ("p", "g(f(a, b))")) (V.bl true)) (keyP ("p", "b")) (.bl true) = kLit
        decide +kernel
      rw [est]
      have adth : th ≠ ad := fun z => by rw [← z, upd_same] at had; cases had
      have t4 : TupS H3 (upd (upd (upd (upd (upd H3 th (.tup [.ref cp])) ad (.dT [])) k1 (.tup [.str "p", .str "g(f(a, b))"])) k2 (.tup [.str "p", .str "b"])) ad (.dT kLit)) := (TupS.same sabcd).trans (TupS.put ead fun _ z => nomatch z)
      have eth4 : upd (upd (upd (upd (upd H3 th (.tup [.ref cp])) ad (.dT [])) k1 (.tup [.str "p", .str "g(f(a, b))"])) k2 (.tup [.str "p", .str "b"])) ad (.dT kLit) th = some (.tup [.ref cp]) := by rw [upd_ne adth]; exact eth
      have ead4 : upd (upd (upd (upd (upd H3 th (.tup [.ref cp])) ad (.dT [])) k1 (.tup [.str "p", .str "g(f(a, b))"])) k2 (.tup [.str "p", .str "b"])) ad (.dT kLit) ad = some (.dT kLit) := upd_same
      generalize upd (upd (upd (upd (upd H3 th (.tup [.ref cp])) ad (.dT [])) k1 (.tup [.str "p", .str "g(f(a, b))"])) k2 (.tup [.str "p", .str "b"])) ad (.dT kLit) = H4 at t4 eth4 ead4 ⊢
      have tc4 := tc.mv t4
      clear sa sb sc sd eth ead ek1 ek2 sabcd est adth t4 tc hth had hk1 hk2
      refine fun x dx hx hdx nx => ?_
      have mk8 : ∀ {G : Hp} {x dx : Addr}, G x = none → G dx = none → dx ≠ x → Same G (upd (upd G dx (.own x)) x (.ins C dx [])) := fun {G x dx} hx hdx nx => by
        have ndx : upd G dx (.own x) x = none := by
          rw [upd_ne (fun z => nx z.symm)]
          exact hx
        exact (same_upd (o := .own x) hdx).trans (same_upd (o := .ins C dx []) ndx)
      have s8 := mk8 hx hdx nx
      refine ⟨x, dx, th, .ref cp, .ref ad, cLit, rfl, upd_same, s8 _ _ eth4, tc4.mv (TupS.same s8), cLit_ok, .inr ⟨ad, kLit, rfl, s8 _ _ ead4, kLit_ok, fun H5 lvs b5 pm hv => ⟨rfl, ?_⟩⟩⟩
      have s45 : Same H4 H5 := fun b o e => b5 b o (ne_of_none e hx) (s8 b o e)
      have eask : askK lvs = askK kLit := by
        funext p y
        unfold askK
        rw [hv]
      have tc5 := tc4.mv (TupS.same s45)
      clear s8 s45 b5 tc4 eth4 ead4 hx hdx nx
      -- the second one
      refine ⟨_, rfl, (by show 1 ≤ sizeLine; decide), fun th2 hth2 => ?_⟩
      have sa := same_upd (o := .tup [.ref cp]) hth2
      have eth2 : upd H5 th2 (.tup [.ref cp]) th2 = some (.tup [.ref cp]) := upd_same
      generalize upd H5 th2 (.tup [.ref cp]) = H6 at sa eth2 ⊢
      refine fun x2 dx2 hx2 hdx2 nx2 => ?_
      have s8 := mk8 hx2 hdx2 nx2
      refine ⟨x2, dx2, th2, .ref cp, .non, cLit, rfl, upd_same, s8 _ _ eth2, (tc5.mv (TupS.same sa)).mv (TupS.same s8), cLit_ok, .inl ⟨rfl, fun H7 b7 pm2 => ⟨rfl, _, _, rfl, ?_⟩⟩⟩
      have s67 : Same H6 H7 := fun b o e => b7 b o (ne_of_none e hx2) (s8 b o e)
      have pm7 := pm.mv (sa.trans s67)
      clear s8 s67 b7 sa eth2 tc5 pm hx2 hdx2 nx2 hth2
      -- the runs
      have trc1 := trc_all (ask := askK kLit) cLit_ok.ok smb0 (by decide)
      have trc2 := trc_all (ask := askK []) cLit_ok.ok smb0 (by decide)
      rw [sh_yes, ← eask] at trc1
      rw [sh_no] at trc2
      obtain ⟨⟨dxp, thp, cep, anp, cvp, z1, _⟩, _⟩ := id pm7
      obtain ⟨⟨dxq, thq, ceq, anq, cvq, w1, _⟩, _⟩ := id pm2
      refine ⟨_, rfl, x, rfl, (by show 1 ≤ sizeLine; decide), fun o1 ho1 => ?_⟩
      have sA := same_upd (o := .tup [.int 0]) ho1
      refine ⟨⟨dxp, _, sA _ _ z1⟩, x, o1, 1, cLit, lvs, _, _, rfl, upd_same, by decide, by decide, pm7.mv sA, trc1, fun G1 u1 A1 i1 e1 t1 row1 sB _ rm1 => ?_⟩
      have s1 := sA.trans sB
      obtain ⟨⟨du1, o1', cc1, li1, cl1, s11, rt1, ns1, rd1, vv1, y1, _, y3, y4, _⟩, _⟩ := id rm1
      refine ⟨u1, du1, _, rfl, y1, u1, du1, _, .ref s11, rfl, y1, rfl, ?_⟩
      refine ⟨_, rfl, x, rfl, (by show 1 ≤ sizeLine; decide), fun o2 ho2 => ?_⟩
      have sA2 := same_upd (o := .tup [.int 0]) ho2
      have s2 := s1.trans sA2
      refine ⟨⟨dxp, _, s2 _ _ z1⟩, x, o2, 1, cLit, lvs, _, _, rfl, upd_same, by decide, by decide, pm7.mv s2, trc1, fun G2 u2 A2 i2 e2 t2 row2 sB2 _ rm2 => ?_⟩
      obtain ⟨⟨du2, o2', cc2, li2, cl2, s12, rt2, ns2, rd2, vv2, yy1, _⟩, _, _, tr2, hrow2, st2, _, _⟩ := id rm2
      have s3 := s2.trans sB2
      have t12 := sA2.trans sB2
      refine ⟨u2, du2, _, rfl, yy1, u2, x, cLit, lvs, _, _, A2, 1, i2, e2, t2, row2, rfl, rm2, fun G3 sC => ?_⟩
      have er2 : row2.isS = false := by
        rcases trc_stop tr2 hrow2 st2 with ⟨z, _, _⟩ | ⟨_, _, _, z, _⟩
        · rw [z]
          rfl
        · cases z
      rw [er2]
      have s4 := s3.trans sC
      have t13 := t12.trans sC
      refine ⟨_, rfl, x2, rfl, (by show 2 ≤ sizeLine; decide), fun o3 ho3 => ?_⟩
      have sA3 := same_upd (o := .tup [.int 0, .int 0]) ho3
      have s5 := s4.trans sA3
      refine ⟨⟨dxq, _, s5 _ _ w1⟩, x2, o3, 2, cLit, [], _, _, rfl, upd_same, by decide, by decide, pm2.mv s5, trc2, fun G4 u3 A3 i3 e3 t3 row3 sB3 _ rm3 => ?_⟩
      obtain ⟨⟨du3, o3', cc3, li3, cl3, s13, rt3, ns3, rd3, vv3, v1, _, v3, v4, _⟩, _⟩ := id rm3
      have t14 := t13.trans (sA3.trans sB3)
      refine ⟨u3, du3, _, rfl, v1, u3, du3, _, .ref s13, rfl, v1, rfl, (by show 3 ≤ sizeLine; decide), fun lp hlp => ?_⟩
      have sL := same_upd (o := .lst [.ref s11, .bl true, .ref s13]) hlp
      have eL : upd G4 lp (.lst [.ref s11, .bl true, .ref s13]) lp = some (.lst [.ref s11, .bl true, .ref s13]) := upd_same
      refine ⟨(by show 1 ≤ sizeLine; decide), fun a1 ha1 => ⟨(by show 1 ≤ sizeLine; decide), fun a2 ha2 => ⟨(by show 2 ≤ sizeLine; decide), fun a3 ha3 => ⟨(by show 1 ≤ sizeLine; decide), fun a4 ha4 => ⟨(by show 3 ≤ sizeLine; decide), fun a5 ha5 => ?_⟩⟩⟩⟩⟩
      have r1 := same_upd (o := .tup [.str "g(f(a, b))"]) ha1
      have r2 := same_upd (o := .tup [.ref a1]) ha2
      have r3 := same_upd (o := .tup [.str "b", .str "c"]) ha3
      have r4 := same_upd (o := .tup [.ref a3]) ha4
      have r5 := same_upd (o := .lst [.ref a2, .bl true, .ref a4]) ha5
      have r45 := r4.trans r5
      have r35 := r3.trans r45
      have r25 := r2.trans r35
      have r15 := r1.trans r25
      have rL := sL.trans r15
      have tL := t14.trans rL
      refine ⟨.list [.tuple [.tuple [.str "g(f(a, b))"]], .bool true, .tuple [.tuple [.str "b", .str "c"]]], .list [.tuple [.tuple [.str "g(f(a, b))"]], .bool true, .tuple [.tuple [.str "b", .str "c"]]],
        .lst (SqL.of (r15 _ _ eL)) (.cons (.tup (SqT.of (tL _ _ y3)) (.cons (.tup (SqT.of (tL _ _ y4)) (.cons (.str _) .nil)) .nil)) (.cons (.bl true) (.cons (.tup (SqT.of (rL _ _ v3)) (.cons (.tup (SqT.of (rL _ _ v4)) (.cons (.str _) (.cons (.str _) .nil))) .nil)) .nil))),
        .lst (SqL.of upd_same) (.cons (.tup (SqT.of (r35 _ _ upd_same)) (.cons (.tup (SqT.of (r25 _ _ upd_same)) (.cons (.str _) .nil)) .nil)) (.cons (.bl true) (.cons (.tup (SqT.of (r5 _ _ upd_same)) (.cons (.tup (SqT.of (r45 _ _ upd_same)) (.cons (.str _) (.cons (.str _) .nil))) .nil)) .nil))), by decide +kernel, by decide +kernel, ?_⟩
      rw [PySem.SeqAt.eqv_refl _ (by decide +kernel)]
      exact q _
end
end OM

namespace OM
open PySem PySem.Spec PyProof.Rows L2 VL
/-- two texts, none of them empty: the sum is a new object -/
theorem add_fresh {prog : Program} {w : World} {A : Around} {E : Value → Shared → Prop} {s : Shared} {x y : Str} {t u : Tok} {Q : Value → Shared → Prop} (hx : (x.length == 0) = false) (hy : (y.length == 0) = false) (hz : x.length + y.length ≤ sizeLine)
    (h : Q (.str (x ++ y) s.toks) { s with toks := s.toks + 1 }) : wpAny (model prog w) A (binaryOp .Add (.str x t) (.str y u)) Q E s := by
  refine binaryOp_concat (typeIs_str s x t) (typeIs_str s y u) PyProof.Rows.noFill_str_add PyProof.Rows.seq_str_add ?_
  refine call_gives slot_str_add (typeIs_str _ _ _) entry_str_add (args_str_add _ _) (gives_str_add x y t u) ?_
  rw [hx, hy]
  exact ⟨by rw [strLen_append]; exact hz, h⟩
section
variable {X : Cx} {pins : List (Addr × Obj)} {σ : L2.St} {H : Hp} {s : Shared}
/-- behind the store of a local name whose object is known -/
theorem inv_named {i : Nat} {x : Str} {v : V} {u : Value} {m : Str → Option Value} {h' : Heap} {t : Nat} (I : L2.Inv X pins σ H s) (nd : X.N.Nodup) (hi : X.N[i]? = some x) (hk : X.env.kindOf x = some .local) (r : L2.RelV v u)
    (hm : ∀ (j : Nat) (y : Str) (b : V), X.N[j]? = some y → σ[j]? = some (some b) → Vis X.env.scope y → ∃ c, L2.RelV b c ∧ Look X.env s.heap m y c)
    (hn : h'.Ns X.env.locals fun y => if y = x then some u else m y) (sb : Heap.SameBut X.env.locals s.heap h') : L2.Inv X pins (σ.set i (some v)) H { s with heap := h', toks := t } := by
  have cne := I.cne
  have old : ∀ {b : Addr} {o : Obj}, X.s_0.heap.get? b = some o → h'.get? b = s.heap.get? b := fun {b o} e => sb.2 b fun z => by
    have l1 := Heap.lt_size e
    have l2 := I.ok.above
    rw [z] at l1
    exact Nat.lt_irrefl _ (Nat.lt_of_lt_of_le l1 l2)
  have si : i < σ.length := by
    rw [I.len]
    exact (List.getElem?_eq_some_iff.mp hi).1
  refine { ok := I.ok, os := I.os, bare := I.bare, base := ?b, loc := ⟨_, hn, ?l⟩, cell := ?c, free := I.free, freeC := I.freeC, pin := ?p, hok := ?h, len := by rw [List.length_set]; exact I.len }
  case b =>
    refine { I.base with keep := fun b o e n1 n2 n3 => ?_, slot := fun b o e n1 n2 n3 => ?_, there := fun b o e n3 => ?_ }
    · show h'.get? b = some o
      rw [old e]
      exact I.base.keep b o e n1 n2 n3
    · show ∃ sl, h'.get? b = _
      rw [old e]
      exact I.base.slot b o e n1 n2 n3
    · show ∃ o', h'.get? b = some o'
      rw [old e]
      exact I.base.there b o e n3
  case l =>
    intro j y b hj hb hv
    by_cases ji : j = i
    · subst ji
      rw [hi] at hj
      cases hj
      rw [List.getElem?_set_self si] at hb
      cases hb
      exact ⟨u, r, .inl ⟨hk, if_pos rfl⟩⟩
    · rw [List.getElem?_set_ne (fun z => ji z.symm)] at hb
      obtain ⟨c, rc, lk⟩ := hm j y b hj hb hv
      refine ⟨c, rc, lk.imp (fun z => ⟨z.1, ?_⟩) fun z => ⟨z.1, ?_⟩⟩
      · have ne : y ≠ x := fun z => ji (nodup_ix nd hj (z ▸ hi))
        show (if y = x then some u else m y) = _
        rw [if_neg ne]
        exact z.2
      · obtain ⟨cc, c1, c2⟩ := z.2
        exact ⟨cc, c1, c2.sameBut sb (cne y cc c1)⟩
  case c =>
    intro y cc e
    obtain ⟨b, hb⟩ := I.cell y cc e
    exact ⟨b, hb.sameBut sb (cne y cc e)⟩
  case p =>
    intro q hq
    obtain ⟨p1, p2, p3, p4⟩ := I.pin q hq
    exact ⟨(sb.2 q.1 p3).trans p1, p2, p3, p4⟩
  case h =>
    obtain ⟨oL, es, ep, eL, _⟩ := I.loc.choose_spec.1
    intro b ob e
    have fr := I.free
    refine (I.hok b ob e).stay (fun c w' hc q => (sb.2 c fun z => ?_).trans q) (fun _ q => q) fun _ _ q => q
    rcases hc with rfl | hc
    · rw [z, fr] at e
      cases e
    · rw [z, fr] at hc
      cases hc
/-- text = text.replace(sign, nl + sign + nl): sign's object is known and older than what is made -/
theorem rep_body {it : Nat} {tx sg nl c x : Str} {t : Tok} {m : Str → Option Value} {p1 p2 p3 p4 bp1 bp2 ap cp asp c3 c4 : Pos} {j3 j4 : Nat} (I : L2.Inv X pins σ H s) (nd : X.N.Nodup) (hit : X.N[it]? = some tx) (lt : X.env.scope.names.lookup tx = some .local) (hk : X.env.kindOf sg = some .local)
    (dt : (tx == ("__debug__" : Str)) = false) (dc : (tx == ("__classdict__" : Str)) = false) (ds : (sg == ("__debug__" : Str)) = false) (hx : σ[it]? = some (some (.str x))) (hn : s.heap.Ns X.env.locals m) (ms : m sg = some (.str c t)) (ht : t ≠ 0) (h1 : t < s.toks)
    (nn : (nl.length == 0) = false) (cn : (c.length == 0) = false) (hz : nl.length + c.length + nl.length ≤ 1000) (hb : x.length + (x.length + 1) * (nl ++ c ++ nl).length ≤ 16777216)
    (hst : starEach [.Name sg p3, .BinOp (.BinOp (.Constant (.str nl) j3 c3) .Add (.Name sg p4) bp1) .Add (.Constant (.str nl) j4 c4) bp2] X.env = [(false, eval (.Name sg p3) X.env), (false, eval (.BinOp (.BinOp (.Constant (.str nl) j3 c3) .Add (.Name sg p4) bp1) .Add (.Constant (.str nl) j4 c4) bp2) X.env)])
    (hbase : attributeBase (.Name tx p2) "replace" X.env (eval (.Name tx p2) X.env) = eval (.Name tx p2) X.env) (hline : (ap.endLine == cp.line) = true)
    (hsw : swapsWith (.Call (.Attribute (.Name tx p2) "replace" ap) [.Name sg p3, .BinOp (.BinOp (.Constant (.str nl) j3 c3) .Add (.Name sg p4) bp1) .Add (.Constant (.str nl) j4 c4) bp2] [] cp) (some (.Name tx p1)) asp.line X.env = pure false) :
    wpAny (model X.prog X.w) X.A (execs [.Assign [.Name tx p1] (.Call (.Attribute (.Name tx p2) "replace" ap) [.Name sg p3, .BinOp (.BinOp (.Constant (.str nl) j3 c3) .Add (.Name sg p4) bp1) .Add (.Constant (.str nl) j4 c4) bp2] [] cp) asp] X.env)
      (fun f s' => f = .next ∧ L2.Inv X pins (σ.set it (some (.str (Txt.replace x c (nl ++ c ++ nl))))) H s') X.xe s := by
  have line : (1000 : Nat) < sizeLine := by decide
  have vis : Vis X.env.scope tx := Or.inl lt
  have nc : ((nl ++ c).length == 0) = false := by
    rw [strLen_append]
    have : nl.length ≠ 0 := by simpa using nn
    simp
    omega
  refine wpAny_execs_cons (wpAny_Assign_Name ?_ hsw)
  refine PySem.Call_method2 hbase hst hline (raw_name hit vis I hx (fun v r => ?_) dt dc)
  obtain ⟨tx1, rfl⟩ := r
  refine ⟨"str", _, PySem.F.plainAttrs_str, PySem.F.slot_str_replace, PySem.F.type_str_replace, typeIs_str _ _ _, (fun _ e => nomatch e), Calls.callWith_builtin rfl (Calls.evalArgs_plain (Calls.spliced_cons ?_))⟩
  refine wpAny_Name (wpAny_loadName_local I.ok.kind hk hn ms ?_) ds
  refine Calls.spliced_cons (wpAny_BinOp (wpAny_BinOp (Calls.Constant_str (wpAny_Name (wpAny_loadName_local I.ok.kind hk hn ms ?_) ds))))
  refine add_fresh nn cn (by omega) ?_
  refine Calls.Constant_str ?_
  refine add_fresh nc nn (by rw [strLen_append]; omega) ?_
  refine Calls.spliced_nil ?_
  have ne : (c == (nl ++ c ++ nl)) = false := by
    cases z : (c == (nl ++ c ++ nl)) with
    | false => rfl
    | true =>
      have e := congrArg Str.length (eq_of_beq z)
      rw [strLen_append, strLen_append] at e
      have : nl.length ≠ 0 := by simpa using nn
      omega
  refine PySem.SC.replace ht ?_ ?_ ne hb fun t' k => ?_
  · show s.toks + 1 + 1 + 1 ≠ 0
    omega
  · exact Nat.ne_of_lt (Nat.lt_of_lt_of_le h1 (show s.toks ≤ s.toks + 1 + 1 + 1 by omega))
  · exact store_ok (v := V.str (Txt.replace x c (nl ++ c ++ nl))) (I.tok k) nd hit (.inl lt) ⟨t', rfl⟩ (fun s2 I2 => wpAny_execs_nil ⟨rfl, I2⟩) (.inr lt)
end
end OM

namespace OM
open PySem PySem.Spec PyProof.Rows L2 VL
def rp (nl x c : Str) : Str := Txt.replace x c (nl ++ c ++ nl)
def yAt (y0 y1 y2 : Str) : Nat → Str
  | 0 => y0
  | 1 => y1
  | _ => y2
/-- the text behind so many turns -/
def fT (nl y0 y1 y2 x : Str) : Nat → Str
  | 0 => x
  | i + 1 => rp nl (fT nl y0 y1 y2 x i) (yAt y0 y1 y2 i)
/-- the slots behind so many turns -/
def sQ (it is_ : Nat) (nl y0 y1 y2 x : Str) (σ : L2.St) : Nat → L2.St
  | 0 => σ
  | i + 1 => ((sQ it is_ nl y0 y1 y2 x σ i).set is_ (some (.str (yAt y0 y1 y2 i)))).set it (some (.str (fT nl y0 y1 y2 x (i + 1))))
theorem fT_len {nl y0 y1 y2 x : Str} (hz : ∀ i, (nl ++ yAt y0 y1 y2 i ++ nl).length ≤ 4) : ∀ i, (fT nl y0 y1 y2 x i).length + 1 ≤ (x.length + 1) * 5 ^ i
  | 0 => by
    show x.length + 1 ≤ (x.length + 1) * 1
    omega
  | i + 1 => by
    have ih := fT_len (x := x) hz i
    have a := TK.replace_len (fT nl y0 y1 y2 x i) (yAt y0 y1 y2 i) (nl ++ yAt y0 y1 y2 i ++ nl)
    have b := Nat.mul_le_mul_left ((fT nl y0 y1 y2 x i).length + 1) (hz i)
    show (Txt.replace (fT nl y0 y1 y2 x i) (yAt y0 y1 y2 i) (nl ++ yAt y0 y1 y2 i ++ nl)).length + 1 ≤ _
    rw [Nat.pow_succ]
    have c : (x.length + 1) * (5 ^ i * 5) = ((x.length + 1) * 5 ^ i) * 5 := by rw [Nat.mul_assoc]
    rw [c]
    omega
theorem sQ_len (it is_ : Nat) (nl y0 y1 y2 x : Str) (σ : L2.St) : ∀ i, (sQ it is_ nl y0 y1 y2 x σ i).length = σ.length
  | 0 => rfl
  | i + 1 => by
    show ((((sQ it is_ nl y0 y1 y2 x σ i).set _ _).set _ _)).length = _
    rw [List.length_set, List.length_set, sQ_len it is_ nl y0 y1 y2 x σ i]
theorem sQ_it {it is_ : Nat} {nl y0 y1 y2 x : Str} {σ : L2.St} (h : σ[it]? = some (some (.str x))) : ∀ i, (sQ it is_ nl y0 y1 y2 x σ i)[it]? = some (some (.str (fT nl y0 y1 y2 x i)))
  | 0 => h
  | i + 1 => by
    show (((sQ it is_ nl y0 y1 y2 x σ i).set _ _).set it _)[it]? = _
    rw [List.getElem?_set_self]
    rw [List.length_set, sQ_len]
    exact (List.getElem?_eq_some_iff.mp h).1
theorem key3 {y0 y1 y2 : Str} {T : Nat} (h0 : 1 ≤ T) : ∀ i, i < 3 → ∃ t : Nat, (#[Value.str y0 T, .str y1 (T + 1), .str y2 (T + 1 + 1)])[i]? = some (.str (yAt y0 y1 y2 i) t) ∧ t ≠ 0 ∧ t < T + 3
  | 0, _ => ⟨T, rfl, by omega, by omega⟩
  | 1, _ => ⟨T + 1, rfl, by omega, by omega⟩
  | 2, _ => ⟨T + 1 + 1, rfl, by omega, by omega⟩
  | i + 3, h => absurd h (by omega)
/-- for sign in (y0, y1, y2): text = text.replace(sign, nl + sign + nl) -/
theorem pst_rep3 {X : Cx} {it is_ : Nat} {tx sg nl y0 y1 y2 : Str} {p0 p1 p2 p3 p4 bp1 bp2 ap cp asp c3 c4 d0 d1 d2 tp fp : Pos} {j3 j4 k0 k1 k2 kk : Nat} (hp : PassesOwn (model X.prog X.w) X.A X.env X.xe) (hc : X.calm = true) (nd : X.N.Nodup) (hit : X.N[it]? = some tx) (his : X.N[is_]? = some sg) (ne : is_ ≠ it)
    (lt : X.env.scope.names.lookup tx = some .local) (hk : X.env.kindOf sg = some .local) (dt : (tx == ("__debug__" : Str)) = false) (dc : (tx == ("__classdict__" : Str)) = false) (ds : (sg == ("__debug__" : Str)) = false)
    (nn : (nl.length == 0) = false) (yn : ∀ i, ((yAt y0 y1 y2 i).length == 0) = false) (hz : ∀ i, (nl ++ yAt y0 y1 y2 i ++ nl).length ≤ 4)
    (hst : starEach [.Name sg p3, .BinOp (.BinOp (.Constant (.str nl) j3 c3) .Add (.Name sg p4) bp1) .Add (.Constant (.str nl) j4 c4) bp2] X.env = [(false, eval (.Name sg p3) X.env), (false, eval (.BinOp (.BinOp (.Constant (.str nl) j3 c3) .Add (.Name sg p4) bp1) .Add (.Constant (.str nl) j4 c4) bp2) X.env)] := by rfl)
    (hbase : attributeBase (.Name tx p2) "replace" X.env (eval (.Name tx p2) X.env) = eval (.Name tx p2) X.env := by rfl) (hline : (ap.endLine == cp.line) = true := by rfl)
    (hsw : swapsWith (.Call (.Attribute (.Name tx p2) "replace" ap) [.Name sg p3, .BinOp (.BinOp (.Constant (.str nl) j3 c3) .Add (.Name sg p4) bp1) .Add (.Constant (.str nl) j4 c4) bp2] [] cp) (some (.Name tx p1)) asp.line X.env = pure false := by rfl)
    (hfs : ∀ x, foldedSetIterable (.Tuple [.Constant (.str y0) k0 d0, .Constant (.str y1) k1 d1, .Constant (.str y2) k2 d2] kk tp) X.env x = pure x := by intro _; rfl) :
    PST X (.For (.Name sg p0) (.Tuple [.Constant (.str y0) k0 d0, .Constant (.str y1) k1 d1, .Constant (.str y2) k2 d2] kk tp) [.Assign [.Name tx p1] (.Call (.Attribute (.Name tx p2) "replace" ap) [.Name sg p3, .BinOp (.BinOp (.Constant (.str nl) j3 c3) .Add (.Name sg p4) bp1) .Add (.Constant (.str nl) j4 c4) bp2] [] cp) asp] [] fp)
      (fun D σ H => ∃ x, σ[it]? = some (some (.str x)) ∧ x.length ≤ 900 ∧ ∀ H', Same H H' → D.nx (sQ it is_ nl y0 y1 y2 x σ 3) H') := by
  intro pins s σ H D h0 I ⟨x, hx, hl, q⟩
  refine wpAny_For (wpAny_Tuple_spliced ?_) hfs
  show wpAny _ _ (spliced ((false, eval (.Constant (.str y0) k0 d0) X.env) :: backTo tp (starEach [.Constant (.str y1) k1 d1, .Constant (.str y2) k2 d2] X.env))) _ _ s
  refine Calls.spliced_cons (Calls.Constant_str ?_)
  show wpAny _ _ (spliced ((false, eval (.Constant (.str y1) k1 d1) X.env) :: backTo tp (starEach [.Constant (.str y2) k2 d2] X.env))) _ _ _
  refine Calls.spliced_cons (Calls.Constant_str ?_)
  show wpAny _ _ (spliced ((false, eval (.Constant (.str y2) k2 d2) X.env) :: backTo tp (starEach [] X.env))) _ _ _
  refine Calls.spliced_cons (Calls.Constant_str (Calls.spliced_nil ?_))
  have h3 : (3 : Nat) ≤ sizeLine := by decide
  refine ⟨h3, ?_⟩
  have hfree : H s.heap.objs.size = none := I.hok.fresh (Nat.le_refl _)
  have I1 : L2.Inv X pins σ (upd H s.heap.objs.size (.frz { cls := .type "tuple", data := .seq #[.str y0 s.toks, .str y1 (s.toks + 1), .str y2 (s.toks + 1 + 1)] } (.tup [.str y0, .str y1, .str y2]))) { s with toks := s.toks + 1 + 1 + 1, heap := s.heap.push { cls := .type "tuple", data := .seq #[.str y0 s.toks, .str y1 (s.toks + 1), .str y2 (s.toks + 1 + 1)] } } :=
    I.laid (t' := s.toks + 1 + 1 + 1) (fun b u e => Heap.get?_push_of_some _ e) (Nat.le_refl _) ⟨Heap.get?_push_size _ rfl, h3, [.str y0 s.toks, .str y1 (s.toks + 1), .str y2 (s.toks + 1 + 1)], .cons ⟨_, rfl⟩ (.cons ⟨_, rfl⟩ (.cons ⟨_, rfl⟩ .nil)), ⟨_, Heap.get?_push_size _ rfl, rfl, _, rfl⟩⟩
  have sH := same_upd (o := .frz { cls := .type "tuple", data := .seq #[.str y0 s.toks, .str y1 (s.toks + 1), .str y2 (s.toks + 1 + 1)] } (.tup [.str y0, .str y1, .str y2])) hfree
  have eF := upd_same (H := H) (a := s.heap.objs.size) (o := .frz { cls := .type "tuple", data := .seq #[.str y0 s.toks, .str y1 (s.toks + 1), .str y2 (s.toks + 1 + 1)] } (.tup [.str y0, .str y1, .str y2]))
  generalize upd H s.heap.objs.size _ = H1 at I1 sH eF
  show wpAny _ _ (pyIter (.ref s.heap.objs.size)) _ _ ({ s with toks := s.toks + 1 + 1 + 1, heap := s.heap.push { cls := .type "tuple", data := .seq #[.str y0 s.toks, .str y1 (s.toks + 1), .str y2 (s.toks + 1 + 1)] } } : Shared)
  have tk1 : s.toks + 3 ≤ ({ s with toks := s.toks + 1 + 1 + 1, heap := s.heap.push { cls := .type "tuple", data := .seq #[.str y0 s.toks, .str y1 (s.toks + 1), .str y2 (s.toks + 1 + 1)] } } : Shared).toks := Nat.le_refl _
  generalize ({ s with toks := s.toks + 1 + 1 + 1, heap := s.heap.push { cls := .type "tuple", data := .seq #[.str y0 s.toks, .str y1 (s.toks + 1), .str y2 (s.toks + 1 + 1)] } } : Shared) = s1 at I1 tk1 ⊢
  generalize s.heap.objs.size = a at *
  have isT : ∀ {σ' : L2.St} {s' : Shared} {pn : List (Addr × Obj)}, L2.Inv X pn σ' H1 s' → s'.heap.IsTuple a #[.str y0 s.toks, .str y1 (s.toks + 1), .str y2 (s.toks + 1 + 1)] := fun J => ⟨_, (J.hok a _ eF).1, rfl, _, rfl⟩
  have sqt : SqT X.K H1 a [.str y0, .str y1, .str y2] := .inl (.inr ⟨_, eF⟩)
  refine wpAny_pyIter_tuple (isT I1) ?_
  have I2 : L2.Inv X pins σ H1 { s1 with heap := s1.heap.push { cls := .type "tuple_iterator", data := .fields #[.ref a, .int 0 0] } } := I1.kept (t' := s1.toks) fun b o e => Heap.get?_push_of_some _ e
  have fpk : FpOk X pins H1 s1.heap.objs.size := I1.fpOk (Nat.le_refl _) (I1.hok.fresh (Nat.le_refl _))
  have st2 : ({ s1 with heap := s1.heap.push { cls := .type "tuple_iterator", data := .fields #[.ref a, .int 0 0] } } : Shared).heap.IsTupleIter s1.heap.objs.size a 0 := ⟨_, Heap.get?_push_size _ rfl, rfl, rfl⟩
  have tk2 : s.toks + 3 ≤ ({ s1 with heap := s1.heap.push { cls := .type "tuple_iterator", data := .fields #[.ref a, .int 0 0] } } : Shared).toks := tk1
  generalize ({ s1 with heap := s1.heap.push { cls := .type "tuple_iterator", data := .fields #[.ref a, .int 0 0] } } : Shared) = s2 at I2 st2 tk2 ⊢
  generalize s1.heap.objs.size = ia at *
  have T := turn_tuple (P := X.prog) (w := X.w) (K := X.K) (tg := .Name sg p0) a ia
  have stat : ∀ b ∈ [ia], FpOk X pins H1 b := fun b hb => by
    rw [List.mem_singleton.mp hb]
    exact fpk
  refine codeAny_forLoop_any (fun n s' => ∃ i, i ≤ 3 ∧ n = 3 - i ∧ L2.Inv X pins (sQ it is_ nl y0 y1 y2 x σ i) H1 s' ∧ s'.heap.IsTupleIter ia a i ∧ s.toks + 3 ≤ s'.toks) ?_ 3 ⟨0, Nat.zero_le _, rfl, I2, st2, tk2⟩
  rintro n s3 ⟨i, hi, rfl, I3, st3, tk3⟩
  rcases Nat.lt_or_ge i 3 with lt3 | ge3
  · obtain ⟨t, hidx, ht, htl⟩ := key3 (y0 := y0) (y1 := y1) (y2 := y2) h0 i lt3
    refine wpAny_passesOwn hp (wpAny_pyNext_tuple_item st3 (isT I3) hidx fun h' st' sb => ?_)
    obtain ⟨f0, f1, f2, f3, f4, f5⟩ := id fpk
    have I4 : L2.Inv X pins (sQ it is_ nl y0 y1 y2 x σ i) H1 { s3 with heap := h' } := I3.turned (t' := s3.toks) (fun b o hb e => (sb.2 b hb).trans e) f0 f1 f3 f4 f5
    obtain ⟨oi, ei, ci, di⟩ := id st'
    refine wpAny_passesOwn hp (go_of (s := { s3 with heap := h' }) ei ci di (by decide) ?_)
    have I5 := I4.pinned stat (T.obj _ _ st')
    obtain ⟨m, hn, hm⟩ := I5.loc
    refine wpAny_passesOwn hp (wpAny_assign_Name (wpAny_storeName_local hk hn (fun h2 hn2 hs2 => ?_) (by rw [I5.ok.kind]; rfl)))
    have I6 := inv_named (t := s3.toks + 1) (v := .str (yAt y0 y1 y2 i)) (u := .str (yAt y0 y1 y2 i) t) I5 nd his hk ⟨_, rfl⟩ hm hn2 hs2
    have hxi : ((sQ it is_ nl y0 y1 y2 x σ i).set is_ (some (.str (yAt y0 y1 y2 i))))[it]? = some (some (.str (fT nl y0 y1 y2 x i))) := by
      rw [List.getElem?_set_ne ne]
      exact sQ_it hx i
    have hzi := hz i
    have len3 : (nl ++ yAt y0 y1 y2 i ++ nl).length = nl.length + (yAt y0 y1 y2 i).length + nl.length := by rw [strLen_append, strLen_append]
    have small : (fT nl y0 y1 y2 x i).length + ((fT nl y0 y1 y2 x i).length + 1) * (nl ++ yAt y0 y1 y2 i ++ nl).length ≤ 16777216 := by
      have a1 := fT_len (x := x) hz i
      have a2 : 5 ^ i ≤ 5 ^ 2 := Nat.pow_le_pow_right (by decide) (by omega)
      have a3 : (x.length + 1) * 5 ^ i ≤ 901 * 5 ^ 2 := Nat.mul_le_mul (by omega) a2
      have a4 := Nat.mul_le_mul_left ((fT nl y0 y1 y2 x i).length + 1) hzi
      have a5 : (901 : Nat) * 5 ^ 2 = 22525 := by decide
      omega
    refine wpAny_passesOwn hp (wpAny_mono (PySem.wpAny_toks (rep_body I6 nd hit lt hk dt dc ds hxi hn2 (if_pos rfl) ht (Nat.lt_succ_of_lt (Nat.lt_of_lt_of_le htl tk3)) nn (yn i) (by omega) small hst hbase hline hsw)) (fun f s7 hq => ?_) fun _ _ z => z.2)
    obtain ⟨tk7, rfl, I7⟩ := hq
    exact ⟨3 - (i + 1), by omega, i + 1, by omega, rfl, I7.unpinned, T.keep _ _ _ st' (fun b hb o e => (I7.pin (b, o) (List.mem_append_right _ (List.mem_append_right _ (mem_pinsAt hb e)))).1), Nat.le_trans tk3 (Nat.le_trans (Nat.le_succ _) tk7)⟩
  · have e3 : i = 3 := by omega
    subst e3
    refine wpAny_passesOwn hp (wpAny_mono (T.done X rfl rfl rfl hc 3 pins s3 _ H1 X.xe I3 stat st3 ⟨_, sqt, Nat.le_refl _⟩) (fun r s4 hr => ?_) fun _ _ z => z)
    obtain ⟨rfl, I4⟩ := hr
    exact wpAny_execs_nil ⟨_, H1, I4, q H1 sH⟩
end OM

namespace OM
open PySem PySem.Spec PyProof.Rows L2 VL
abbrev sPieces : Stmt := top 22
abbrev nlS : Str := "\n"
theorem nl_tl : TL.tl nlS = [10] := by decide +kernel
theorem rp_L {x c : Str} (hc : TL.tl c ≠ []) (hk : c.cps.all (· < 256) = true) : TL.tl (rp nlS x c) = putIn (TL.tl c) (TL.tl x) := by
  have hz : (nlS ++ c ++ nlS).length ≠ 0 := by
    rw [strLen_append, strLen_append]
    have : nlS.length = 1 := by decide +kernel
    omega
  show TL.tl (Txt.replace x c (nlS ++ c ++ nlS)) = _
  rw [repl_L x c _ hc hk hz, TL.tl_append, TL.tl_append, nl_tl]
  rfl
/-- the text behind the three turns, cut at the line ends -/
theorem split_toks {l : List Nat} (h : 10 ∉ l) : ((Txt.split (fT nlS "(" ")" ", " (S l) 3) nlS).map TL.tl).filter some_ = toks [] l := by
  have t1 : TL.tl ("(" : Str) = [40] := by decide +kernel
  have t2 : TL.tl (")" : Str) = [41] := by decide +kernel
  have t3 : TL.tl (", " : Str) = [44, 32] := by decide +kernel
  have e : TL.tl (fT nlS "(" ")" ", " (S l) 3) = putIn [44, 32] (putIn [41] (putIn [40] l)) := by
    show TL.tl (rp nlS (rp nlS (rp nlS (S l) "(") ")") ", ") = _
    rw [rp_L (by rw [t3]; decide) (by decide +kernel), t3, rp_L (by rw [t2]; decide) (by decide +kernel), t2, rp_L (by rw [t1]; decide) (by decide +kernel), t1]
  rw [TL.split_spl _ nlS (by rw [nl_tl]; decide) (TL.kind_ok (by decide +kernel)), nl_tl, e]
  exact pieces_toks h
def neSw (x : Str) : Bool := some_ (TL.tl x)
theorem filter_tl (ws : List Str) : (ws.map TL.tl).filter some_ = (ws.filter neSw).map TL.tl := by
  rw [List.filter_map]
  rfl
theorem map_vS (ws : List Str) : (ws.map TL.tl).map vS = ws.map V.str := by
  rw [List.map_map]
  exact List.map_congr_left fun x _ => congrArg V.str (SX.S_tl x)
def PvFN (H : Hp) (D : Addr) (ws : List Str) (i : Nat) (G : Hp) : Prop := Same H G ∧ G D = some (.lst (((ws.take i).filter neSw).map V.str))
theorem PSsT.nox {X : Cx} {st : List Stmt} {t : TS} (h : PSsT X.nox st t) : PSsT X st t := fun pins s σ H D h0 I q =>
  wpAny_mono (h pins s σ H D h0 (I.wish _) q) (fun _ _ z => SP.unwish z) fun _ _ z => False.elim z
theorem pt_truthK {X : Cx} {K : PySem.W.Frag} {a : Expr} {ta : TE} (hK : X.K = K) (ha : PE X a ta) (he : ∀ whole, isTrue a X.env whole = (do let v ← whole; standAt a.pos; holding [v] (truthy v))) : PT X a (fun σ H Q => ta σ H fun x H' => ∃ k, TruV K x H' k ∧ Q k H') := by
  subst hK
  exact pt_truth ha he
section
variable {P : Program} {w : World} {K : PySem.W.Frag} {mg : Str → Option Value} {base : Heap} {f : Addr} {fd : FuncData}
theorem scPcN : FnScope ["text", "sign", "piece"] ["text"] (defScope sPieces) := ⟨rfl, rfl, rfl, by decide +kernel, rfl, by decide +kernel, by decide +kernel⟩
theorem ok_pieces (F : Fun K "_pieces" "_pieces" sPieces f fd) : FnOk P w K mg base CX0 1 f fd ["text"] spPieces := by
  obtain ⟨oc, od, kV, doc, pm, an, cdv, ct, osl, rfl, lk, hcd⟩ := F.ex
  refine fn_ofT lk hcd scPcN (by decide +kernel) (by decide) (fun vs H Q E h => ?_) (fun A outer s H vs Q E hr h => ?_)
  · obtain ⟨l, rfl, _⟩ := h
    rfl
  · obtain ⟨l, rfl, ok, l9, n10, q⟩ := h
    refine ⟨_, PSsT.nox (psst_cons (pst_rep3 (it := 0) (is_ := 1) (tx := "text") (sg := "sign") PassesOwn.never rfl scPcN.nd rfl rfl (by decide) rfl rfl (by decide) (by decide) (by decide) (by decide +kernel) (fun i => ?_) (fun i => ?_))
      (PSsT.of (pss_one (ps_ret (pe_lc (own := [("piece", 2)]) rfl scPcN.nd (pi_list (pe_bm PySem.F.plainAttrs_str PySem.F.slot_str_split PySem.F.type_str_split mt_split (pv 0) (pa_cons pe_str pa_nil))) (blkOk_by (N := ["text", "sign", "piece"]) (sc := defScope sPieces) (by decide +kernel))
          (fun _ _ _ _ _ => pg_name (i := 2) scPcN.nd rfl (Or.inl rfl)) (fun _ _ _ _ _ => pts_one (pt_truthK (K := K) rfl (pv 2) (fun _ => rfl))) (fun _ _ _ _ _ => pv 2)))))), ?_⟩
    · match i with
      | 0 => decide +kernel
      | 1 => decide +kernel
      | _ + 2 => exact (by decide +kernel : ((", " : Str).length == 0) = false)
    · match i with
      | 0 => decide +kernel
      | 1 => decide +kernel
      | _ + 2 => exact (by decide +kernel : (nlS ++ (", " : Str) ++ nlS).length ≤ 4)
    · refine ⟨S l, rfl, by rw [SX.S_len]; exact l9, fun H1 s1 => ?_⟩
      have hz4 : ∀ i, (nlS ++ yAt "(" ")" ", " i ++ nlS).length ≤ 4 := fun i => match i with
        | 0 => by decide +kernel
        | 1 => by decide +kernel
        | _ + 2 => (by decide +kernel : (nlS ++ (", " : Str) ++ nlS).length ≤ 4)
      have lf := fT_len (x := S l) hz4 3
      have eSl : (S l).length = l.length := SX.S_len l
      rw [eSl] at lf
      have l5 : (l.length + 1) * 5 ^ 3 ≤ 901 * 5 ^ 3 := Nat.mul_le_mul_right _ (by omega)
      have c5 : (901 : Nat) * 5 ^ 3 = 112625 := by decide
      have line : (200000 : Nat) ≤ sizeLine := by decide
      have sp := PyProof.Rows.split_le (fT nlS "(" ")" ", " (S l) 3) nlS
      have et := split_toks n10
      have es : sQ 0 1 "\n" "(" ")" ", " (S l) (L2.start ["text", "sign", "piece"] [V.str (S l)]) 3 = [some (.str (fT nlS "(" ")" ", " (S l) 3)), some (.str ", "), none] := rfl
      rw [es]
      generalize fT nlS "(" ")" ", " (S l) 3 = X3 at lf sp et ⊢
      refine ⟨_, rfl, rfl, X3, nlS, rfl, rfl, by decide +kernel, by omega, fun p hp => ⟨p, rfl, ⟨_, SqL.of upd_same⟩, fun D hD => ?_⟩⟩
      have s2 := same_upd (o := .lst ((Txt.split X3 nlS).map V.str)) hp
      have e2 := upd_same (H := H1) (a := p) (o := .lst ((Txt.split X3 nlS).map V.str))
      have s12 := s1.trans s2
      generalize upd H1 p _ = H2 at s12 e2 hD ⊢
      refine lc_list (K := K) (g := gName 2) (tt := fun σ H Q => tVar 2 σ H fun x H' => ∃ k, TruV K x H' k ∧ Q k H') (te := tVar 2) (vs := [2]) (σ := [some (.str X3), some (.str ", "), none]) (Qd := fun G => Q (.ref D) G) (xs := (Txt.split X3 nlS).map V.str) (PvFN H2 D (Txt.split X3 nlS)) ⟨same_upd hD, upd_same⟩ (fun i G _ z => SqL.of (z.1 _ _ e2)) (fun i v G hi z => ?_) (fun G z => ?_)
      · rw [List.getElem?_map] at hi
        obtain ⟨y, hy, rfl⟩ := Option.map_eq_some_iff.mp hi
        have li := (List.getElem?_eq_some_iff.mp hy).1
        have ey : neSw y = ((y.length : Int) != 0) := by
          have h1 : (TL.tl y).length = y.length := (TL.len_tl y).symm
          show (!(TL.tl y).isEmpty) = _
          cases hy0 : TL.tl y with
          | nil =>
            rw [hy0] at h1
            have h2 : y.length = 0 := h1.symm
            rw [h2]
            rfl
          | cons c r =>
            rw [hy0] at h1
            have h2 : y.length = r.length + 1 := h1.symm
            rw [h2]
            simp
            omega
        have ym : y.length ≤ sizeLine := by
          cases hy0 : neSw y with
          | false =>
            rw [hy0] at ey
            have : (y.length : Int) = 0 := by simpa using ey.symm
            omega
          | true =>
            have mem : TL.tl y ∈ toks [] l := by
              rw [← et]
              exact List.mem_filter.mpr ⟨List.mem_map.mpr ⟨y, List.mem_of_getElem? hy, rfl⟩, hy0⟩
            have b := (toks_of l.length l [] (Nat.le_refl _) _ mem).2
            rw [← TL.len_tl] at b
            simp at b
            omega
        refine ⟨rfl, _, rfl, neSw y, ⟨ym, ey⟩, ?_⟩
        have et1 : (Txt.split X3 nlS).take (i + 1) = (Txt.split X3 nlS).take i ++ [y] := by
          rw [List.take_add_one, hy]
          rfl
        cases hy0 : neSw y with
        | false =>
          refine iteF ⟨z.1, ?_⟩
          rw [et1, List.filter_append, List.filter_cons, hy0]
          show _ = some (HO.lst (((((Txt.split X3 nlS).take i).filter neSw) ++ []).map V.str))
          rw [List.append_nil]
          exact z.2
        | true =>
          refine iteT ⟨_, rfl, _, z.2, ?_, same_put hD z.1, ?_⟩
          · rw [List.length_map]
            have := List.length_filter_le neSw ((Txt.split X3 nlS).take i)
            rw [List.length_take] at this
            omega
          · rw [upd_same, et1, List.filter_append, List.filter_cons, hy0, List.map_append]
            rfl
      · have e3 := z.2
        rw [List.length_map, List.take_length] at e3
        refine q G D (s12.trans z.1) (s12.free hD) ?_
        rw [← et, filter_tl, map_vS]
        exact e3
end
end OM

namespace OM
open PySem PySem.Spec PyProof.Rows L2 VL
def HasFn (K : PySem.W.Frag) (x qual : Str) (st : Stmt) (f : Addr) : Prop := ∃ fd, Fun K x qual st f fd
def HasN (K : PySem.W.Frag) (f : Addr) : Prop := ∃ fd, FunD K "is_nested_code" "is_nested_code" (defArgs sNested) (defBody sNested) (defScope sNested) [.bl false] [] f fd
/-- names that the text does not bind -/
def freeN : List Str := ["isinstance", "str", "len", "all", "tuple", "zip", "list", "sorted", "sum", "max", "min", "set", "range", "int", "abs", "enumerate", "dict", "bool"]
def freeB (K : PySem.W.Frag) : Bool := freeN.all fun x => decide (PySem.W.nsIn K mainGlobals x = some none)
theorem free_of {K : PySem.W.Frag} {h : Heap} {mg : Str → Option Value} (X : K.In h) (G : h.Ns mainGlobals mg) (b : freeB K = true) (x : Str) (hx : x ∈ freeN) : mg x = none :=
  PySem.W.mg_none_of X G (of_decide_eq_true (List.all_eq_true.mp b x hx))
/-- a written tuple of texts -/
def strV : Value → Option Str
  | .str x _ => some x
  | _ => none
def tupB (K : PySem.W.Frag) (a : Addr) (xs : List Str) : Bool := match K.lookup a with
  | some ⟨.type c, _, .seq its _, _⟩ => decide (c = "tuple") && (decide (its.toList.map strV = xs.map some) && decide (xs.length ≤ 100))
  | _ => false
theorem vals_strs : ∀ {us : List Value} {xs : List Str}, us.map strV = xs.map some → Vals (xs.map V.str) us
  | [], [], _ => .nil
  | [], _ :: _, h => by cases h
  | _ :: _, [], h => by cases h
  | u :: us, x :: xs, h => by
    rw [List.map_cons, List.map_cons] at h
    injection h with h1 h2
    refine .cons ?_ (vals_strs h2)
    unfold strV at h1
    split at h1
    · rename_i y t
      cases h1
      exact ⟨t, rfl⟩
    · cases h1
theorem tupB_ok {K : PySem.W.Frag} {a : Addr} {xs : List Str} (h : tupB K a xs = true) (H : Hp) : SqT K H a (xs.map V.str) := by
  unfold tupB at h
  split at h
  · rename_i c od its n sl hk
    rw [Bool.and_eq_true, Bool.and_eq_true] at h
    obtain ⟨h1, h2, h3⟩ := h
    have e := of_decide_eq_true h1
    subst e
    have e2 := of_decide_eq_true h2
    have e3 := of_decide_eq_true h3
    refine .inr ⟨_, its, n, hk, rfl, rfl, ?_, vals_strs e2⟩
    have l := congrArg List.length e2
    rw [List.length_map, List.length_map, Array.length_toList] at l
    rw [l]
    exact Nat.le_trans e3 (by decide)
  · cases h
def names8 : List Str := ["read", "write", "set", "copy", "get", "put", "if", "show"]
/-- FORMS, as it is written -/
def keysB (K : PySem.W.Frag) (d : Addr) : Bool := match K.lookup d with
  | some ⟨_, _, .dict es _, _⟩ => es.toList.all fun e => match e.key with
    | .str x _ => (formOf x).isSome
    | _ => false
  | _ => false
def formsB (K : PySem.W.Frag) (d : Addr) : Bool := names8.all fun z => match PySem.W.nsIn K d z with
  | some (some (.ref a)) => tupB K a ((formOf z).getD [])
  | _ => false
theorem keysB_ok {K : PySem.W.Frag} {d : Addr} (h : keysB K d = true) {z : Str} (hz : formOf z = none) : PySem.W.nsIn K d z = some none := by
  unfold keysB at h
  split at h
  · rename_i oc od es n sl hk
    have ha := List.all_eq_true.mp h
    unfold PySem.W.nsIn
    rw [hk]
    have f : es.toList.find? (·.key.isStr z) = none := List.find?_eq_none.mpr fun e he y => by
      have := ha e he
      split at this
      · rename_i x t hx
        rw [hx] at y
        have e2 : x = z := by simpa [Value.isStr] using y
        rw [e2, hz] at this
        cases this
      · cases this
    have g : es.toList.any (·.refKey) = false := by
      rw [Bool.eq_false_iff]
      intro y
      obtain ⟨e, he, q⟩ := List.any_eq_true.mp y
      have := ha e he
      split at this
      · rename_i x t hx
        unfold DictEntry.refKey at q
        rw [hx] at q
        cases q
      · cases this
    show (match es.toList.find? (·.key.isStr z) with
      | some e => some (some e.val)
      | none => if es.toList.any (·.refKey) then none else some none) = some none
    rw [f, g]
    rfl
  · cases h
theorem form_names {z : Str} {rs : List Str} (h : formOf z = some rs) : z ∈ names8 := by
  unfold formOf at h
  unfold names8
  repeat' split at h
  all_goals first
    | cases h; done
    | (subst_vars; decide)
theorem formsB_ok {K : PySem.W.Frag} {d : Addr} (h : formsB K d = true) {z : Str} {rs : List Str} (hz : formOf z = some rs) : ∃ a, PySem.W.nsIn K d z = some (some (.ref a)) ∧ ∀ H, SqT K H a (rs.map V.str) := by
  have := List.all_eq_true.mp h z (form_names hz)
  split at this
  · rename_i a ha
    rw [hz] at this
    exact ⟨a, ha, fun H => tupB_ok this H⟩
  · cases this
def HasPI (K : PySem.W.Frag) (f : Addr) : Prop := ∃ fd, FunD K "__init__" "Program.__init__" (defArgs sPIn) (defBody sPIn) (defScope sPIn) [] [("cells", .non), ("answers", .non)] f fd
/-- the six kinds that FOLLOWERS knows -/
def six : List (Option Kd) := [none, some .fn, some .op, some .cm, some .at, some .cl]
def fol6 : List Str := ["start", "function", "(", ", ", "atom", ")"]
def folB (K : PySem.W.Frag) (d : Addr) : Bool := six.all fun a => match PySem.W.nsIn K d (prS a) with
  | some (some (.ref t)) => tupB K t (folL a)
  | _ => false
theorem folB_ok {K : PySem.W.Frag} {d : Addr} (h : folB K d = true) (a : Option Kd) (ha : a ≠ some .wr) : ∃ t, PySem.W.nsIn K d (prS a) = some (some (.ref t)) ∧ ∀ H, SqT K H t ((folL a).map V.str) := by
  have m : a ∈ six := by
    cases a with
    | none => decide
    | some k => cases k <;> first | (exact absurd rfl ha) | decide
  have := List.all_eq_true.mp h a m
  split at this
  · rename_i t e
    exact ⟨t, e, fun H => tupB_ok this H⟩
  · cases this
/-- the rest that is asked of a class that isinstance knows -/
def strC (K : PySem.W.Frag) (C : Addr) : Bool := decide (PySem.W.findIn K (.ref C) "__class__" = some (some (.builtin "object.__class__"))) && (decide (PySem.W.specialIn K (.builtin "object.__class__") "__get__" = some (some (.builtin "getset_descriptor.__get__"))) &&
  (decide (PySem.W.takesIn K (.builtin "object.__class__") = some true) && (decide (PySem.W.mroIn K C (.type "object") = some true) && decide (PySem.W.kitOne K (.ref C) (.ref C) = some true))))
def methB (K : PySem.W.Frag) (f : Addr) : Bool := PySem.W.isFn K (.ref f) && PySem.W.keepIn K (.ref f)
theorem methB_ok {K : PySem.W.Frag} {f : Addr} (h : methB K f = true) : PySem.W.isFn K (.ref f) = true ∧ PySem.W.keepIn K (.ref f) = true := Bool.and_eq_true_iff.mp h
/-- a class of the text's own, without names of these -/
def clsB (K : PySem.W.Frag) (C f : Addr) (as : List Str) : Bool := PySem.W.plainGet K C Str.empty && (PySem.W.hasDictIn K C && (PySem.W.plainOver K C && (decide (PySem.W.findIn K (.ref C) "__setattr__" = some (some (.builtin "object.__setattr__"))) && ((as.all fun a => decide (PySem.W.findIn K (.ref C) a = some none)) &&
  (PySem.W.makesIn K C && (decide (PySem.W.findIn K (.ref C) "__init__" = some (some (.ref f))) && (PySem.W.isFn K (.ref f) && PySem.W.keepIn K (.ref C))))))))
theorem clsB_ok {K : PySem.W.Frag} {C f : Addr} {as : List Str} (h : clsB K C f as = true) : Cls K C ∧ Mk K C f ∧ ∀ a ∈ as, NoAttr K C a := by
  unfold clsB at h
  simp only [Bool.and_eq_true, decide_eq_true_eq] at h
  obtain ⟨h1, h2, h3, h4, h5, h7, h8, h9, h10⟩ := h
  exact ⟨⟨h1, h2, h3, h4⟩, ⟨h7, h8, h9, h10⟩, fun a ha => (show PySem.W.findIn K (.ref C) a = some none from of_decide_eq_true (List.all_eq_true.mp h5 a ha))⟩
theorem prop_mk {K : PySem.W.Frag} {C p g : Addr} {f : Str} {od : Option Addr} {vs : Array Value} {sl : Array (Option Value)} {rest : List Value} (h1 : PySem.W.findIn K (.ref C) f = some (some (.ref p))) (l : K.lookup p = some ⟨.type "property", od, .fields vs, sl⟩) (hv : vs.toList = .ref g :: rest)
    (h2 : decide (PySem.W.specialIn K (.ref p) "__get__" = some (some (.builtin "property.__get__"))) = true) (h3 : decide (PySem.W.takesIn K (.ref p) = some true) = true) : PropOf K C f p g :=
  ⟨h1, of_decide_eq_true h2, of_decide_eq_true h3, rest, by
    unfold PySem.W.recIn
    rw [l]
    simp [hv]⟩
/-- what stands behind the top -/
structure Top29 (K : PySem.W.Frag) (w : World) (g : Nat → Addr) (C CR CK CM dF dO aW aS p0 p6 p7 p8 r0 r10 r11 r13 k0 k1 m0 m3 m4 m5 m6 m7 m8 m9 m10 m11 m12 m13 pT gT pC gC pA gA pN gN pS gS pX gX pR gR pE gE : Addr) : Prop where
  iMAX_LETTERS : ∃ t, PySem.W.nsIn K mainGlobals "MAX_LETTERS" = some (some (.int 8 t))
  iMAX_ARGUMENTS : ∃ t, PySem.W.nsIn K mainGlobals "MAX_ARGUMENTS" = some (some (.int 2 t))
  iMAX_REGISTERS : ∃ t, PySem.W.nsIn K mainGlobals "MAX_REGISTERS" = some (some (.int 2 t))
  iMAX_DEPTH : ∃ t, PySem.W.nsIn K mainGlobals "MAX_DEPTH" = some (some (.int 3 t))
  iMAX_CODE : ∃ t, PySem.W.nsIn K mainGlobals "MAX_CODE" = some (some (.int 60 t))
  iMAX_ON_PATH : ∃ t, PySem.W.nsIn K mainGlobals "MAX_ON_PATH" = some (some (.int 6 t))
  iMAX_THREADS : ∃ t, PySem.W.nsIn K mainGlobals "MAX_THREADS" = some (some (.int 3 t))
  iMAX_ORDER : ∃ t, PySem.W.nsIn K mainGlobals "MAX_ORDER" = some (some (.int 200 t))
  lets : ∃ t, PySem.W.nsIn K mainGlobals "LETTERS" = some (some (.str alphabet t))
  digs : ∃ t, PySem.W.nsIn K mainGlobals "DIGITS" = some (some (.str digits t))
  words : PySem.W.nsIn K mainGlobals "WORDS" = some (some (.ref aW))
  wordsT : tupB K aW words6 = true
  stopsN : PySem.W.nsIn K mainGlobals "STOPS" = some (some (.ref aS))
  stopsT : tupB K aS stops6 = true
  forms : PySem.W.nsIn K mainGlobals "FORMS" = some (some (.ref dF))
  formsD : He.dicW K dF = some (He.keysIn w.params names8)
  formsK : keysB K dF = true
  formsV : formsB K dF = true
  fol : PySem.W.nsIn K mainGlobals "FOLLOWERS" = some (some (.ref dO))
  folD : He.dicW K dO = some (He.keysIn w.params fol6)
  folV : folB K dO = true
  folW : PySem.W.nsIn K dO "wrong" = some none
  pg : PySem.W.nsIn K mainGlobals "Program" = some (some (.ref C))
  pi : PySem.W.findIn K (.ref C) "__init__" = some (some (.ref p0))
  pB : clsB K C p0 ["_threads", "_cells", "_answers"] = true
  fp0 : HasPI K p0
  ep6 : PySem.W.findIn K (.ref C) "__call__" = some (some (.ref p6))
  bp6 : methB K p6 = true
  fip6 : PySem.W.fnIn K p6 = true
  fp6 : HasFn K "__call__" "Program.__call__" sPCall p6
  ep7 : PySem.W.findIn K (.ref C) "__len__" = some (some (.ref p7))
  bp7 : methB K p7 = true
  fip7 : PySem.W.fnIn K p7 = true
  fp7 : HasFn K "__len__" "Program.__len__" sPLen p7
  ep8 : PySem.W.findIn K (.ref C) "__eq__" = some (some (.ref p8))
  bp8 : methB K p8 = true
  fip8 : PySem.W.fnIn K p8 = true
  fp8 : HasFn K "__eq__" "Program.__eq__" sPEq p8
  PpT : PropOf K C "threads" pT gT
  fgT : HasFn K "threads" "Program.threads" (inStK 51 1) gT
  PpC : PropOf K C "cells" pC gC
  fgC : HasFn K "cells" "Program.cells" sPCells gC
  PpA : PropOf K C "answers" pA gA
  fgA : HasFn K "answers" "Program.answers" sPAns gA
  PpN : PropOf K C "names" pN gN
  fgN : HasFn K "names" "Program.names" sPNames gN
  rg : PySem.W.nsIn K mainGlobals "Run" = some (some (.ref CR))
  ri : PySem.W.findIn K (.ref CR) "__init__" = some (some (.ref r0))
  rB : clsB K CR r0 ["_program", "_order", "_moment", "_shown", "_cells", "_lines", "_next_steps", "_ready", "_clashing"] = true
  fr0 : HasFn K "__init__" "Run.__init__" sRuIn r0
  er10 : PySem.W.findIn K (.ref CR) "held" = some (some (.ref r10))
  br10 : methB K r10 = true
  fr10 : HasFn K "held" "Run.held" sHeld r10
  er11 : PySem.W.findIn K (.ref CR) "after" = some (some (.ref r11))
  br11 : methB K r11 = true
  fr11 : HasFn K "after" "Run.after" sAfter r11
  er13 : PySem.W.findIn K (.ref CR) "__eq__" = some (some (.ref r13))
  br13 : methB K r13 = true
  fir13 : PySem.W.fnIn K r13 = true
  fr13 : HasFn K "__eq__" "Run.__eq__" sRuEq r13
  PpS : PropOf K CR "shown" pS gS
  fgS : HasFn K "shown" "Run.shown" (inStK 52 3) gS
  PpX : PropOf K CR "next_steps" pX gX
  fgX : HasFn K "next_steps" "Run.next_steps" (inStK 52 6) gX
  PpR : PropOf K CR "ready" pR gR
  fgR : HasFn K "ready" "Run.ready" (inStK 52 7) gR
  PpE : PropOf K CR "is_end" pE gE
  fgE : HasFn K "is_end" "Run.is_end" sIsEnd gE
  kg : PySem.W.nsIn K mainGlobals "Machine" = some (some (.ref CK))
  ki : PySem.W.findIn K (.ref CK) "__init__" = some (some (.ref k0))
  kB : clsB K CK k0 ["tracks", "told", "known"] = true
  fk0 : HasFn K "__init__" "Machine.__init__" sMaIn k0
  ek1 : PySem.W.findIn K (.ref CK) "value_of" = some (some (.ref k1))
  bk1 : methB K k1 = true
  fk1 : HasFn K "value_of" "Machine.value_of" sValOf k1
  mg : PySem.W.nsIn K mainGlobals "Moment" = some (some (.ref CM))
  mi : PySem.W.findIn K (.ref CM) "__init__" = some (some (.ref m0))
  mB : clsB K CM m0 ["machine", "spots", "worths", "contents", "queues", "rows"] = true
  fm0 : HasFn K "__init__" "Moment.__init__" sMoIn m0
  em3 : PySem.W.findIn K (.ref CM) "row_of" = some (some (.ref m3))
  bm3 : methB K m3 = true
  fm3 : HasFn K "row_of" "Moment.row_of" sRowOf m3
  em4 : PySem.W.findIn K (.ref CM) "step_of" = some (some (.ref m4))
  bm4 : methB K m4 = true
  fm4 : HasFn K "step_of" "Moment.step_of" sStepOf m4
  em5 : PySem.W.findIn K (.ref CM) "can_step" = some (some (.ref m5))
  bm5 : methB K m5 = true
  fm5 : HasFn K "can_step" "Moment.can_step" sCanStep m5
  em6 : PySem.W.findIn K (.ref CM) "movable" = some (some (.ref m6))
  bm6 : methB K m6 = true
  fm6 : HasFn K "movable" "Moment.movable" sMovable m6
  em7 : PySem.W.findIn K (.ref CM) "clashes" = some (some (.ref m7))
  bm7 : methB K m7 = true
  fm7 : HasFn K "clashes" "Moment.clashes" sClashes m7
  em8 : PySem.W.findIn K (.ref CM) "stepped" = some (some (.ref m8))
  bm8 : methB K m8 = true
  fm8 : HasFn K "stepped" "Moment.stepped" sStepped m8
  em9 : PySem.W.findIn K (.ref CM) "take_step" = some (some (.ref m9))
  bm9 : methB K m9 = true
  fm9 : HasFn K "take_step" "Moment.take_step" sTakeStep m9
  em10 : PySem.W.findIn K (.ref CM) "settle" = some (some (.ref m10))
  bm10 : methB K m10 = true
  fm10 : HasFn K "settle" "Moment.settle" sSettle m10
  em11 : PySem.W.findIn K (.ref CM) "is_yes" = some (some (.ref m11))
  bm11 : methB K m11 = true
  fm11 : HasFn K "is_yes" "Moment.is_yes" sIsYes m11
  em12 : PySem.W.findIn K (.ref CM) "value_in" = some (some (.ref m12))
  bm12 : methB K m12 = true
  fm12 : HasFn K "value_in" "Moment.value_in" sValueIn m12
  em13 : PySem.W.findIn K (.ref CM) "assign" = some (some (.ref m13))
  bm13 : methB K m13 = true
  fm13 : HasFn K "assign" "Moment.assign" sAssign m13
  pyC : strC K C = true
  ryC : strC K CR = true
  pnf : PySem.W.notFirst K C (.ref C) = true
  rnf : PySem.W.notFirst K CR (.ref CR) = true
  nn : freeB K = true
  n32 : PySem.W.nsIn K mainGlobals "is_nested_code" = some (some (.ref (g 32)))
  h32 : HasN K (g 32)
  n14 : PySem.W.nsIn K mainGlobals "is_number" = some (some (.ref (g 14)))
  h14 : HasFn K "is_number" "is_number" (top 14) (g 14)
  n15 : PySem.W.nsIn K mainGlobals "is_whole" = some (some (.ref (g 15)))
  h15 : HasFn K "is_whole" "is_whole" (top 15) (g 15)
  n16 : PySem.W.nsIn K mainGlobals "is_name" = some (some (.ref (g 16)))
  h16 : HasFn K "is_name" "is_name" (top 16) (g 16)
  n17 : PySem.W.nsIn K mainGlobals "is_value" = some (some (.ref (g 17)))
  h17 : HasFn K "is_value" "is_value" (top 17) (g 17)
  n18 : PySem.W.nsIn K mainGlobals "is_answers" = some (some (.ref (g 18)))
  h18 : HasFn K "is_answers" "is_answers" (top 18) (g 18)
  n19 : PySem.W.nsIn K mainGlobals "_is_asked" = some (some (.ref (g 19)))
  h19 : HasFn K "_is_asked" "_is_asked" (top 19) (g 19)
  n21 : PySem.W.nsIn K mainGlobals "written" = some (some (.ref (g 21)))
  h21 : HasFn K "written" "written" (top 21) (g 21)
  n22 : PySem.W.nsIn K mainGlobals "_pieces" = some (some (.ref (g 22)))
  h22 : HasFn K "_pieces" "_pieces" (top 22) (g 22)
  n23 : PySem.W.nsIn K mainGlobals "_kinds" = some (some (.ref (g 23)))
  h23 : HasFn K "_kinds" "_kinds" (top 23) (g 23)
  n24 : PySem.W.nsIn K mainGlobals "_kind" = some (some (.ref (g 24)))
  h24 : HasFn K "_kind" "_kind" (top 24) (g 24)
  n25 : PySem.W.nsIn K mainGlobals "_is_atom" = some (some (.ref (g 25)))
  h25 : HasFn K "_is_atom" "_is_atom" (top 25) (g 25)
  n26 : PySem.W.nsIn K mainGlobals "_is_written_number" = some (some (.ref (g 26)))
  h26 : HasFn K "_is_written_number" "_is_written_number" (top 26) (g 26)
  n27 : PySem.W.nsIn K mainGlobals "_is_in_turn" = some (some (.ref (g 27)))
  h27 : HasFn K "_is_in_turn" "_is_in_turn" (top 27) (g 27)
  n28 : PySem.W.nsIn K mainGlobals "_is_nested" = some (some (.ref (g 28)))
  h28 : HasFn K "_is_nested" "_is_nested" (top 28) (g 28)
  n33 : PySem.W.nsIn K mainGlobals "_is_statement" = some (some (.ref (g 33)))
  h33 : HasFn K "_is_statement" "_is_statement" (top 33) (g 33)
  n34 : PySem.W.nsIn K mainGlobals "_fits" = some (some (.ref (g 34)))
  h34 : HasFn K "_fits" "_fits" (top 34) (g 34)
  n35 : PySem.W.nsIn K mainGlobals "flattened" = some (some (.ref (g 35)))
  h35 : HasFn K "flattened" "flattened" (top 35) (g 35)
  n36 : PySem.W.nsIn K mainGlobals "codes_in" = some (some (.ref (g 36)))
  h36 : HasFn K "codes_in" "codes_in" (top 36) (g 36)
  n37 : PySem.W.nsIn K mainGlobals "names_in" = some (some (.ref (g 37)))
  h37 : HasFn K "names_in" "names_in" (top 37) (g 37)
  n38 : PySem.W.nsIn K mainGlobals "_names_of" = some (some (.ref (g 38)))
  h38 : HasFn K "_names_of" "_names_of" (top 38) (g 38)
  n39 : PySem.W.nsIn K mainGlobals "most_on_path" = some (some (.ref (g 39)))
  h39 : HasFn K "most_on_path" "most_on_path" (top 39) (g 39)
  n40 : PySem.W.nsIn K mainGlobals "_most_at" = some (some (.ref (g 40)))
  h40 : HasFn K "_most_at" "_most_at" (top 40) (g 40)
  n41 : PySem.W.nsIn K mainGlobals "_path_kind" = some (some (.ref (g 41)))
  h41 : HasFn K "_path_kind" "_path_kind" (top 41) (g 41)
  n49 : PySem.W.nsIn K mainGlobals "is_thread_code" = some (some (.ref (g 49)))
  h49 : HasFn K "is_thread_code" "is_thread_code" (top 49) (g 49)
  n50 : PySem.W.nsIn K mainGlobals "is_order" = some (some (.ref (g 50)))
  h50 : HasFn K "is_order" "is_order" (top 50) (g 50)
  n55 : PySem.W.nsIn K mainGlobals "first_moment" = some (some (.ref (g 55)))
  h55 : HasFn K "first_moment" "first_moment" (top 55) (g 55)
  n56 : PySem.W.nsIn K mainGlobals "moment_after" = some (some (.ref (g 56)))
  h56 : HasFn K "moment_after" "moment_after" (top 56) (g 56)
  n57 : PySem.W.nsIn K mainGlobals "check_thread" = some (some (.ref (g 57)))
  h57 : HasFn K "check_thread" "check_thread" (top 57) (g 57)
  n58 : PySem.W.nsIn K mainGlobals "_is_threads" = some (some (.ref (g 58)))
  h58 : HasFn K "_is_threads" "_is_threads" (top 58) (g 58)
  n59 : PySem.W.nsIn K mainGlobals "_ascending" = some (some (.ref (g 59)))
  h59 : HasFn K "_ascending" "_ascending" (top 59) (g 59)
  n61 : PySem.W.nsIn K mainGlobals "_track" = some (some (.ref (g 61)))
  h61 : HasFn K "_track" "_track" (top 61) (g 61)
  n63 : PySem.W.nsIn K mainGlobals "_law_dice" = some (some (.ref (g 63)))
  h63 : HasFn K "_law_dice" "_law_dice" (top 63) (g 63)
  n64 : PySem.W.nsIn K mainGlobals "_law_roll" = some (some (.ref (g 64)))
  h64 : HasFn K "_law_roll" "_law_roll" (top 64) (g 64)
  n65 : PySem.W.nsIn K mainGlobals "_law_one_of" = some (some (.ref (g 65)))
  h65 : HasFn K "_law_one_of" "_law_one_of" (top 65) (g 65)
  n66 : PySem.W.nsIn K mainGlobals "_law_quiet_code" = some (some (.ref (g 66)))
  h66 : HasFn K "_law_quiet_code" "_law_quiet_code" (top 66) (g 66)
  n67 : PySem.W.nsIn K mainGlobals "_law_shown" = some (some (.ref (g 67)))
  h67 : HasFn K "_law_shown" "_law_shown" (top 67) (g 67)
  n68 : PySem.W.nsIn K mainGlobals "_law_right" = some (some (.ref (g 68)))
  h68 : HasFn K "_law_right" "_law_right" (top 68) (g 68)
  n69 : PySem.W.nsIn K mainGlobals "law" = some (some (.ref (g 69)))
  h69 : HasFn K "law" "law" (top 69) (g 69)
theorem all_mk29 {l : PySem.W.OpenLaw} {w : World} {K : PySem.W.Frag} {h : Heap} {mg : Str → Option Value} {fa : Addr} {g : Nat → Addr} {C CR CK CM dF dO aW aS p0 p6 p7 p8 r0 r10 r11 r13 k0 k1 m0 m3 m4 m5 m6 m7 m8 m9 m10 m11 m12 m13 pT gT pC gC pA gA pN gN pS gS pX gX pR gR pE gE : Addr} (X : K.In h) (G : h.Ns mainGlobals mg) (hfa : mg "law" = some (.ref fa)) (T : Top29 K w g C CR CK CM dF dO aW aS p0 p6 p7 p8 r0 r10 r11 r13 k0 k1 m0 m3 m4 m5 m6 m7 m8 m9 m10 m11 m12 m13 pT gT pC gC pA gA pN gN pS gS pX gX pR gR pE gE) :
    ∃ gd : FuncData, (∀ (s : Shared) (u : Value), BindsTo s gd ⟨[u], []⟩ [("_law_script", u)]) ∧ ∀ base : Heap, K.In base → base.Ns mainGlobals mg → (∃ o, base.get? sysModules = some o) → GFn l.prog w K mg base 19 fa gd ["_law_script"] (spLaw29 K) := by
  have gl : ∀ {x : Str} {u : Value}, PySem.W.nsIn K mainGlobals x = some (some u) → mg x = some u := fun e => PySem.W.mg_of X G e
  obtain rfl : g 69 = fa := by
    have e := hfa.symm.trans (gl T.n69)
    cases e
    rfl
  have no : ∀ x, x ∈ freeN → mg x = none := free_of X G T.nn
  obtain ⟨e14, E14⟩ := T.h14
  have r14 := E14.binds (ps := ["value", "low", "high"]) fun _ _ _ _ _ _ us hl => match us, hl with | [_, _, _], _ => rfl
  obtain ⟨e15, E15⟩ := T.h15
  have r15 := E15.binds (ps := ["value"]) fun _ _ _ _ _ _ us hl => match us, hl with | [_], _ => rfl
  obtain ⟨e16, E16⟩ := T.h16
  have r16 := E16.binds (ps := ["value"]) fun _ _ _ _ _ _ us hl => match us, hl with | [_], _ => rfl
  obtain ⟨e17, E17⟩ := T.h17
  have r17 := E17.binds (ps := ["value"]) fun _ _ _ _ _ _ us hl => match us, hl with | [_], _ => rfl
  obtain ⟨e18, E18⟩ := T.h18
  have r18 := E18.binds (ps := ["value"]) fun _ _ _ _ _ _ us hl => match us, hl with | [_], _ => rfl
  obtain ⟨e19, E19⟩ := T.h19
  have r19 := E19.binds (ps := ["value"]) fun _ _ _ _ _ _ us hl => match us, hl with | [_], _ => rfl
  obtain ⟨e21, E21⟩ := T.h21
  have r21 := E21.binds (ps := ["function", "values"]) fun _ _ _ _ _ _ us hl => match us, hl with | [_, _], _ => rfl
  obtain ⟨e22, E22⟩ := T.h22
  have r22 := E22.binds (ps := ["text"]) fun _ _ _ _ _ _ us hl => match us, hl with | [_], _ => rfl
  obtain ⟨e23, E23⟩ := T.h23
  have r23 := E23.binds (ps := ["pieces"]) fun _ _ _ _ _ _ us hl => match us, hl with | [_], _ => rfl
  obtain ⟨e24, E24⟩ := T.h24
  have r24 := E24.binds (ps := ["piece", "after"]) fun _ _ _ _ _ _ us hl => match us, hl with | [_, _], _ => rfl
  obtain ⟨e25, E25⟩ := T.h25
  have r25 := E25.binds (ps := ["word"]) fun _ _ _ _ _ _ us hl => match us, hl with | [_], _ => rfl
  obtain ⟨e26, E26⟩ := T.h26
  have r26 := E26.binds (ps := ["text"]) fun _ _ _ _ _ _ us hl => match us, hl with | [_], _ => rfl
  obtain ⟨e27, E27⟩ := T.h27
  have r27 := E27.binds (ps := ["kinds"]) fun _ _ _ _ _ _ us hl => match us, hl with | [_], _ => rfl
  obtain ⟨e28, E28⟩ := T.h28
  have r28 := E28.binds (ps := ["kinds"]) fun _ _ _ _ _ _ us hl => match us, hl with | [_], _ => rfl
  obtain ⟨e33, E33⟩ := T.h33
  have r33 := E33.binds (ps := ["value", "depth", "shows"]) fun _ _ _ _ _ _ us hl => match us, hl with | [_, _, _], _ => rfl
  obtain ⟨e34, E34⟩ := T.h34
  have r34 := E34.binds (ps := ["part", "role", "depth", "shows"]) fun _ _ _ _ _ _ us hl => match us, hl with | [_, _, _, _], _ => rfl
  obtain ⟨e35, E35⟩ := T.h35
  have r35 := E35.binds (ps := ["code"]) fun _ _ _ _ _ _ us hl => match us, hl with | [_], _ => rfl
  obtain ⟨e36, E36⟩ := T.h36
  have r36 := E36.binds (ps := ["statement"]) fun _ _ _ _ _ _ us hl => match us, hl with | [_], _ => rfl
  obtain ⟨e37, E37⟩ := T.h37
  have r37 := E37.binds (ps := ["code", "role"]) fun _ _ _ _ _ _ us hl => match us, hl with | [_, _], _ => rfl
  obtain ⟨e38, E38⟩ := T.h38
  have r38 := E38.binds (ps := ["statement", "role"]) fun _ _ _ _ _ _ us hl => match us, hl with | [_, _], _ => rfl
  obtain ⟨e39, E39⟩ := T.h39
  have r39 := E39.binds (ps := ["code", "kind"]) fun _ _ _ _ _ _ us hl => match us, hl with | [_, _], _ => rfl
  obtain ⟨e40, E40⟩ := T.h40
  have r40 := E40.binds (ps := ["statement", "kind"]) fun _ _ _ _ _ _ us hl => match us, hl with | [_, _], _ => rfl
  obtain ⟨e41, E41⟩ := T.h41
  have r41 := E41.binds (ps := ["statement"]) fun _ _ _ _ _ _ us hl => match us, hl with | [_], _ => rfl
  obtain ⟨e49, E49⟩ := T.h49
  have r49 := E49.binds (ps := ["value"]) fun _ _ _ _ _ _ us hl => match us, hl with | [_], _ => rfl
  obtain ⟨e50, E50⟩ := T.h50
  have r50 := E50.binds (ps := ["value", "many"]) fun _ _ _ _ _ _ us hl => match us, hl with | [_, _], _ => rfl
  obtain ⟨e55, E55⟩ := T.h55
  have r55 := E55.binds (ps := ["program"]) fun _ _ _ _ _ _ us hl => match us, hl with | [_], _ => rfl
  obtain ⟨e56, E56⟩ := T.h56
  have r56 := E56.binds (ps := ["program", "order"]) fun _ _ _ _ _ _ us hl => match us, hl with | [_, _], _ => rfl
  obtain ⟨e57, E57⟩ := T.h57
  have r57 := E57.binds (ps := ["program", "value"]) fun _ _ _ _ _ _ us hl => match us, hl with | [_, _], _ => rfl
  obtain ⟨e58, E58⟩ := T.h58
  have r58 := E58.binds (ps := ["value"]) fun _ _ _ _ _ _ us hl => match us, hl with | [_], _ => rfl
  obtain ⟨e59, E59⟩ := T.h59
  have r59 := E59.binds (ps := ["told"]) fun _ _ _ _ _ _ us hl => match us, hl with | [_], _ => rfl
  obtain ⟨e61, E61⟩ := T.h61
  have r61 := E61.binds (ps := ["code"]) fun _ _ _ _ _ _ us hl => match us, hl with | [_], _ => rfl
  obtain ⟨e63, E63⟩ := T.h63
  have r63 := E63.binds (ps := ["_law_script", "_law_at"]) fun _ _ _ _ _ _ us hl => match us, hl with | [_, _], _ => rfl
  obtain ⟨e64, E64⟩ := T.h64
  have r64 := E64.binds (ps := ["_law_dice_here", "_law_total"]) fun _ _ _ _ _ _ us hl => match us, hl with | [_, _], _ => rfl
  obtain ⟨e65, E65⟩ := T.h65
  have r65 := E65.binds (ps := ["_law_dice_here", "_law_items"]) fun _ _ _ _ _ _ us hl => match us, hl with | [_, _], _ => rfl
  obtain ⟨e66, E66⟩ := T.h66
  have r66 := E66.binds (ps := ["_law_dice_here", "_law_most", "_law_room", "_law_deep"]) fun _ _ _ _ _ _ us hl => match us, hl with | [_, _, _, _], _ => rfl
  obtain ⟨e67, E67⟩ := T.h67
  have r67 := E67.binds (ps := ["_law_code", "_law_asked", "_law_regs", "_law_found"]) fun _ _ _ _ _ _ us hl => match us, hl with | [_, _, _, _], _ => rfl
  obtain ⟨e68, E68⟩ := T.h68
  have r68 := E68.binds (ps := ["_law_dice_here"]) fun _ _ _ _ _ _ us hl => match us, hl with | [_], _ => rfl
  obtain ⟨e69, E69⟩ := T.h69
  have r69 := E69.binds (ps := ["_law_script"]) fun _ _ _ _ _ _ us hl => match us, hl with | [_], _ => rfl
  obtain ⟨dp6, Fp6⟩ := T.fp6
  have bp6 := Fp6.binds (ps := ["self", "order"]) fun _ _ _ _ _ _ us hl => match us, hl with | [_, _], _ => rfl
  obtain ⟨dp7, Fp7⟩ := T.fp7
  have bp7 := Fp7.binds (ps := ["self"]) fun _ _ _ _ _ _ us hl => match us, hl with | [_], _ => rfl
  obtain ⟨dp8, Fp8⟩ := T.fp8
  have bp8 := Fp8.binds (ps := ["self", "other"]) fun _ _ _ _ _ _ us hl => match us, hl with | [_, _], _ => rfl
  obtain ⟨dr0, Fr0⟩ := T.fr0
  have br0 := Fr0.binds (ps := ["self", "program", "order", "moment"]) fun _ _ _ _ _ _ us hl => match us, hl with | [_, _, _, _], _ => rfl
  obtain ⟨dr10, Fr10⟩ := T.fr10
  have br10 := Fr10.binds (ps := ["self", "thread", "name"]) fun _ _ _ _ _ _ us hl => match us, hl with | [_, _, _], _ => rfl
  obtain ⟨dr11, Fr11⟩ := T.fr11
  have br11 := Fr11.binds (ps := ["self", "thread"]) fun _ _ _ _ _ _ us hl => match us, hl with | [_, _], _ => rfl
  obtain ⟨dr13, Fr13⟩ := T.fr13
  have br13 := Fr13.binds (ps := ["self", "other"]) fun _ _ _ _ _ _ us hl => match us, hl with | [_, _], _ => rfl
  obtain ⟨dk0, Fk0⟩ := T.fk0
  have bk0 := Fk0.binds (ps := ["self", "program"]) fun _ _ _ _ _ _ us hl => match us, hl with | [_, _], _ => rfl
  obtain ⟨dk1, Fk1⟩ := T.fk1
  have bk1 := Fk1.binds (ps := ["self", "function", "values"]) fun _ _ _ _ _ _ us hl => match us, hl with | [_, _, _], _ => rfl
  obtain ⟨dm0, Fm0⟩ := T.fm0
  have bm0 := Fm0.binds (ps := ["self", "machine", "spots", "worths", "contents", "queues", "rows"]) fun _ _ _ _ _ _ us hl => match us, hl with | [_, _, _, _, _, _, _], _ => rfl
  obtain ⟨dm3, Fm3⟩ := T.fm3
  have bm3 := Fm3.binds (ps := ["self", "thread"]) fun _ _ _ _ _ _ us hl => match us, hl with | [_, _], _ => rfl
  obtain ⟨dm4, Fm4⟩ := T.fm4
  have bm4 := Fm4.binds (ps := ["self", "thread"]) fun _ _ _ _ _ _ us hl => match us, hl with | [_, _], _ => rfl
  obtain ⟨dm5, Fm5⟩ := T.fm5
  have bm5 := Fm5.binds (ps := ["self", "thread"]) fun _ _ _ _ _ _ us hl => match us, hl with | [_, _], _ => rfl
  obtain ⟨dm6, Fm6⟩ := T.fm6
  have bm6 := Fm6.binds (ps := ["self"]) fun _ _ _ _ _ _ us hl => match us, hl with | [_], _ => rfl
  obtain ⟨dm7, Fm7⟩ := T.fm7
  have bm7 := Fm7.binds (ps := ["self"]) fun _ _ _ _ _ _ us hl => match us, hl with | [_], _ => rfl
  obtain ⟨dm8, Fm8⟩ := T.fm8
  have bm8 := Fm8.binds (ps := ["self", "thread"]) fun _ _ _ _ _ _ us hl => match us, hl with | [_, _], _ => rfl
  obtain ⟨dm9, Fm9⟩ := T.fm9
  have bm9 := Fm9.binds (ps := ["self", "thread"]) fun _ _ _ _ _ _ us hl => match us, hl with | [_, _], _ => rfl
  obtain ⟨dm10, Fm10⟩ := T.fm10
  have bm10 := Fm10.binds (ps := ["self", "thread"]) fun _ _ _ _ _ _ us hl => match us, hl with | [_, _], _ => rfl
  obtain ⟨dm11, Fm11⟩ := T.fm11
  have bm11 := Fm11.binds (ps := ["self", "test", "value"]) fun _ _ _ _ _ _ us hl => match us, hl with | [_, _, _], _ => rfl
  obtain ⟨dm12, Fm12⟩ := T.fm12
  have bm12 := Fm12.binds (ps := ["self", "thread", "name"]) fun _ _ _ _ _ _ us hl => match us, hl with | [_, _, _], _ => rfl
  obtain ⟨dm13, Fm13⟩ := T.fm13
  have bm13 := Fm13.binds (ps := ["self", "thread", "name", "value"]) fun _ _ _ _ _ _ us hl => match us, hl with | [_, _, _, _], _ => rfl
  obtain ⟨dgT, FgT⟩ := T.fgT
  have bgT := FgT.binds (ps := ["self"]) fun _ _ _ _ _ _ us hl => match us, hl with | [_], _ => rfl
  obtain ⟨dgC, FgC⟩ := T.fgC
  have bgC := FgC.binds (ps := ["self"]) fun _ _ _ _ _ _ us hl => match us, hl with | [_], _ => rfl
  obtain ⟨dgA, FgA⟩ := T.fgA
  have bgA := FgA.binds (ps := ["self"]) fun _ _ _ _ _ _ us hl => match us, hl with | [_], _ => rfl
  obtain ⟨dgN, FgN⟩ := T.fgN
  have bgN := FgN.binds (ps := ["self"]) fun _ _ _ _ _ _ us hl => match us, hl with | [_], _ => rfl
  obtain ⟨dgS, FgS⟩ := T.fgS
  have bgS := FgS.binds (ps := ["self"]) fun _ _ _ _ _ _ us hl => match us, hl with | [_], _ => rfl
  obtain ⟨dgX, FgX⟩ := T.fgX
  have bgX := FgX.binds (ps := ["self"]) fun _ _ _ _ _ _ us hl => match us, hl with | [_], _ => rfl
  obtain ⟨dgR, FgR⟩ := T.fgR
  have bgR := FgR.binds (ps := ["self"]) fun _ _ _ _ _ _ us hl => match us, hl with | [_], _ => rfl
  obtain ⟨dgE, FgE⟩ := T.fgE
  have bgE := FgE.binds (ps := ["self"]) fun _ _ _ _ _ _ us hl => match us, hl with | [_], _ => rfl
  obtain ⟨e32, E32⟩ := T.h32
  have r32 : Binds K e32 ["value", "depth", "shows"] [] := by
    obtain ⟨ds, hv, hb⟩ := E32.binds1 (ps := ["value", "depth", "shows"]) 3 1 (by simp) rfl fun T kV doc pm an cdv ct us its h1 h2 => match us, its, h1, h2 with
      | [_, _, _], [_], _, _ => ⟨_, rfl, rfl⟩
    cases hv
    exact hb
  have r32d : ∃ ds, Vals [V.bl false] ds ∧ Binds K e32 ["value", "depth", "shows"] ds := E32.binds1 (ps := ["value", "depth", "shows"]) 2 0 (by simp) rfl fun T kV doc pm an cdv ct us its h1 h2 => match us, its, h1, h2 with
    | [_, _], [_], _, _ => ⟨_, rfl, rfl⟩
  obtain ⟨dp0, Fp0⟩ := T.fp0
  obtain ⟨dsP, hvP, bP0⟩ : ∃ ds, Vals [V.non, V.non] ds ∧ Binds K dp0 psPI ds := Fp0.binds0 (ps := psPI) 2 (by simp) rfl fun D doc pm an cdv ct us ks h1 h2 => match us, ks, h1, h2 with
    | [_, _], [_, _], _, _ => ⟨_, _, _, _, _, _, rfl, rfl, ⟨_, _, _, _, _, _, rfl, rfl, rfl⟩⟩
  obtain ⟨mvP, hkP⟩ := Fp0.kbinds0 (ps := psPI) 2 ["answers"] [("cells", .non)] (fun vs mz zs => vs ++ mz ++ zs) (by simp) (by simp) (fun a b c => (a.append b).append c) fun D doc pm an cdv ct us mv ws e1 e2 e3 => match us, mv, ws, e1, e2, e3 with
    | [_, _], [_], [_], _, _, _ => ⟨_, _, _, _, _, _, rfl, rfl, rfl⟩
  have gi : ∀ {x : Str} {i : Int}, (∃ t, PySem.W.nsIn K mainGlobals x = some (some (.int i t))) → ∃ t, mg x = some (.int i t) := fun ⟨t, e⟩ => ⟨t, gl e⟩
  have TD : TxtD mg := ⟨no _ (by decide), no _ (by decide), no _ (by decide)⟩
  have TN : TxtN K mg := ⟨no _ (by decide), no _ (by decide), no _ (by decide), no _ (by decide), gi T.iMAX_LETTERS, by
    obtain ⟨t, e⟩ := T.lets
    exact ⟨t, gl e⟩, ⟨aW, gl T.words, fun H => tupB_ok T.wordsT H⟩⟩
  have TF : TxtF K w mg := by
    obtain ⟨es, n, kd⟩ := He.dicW_ok T.formsD
    exact ⟨no _ (by decide), no _ (by decide), gi T.iMAX_REGISTERS, ⟨dF, es, n, gl T.forms, kd, fun z hz => keysB_ok T.formsK hz, fun z rs hz => formsB_ok T.formsV hz⟩⟩
  have DG : ∃ t, mg "DIGITS" = some (.str digits t) := by
    obtain ⟨t, e⟩ := T.digs
    exact ⟨t, gl e⟩
  have FO : FollF K w mg := by
    obtain ⟨es, n, kd⟩ := He.dicW_ok T.folD
    exact ⟨dO, es, n, gl T.fol, kd, fun a ha => folB_ok T.folV a ha, T.folW⟩
  have ST : ∃ a, mg "STOPS" = some (.ref a) ∧ ∀ H, SqT K H a (stops6.map V.str) := ⟨aS, gl T.stopsN, fun H => tupB_ok T.stopsT H⟩
  have TS : TxtS mg := ⟨no _ (by decide), no _ (by decide), no _ (by decide), no _ (by decide), no _ (by decide)⟩
  have CF : CodeF K mg (g 32) (g 33) (g 34) (g 16) e32 e33 e34 e16 := ⟨E32, E33, E34, E16, gl T.n32, gl T.n33, gl T.n34, gl T.n16, r32, r32d, r33, r34, r16, TN⟩
  have DF : DiceF K mg (g 64) (g 65) e64 e65 := ⟨E64, E65, gl T.n64, gl T.n65, r64, r65, TD⟩
  have FF : FlatF K mg (g 35) (g 36) (g 38) e35 e36 e38 := ⟨E35, E36, E38, gl T.n35, gl T.n36, gl T.n38, r35, r36, r38⟩
  have MF : MostF K mg (g 39) (g 40) (g 41) e39 e40 e41 := ⟨E39, E40, E41, gl T.n39, gl T.n40, gl T.n41, r39, r40, r41⟩
  have ci : ∀ {D : Addr}, Cls K D → strC K D = true → ClsI K D := fun {D} c sc => by
    unfold strC at sc
    simp only [Bool.and_eq_true, decide_eq_true_eq] at sc
    obtain ⟨s1', s2', s3', s4', s5'⟩ := sc
    exact ⟨c, s1', s2', s3', s4', s5'⟩
  obtain ⟨pc, pm, pa⟩ := clsB_ok T.pB
  obtain ⟨rc, rm, ra⟩ := clsB_ok T.rB
  obtain ⟨kc, km, ka⟩ := clsB_ok T.kB
  obtain ⟨mc, mm, ma⟩ := clsB_ok T.mB
  have RP : PrC K C := ⟨ci pc T.pyC, pa⟩
  have RR : RuC K CR := ⟨ci rc T.ryC, ra⟩
  have RK : MaC K CK := ⟨kc, ka⟩
  have RM : MoC K CM := ⟨mc, ma⟩
  have mt : ∀ {D : Addr} {m : Str} {f : Addr}, PySem.W.findIn K (.ref D) m = some (some (.ref f)) → methB K f = true → Meth K D m f := fun e h => ⟨e, (methB_ok h).1, (methB_ok h).2⟩
  refine ⟨e69, fun s u => ?_, fun base KB GB hs => ?_⟩
  · obtain ⟨oc, od, kV, doc, pm, an, cv, ct, osl, rfl, lk, hcd⟩ := E69.ex
    exact .of_eq rfl
  · have G0 : True := trivial
    have G15 : FnOk l.prog w K mg base CX0 1 (g 15) e15 ["value"] spWhole := ok_whole E15 (no _ (by decide)) (no _ (by decide)) (no _ (by decide))
    have N15 : CallN l.prog w K mg base "is_whole" 1 ["value"] spWhole := ⟨g 15, e15, gl T.n15, E15.kp, r15, G15⟩
    have G14 : FnOk l.prog w K mg base CX0 2 (g 14) e14 ["value", "low", "high"] spNumber := ok_number E14 (gl T.n15) E15.kp r15 G15
    have N14 : CallN l.prog w K mg base "is_number" 2 ["value", "low", "high"] spNumber := ⟨g 14, e14, gl T.n14, E14.kp, r14, G14⟩
    have G16 : FnOk l.prog w K mg base CX0 1 (g 16) e16 ["value"] spName := ok_isname E16 TN
    have N16 : CallN l.prog w K mg base "is_name" 1 ["value"] spName := ⟨g 16, e16, gl T.n16, E16.kp, r16, G16⟩
    have G22 : FnOk l.prog w K mg base CX0 1 (g 22) e22 ["text"] spPieces := ok_pieces E22
    have N22 : CallN l.prog w K mg base "_pieces" 1 ["text"] spPieces := ⟨g 22, e22, gl T.n22, E22.kp, r22, G22⟩
    have G26 : FnOk l.prog w K mg base CX0 1 (g 26) e26 ["text"] spNum := ok_wrnum E26 (no _ (by decide)) DG
    have N26 : CallN l.prog w K mg base "_is_written_number" 1 ["text"] spNum := ⟨g 26, e26, gl T.n26, E26.kp, r26, G26⟩
    have G25 : FnOk l.prog w K mg base CX0 2 (g 25) e25 ["word"] spAtom := ok_atom E25 (gl T.n16) E16.kp r16 G16 (gl T.n26) E26.kp r26 G26
    have N25 : CallN l.prog w K mg base "_is_atom" 2 ["word"] spAtom := ⟨g 25, e25, gl T.n25, E25.kp, r25, G25⟩
    have G24 : FnOk l.prog w K mg base CX0 3 (g 24) e24 ["piece", "after"] spKindN := ok_kindP E24 (gl T.n16) E16.kp r16 G16 (gl T.n25) E25.kp r25 G25
    have N24 : CallN l.prog w K mg base "_kind" 3 ["piece", "after"] spKindN := ⟨g 24, e24, gl T.n24, E24.kp, r24, G24⟩
    have G23 : FnOk l.prog w K mg base CX0 4 (g 23) e23 ["pieces"] spKinds := ok_kinds E23 (no _ (by decide)) (gl T.n24) E24.kp r24 G24
    have N23 : CallN l.prog w K mg base "_kinds" 4 ["pieces"] spKinds := ⟨g 23, e23, gl T.n23, E23.kp, r23, G23⟩
    have G27 : FnOk l.prog w K mg base CX0 1 (g 27) e27 ["kinds"] spTurn := ok_turn E27 (no _ (by decide)) (no _ (by decide)) FO
    have N27 : CallN l.prog w K mg base "_is_in_turn" 1 ["kinds"] spTurn := ⟨g 27, e27, gl T.n27, E27.kp, r27, G27⟩
    have G28 : FnOk l.prog w K mg base CX0 1 (g 28) e28 ["kinds"] spNest := ok_nestP E28 (gi T.iMAX_ARGUMENTS)
    have N28 : CallN l.prog w K mg base "_is_nested" 1 ["kinds"] spNest := ⟨g 28, e28, gl T.n28, E28.kp, r28, G28⟩
    have G17 : FnOk l.prog w K mg base CX0 5 (g 17) e17 ["value"] spVal := ok_isval E17 (no _ (by decide)) (no _ (by decide)) (gl T.n22) E22.kp r22 G22 (gl T.n23) E23.kp r23 G23 (gl T.n27) E27.kp r27 G27 (gl T.n28) E28.kp r28 G28
    have N17 : CallN l.prog w K mg base "is_value" 5 ["value"] spVal := ⟨g 17, e17, gl T.n17, E17.kp, r17, G17⟩
    have G19 : FnOk l.prog w K mg base CX0 6 (g 19) e19 ["value"] spAsked := ok_asked E19 TN (no _ (by decide)) (gl T.n16) E16 r16 (gl T.n17) E17.kp r17 G17
    have N19 : CallN l.prog w K mg base "_is_asked" 6 ["value"] spAsked := ⟨g 19, e19, gl T.n19, E19.kp, r19, G19⟩
    have G18 : FnOk l.prog w K mg base CX0 7 (g 18) e18 ["value"] spIsAns := ok_isans E18 (no _ (by decide)) (no _ (by decide)) (no _ (by decide)) (no _ (by decide)) (gl T.n19) E19.kp r19 G19
    have N18 : CallN l.prog w K mg base "is_answers" 7 ["value"] spIsAns := ⟨g 18, e18, gl T.n18, E18.kp, r18, G18⟩
    have G59 : FnOk l.prog w K mg base CX0 1 (g 59) e59 ["told"] spAsc := ok_asc E59 (no _ (by decide))
    have N59 : CallN l.prog w K mg base "_ascending" 1 ["told"] spAsc := ⟨g 59, e59, gl T.n59, E59.kp, r59, G59⟩
    have G21 : FnOk l.prog w K mg base CX0 1 (g 21) e21 ["function", "values"] (spWrit K) := ok_writ E21
    have N21 : CallN l.prog w K mg base "written" 1 ["function", "values"] (spWrit K) := ⟨g 21, e21, gl T.n21, E21.kp, r21, G21⟩
    have G49 : FnOk l.prog w K mg base CX0 14 (g 49) e49 ["value"] spThr := ok_thr E49 CF TF TS FF MF (gi T.iMAX_DEPTH) (gi T.iMAX_CODE) (gi T.iMAX_ON_PATH)
    have N49 : CallN l.prog w K mg base "is_thread_code" 14 ["value"] spThr := ⟨g 49, e49, gl T.n49, E49.kp, r49, G49⟩
    have G58 : FnOk l.prog w K mg base CX0 15 (g 58) e58 ["value"] spIsThr := ok_isthr E58 (no _ (by decide)) (no _ (by decide)) (no _ (by decide)) (no _ (by decide)) (gi T.iMAX_THREADS) (gl T.n49) E49.kp r49 G49
    have N58 : CallN l.prog w K mg base "_is_threads" 15 ["value"] spIsThr := ⟨g 58, e58, gl T.n58, E58.kp, r58, G58⟩
    have GP0 : FnOk l.prog w K mg base CX0 16 p0 dp0 psPI (spPIn C) := ok_pin Fp0 RP N58 N18 N59
    have G37 : FnOk l.prog w K mg base CX0 6 (g 37) e37 ["code", "role"] spNamesIn := ok_namesin E37 TF TS FF
    have N37 : CallN l.prog w K mg base "names_in" 6 ["code", "role"] spNamesIn := ⟨g 37, e37, gl T.n37, E37.kp, r37, G37⟩
    have PPc : PropM l.prog w K mg base C "cells" 2 (spPCells C) := ⟨_, _, _, T.PpC, ok_pcells FgC RP N59, bgC⟩
    have PPa : PropM l.prog w K mg base C "answers" 2 (spPAns C) := ⟨_, _, _, T.PpA, ok_pans FgA RP N59, bgA⟩
    have PPn : PropM l.prog w K mg base C "names" 7 (spPNames C) := ⟨_, _, _, T.PpN, ok_pnames (fN := 0) (dN := e37) FgN RP (no _ (by decide)) (no _ (by decide)) (no _ (by decide)) (no _ (by decide)) N37, bgN⟩
    have PPt : PropM l.prog w K mg base C "threads" 1 (getSp C "_threads") := ⟨_, _, _, T.PpT, by
      obtain ⟨oc, od, kV, doc, pm, an, cv, ct, osl, rfl, lk, hcd⟩ := FgT.ex
      exact fn_getter (N := ["self"]) lk hcd ⟨rfl, rfl, rfl, by decide +kernel, rfl, by decide +kernel, by decide +kernel⟩ rfl rfl pc (pa _ (by simp)), bgT⟩
    have PRs : PropM l.prog w K mg base CR "shown" 1 (getSp CR "_shown") := ⟨_, _, _, T.PpS, by
      obtain ⟨oc, od, kV, doc, pm, an, cv, ct, osl, rfl, lk, hcd⟩ := FgS.ex
      exact fn_getter (N := ["self"]) lk hcd ⟨rfl, rfl, rfl, by decide +kernel, rfl, by decide +kernel, by decide +kernel⟩ rfl rfl rc (ra _ (by simp)), bgS⟩
    have PRx : PropM l.prog w K mg base CR "next_steps" 1 (getSp CR "_next_steps") := ⟨_, _, _, T.PpX, by
      obtain ⟨oc, od, kV, doc, pm, an, cv, ct, osl, rfl, lk, hcd⟩ := FgX.ex
      exact fn_getter (N := ["self"]) lk hcd ⟨rfl, rfl, rfl, by decide +kernel, rfl, by decide +kernel, by decide +kernel⟩ rfl rfl rc (ra _ (by simp)), bgX⟩
    have PRr : PropM l.prog w K mg base CR "ready" 1 (getSp CR "_ready") := ⟨_, _, _, T.PpR, by
      obtain ⟨oc, od, kV, doc, pm, an, cv, ct, osl, rfl, lk, hcd⟩ := FgR.ex
      exact fn_getter (N := ["self"]) lk hcd ⟨rfl, rfl, rfl, by decide +kernel, rfl, by decide +kernel, by decide +kernel⟩ rfl rfl rc (ra _ (by simp)), bgR⟩
    have GPl : FnOk l.prog w K mg base CX0 1 p7 dp7 ["self"] (spPLen C) := ok_plen Fp7 RP (no _ (by decide))
    have GPe : FnOk l.prog w K mg base CX0 1 p8 dp8 ["self", "other"] (spPEq C) := ok_peq Fp8 RP (no _ (by decide)) (gl T.pg)
    have G61 : FnOk l.prog w K mg base CX0 5 (g 61) e61 ["code"] (spTrack 4) := ok_track E61 (no _ (by decide)) (gl T.n61) r61 4
    have N61 : CallN l.prog w K mg base "_track" 5 ["code"] (spTrack 4) := ⟨g 61, e61, gl T.n61, E61.kp, r61, G61⟩
    have Mm3 : MethN l.prog w K mg base CM "row_of" 1 ["self", "thread"] (spRowOf CM CK) := ⟨m3, dm3, mt T.em3 T.bm3, bm3, ok_rowof Fm3 RM RK⟩
    have Mm12 : MethN l.prog w K mg base CM "value_in" 1 ["self", "thread", "name"] (spValueIn CM CK) := ⟨m12, dm12, mt T.em12 T.bm12, bm12, ok_valuein Fm12 RM⟩
    have Mm11 : MethN l.prog w K mg base CM "is_yes" 1 ["self", "test", "value"] (spIsYes CM CK) := ⟨m11, dm11, mt T.em11 T.bm11, bm11, ok_isyes Fm11 RM RK⟩
    have Mm13 : MethN l.prog w K mg base CM "assign" 1 ["self", "thread", "name", "value"] (spAssign CM CK) := ⟨m13, dm13, mt T.em13 T.bm13, bm13, ok_assign Fm13 RM⟩
    have Mk1 : MethN l.prog w K mg base CK "value_of" 2 ["self", "function", "values"] (spValOf CM CK K) := ⟨k1, dk1, mt T.ek1 T.bk1, bk1, ok_valof Fk1 RK N21⟩
    have MO : MoF l.prog w K mg base CM CK := ⟨RM, RK, Mm3, Mm12, Mm11, Mm13, Mk1, ST⟩
    have Mm10 : MethN l.prog w K mg base CM "settle" 3 ["self", "thread"] (spSettle CM CK) := ⟨m10, dm10, mt T.em10 T.bm10, bm10, ok_settle Fm10 MO⟩
    have Mm4 : MethN l.prog w K mg base CM "step_of" 2 ["self", "thread"] (spStepOf CM CK) := ⟨m4, dm4, mt T.em4 T.bm4, bm4, ok_stepof Fm4 MO⟩
    have Mm5 : MethN l.prog w K mg base CM "can_step" 2 ["self", "thread"] (spCanStep CM CK) := ⟨m5, dm5, mt T.em5 T.bm5, bm5, ok_canstep Fm5 MO⟩
    have Mm6 : MethN l.prog w K mg base CM "movable" 3 ["self"] (spMovable CM CK) := ⟨m6, dm6, mt T.em6 T.bm6, bm6, ok_movable Fm6 RM (no _ (by decide)) (no _ (by decide)) (no _ (by decide)) Mm5⟩
    have Mm7 : MethN l.prog w K mg base CM "clashes" 3 ["self"] (spClashes CM CK) := ⟨m7, dm7, mt T.em7 T.bm7, bm7, ok_clashes Fm7 RM (no _ (by decide)) (no _ (by decide)) (no _ (by decide)) Mm4⟩
    have Mm9 : MethN l.prog w K mg base CM "take_step" 2 ["self", "thread"] (spTakeStep CM CK) := ⟨m9, dm9, mt T.em9 T.bm9, bm9, ok_takestep Fm9 MO⟩
    have KM : MkM l.prog w K mg base "Moment" CM 1 nMoIn (spMoIn CM) := ⟨⟨m0, dm0, mm, gl T.mg, bm0, ok_moin Fm0 RM⟩⟩
    have KK : MkM l.prog w K mg base "Machine" CK 6 ["self", "program"] (spMaIn C CK) := ⟨⟨k0, dk0, km, gl T.kg, bk0, ok_main29 Fk0 RK RP N61 PPt PPa⟩⟩
    have Mm8 : MethN l.prog w K mg base CM "stepped" 4 ["self", "thread"] (spStepped CM CK) := ⟨m8, dm8, mt T.em8 T.bm8, bm8, ok_stepped Fm8 RM (no _ (by decide)) (no _ (by decide)) KM Mm9 Mm10⟩
    have G55 : FnOk l.prog w K mg base CX0 9 (g 55) e55 ["program"] (spFirst C CM CK) := ok_first (oh := T.ep7) E55 RP RM (no _ (by decide)) (no _ (by decide)) (no _ (by decide)) (methB_ok T.bp7).1 bp7 GPl PPc PPn KM KK Mm10
    have N55 : CallN l.prog w K mg base "first_moment" 9 ["program"] (spFirst C CM CK) := ⟨g 55, e55, gl T.n55, E55.kp, r55, G55⟩
    have G50 : FnOk l.prog w K mg base CX0 3 (g 50) e50 ["value", "many"] spIsOrd := ok_isord E50 (no _ (by decide)) (no _ (by decide)) (no _ (by decide)) (no _ (by decide)) (gi T.iMAX_ORDER) N14
    have N50 : CallN l.prog w K mg base "is_order" 3 ["value", "many"] spIsOrd := ⟨g 50, e50, gl T.n50, E50.kp, r50, G50⟩
    have G57 : FnOk l.prog w K mg base CX0 3 (g 57) e57 ["program", "value"] (spChkThr C) := ok_chkthr (oh := T.ep7) E57 (no _ (by decide)) (methB_ok T.bp7).1 bp7 GPl N14
    have N57 : CallN l.prog w K mg base "check_thread" 3 ["program", "value"] (spChkThr C) := ⟨g 57, e57, gl T.n57, E57.kp, r57, G57⟩
    have G56 : FnOk l.prog w K mg base CX0 10 (g 56) e56 ["program", "order"] (spMomAft C CM CK) := ok_momaft E56 RM N55 Mm5 Mm8
    have N56 : CallN l.prog w K mg base "moment_after" 10 ["program", "order"] (spMomAft C CM CK) := ⟨g 56, e56, gl T.n56, E56.kp, r56, G56⟩
    have KR : MkM l.prog w K mg base "Run" CR 4 ["self", "program", "order", "moment"] (spRuIn C CR CM CK) := ⟨⟨r0, dr0, rm, gl T.rg, br0, ok_ruin (oh := T.ep7) Fr0 RR RM (no _ (by decide)) (no _ (by decide)) (no _ (by decide)) (methB_ok T.bp7).1 bp7 GPl N59 Mm4 Mm6 Mm7⟩⟩
    have PRe : PropM l.prog w K mg base CR "is_end" 1 (spIsEnd C CR CM CK) := ⟨_, _, _, T.PpE, ok_isend FgE RR, bgE⟩
    have Mr10 : MethN l.prog w K mg base CR "held" 4 ["self", "thread", "name"] (spHeld C CR CM CK) := ⟨r10, dr10, mt T.er10 T.br10, br10, ok_held Fr10 RR RM N57 N16 Mm12⟩
    have Mr11 : MethN l.prog w K mg base CR "after" 6 ["self", "thread"] (spAfter C CR CM CK) := ⟨r11, dr11, mt T.er11 T.br11, br11, ok_after Fr11 RR RM N57 Mm5 Mm8 KR⟩
    have GRe : FnOk l.prog w K mg base CX0 2 r13 dr13 ["self", "other"] (spRuEq C CR CM CK) := ok_rueq (oh := T.ep8) Fr13 RP RR (no _ (by decide)) (gl T.rg) T.pnf (methB_ok T.bp8).1 bp8 GPe
    have GPc : FnOk l.prog w K mg base CX0 11 p6 dp6 ["self", "order"] (spPCall C CR CM CK) := ok_pcall Fp6 RP (no _ (by decide)) N50 N56 KR
    have G64 : FnOk l.prog w K mg base CX0 1 (g 64) e64 ["_law_dice_here", "_law_total"] spRoll := ok_roll E64 TD
    have N64 : CallN l.prog w K mg base "_law_roll" 1 ["_law_dice_here", "_law_total"] spRoll := ⟨g 64, e64, gl T.n64, E64.kp, r64, G64⟩
    have G65 : FnOk l.prog w K mg base CX0 2 (g 65) e65 ["_law_dice_here", "_law_items"] (spOneOf K) := ok_oneof E65 TD E64 (gl T.n64) r64
    have N65 : CallN l.prog w K mg base "_law_one_of" 2 ["_law_dice_here", "_law_items"] (spOneOf K) := ⟨g 65, e65, gl T.n65, E65.kp, r65, G65⟩
    have G66 : FnOk l.prog w K mg base CX0 5 (g 66) e66 ["_law_dice_here", "_law_most", "_law_room", "_law_deep"] (spQuiet 3) := ok_quiet E66 DF (no _ (by decide)) (no _ (by decide)) (gl T.n66) r66 3
    have N66 : CallN l.prog w K mg base "_law_quiet_code" 5 ["_law_dice_here", "_law_most", "_law_room", "_law_deep"] (spQuiet 3) := ⟨g 66, e66, gl T.n66, E66.kp, r66, G66⟩
    have G67 : FnOk l.prog w K mg base CX0 4 (g 67) e67 ["_law_code", "_law_asked", "_law_regs", "_law_found"] (spShown 3) := ok_shown E67 (gl T.n67) r67 3
    have N67 : CallN l.prog w K mg base "_law_shown" 4 ["_law_code", "_law_asked", "_law_regs", "_law_found"] (spShown 3) := ⟨g 67, e67, gl T.n67, E67.kp, r67, G67⟩
    have G63 : FnOk l.prog w K mg base CX0 1 (g 63) e63 ["_law_script", "_law_at"] (spDice K) := ok_dice E63 TD
    have N63 : CallN l.prog w K mg base "_law_dice" 1 ["_law_script", "_law_at"] (spDice K) := ⟨g 63, e63, gl T.n63, E63.kp, r63, G63⟩
    have LL : LawR l.prog w K mg base C CR CM CK := {
      RP := RP
      RR := RR
      roll := N64
      one := N65
      quiet := N66
      shown := N67
      prog := ⟨p0, dp0, mvP, .none, pm, gl T.pg, hkP, GP0⟩
      prog0 := ⟨p0, dp0, dsP, pm, gl T.pg, hvP, bP0, GP0⟩
      call := ⟨p6, dp6, T.ep6, (methB_ok T.bp6).1, T.fip6, bp6, GPc⟩
      eq := ⟨r13, dr13, T.er13, (methB_ok T.br13).1, T.fir13, br13, GRe⟩
      nf := T.rnf
      isEnd := PRe
      nxt := PRx
      shw := PRs
      rdy := PRr
      held := Mr10
      aft := Mr11
      rng := (no _ (by decide))
      ln := (no _ (by decide))
      tup := (no _ (by decide)) }
    have G68 : FnOk l.prog w K mg base CX0 18 (g 68) e68 ["_law_dice_here"] spRt29 := ok_rt29 E68 LL
    have N68 : CallN l.prog w K mg base "_law_right" 18 ["_law_dice_here"] spRt29 := ⟨g 68, e68, gl T.n68, E68.kp, r68, G68⟩
    exact ok_law29 E69 {
      L := LL
      dice := N63
      right := N68
      max := (no _ (by decide))
      min := (no _ (by decide)) }
end OM

namespace OM
open PySem PySem.Spec PyProof.Rows L2 VL
/-! ### the head's facts, by a hook -/
def obsM (fn : List He5.DefA) (ts : List He.Tab) (ex : PySem.W.Frag → List Bool) (K : PySem.W.Frag) : (Bool × List He.FnW) × List (Option (List (Option (Str × Int)))) :=
  (((ex K).all id && fn.all fun d => d.ok K, fn.map fun d => He5.fnA K (d.at_ K)), ts.map fun t => He.dicW K (t.1 K))
def valM (fn : List He5.DefA) (ts : List He.Tab) (w : World) : (Bool × List He.FnW) × List (Option (List (Option (Str × Int)))) := ((true, fn.map He5.DefA.val), ts.map fun t => some (He.keysIn w.params t.2))
def hookM (need : (Addr → Option Obj) → List Addr) (fn : List He5.DefA) (ts : List He.Tab) (ex : PySem.W.Frag → List Bool) : PySem.W.Hook where
  α := (Bool × List He.FnW) × List (Option (List (Option (Str × Int))))
  obs := fun s => obsM fn ts ex (He.frG s.heap.get? (need s.heap.get?))
  val := fun w => valM fn ts w
  says := fun w h => ∃ K : PySem.W.Frag, K.In h ∧ obsM fn ts ex K = valM fn ts w
  of := fun _ _ e => ⟨_, He.frG_in, e⟩
  keeps := fun _ _ _ ⟨K, hK, c⟩ k => ⟨K, PySem.W.Frag.In.keeps hK k, c⟩
section
variable {fn : List He5.DefA} {ts : List He.Tab} {ex : PySem.W.Frag → List Bool} {K : PySem.W.Frag} {w : World}
theorem says_ex (c : obsM fn ts ex K = valM fn ts w) : ∀ (i : Nat) (b : Bool), (ex K)[i]? = some b → b = true := fun i b h => by
  have c1 : ((ex K).all id && fn.all fun d => d.ok K) = true := congrArg (fun z => z.1.1) c
  exact List.all_eq_true.mp (Bool.and_eq_true_iff.mp c1).1 b (List.mem_of_getElem? h)
theorem says_fn (c : obsM fn ts ex K = valM fn ts w) : ∀ (i : Nat) (d : He5.DefA), fn[i]? = some d → ∃ fd, FunD K d.name d.qual d.params d.body d.scope (d.dvs K) (d.kws K) (d.at_ K) fd := fun i d h => by
  have c1 : ((ex K).all id && fn.all fun d => d.ok K) = true := congrArg (fun z => z.1.1) c
  have e : fn.map (fun d => He5.fnA K (d.at_ K)) = fn.map He5.DefA.val := congrArg (fun z => z.1.2) c
  have e2 : (fn.map fun d => He5.fnA K (d.at_ K))[i]? = (fn.map He5.DefA.val)[i]? := by rw [e]
  rw [List.getElem?_map, List.getElem?_map, h] at e2
  exact He5.DefA.funD (Option.some.inj e2) (List.all_eq_true.mp (Bool.and_eq_true_iff.mp c1).2 d (List.mem_of_getElem? h))
theorem says_tab (c : obsM fn ts ex K = valM fn ts w) : ∀ (i : Nat) (t : He.Tab), ts[i]? = some t → He.dicW K (t.1 K) = some (He.keysIn w.params t.2) := fun i t h => by
  have e : ts.map (fun t => He.dicW K (t.1 K)) = ts.map fun t => some (He.keysIn w.params t.2) := congrArg (fun z => z.2) c
  have e2 : (ts.map fun t => He.dicW K (t.1 K))[i]? = (ts.map fun t => some (He.keysIn w.params t.2))[i]? := by rw [e]
  rw [List.getElem?_map, List.getElem?_map, h] at e2
  exact Option.some.inj e2
end
def intB (K : PySem.W.Frag) (x : Str) (v : Int) : Bool := match PySem.W.nsIn K mainGlobals x with
  | some (some (.int i _)) => decide (i = v)
  | _ => false
theorem intB_ok {K : PySem.W.Frag} {x : Str} {v : Int} (h : intB K x v = true) : ∃ t, PySem.W.nsIn K mainGlobals x = some (some (.int v t)) := by
  unfold intB at h
  split at h
  · rename_i i t e
    rw [e, of_decide_eq_true h]
    exact ⟨t, rfl⟩
  · cases h
def strG (K : PySem.W.Frag) (x z : Str) : Bool := match PySem.W.nsIn K mainGlobals x with
  | some (some (.str y _)) => decide (y = z)
  | _ => false
theorem strG_ok {K : PySem.W.Frag} {x z : Str} (h : strG K x z = true) : ∃ t, PySem.W.nsIn K mainGlobals x = some (some (.str z t)) := by
  unfold strG at h
  split at h
  · rename_i y t e
    rw [e, of_decide_eq_true h]
    exact ⟨t, rfl⟩
  · cases h
/-- the getter of the property at p -/
def propG (K : PySem.W.Frag) (p : Addr) : Addr := match K.lookup p with
  | some ⟨_, _, .fields vs, _⟩ => (match vs.toList with
    | .ref g :: _ => g
    | _ => 0)
  | _ => 0
def propB (K : PySem.W.Frag) (C : Addr) (f : Str) : Bool := He.eqO (PySem.W.findIn K (.ref C) f) (some (some (.ref (He.ma K C f)))) && (decide (PySem.W.specialIn K (.ref (He.ma K C f)) "__get__" = some (some (.builtin "property.__get__"))) && (decide (PySem.W.takesIn K (.ref (He.ma K C f)) = some true) &&
  (match K.lookup (He.ma K C f) with
    | some ⟨.type t, _, .fields vs, _⟩ => decide (t = "property") && (match vs.toList with
      | .ref _ :: _ => true
      | _ => false)
    | _ => false)))
theorem propB_ok {K : PySem.W.Frag} {C : Addr} {f : Str} (h : propB K C f = true) : PropOf K C f (He.ma K C f) (propG K (He.ma K C f)) := by
  unfold propB at h
  simp only [Bool.and_eq_true] at h
  obtain ⟨h1, h2, h3, h4⟩ := h
  unfold propG
  split at h4
  · rename_i t od vs sl e
    rw [e]
    dsimp only
    obtain ⟨h5, h6⟩ := Bool.and_eq_true_iff.mp h4
    have ht := of_decide_eq_true h5
    subst ht
    split at h6
    · rename_i g rest ev
      exact prop_mk (He.eqO_ok h1) e ev h2 h3
    · cases h6
  · cases h4
theorem fu_of {K : PySem.W.Frag} {x qual : Str} {st : Stmt} {f : Addr} (h : ∃ fd, FunD K x qual (defArgs st) (defBody st) (defScope st) [] [] f fd) : HasFn K x qual st f := h.elim fun fd F => ⟨fd, He5.fun_of F⟩
def fnL : List He5.DefA := [
  ⟨fun K => (He.ma K (He.ga K "Program") "__init__"), "__init__", "Program.__init__", defArgs sPIn, defBody sPIn, defScope sPIn, [], [("cells", .non), ("answers", .non)]⟩,
  ⟨fun K => (He.ma K (He.ga K "Program") "__call__"), "__call__", "Program.__call__", defArgs sPCall, defBody sPCall, defScope sPCall, [], []⟩,
  ⟨fun K => (He.ma K (He.ga K "Program") "__len__"), "__len__", "Program.__len__", defArgs sPLen, defBody sPLen, defScope sPLen, [], []⟩,
  ⟨fun K => (He.ma K (He.ga K "Program") "__eq__"), "__eq__", "Program.__eq__", defArgs sPEq, defBody sPEq, defScope sPEq, [], []⟩,
  ⟨fun K => (propG K (He.ma K (He.ga K "Program") "threads")), "threads", "Program.threads", defArgs (inStK 51 1), defBody (inStK 51 1), defScope (inStK 51 1), [], []⟩,
  ⟨fun K => (propG K (He.ma K (He.ga K "Program") "cells")), "cells", "Program.cells", defArgs sPCells, defBody sPCells, defScope sPCells, [], []⟩,
  ⟨fun K => (propG K (He.ma K (He.ga K "Program") "answers")), "answers", "Program.answers", defArgs sPAns, defBody sPAns, defScope sPAns, [], []⟩,
  ⟨fun K => (propG K (He.ma K (He.ga K "Program") "names")), "names", "Program.names", defArgs sPNames, defBody sPNames, defScope sPNames, [], []⟩,
  ⟨fun K => (He.ma K (He.ga K "Run") "__init__"), "__init__", "Run.__init__", defArgs sRuIn, defBody sRuIn, defScope sRuIn, [], []⟩,
  ⟨fun K => (He.ma K (He.ga K "Run") "held"), "held", "Run.held", defArgs sHeld, defBody sHeld, defScope sHeld, [], []⟩,
  ⟨fun K => (He.ma K (He.ga K "Run") "after"), "after", "Run.after", defArgs sAfter, defBody sAfter, defScope sAfter, [], []⟩,
  ⟨fun K => (He.ma K (He.ga K "Run") "__eq__"), "__eq__", "Run.__eq__", defArgs sRuEq, defBody sRuEq, defScope sRuEq, [], []⟩,
  ⟨fun K => (propG K (He.ma K (He.ga K "Run") "shown")), "shown", "Run.shown", defArgs (inStK 52 3), defBody (inStK 52 3), defScope (inStK 52 3), [], []⟩,
  ⟨fun K => (propG K (He.ma K (He.ga K "Run") "next_steps")), "next_steps", "Run.next_steps", defArgs (inStK 52 6), defBody (inStK 52 6), defScope (inStK 52 6), [], []⟩,
  ⟨fun K => (propG K (He.ma K (He.ga K "Run") "ready")), "ready", "Run.ready", defArgs (inStK 52 7), defBody (inStK 52 7), defScope (inStK 52 7), [], []⟩,
  ⟨fun K => (propG K (He.ma K (He.ga K "Run") "is_end")), "is_end", "Run.is_end", defArgs sIsEnd, defBody sIsEnd, defScope sIsEnd, [], []⟩,
  ⟨fun K => (He.ma K (He.ga K "Machine") "__init__"), "__init__", "Machine.__init__", defArgs sMaIn, defBody sMaIn, defScope sMaIn, [], []⟩,
  ⟨fun K => (He.ma K (He.ga K "Machine") "value_of"), "value_of", "Machine.value_of", defArgs sValOf, defBody sValOf, defScope sValOf, [], []⟩,
  ⟨fun K => (He.ma K (He.ga K "Moment") "__init__"), "__init__", "Moment.__init__", defArgs sMoIn, defBody sMoIn, defScope sMoIn, [], []⟩,
  ⟨fun K => (He.ma K (He.ga K "Moment") "row_of"), "row_of", "Moment.row_of", defArgs sRowOf, defBody sRowOf, defScope sRowOf, [], []⟩,
  ⟨fun K => (He.ma K (He.ga K "Moment") "step_of"), "step_of", "Moment.step_of", defArgs sStepOf, defBody sStepOf, defScope sStepOf, [], []⟩,
  ⟨fun K => (He.ma K (He.ga K "Moment") "can_step"), "can_step", "Moment.can_step", defArgs sCanStep, defBody sCanStep, defScope sCanStep, [], []⟩,
  ⟨fun K => (He.ma K (He.ga K "Moment") "movable"), "movable", "Moment.movable", defArgs sMovable, defBody sMovable, defScope sMovable, [], []⟩,
  ⟨fun K => (He.ma K (He.ga K "Moment") "clashes"), "clashes", "Moment.clashes", defArgs sClashes, defBody sClashes, defScope sClashes, [], []⟩,
  ⟨fun K => (He.ma K (He.ga K "Moment") "stepped"), "stepped", "Moment.stepped", defArgs sStepped, defBody sStepped, defScope sStepped, [], []⟩,
  ⟨fun K => (He.ma K (He.ga K "Moment") "take_step"), "take_step", "Moment.take_step", defArgs sTakeStep, defBody sTakeStep, defScope sTakeStep, [], []⟩,
  ⟨fun K => (He.ma K (He.ga K "Moment") "settle"), "settle", "Moment.settle", defArgs sSettle, defBody sSettle, defScope sSettle, [], []⟩,
  ⟨fun K => (He.ma K (He.ga K "Moment") "is_yes"), "is_yes", "Moment.is_yes", defArgs sIsYes, defBody sIsYes, defScope sIsYes, [], []⟩,
  ⟨fun K => (He.ma K (He.ga K "Moment") "value_in"), "value_in", "Moment.value_in", defArgs sValueIn, defBody sValueIn, defScope sValueIn, [], []⟩,
  ⟨fun K => (He.ma K (He.ga K "Moment") "assign"), "assign", "Moment.assign", defArgs sAssign, defBody sAssign, defScope sAssign, [], []⟩,
  ⟨fun K => (He.ga K "is_nested_code"), "is_nested_code", "is_nested_code", defArgs sNested, defBody sNested, defScope sNested, [.bl false], []⟩,
  ⟨fun K => (He.ga K "is_number"), "is_number", "is_number", defArgs (top 14), defBody (top 14), defScope (top 14), [], []⟩,
  ⟨fun K => (He.ga K "is_whole"), "is_whole", "is_whole", defArgs (top 15), defBody (top 15), defScope (top 15), [], []⟩,
  ⟨fun K => (He.ga K "is_name"), "is_name", "is_name", defArgs (top 16), defBody (top 16), defScope (top 16), [], []⟩,
  ⟨fun K => (He.ga K "is_value"), "is_value", "is_value", defArgs (top 17), defBody (top 17), defScope (top 17), [], []⟩,
  ⟨fun K => (He.ga K "is_answers"), "is_answers", "is_answers", defArgs (top 18), defBody (top 18), defScope (top 18), [], []⟩,
  ⟨fun K => (He.ga K "_is_asked"), "_is_asked", "_is_asked", defArgs (top 19), defBody (top 19), defScope (top 19), [], []⟩,
  ⟨fun K => (He.ga K "written"), "written", "written", defArgs (top 21), defBody (top 21), defScope (top 21), [], []⟩,
  ⟨fun K => (He.ga K "_pieces"), "_pieces", "_pieces", defArgs (top 22), defBody (top 22), defScope (top 22), [], []⟩,
  ⟨fun K => (He.ga K "_kinds"), "_kinds", "_kinds", defArgs (top 23), defBody (top 23), defScope (top 23), [], []⟩,
  ⟨fun K => (He.ga K "_kind"), "_kind", "_kind", defArgs (top 24), defBody (top 24), defScope (top 24), [], []⟩,
  ⟨fun K => (He.ga K "_is_atom"), "_is_atom", "_is_atom", defArgs (top 25), defBody (top 25), defScope (top 25), [], []⟩,
  ⟨fun K => (He.ga K "_is_written_number"), "_is_written_number", "_is_written_number", defArgs (top 26), defBody (top 26), defScope (top 26), [], []⟩,
  ⟨fun K => (He.ga K "_is_in_turn"), "_is_in_turn", "_is_in_turn", defArgs (top 27), defBody (top 27), defScope (top 27), [], []⟩,
  ⟨fun K => (He.ga K "_is_nested"), "_is_nested", "_is_nested", defArgs (top 28), defBody (top 28), defScope (top 28), [], []⟩,
  ⟨fun K => (He.ga K "_is_statement"), "_is_statement", "_is_statement", defArgs (top 33), defBody (top 33), defScope (top 33), [], []⟩,
  ⟨fun K => (He.ga K "_fits"), "_fits", "_fits", defArgs (top 34), defBody (top 34), defScope (top 34), [], []⟩,
  ⟨fun K => (He.ga K "flattened"), "flattened", "flattened", defArgs (top 35), defBody (top 35), defScope (top 35), [], []⟩,
  ⟨fun K => (He.ga K "codes_in"), "codes_in", "codes_in", defArgs (top 36), defBody (top 36), defScope (top 36), [], []⟩,
  ⟨fun K => (He.ga K "names_in"), "names_in", "names_in", defArgs (top 37), defBody (top 37), defScope (top 37), [], []⟩,
  ⟨fun K => (He.ga K "_names_of"), "_names_of", "_names_of", defArgs (top 38), defBody (top 38), defScope (top 38), [], []⟩,
  ⟨fun K => (He.ga K "most_on_path"), "most_on_path", "most_on_path", defArgs (top 39), defBody (top 39), defScope (top 39), [], []⟩,
  ⟨fun K => (He.ga K "_most_at"), "_most_at", "_most_at", defArgs (top 40), defBody (top 40), defScope (top 40), [], []⟩,
  ⟨fun K => (He.ga K "_path_kind"), "_path_kind", "_path_kind", defArgs (top 41), defBody (top 41), defScope (top 41), [], []⟩,
  ⟨fun K => (He.ga K "is_thread_code"), "is_thread_code", "is_thread_code", defArgs (top 49), defBody (top 49), defScope (top 49), [], []⟩,
  ⟨fun K => (He.ga K "is_order"), "is_order", "is_order", defArgs (top 50), defBody (top 50), defScope (top 50), [], []⟩,
  ⟨fun K => (He.ga K "first_moment"), "first_moment", "first_moment", defArgs (top 55), defBody (top 55), defScope (top 55), [], []⟩,
  ⟨fun K => (He.ga K "moment_after"), "moment_after", "moment_after", defArgs (top 56), defBody (top 56), defScope (top 56), [], []⟩,
  ⟨fun K => (He.ga K "check_thread"), "check_thread", "check_thread", defArgs (top 57), defBody (top 57), defScope (top 57), [], []⟩,
  ⟨fun K => (He.ga K "_is_threads"), "_is_threads", "_is_threads", defArgs (top 58), defBody (top 58), defScope (top 58), [], []⟩,
  ⟨fun K => (He.ga K "_ascending"), "_ascending", "_ascending", defArgs (top 59), defBody (top 59), defScope (top 59), [], []⟩,
  ⟨fun K => (He.ga K "_track"), "_track", "_track", defArgs (top 61), defBody (top 61), defScope (top 61), [], []⟩,
  ⟨fun K => (He.ga K "_law_dice"), "_law_dice", "_law_dice", defArgs (top 63), defBody (top 63), defScope (top 63), [], []⟩,
  ⟨fun K => (He.ga K "_law_roll"), "_law_roll", "_law_roll", defArgs (top 64), defBody (top 64), defScope (top 64), [], []⟩,
  ⟨fun K => (He.ga K "_law_one_of"), "_law_one_of", "_law_one_of", defArgs (top 65), defBody (top 65), defScope (top 65), [], []⟩,
  ⟨fun K => (He.ga K "_law_quiet_code"), "_law_quiet_code", "_law_quiet_code", defArgs (top 66), defBody (top 66), defScope (top 66), [], []⟩,
  ⟨fun K => (He.ga K "_law_shown"), "_law_shown", "_law_shown", defArgs (top 67), defBody (top 67), defScope (top 67), [], []⟩,
  ⟨fun K => (He.ga K "_law_right"), "_law_right", "_law_right", defArgs (top 68), defBody (top 68), defScope (top 68), [], []⟩,
  ⟨fun K => (He.ga K "law"), "law", "law", defArgs (top 69), defBody (top 69), defScope (top 69), [], []⟩]
def tabL : List He.Tab := [(fun K => (He.ga K "FORMS"), names8), (fun K => (He.ga K "FOLLOWERS"), fol6)]
def exL (K : PySem.W.Frag) : List Bool := [
  intB K "MAX_LETTERS" 8,
  intB K "MAX_ARGUMENTS" 2,
  intB K "MAX_REGISTERS" 2,
  intB K "MAX_DEPTH" 3,
  intB K "MAX_CODE" 60,
  intB K "MAX_ON_PATH" 6,
  intB K "MAX_THREADS" 3,
  intB K "MAX_ORDER" 200,
  strG K "LETTERS" alphabet,
  strG K "DIGITS" digits,
  He.eqO (PySem.W.nsIn K mainGlobals "WORDS") (some (some (.ref (He.ga K "WORDS")))),
  tupB K (He.ga K "WORDS") words6,
  He.eqO (PySem.W.nsIn K mainGlobals "STOPS") (some (some (.ref (He.ga K "STOPS")))),
  tupB K (He.ga K "STOPS") stops6,
  He.eqO (PySem.W.nsIn K mainGlobals "FORMS") (some (some (.ref (He.ga K "FORMS")))),
  keysB K (He.ga K "FORMS"),
  formsB K (He.ga K "FORMS"),
  He.eqO (PySem.W.nsIn K mainGlobals "FOLLOWERS") (some (some (.ref (He.ga K "FOLLOWERS")))),
  folB K (He.ga K "FOLLOWERS"),
  He.eqO (PySem.W.nsIn K (He.ga K "FOLLOWERS") "wrong") (some none),
  He.eqO (PySem.W.nsIn K mainGlobals "Program") (some (some (.ref (He.ga K "Program")))),
  He.eqO (PySem.W.findIn K (.ref (He.ga K "Program")) "__init__") (some (some (.ref (He.ma K (He.ga K "Program") "__init__")))),
  clsB K (He.ga K "Program") (He.ma K (He.ga K "Program") "__init__") ["_threads", "_cells", "_answers"],
  He.eqO (PySem.W.findIn K (.ref (He.ga K "Program")) "__call__") (some (some (.ref (He.ma K (He.ga K "Program") "__call__")))),
  methB K (He.ma K (He.ga K "Program") "__call__"),
  PySem.W.fnIn K (He.ma K (He.ga K "Program") "__call__"),
  He.eqO (PySem.W.findIn K (.ref (He.ga K "Program")) "__len__") (some (some (.ref (He.ma K (He.ga K "Program") "__len__")))),
  methB K (He.ma K (He.ga K "Program") "__len__"),
  PySem.W.fnIn K (He.ma K (He.ga K "Program") "__len__"),
  He.eqO (PySem.W.findIn K (.ref (He.ga K "Program")) "__eq__") (some (some (.ref (He.ma K (He.ga K "Program") "__eq__")))),
  methB K (He.ma K (He.ga K "Program") "__eq__"),
  PySem.W.fnIn K (He.ma K (He.ga K "Program") "__eq__"),
  propB K (He.ga K "Program") "threads",
  propB K (He.ga K "Program") "cells",
  propB K (He.ga K "Program") "answers",
  propB K (He.ga K "Program") "names",
  He.eqO (PySem.W.nsIn K mainGlobals "Run") (some (some (.ref (He.ga K "Run")))),
  He.eqO (PySem.W.findIn K (.ref (He.ga K "Run")) "__init__") (some (some (.ref (He.ma K (He.ga K "Run") "__init__")))),
  clsB K (He.ga K "Run") (He.ma K (He.ga K "Run") "__init__") ["_program", "_order", "_moment", "_shown", "_cells", "_lines", "_next_steps", "_ready", "_clashing"],
  He.eqO (PySem.W.findIn K (.ref (He.ga K "Run")) "held") (some (some (.ref (He.ma K (He.ga K "Run") "held")))),
  methB K (He.ma K (He.ga K "Run") "held"),
  He.eqO (PySem.W.findIn K (.ref (He.ga K "Run")) "after") (some (some (.ref (He.ma K (He.ga K "Run") "after")))),
  methB K (He.ma K (He.ga K "Run") "after"),
  He.eqO (PySem.W.findIn K (.ref (He.ga K "Run")) "__eq__") (some (some (.ref (He.ma K (He.ga K "Run") "__eq__")))),
  methB K (He.ma K (He.ga K "Run") "__eq__"),
  PySem.W.fnIn K (He.ma K (He.ga K "Run") "__eq__"),
  propB K (He.ga K "Run") "shown",
  propB K (He.ga K "Run") "next_steps",
  propB K (He.ga K "Run") "ready",
  propB K (He.ga K "Run") "is_end",
  He.eqO (PySem.W.nsIn K mainGlobals "Machine") (some (some (.ref (He.ga K "Machine")))),
  He.eqO (PySem.W.findIn K (.ref (He.ga K "Machine")) "__init__") (some (some (.ref (He.ma K (He.ga K "Machine") "__init__")))),
  clsB K (He.ga K "Machine") (He.ma K (He.ga K "Machine") "__init__") ["tracks", "told", "known"],
  He.eqO (PySem.W.findIn K (.ref (He.ga K "Machine")) "value_of") (some (some (.ref (He.ma K (He.ga K "Machine") "value_of")))),
  methB K (He.ma K (He.ga K "Machine") "value_of"),
  He.eqO (PySem.W.nsIn K mainGlobals "Moment") (some (some (.ref (He.ga K "Moment")))),
  He.eqO (PySem.W.findIn K (.ref (He.ga K "Moment")) "__init__") (some (some (.ref (He.ma K (He.ga K "Moment") "__init__")))),
  clsB K (He.ga K "Moment") (He.ma K (He.ga K "Moment") "__init__") ["machine", "spots", "worths", "contents", "queues", "rows"],
  He.eqO (PySem.W.findIn K (.ref (He.ga K "Moment")) "row_of") (some (some (.ref (He.ma K (He.ga K "Moment") "row_of")))),
  methB K (He.ma K (He.ga K "Moment") "row_of"),
  He.eqO (PySem.W.findIn K (.ref (He.ga K "Moment")) "step_of") (some (some (.ref (He.ma K (He.ga K "Moment") "step_of")))),
  methB K (He.ma K (He.ga K "Moment") "step_of"),
  He.eqO (PySem.W.findIn K (.ref (He.ga K "Moment")) "can_step") (some (some (.ref (He.ma K (He.ga K "Moment") "can_step")))),
  methB K (He.ma K (He.ga K "Moment") "can_step"),
  He.eqO (PySem.W.findIn K (.ref (He.ga K "Moment")) "movable") (some (some (.ref (He.ma K (He.ga K "Moment") "movable")))),
  methB K (He.ma K (He.ga K "Moment") "movable"),
  He.eqO (PySem.W.findIn K (.ref (He.ga K "Moment")) "clashes") (some (some (.ref (He.ma K (He.ga K "Moment") "clashes")))),
  methB K (He.ma K (He.ga K "Moment") "clashes"),
  He.eqO (PySem.W.findIn K (.ref (He.ga K "Moment")) "stepped") (some (some (.ref (He.ma K (He.ga K "Moment") "stepped")))),
  methB K (He.ma K (He.ga K "Moment") "stepped"),
  He.eqO (PySem.W.findIn K (.ref (He.ga K "Moment")) "take_step") (some (some (.ref (He.ma K (He.ga K "Moment") "take_step")))),
  methB K (He.ma K (He.ga K "Moment") "take_step"),
  He.eqO (PySem.W.findIn K (.ref (He.ga K "Moment")) "settle") (some (some (.ref (He.ma K (He.ga K "Moment") "settle")))),
  methB K (He.ma K (He.ga K "Moment") "settle"),
  He.eqO (PySem.W.findIn K (.ref (He.ga K "Moment")) "is_yes") (some (some (.ref (He.ma K (He.ga K "Moment") "is_yes")))),
  methB K (He.ma K (He.ga K "Moment") "is_yes"),
  He.eqO (PySem.W.findIn K (.ref (He.ga K "Moment")) "value_in") (some (some (.ref (He.ma K (He.ga K "Moment") "value_in")))),
  methB K (He.ma K (He.ga K "Moment") "value_in"),
  He.eqO (PySem.W.findIn K (.ref (He.ga K "Moment")) "assign") (some (some (.ref (He.ma K (He.ga K "Moment") "assign")))),
  methB K (He.ma K (He.ga K "Moment") "assign"),
  strC K (He.ga K "Program"),
  strC K (He.ga K "Run"),
  PySem.W.notFirst K (He.ga K "Program") (.ref (He.ga K "Program")),
  PySem.W.notFirst K (He.ga K "Run") (.ref (He.ga K "Run")),
  freeB K,
  He.eqO (PySem.W.nsIn K mainGlobals "is_nested_code") (some (some (.ref (He.ga K "is_nested_code")))),
  He.eqO (PySem.W.nsIn K mainGlobals "is_number") (some (some (.ref (He.ga K "is_number")))),
  He.eqO (PySem.W.nsIn K mainGlobals "is_whole") (some (some (.ref (He.ga K "is_whole")))),
  He.eqO (PySem.W.nsIn K mainGlobals "is_name") (some (some (.ref (He.ga K "is_name")))),
  He.eqO (PySem.W.nsIn K mainGlobals "is_value") (some (some (.ref (He.ga K "is_value")))),
  He.eqO (PySem.W.nsIn K mainGlobals "is_answers") (some (some (.ref (He.ga K "is_answers")))),
  He.eqO (PySem.W.nsIn K mainGlobals "_is_asked") (some (some (.ref (He.ga K "_is_asked")))),
  He.eqO (PySem.W.nsIn K mainGlobals "written") (some (some (.ref (He.ga K "written")))),
  He.eqO (PySem.W.nsIn K mainGlobals "_pieces") (some (some (.ref (He.ga K "_pieces")))),
  He.eqO (PySem.W.nsIn K mainGlobals "_kinds") (some (some (.ref (He.ga K "_kinds")))),
  He.eqO (PySem.W.nsIn K mainGlobals "_kind") (some (some (.ref (He.ga K "_kind")))),
  He.eqO (PySem.W.nsIn K mainGlobals "_is_atom") (some (some (.ref (He.ga K "_is_atom")))),
  He.eqO (PySem.W.nsIn K mainGlobals "_is_written_number") (some (some (.ref (He.ga K "_is_written_number")))),
  He.eqO (PySem.W.nsIn K mainGlobals "_is_in_turn") (some (some (.ref (He.ga K "_is_in_turn")))),
  He.eqO (PySem.W.nsIn K mainGlobals "_is_nested") (some (some (.ref (He.ga K "_is_nested")))),
  He.eqO (PySem.W.nsIn K mainGlobals "_is_statement") (some (some (.ref (He.ga K "_is_statement")))),
  He.eqO (PySem.W.nsIn K mainGlobals "_fits") (some (some (.ref (He.ga K "_fits")))),
  He.eqO (PySem.W.nsIn K mainGlobals "flattened") (some (some (.ref (He.ga K "flattened")))),
  He.eqO (PySem.W.nsIn K mainGlobals "codes_in") (some (some (.ref (He.ga K "codes_in")))),
  He.eqO (PySem.W.nsIn K mainGlobals "names_in") (some (some (.ref (He.ga K "names_in")))),
  He.eqO (PySem.W.nsIn K mainGlobals "_names_of") (some (some (.ref (He.ga K "_names_of")))),
  He.eqO (PySem.W.nsIn K mainGlobals "most_on_path") (some (some (.ref (He.ga K "most_on_path")))),
  He.eqO (PySem.W.nsIn K mainGlobals "_most_at") (some (some (.ref (He.ga K "_most_at")))),
  He.eqO (PySem.W.nsIn K mainGlobals "_path_kind") (some (some (.ref (He.ga K "_path_kind")))),
  He.eqO (PySem.W.nsIn K mainGlobals "is_thread_code") (some (some (.ref (He.ga K "is_thread_code")))),
  He.eqO (PySem.W.nsIn K mainGlobals "is_order") (some (some (.ref (He.ga K "is_order")))),
  He.eqO (PySem.W.nsIn K mainGlobals "first_moment") (some (some (.ref (He.ga K "first_moment")))),
  He.eqO (PySem.W.nsIn K mainGlobals "moment_after") (some (some (.ref (He.ga K "moment_after")))),
  He.eqO (PySem.W.nsIn K mainGlobals "check_thread") (some (some (.ref (He.ga K "check_thread")))),
  He.eqO (PySem.W.nsIn K mainGlobals "_is_threads") (some (some (.ref (He.ga K "_is_threads")))),
  He.eqO (PySem.W.nsIn K mainGlobals "_ascending") (some (some (.ref (He.ga K "_ascending")))),
  He.eqO (PySem.W.nsIn K mainGlobals "_track") (some (some (.ref (He.ga K "_track")))),
  He.eqO (PySem.W.nsIn K mainGlobals "_law_dice") (some (some (.ref (He.ga K "_law_dice")))),
  He.eqO (PySem.W.nsIn K mainGlobals "_law_roll") (some (some (.ref (He.ga K "_law_roll")))),
  He.eqO (PySem.W.nsIn K mainGlobals "_law_one_of") (some (some (.ref (He.ga K "_law_one_of")))),
  He.eqO (PySem.W.nsIn K mainGlobals "_law_quiet_code") (some (some (.ref (He.ga K "_law_quiet_code")))),
  He.eqO (PySem.W.nsIn K mainGlobals "_law_shown") (some (some (.ref (He.ga K "_law_shown")))),
  He.eqO (PySem.W.nsIn K mainGlobals "_law_right") (some (some (.ref (He.ga K "_law_right")))),
  He.eqO (PySem.W.nsIn K mainGlobals "law") (some (some (.ref (He.ga K "law"))))]
/-! ### which objects the facts look at -/
def refsAt (g : Addr → Option Obj) (a : Addr) : List Addr := match g a with
  | some o => He.refsD o
  | none => []
def needF (g : Addr → Option Obj) (a : Addr) : List Addr := a :: (match g a with
  | some ⟨_, _, .func fd, _⟩ => He.refV fd.code ++ ((He.refV fd.defaults ++ He.refV fd.kwdefaults).flatMap fun T => T :: refsAt g T)
  | some ⟨_, _, .fields vs, _⟩ => (vs.toList.flatMap He.refV).flatMap fun f => f :: (match g f with
    | some ⟨_, _, .func fd, _⟩ => He.refV fd.code
    | _ => [])
  | _ => [])
def needC (g : Addr → Option Obj) (C : Addr) (ms : List Str) : List Addr := C :: (match g C with
  | some ⟨_, _, .cls cd, _⟩ => cd.ns :: ms.flatMap fun m => (match PySem.W.nsIn (He.frG g [cd.ns]) cd.ns m with
    | some (some (.ref f)) => needF g f
    | _ => [])
  | _ => [])
def nmFx : List Str := (["is_number", "is_whole", "is_name", "is_value", "is_answers", "_is_asked", "written", "_pieces", "_kinds", "_kind", "_is_atom", "_is_written_number", "_is_in_turn", "_is_nested", "is_nested_code", "_is_statement", "_fits", "flattened", "codes_in", "names_in"] : List Str) ++ (["_names_of", "most_on_path", "_most_at", "_path_kind", "is_thread_code", "is_order", "first_moment", "moment_after", "check_thread", "_is_threads", "_ascending", "_track", "_law_dice", "_law_roll", "_law_one_of", "_law_quiet_code", "_law_shown", "_law_right", "law"] : List Str)
def nmCx : List (Str × List Str) := [("Program", ["__init__", "__call__", "__len__", "__eq__", "threads", "cells", "answers", "names"]), ("Run", ["__init__", "held", "after", "__eq__", "shown", "next_steps", "ready", "is_end"]), ("Machine", ["__init__", "value_of"]), ("Moment", ["__init__", "row_of", "step_of", "can_step", "movable", "clashes", "stepped", "take_step", "settle", "is_yes", "value_in", "assign"])]
def nmDx : List Str := ["FORMS", "FOLLOWERS", "WORDS", "STOPS"]
def needL (g : Addr → Option Obj) : List Addr := mainGlobals :: ((nmFx.flatMap fun x => needF g (He.ga (He.frG g [mainGlobals]) x)) ++ ((nmCx.flatMap fun p => needC g (He.ga (He.frG g [mainGlobals]) p.1) p.2) ++ (nmDx.flatMap fun x => He.ga (He.frG g [mainGlobals]) x :: refsAt g (He.ga (He.frG g [mainGlobals]) x))))
def gTab : List Str := (["", "", "", "", "", "", "", "", "", "", "", "", "", "", "is_number", "is_whole", "is_name", "is_value", "is_answers", "_is_asked"] : List Str) ++ (["", "written", "_pieces", "_kinds", "_kind", "_is_atom", "_is_written_number", "_is_in_turn", "_is_nested", "", "", "", "is_nested_code", "_is_statement", "_fits", "flattened", "codes_in", "names_in", "_names_of", "most_on_path"] : List Str) ++ (["_most_at", "_path_kind", "", "", "", "", "", "", "", "is_thread_code", "is_order", "", "", "", "", "first_moment", "moment_after", "check_thread", "_is_threads", "_ascending"] : List Str) ++ (["", "_track", "", "_law_dice", "_law_roll", "_law_one_of", "_law_quiet_code", "_law_shown", "_law_right", "law"] : List Str)
theorem top_x {K : PySem.W.Frag} {w : World} (c : obsM fnL tabL exL K = valM fnL tabL w) : Top29 K w (fun i => He.ga K (gTab.getD i "")) (He.ga K "Program") (He.ga K "Run") (He.ga K "Machine") (He.ga K "Moment") (He.ga K "FORMS") (He.ga K "FOLLOWERS") (He.ga K "WORDS") (He.ga K "STOPS") (He.ma K (He.ga K "Program") "__init__") (He.ma K (He.ga K "Program") "__call__") (He.ma K (He.ga K "Program") "__len__") (He.ma K (He.ga K "Program") "__eq__") (He.ma K (He.ga K "Run") "__init__") (He.ma K (He.ga K "Run") "held") (He.ma K (He.ga K "Run") "after") (He.ma K (He.ga K "Run") "__eq__") (He.ma K (He.ga K "Machine") "__init__") (He.ma K (He.ga K "Machine") "value_of") (He.ma K (He.ga K "Moment") "__init__") (He.ma K (He.ga K "Moment") "row_of") (He.ma K (He.ga K "Moment") "step_of") (He.ma K (He.ga K "Moment") "can_step") (He.ma K (He.ga K "Moment") "movable") (He.ma K (He.ga K "Moment") "clashes") (He.ma K (He.ga K "Moment") "stepped") (He.ma K (He.ga K "Moment") "take_step") (He.ma K (He.ga K "Moment") "settle") (He.ma K (He.ga K "Moment") "is_yes") (He.ma K (He.ga K "Moment") "value_in") (He.ma K (He.ga K "Moment") "assign") (He.ma K (He.ga K "Program") "threads") (propG K (He.ma K (He.ga K "Program") "threads")) (He.ma K (He.ga K "Program") "cells") (propG K (He.ma K (He.ga K "Program") "cells")) (He.ma K (He.ga K "Program") "answers") (propG K (He.ma K (He.ga K "Program") "answers")) (He.ma K (He.ga K "Program") "names") (propG K (He.ma K (He.ga K "Program") "names")) (He.ma K (He.ga K "Run") "shown") (propG K (He.ma K (He.ga K "Run") "shown")) (He.ma K (He.ga K "Run") "next_steps") (propG K (He.ma K (He.ga K "Run") "next_steps")) (He.ma K (He.ga K "Run") "ready") (propG K (He.ma K (He.ga K "Run") "ready")) (He.ma K (He.ga K "Run") "is_end") (propG K (He.ma K (He.ga K "Run") "is_end")) := by
  have X := says_ex c
  have FF := says_fn c
  have TB := says_tab c
  exact {
    iMAX_LETTERS := intB_ok (X 0 _ rfl)
    iMAX_ARGUMENTS := intB_ok (X 1 _ rfl)
    iMAX_REGISTERS := intB_ok (X 2 _ rfl)
    iMAX_DEPTH := intB_ok (X 3 _ rfl)
    iMAX_CODE := intB_ok (X 4 _ rfl)
    iMAX_ON_PATH := intB_ok (X 5 _ rfl)
    iMAX_THREADS := intB_ok (X 6 _ rfl)
    iMAX_ORDER := intB_ok (X 7 _ rfl)
    lets := strG_ok (X 8 _ rfl)
    digs := strG_ok (X 9 _ rfl)
    words := He.eqO_ok (X 10 _ rfl)
    wordsT := (X 11 _ rfl)
    stopsN := He.eqO_ok (X 12 _ rfl)
    stopsT := (X 13 _ rfl)
    forms := He.eqO_ok (X 14 _ rfl)
    formsD := TB 0 _ rfl
    formsK := (X 15 _ rfl)
    formsV := (X 16 _ rfl)
    fol := He.eqO_ok (X 17 _ rfl)
    folD := TB 1 _ rfl
    folV := (X 18 _ rfl)
    folW := He.eqO_ok (X 19 _ rfl)
    pg := He.eqO_ok (X 20 _ rfl)
    pi := He.eqO_ok (X 21 _ rfl)
    pB := (X 22 _ rfl)
    fp0 := FF 0 _ rfl
    ep6 := He.eqO_ok (X 23 _ rfl)
    bp6 := (X 24 _ rfl)
    fip6 := (X 25 _ rfl)
    fp6 := fu_of (FF 1 _ rfl)
    ep7 := He.eqO_ok (X 26 _ rfl)
    bp7 := (X 27 _ rfl)
    fip7 := (X 28 _ rfl)
    fp7 := fu_of (FF 2 _ rfl)
    ep8 := He.eqO_ok (X 29 _ rfl)
    bp8 := (X 30 _ rfl)
    fip8 := (X 31 _ rfl)
    fp8 := fu_of (FF 3 _ rfl)
    PpT := propB_ok (X 32 _ rfl)
    fgT := fu_of (FF 4 _ rfl)
    PpC := propB_ok (X 33 _ rfl)
    fgC := fu_of (FF 5 _ rfl)
    PpA := propB_ok (X 34 _ rfl)
    fgA := fu_of (FF 6 _ rfl)
    PpN := propB_ok (X 35 _ rfl)
    fgN := fu_of (FF 7 _ rfl)
    rg := He.eqO_ok (X 36 _ rfl)
    ri := He.eqO_ok (X 37 _ rfl)
    rB := (X 38 _ rfl)
    fr0 := fu_of (FF 8 _ rfl)
    er10 := He.eqO_ok (X 39 _ rfl)
    br10 := (X 40 _ rfl)
    fr10 := fu_of (FF 9 _ rfl)
    er11 := He.eqO_ok (X 41 _ rfl)
    br11 := (X 42 _ rfl)
    fr11 := fu_of (FF 10 _ rfl)
    er13 := He.eqO_ok (X 43 _ rfl)
    br13 := (X 44 _ rfl)
    fir13 := (X 45 _ rfl)
    fr13 := fu_of (FF 11 _ rfl)
    PpS := propB_ok (X 46 _ rfl)
    fgS := fu_of (FF 12 _ rfl)
    PpX := propB_ok (X 47 _ rfl)
    fgX := fu_of (FF 13 _ rfl)
    PpR := propB_ok (X 48 _ rfl)
    fgR := fu_of (FF 14 _ rfl)
    PpE := propB_ok (X 49 _ rfl)
    fgE := fu_of (FF 15 _ rfl)
    kg := He.eqO_ok (X 50 _ rfl)
    ki := He.eqO_ok (X 51 _ rfl)
    kB := (X 52 _ rfl)
    fk0 := fu_of (FF 16 _ rfl)
    ek1 := He.eqO_ok (X 53 _ rfl)
    bk1 := (X 54 _ rfl)
    fk1 := fu_of (FF 17 _ rfl)
    mg := He.eqO_ok (X 55 _ rfl)
    mi := He.eqO_ok (X 56 _ rfl)
    mB := (X 57 _ rfl)
    fm0 := fu_of (FF 18 _ rfl)
    em3 := He.eqO_ok (X 58 _ rfl)
    bm3 := (X 59 _ rfl)
    fm3 := fu_of (FF 19 _ rfl)
    em4 := He.eqO_ok (X 60 _ rfl)
    bm4 := (X 61 _ rfl)
    fm4 := fu_of (FF 20 _ rfl)
    em5 := He.eqO_ok (X 62 _ rfl)
    bm5 := (X 63 _ rfl)
    fm5 := fu_of (FF 21 _ rfl)
    em6 := He.eqO_ok (X 64 _ rfl)
    bm6 := (X 65 _ rfl)
    fm6 := fu_of (FF 22 _ rfl)
    em7 := He.eqO_ok (X 66 _ rfl)
    bm7 := (X 67 _ rfl)
    fm7 := fu_of (FF 23 _ rfl)
    em8 := He.eqO_ok (X 68 _ rfl)
    bm8 := (X 69 _ rfl)
    fm8 := fu_of (FF 24 _ rfl)
    em9 := He.eqO_ok (X 70 _ rfl)
    bm9 := (X 71 _ rfl)
    fm9 := fu_of (FF 25 _ rfl)
    em10 := He.eqO_ok (X 72 _ rfl)
    bm10 := (X 73 _ rfl)
    fm10 := fu_of (FF 26 _ rfl)
    em11 := He.eqO_ok (X 74 _ rfl)
    bm11 := (X 75 _ rfl)
    fm11 := fu_of (FF 27 _ rfl)
    em12 := He.eqO_ok (X 76 _ rfl)
    bm12 := (X 77 _ rfl)
    fm12 := fu_of (FF 28 _ rfl)
    em13 := He.eqO_ok (X 78 _ rfl)
    bm13 := (X 79 _ rfl)
    fm13 := fu_of (FF 29 _ rfl)
    pyC := (X 80 _ rfl)
    ryC := (X 81 _ rfl)
    pnf := (X 82 _ rfl)
    rnf := (X 83 _ rfl)
    nn := (X 84 _ rfl)
    n32 := He.eqO_ok (X 85 _ rfl)
    h32 := FF 30 _ rfl
    n14 := He.eqO_ok (X 86 _ rfl)
    h14 := fu_of (FF 31 _ rfl)
    n15 := He.eqO_ok (X 87 _ rfl)
    h15 := fu_of (FF 32 _ rfl)
    n16 := He.eqO_ok (X 88 _ rfl)
    h16 := fu_of (FF 33 _ rfl)
    n17 := He.eqO_ok (X 89 _ rfl)
    h17 := fu_of (FF 34 _ rfl)
    n18 := He.eqO_ok (X 90 _ rfl)
    h18 := fu_of (FF 35 _ rfl)
    n19 := He.eqO_ok (X 91 _ rfl)
    h19 := fu_of (FF 36 _ rfl)
    n21 := He.eqO_ok (X 92 _ rfl)
    h21 := fu_of (FF 37 _ rfl)
    n22 := He.eqO_ok (X 93 _ rfl)
    h22 := fu_of (FF 38 _ rfl)
    n23 := He.eqO_ok (X 94 _ rfl)
    h23 := fu_of (FF 39 _ rfl)
    n24 := He.eqO_ok (X 95 _ rfl)
    h24 := fu_of (FF 40 _ rfl)
    n25 := He.eqO_ok (X 96 _ rfl)
    h25 := fu_of (FF 41 _ rfl)
    n26 := He.eqO_ok (X 97 _ rfl)
    h26 := fu_of (FF 42 _ rfl)
    n27 := He.eqO_ok (X 98 _ rfl)
    h27 := fu_of (FF 43 _ rfl)
    n28 := He.eqO_ok (X 99 _ rfl)
    h28 := fu_of (FF 44 _ rfl)
    n33 := He.eqO_ok (X 100 _ rfl)
    h33 := fu_of (FF 45 _ rfl)
    n34 := He.eqO_ok (X 101 _ rfl)
    h34 := fu_of (FF 46 _ rfl)
    n35 := He.eqO_ok (X 102 _ rfl)
    h35 := fu_of (FF 47 _ rfl)
    n36 := He.eqO_ok (X 103 _ rfl)
    h36 := fu_of (FF 48 _ rfl)
    n37 := He.eqO_ok (X 104 _ rfl)
    h37 := fu_of (FF 49 _ rfl)
    n38 := He.eqO_ok (X 105 _ rfl)
    h38 := fu_of (FF 50 _ rfl)
    n39 := He.eqO_ok (X 106 _ rfl)
    h39 := fu_of (FF 51 _ rfl)
    n40 := He.eqO_ok (X 107 _ rfl)
    h40 := fu_of (FF 52 _ rfl)
    n41 := He.eqO_ok (X 108 _ rfl)
    h41 := fu_of (FF 53 _ rfl)
    n49 := He.eqO_ok (X 109 _ rfl)
    h49 := fu_of (FF 54 _ rfl)
    n50 := He.eqO_ok (X 110 _ rfl)
    h50 := fu_of (FF 55 _ rfl)
    n55 := He.eqO_ok (X 111 _ rfl)
    h55 := fu_of (FF 56 _ rfl)
    n56 := He.eqO_ok (X 112 _ rfl)
    h56 := fu_of (FF 57 _ rfl)
    n57 := He.eqO_ok (X 113 _ rfl)
    h57 := fu_of (FF 58 _ rfl)
    n58 := He.eqO_ok (X 114 _ rfl)
    h58 := fu_of (FF 59 _ rfl)
    n59 := He.eqO_ok (X 115 _ rfl)
    h59 := fu_of (FF 60 _ rfl)
    n61 := He.eqO_ok (X 116 _ rfl)
    h61 := fu_of (FF 61 _ rfl)
    n63 := He.eqO_ok (X 117 _ rfl)
    h63 := fu_of (FF 62 _ rfl)
    n64 := He.eqO_ok (X 118 _ rfl)
    h64 := fu_of (FF 63 _ rfl)
    n65 := He.eqO_ok (X 119 _ rfl)
    h65 := fu_of (FF 64 _ rfl)
    n66 := He.eqO_ok (X 120 _ rfl)
    h66 := fu_of (FF 65 _ rfl)
    n67 := He.eqO_ok (X 121 _ rfl)
    h67 := fu_of (FF 66 _ rfl)
    n68 := He.eqO_ok (X 122 _ rfl)
    h68 := fu_of (FF 67 _ rfl)
    n69 := He.eqO_ok (X 123 _ rfl)
    h69 := fu_of (FF 68 _ rfl) }
end OM

namespace OM
open PySem PySem.Spec PyProof.Rows L2
/-- the walk of a law whose facts a hook tells -/
theorem walkX {l : PySem.W.OpenLaw} {n k : Nat} {q : Program} {loose : List Str} {XP : (Str → Option Value) → Heap → Prop} {YP : World → Heap → Prop} {d : DefRec} {sp : PySem.W.Frag → Sp} {x : Str} (hn : l.most = some n) (hn2 : n ≤ sizeLine)
    (hdf : d.params.defaults = []) (hi : importsNone q = true) (hr : Room k callerA) 
    (F : ∀ (w : World) (mg : Str → Option Value) (fa : Addr) (h : Heap), YP w h → h.Ns mainGlobals mg → mg d.name = some (.ref fa) → ∃ (K : PySem.W.Frag) (gd : FuncData), K.In h ∧ (∀ (s : Shared) (u : Value), BindsTo s gd ⟨[u], []⟩ [(x, u)]) ∧
      ∀ base : Heap, K.In base → base.Ns mainGlobals mg → (∃ o, base.get? sysModules = some o) → GFn l.prog w K mg base k fa gd [x] (sp K))
    (hsp : ∀ (K : PySem.W.Frag) (H : Hp) (a : Addr) (ns : List Int), ns.length ≤ n → SqL K H a (ns.map V.int) → sp K [.ref a] H (fun v _ => v = .bl true) E0) : PySem.W.WalkO q loose XP YP l.row.toRowW d [] (fun f vs => PySem.call f vs) := by
  refine Att.attach_call hn hdf fun w s₀ z mg mb fa o pm cd doc a vs ns G Y ho hd hcd hmg hobj hints hlen hg => ?_
  obtain ⟨K, gd, Kz, hb, hF⟩ := F w mg fa _ Y G.T.g hmg
  have sm : ∃ mm, z.heap.Ns sysModules mm := by
    obtain ⟨mm, h1, _⟩ := (G.T.seer hi).mods
    exact ⟨mm, h1⟩
  have rv := vals_ints hints
  have hl : (ns.map V.int).length ≤ sizeLine := by
    rw [List.length_map]
    omega
  cases hk : K.lookup a with
  | some o1 =>
    have e := Kz a o1 hk
    rw [hobj] at e
    cases e
    exact run_law (H := fun _ => none) Kz G.T.g G.T.b G.T.builtins G.T.nolimit sm hg hobj hr hF hb (fun b u y => by cases y) (fun b u y => by cases y)
      (hsp _ _ a ns hlen (.inr ⟨_, vs.toArray, _, hk, rfl, rfl, rfl, by rw [List.size_toArray, ← rv.length]; exact hl, by simpa using rv⟩))
  | none =>
    refine run_law (H := fun b => if b = a then some (.frz { cls := .type "list", data := .seq vs.toArray } (.lst (ns.map V.int))) else none) Kz G.T.g G.T.b G.T.builtins G.T.nolimit sm hg hobj hr hF hb (fun b u y => ?_) (fun b u y => ?_)
      (hsp _ _ a ns hlen (.inl (.inr ⟨{ cls := .type "list", data := .seq vs.toArray }, if_pos rfl⟩)))
    · have y1 : (if b = a then some (HO.frz { cls := .type "list", data := .seq vs.toArray } (.lst (ns.map V.int))) else none) = some u := y
      by_cases hb : b = a
      · rw [if_pos hb] at y1
        cases y1
        subst hb
        exact ⟨rfl, hk, _, _, rfl⟩
      · rw [if_neg hb] at y1
        cases y1
    · have y1 : (if b = a then some (HO.frz { cls := .type "list", data := .seq vs.toArray } (.lst (ns.map V.int))) else none) = some u := y
      by_cases hb : b = a
      · rw [if_pos hb] at y1
        cases y1
        subst hb
        exact ⟨hobj, hl, vs, _, rv, hobj⟩
      · rw [if_neg hb] at y1
        cases y1
theorem walk29x {l : PySem.W.OpenLaw} {q : Program} {loose : List Str} {XP : (Str → Option Value) → Heap → Prop} {d : DefRec} (hn : l.most = some 63) (hdf : d.params.defaults = []) (hi : importsNone q = true) (hd : d.name = "law") : PySem.W.WalkO q loose XP (hookM needL fnL tabL exL).says l.row.toRowW d [] (fun f vs => PySem.call f vs) :=
  walkX (n := 63) (k := 19) (x := "_law_script") (sp := spLaw29) hn (by decide) hdf hi ⟨rfl, by decide, by decide⟩ (fun w mg fa h Y G hmg => by
    obtain ⟨K, KX, c⟩ := Y
    rw [hd] at hmg
    obtain ⟨gd, hb, hF⟩ := all_mk29 (l := l) KX G hmg (top_x (w := w) c)
    exact ⟨K, gd, KX, hb, hF⟩) fun K H a ns hl hS => ⟨a, ns, rfl, hl, hS, fun _ => rfl⟩
end OM

namespace OMH
open PySem PySem.W PySem.Calls PyProof.Rows
abbrev R : OpenRow := OpenLaw.row PySem.Challenge.rw_orderlymoves_k29_runs_between_their_step
abbrev qv : Program := view R.prog [69]
def names : List PySem.Str := (["_wall", "__name__", "MoveError", "InvalidProgram", "InvalidOperation", "InvalidNumber", "_copied", "MAX_LETTERS", "WORDS", "LETTERS", "DIGITS", "MAX_ARGUMENTS", "FOLLOWERS", "is_number", "is_whole", "is_name", "is_value", "is_answers", "_is_asked", "is_contents", "written", "_pieces", "_kinds", "_kind", "_is_atom", "_is_written_number", "_is_in_turn", "_is_nested", "MAX_REGISTERS", "FORMS"] : List PySem.Str) ++ (["is_nested_code", "_is_statement", "_fits", "flattened", "codes_in", "names_in", "_names_of", "most_on_path", "_most_at", "_path_kind", "MAX_DEPTH", "MAX_THREADS", "MAX_CODE", "MAX_ON_PATH", "MAX_ORDER", "STOPS", "is_thread_code", "is_order", "Program", "Run", "Machine", "Moment", "first_moment", "moment_after", "check_thread", "_is_threads", "_ascending", "_is_clash", "_track", "_law_dice"] : List PySem.Str) ++ (["_law_roll", "_law_one_of", "_law_quiet_code", "_law_shown", "_law_right"] : List PySem.Str)
abbrev hk : Hook := OM.hookM OM.needL OM.fnL OM.tabL OM.exL
def ob (s : SharedT) : hk.α := OM.obsM OM.fnL OM.tabL OM.exL (He.frG (HandSHeadRun.getT s) (OM.needL (HandSHeadRun.getT s)))
theorem ob_eq (s : SharedT) : ob s = hk.obs s.abs := by
  have e : HandSHeadRun.getT s = s.abs.heap.get? := funext (HandSHeadRun.getT_eq s)
  unfold ob
  rw [e]
  rfl
set_option maxHeartbeats 0 in
theorem runF (w : World) : HandSHeadRun.RunEq R qv hk ob 7000 names (w.withFollow "special-get-raises" false) := by
  intro os
  kernel_rfl
set_option maxHeartbeats 0 in
theorem runT (w : World) : HandSHeadRun.RunEq R qv hk ob 7000 names (w.withFollow "special-get-raises" true) := by
  intro os
  kernel_rfl
theorem run (w : World) : HandSHeadRun.RunEq R qv hk ob 7000 names w := byRow2 "special-get-raises" runF runT w
end OMH
open PySem PySem.W PyProof.Rows in
set_option maxRecDepth 100000 in
set_option maxHeartbeats 0 in
theorem PySem.Challenge.cw_orderlymoves_k29_runs_between_their_step_holds : PySem.Challenge.rw_orderlymoves_k29_runs_between_their_step.Holds := by
  w_on; o_law
  refine HandSHeadRun.head_any (r := OMH.R) (q := OMH.qv) (H := OMH.hk) (ob := OMH.ob) (M := 7000) (loose := OMH.names) (d := HandSHeadRun.topDef OMH.R.prog 69) (kwd := []) OMH.ob_eq (by kernel_rfl) (fun s => by kernel_rfl) OMH.run (by kernel_rfl) (by kernel_rfl) (by kernel_rfl) (by rfl) (by first | assumption | decide +kernel) (by decide +kernel) ⟨rfl, rfl, rfl, rfl, rfl, by decide +kernel⟩ ?hw ?hc
  case hw => w_witness2
  case hc => exact OM.walk29x (l := PySem.Challenge.rw_orderlymoves_k29_runs_between_their_step) rfl (by kernel_rfl) (by decide +kernel) (by kernel_rfl)
