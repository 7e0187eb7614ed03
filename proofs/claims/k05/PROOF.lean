import PyProof.Rows.All
import Wide.All
import OpenK.AllK
import Wide.FinOn
import HandS.ForMost
import HandS.Exc
import HandS.ExcInit
import HandS.IsInst
import HandS.ExcIs
import HandS.ExcField
import HandS.TryMany
import HandS.Wide
import HandS.Comp
import HandS.DictComp
import HandS.Iter
import HandS.Dict
import HandS.Text
import HandS.Codes
import HandS.Zip
import HandS.TupAny
import HandS.More
import HandS.Defaults
import PyProof.NeKinds
import HandS.Set
import HandS.Base
import HandS.Call
import HandS.List
import HandS.SetBool
import HandS.Sort
import PyProof.Rows.SortShellAny
import HandS.TupSets
import HandS.SetFor
import HandS.Strs
import HandS.SortKw
import KE.DatumOrd
import HandS.WordsExc
import PyProof.Rows.TupDisplay
import HandS.Conv
import HandS.Ends
import HandS.Lambda
import HandS.Property
import HandS.OwnEq
import HandS.TupMul
import KE.KNestM
import HandS.HeadHook3
import HandS.EndTab
import PySem.Challenge.RW_orderlymoves_k05_whole_bounds_on_every_p
set_option Elab.async false
set_option linter.all false
set_option maxRecDepth 100000
set_option maxHeartbeats 4000000
namespace OM
open PySem
/-- what is asked of a built-in class's own __init__ -/
structure InitF (B initId : String) : Prop where
  init : Slot B "__init__" initId
  initEntry : entryFor table initId = some Builtin.«BaseException.__init__»
  initSplit : splitId initId = some (B, "__init__")
  initKind : builtinKind initId = some .slot
  initRow : Manifest.signature? initId = some ⟨.positional, "*", B, .self, [⟨"args", .varPos, false⟩]⟩
  noStar : (B != "*") = true
theorem InitF.of {B n i : String} (F : ExcCallFacts B n i) : InitF B i := ⟨F.init, F.initEntry, F.initSplit, F.initKind, F.initRow, F.noStar⟩
theorem initF_KE : InitF "KeyError" "KeyError.__init__" where
  init := .of (owner := "KeyError") (n := "__init__") (by rw [typeLookup_type, builtinLookup_eq_fast]; kernel_rfl) (by decide +kernel) (by decide +kernel) (by decide +kernel)
    (by first | exact .inl (by decide +kernel) | exact .inr (by decide +kernel)) (by rw [isSubtype_type]; kernel_rfl)
  initEntry := entryFor_alias (id' := "BaseException.__init__") (by rw [fastTable_eq_tree]; kernel_rfl) (by first | rfl | decide +kernel) (by decide +kernel) (by rw [fastTable_eq_tree]; kernel_rfl)
  initSplit := by kernel_rfl
  initKind := by kernel_rfl
  initRow := by kernel_rfl
  noStar := by decide +kernel

/-- own classes, then a built-in chain -/
def refsT (tail : List Value) : List Value → Bool
  | .ref _ :: r => refsT tail r
  | l => l == tail
structure BaseX (B newId initId : String) (tail : List Value) : Prop where
  F : ∃ Bn inN bmN, ExcBaseFacts Bn newId inN bmN ∧ tail.contains (.type Bn) = true
  I : InitF B initId
  hasB : tail.contains (.type B) = true
  noAttr : tail.contains (.type "AttributeError") = false
  noName : tail.contains (.type "NameError") = false
  pass : ∀ self : Value, refuseLoop self "__setattr__" tail = pure ()
  obj : tail.contains (.type "object") = true
  ne : tail.isEmpty = false
  ty : typeOf (.type B) = pure (.type "type")
  stub : Manifest.isStub B = false
theorem base_VE : BaseX "ValueError" "ValueError.__new__" "ValueError.__init__" [.type "ValueError", .type "Exception", .type "BaseException", .type "object"] :=
  ⟨⟨_, _, _, F.excBase_ValueError, by decide +kernel⟩, .of F.excBase_ValueError.toExcCallFacts, by decide +kernel, by decide +kernel, by decide +kernel, fun self => by kernel_rfl, by decide +kernel, rfl, by kernel_rfl, by decide +kernel⟩
theorem base_LE : BaseX "LookupError" "LookupError.__new__" "LookupError.__init__" [.type "LookupError", .type "Exception", .type "BaseException", .type "object"] :=
  ⟨⟨_, _, _, F.excBase_LookupError, by decide +kernel⟩, .of F.excBase_LookupError.toExcCallFacts, by decide +kernel, by decide +kernel, by decide +kernel, fun self => by kernel_rfl, by decide +kernel, rfl, by kernel_rfl, by decide +kernel⟩
theorem base_RE : BaseX "RuntimeError" "RuntimeError.__new__" "RuntimeError.__init__" [.type "RuntimeError", .type "Exception", .type "BaseException", .type "object"] :=
  ⟨⟨_, _, _, F.excBase_RuntimeError, by decide +kernel⟩, .of F.excBase_RuntimeError.toExcCallFacts, by decide +kernel, by decide +kernel, by decide +kernel, fun self => by kernel_rfl, by decide +kernel, rfl, by kernel_rfl, by decide +kernel⟩
theorem base_OE : BaseX "OverflowError" "OverflowError.__new__" "OverflowError.__init__" [.type "OverflowError", .type "ArithmeticError", .type "Exception", .type "BaseException", .type "object"] :=
  ⟨⟨_, _, _, F.excBase_OverflowError, by decide +kernel⟩, .of F.excBase_OverflowError.toExcCallFacts, by decide +kernel, by decide +kernel, by decide +kernel, fun self => by kernel_rfl, by decide +kernel, rfl, by kernel_rfl, by decide +kernel⟩
theorem base_IE : BaseX "IndexError" "IndexError.__new__" "IndexError.__init__" [.type "IndexError", .type "LookupError", .type "Exception", .type "BaseException", .type "object"] :=
  ⟨⟨_, _, _, F.excBase_IndexError, by decide +kernel⟩, .of F.excBase_IndexError.toExcCallFacts, by decide +kernel, by decide +kernel, by decide +kernel, fun self => by kernel_rfl, by decide +kernel, rfl, by kernel_rfl, by decide +kernel⟩
theorem base_AE : BaseX "ArithmeticError" "ArithmeticError.__new__" "ArithmeticError.__init__" [.type "ArithmeticError", .type "Exception", .type "BaseException", .type "object"] :=
  ⟨⟨_, _, _, F.excBase_ArithmeticError, by decide +kernel⟩, .of F.excBase_ArithmeticError.toExcCallFacts, by decide +kernel, by decide +kernel, by decide +kernel, fun self => by kernel_rfl, by decide +kernel, rfl, by kernel_rfl, by decide +kernel⟩
theorem base_KE : BaseX "KeyError" "LookupError.__new__" "KeyError.__init__" [.type "KeyError", .type "LookupError", .type "Exception", .type "BaseException", .type "object"] :=
  ⟨⟨_, _, _, F.excBase_LookupError, by decide +kernel⟩, initF_KE, by decide +kernel, by decide +kernel, by decide +kernel, fun self => by kernel_rfl, by decide +kernel, rfl, by kernel_rfl, by decide +kernel⟩
theorem refsT_cases {tail : List Value} : ∀ l : List Value, refsT tail l = true → (∃ c r, l = .ref c :: r ∧ refsT tail r = true) ∨ l = tail
  | [], e => .inr (beq_iff_eq.mp e)
  | .ref c :: r, e => .inl ⟨c, r, rfl, e⟩
  | .none :: _, e => .inr (beq_iff_eq.mp e)
  | .ellipsis :: _, e => .inr (beq_iff_eq.mp e)
  | .notImplemented :: _, e => .inr (beq_iff_eq.mp e)
  | .bool _ :: _, e => .inr (beq_iff_eq.mp e)
  | .int _ _ :: _, e => .inr (beq_iff_eq.mp e)
  | .float _ _ :: _, e => .inr (beq_iff_eq.mp e)
  | .str _ _ :: _, e => .inr (beq_iff_eq.mp e)
  | .bytes _ _ :: _, e => .inr (beq_iff_eq.mp e)
  | .type _ :: _, e => .inr (beq_iff_eq.mp e)
  | .builtin _ :: _, e => .inr (beq_iff_eq.mp e)
theorem refsT_pass {tail : List Value} {self : Value} (hp : refuseLoop self "__setattr__" tail = pure ()) : ∀ l : List Value, refsT tail l = true → refuseLoop self "__setattr__" l = pure () := by
  intro l
  induction l with
  | nil =>
    intro e
    rcases refsT_cases [] e with ⟨c, r', q, h⟩ | q
    · cases q
    · rw [q]; exact hp
  | cons a r ih =>
    intro e
    rcases refsT_cases (a :: r) e with ⟨c, r', q, h⟩ | q
    · obtain ⟨rfl, rfl⟩ := List.cons.inj q
      rw [refuseLoop_ref]; exact ih h
    · rw [q]; exact hp
theorem refsT_contains {tail : List Value} (X : String) : ∀ l : List Value, refsT tail l = true → l.contains (.type X) = tail.contains (.type X) := by
  intro l
  induction l with
  | nil =>
    intro e
    rcases refsT_cases [] e with ⟨c, r', q, h⟩ | q
    · cases q
    · rw [q]
  | cons a r ih =>
    intro e
    rcases refsT_cases (a :: r) e with ⟨c, r', q, h⟩ | q
    · obtain ⟨rfl, rfl⟩ := List.cons.inj q
      rw [List.contains_cons, ih h]; rfl
    · rw [q]
theorem refsT_ne {tail : List Value} (hn : tail.isEmpty = false) {l : List Value} (e : refsT tail l = true) : l.isEmpty = false := by
  rcases refsT_cases l e with ⟨c, r', q, h⟩ | q
  · rw [q]; rfl
  · rw [q]; exact hn

open PySem.HandSPX Builtin Builtin.ObjectAttr
section
variable {M : Model} {A : Around} {E : Value → Shared → Prop} {h : Heap} {g : Array GenState} {d : Drawn} {t : Nat} {os : OsState}
variable {nm q : Str} {C N : Addr} {bs bm bmB tail : List Value} {hdct : Bool} {sn : List Str} {sub : List Value} {ab : Bool} {col : Option Bool} {dd : Option Addr} {k0 k1 k2 k3 k5 : Option Value} {B newId initId : String}
theorem check_newX {Bn inN : String} {bmN : List Value} (F : ExcBaseFacts Bn newId inN bmN) (hB : bm.contains (.type Bn) = true) {rest : List Value} {Q : Unit → Shared → Prop}
    (hC : h.get? C = some (excClassObj nm q C N bs bm hdct sn sub ab col dd k0 k1 k2 k3 k5 newId)) (hq : Q () ⟨h, g, d, t, os⟩) : wpAny M A (checkBuiltinCall newId ⟨.ref C :: rest, []⟩) Q E ⟨h, g, d, t, os⟩ := by
  have hcont : (Value.ref C :: bm).contains (.type Bn) = true := by rw [List.contains_cons, hB, Bool.or_true]
  have hstar := F.noStar
  simp only [checkBuiltinCall, F.newKind, F.newSplit, F.newRow]
  repeat (first | refine wpAny_loadPart_at hC ?_ | (refine wpAny_isSubtype_exc hC ?_; rw [hcont]) | refine wpAny_staticBase_exc hC ?_ | refine wpAny_madeBy_exc hC ?_ | simp only [bne_self_eq_false, Bool.false_eq_true, if_false] | wp_step)
  exact hq
theorem check_initX (F : InitF B initId) (hB : bm.contains (.type B) = true) {e : Addr} {oe : Obj} {rest : List Value} {Q : Unit → Shared → Prop}
    (hC : h.get? C = some (excClassObj nm q C N bs bm hdct sn sub ab col dd k0 k1 k2 k3 k5 newId)) (he : h.get? e = some oe) (hcls : oe.cls = .ref C) (hq : Q () ⟨h, g, d, t, os⟩) :
    wpAny M A (checkBuiltinCall initId ⟨.ref e :: rest, []⟩) Q E ⟨h, g, d, t, os⟩ := by
  have hcB : (Value.ref C :: bm).contains (.type B) = true := by rw [List.contains_cons, hB, Bool.or_true]
  have hshort := F.noStar
  simp only [checkBuiltinCall, F.initKind, F.initSplit, F.initRow]
  repeat (first | (with_reducible refine wpAny_loadPart_at he ?_; rw [hcls]) | with_reducible refine wpAny_loadPart_at hC ?_ | (with_reducible refine wpAny_isSubtype_exc hC ?_; rw [hcB]) | wp_step)
  refine wpAny_onRaise ?_
  rw [show ∀ (a b : String) (n : Nat), Bind.check ⟨.positional, "*", B, .self, [⟨"args", .varPos, false⟩]⟩ a b n (List.map (fun x => x.fst) ({ pos := Value.ref e :: rest } : Args).kw) = pure () from
    fun a b n => check_star_args _ _ _ _ _ _]
  exact wpAny_pure hq
end
section
variable {prog : Program} {w : World} {A : Around} {E : Value → Shared → Prop} {R : Result → Shared → Prop} {h : Heap} {g : Array GenState} {d : Drawn} {t : Nat} {os : OsState}
variable {nm q : Str} {C N : Addr} {bs bm tail : List Value} {hdct : Bool} {sn : List Str} {sub : List Value} {ab : Bool} {col : Option Bool} {dd : Option Addr} {k0 k1 k2 k3 k5 : Option Value} {B newId initId : String}
theorem newX (X : BaseX B newId initId tail) (hm : refsT tail bm = true) {rest : List Value}
    (hC : h.get? C = some (excClassObj nm q C N bs bm hdct sn sub ab col dd k0 k1 k2 k3 k5 newId))
    (hq : R (.ok (.ret (.ref (h.objs.size + 1)))) ⟨(h.push { cls := .type "tuple", data := .seq rest.toArray }).push
      { cls := .ref C, data := .fields #[.ref h.objs.size, .none, .none, .none, .bool false, .none] }, g, d, t, os⟩) (hrest : rest.length ≤ sizeLine) :
    codeAny (model prog w) A (.builtin newId ⟨.ref C :: rest, []⟩) R ⟨h, g, d, t, os⟩ := by
  obtain ⟨Bn, inN, bmN, F, hBn⟩ := X.F
  have hends := F.ends
  have hcB : (Value.ref C :: bm).contains (.type Bn) = true := by rw [List.contains_cons, refsT_contains _ _ hm, hBn, Bool.or_true]
  have hcA : (Value.ref C :: bm).contains (.type "AttributeError") = false := by rw [List.contains_cons, refsT_contains _ _ hm, X.noAttr]; rfl
  have hcN : (Value.ref C :: bm).contains (.type "NameError") = false := by rw [List.contains_cons, refsT_contains _ _ hm, X.noName]; rfl
  refine codeAny_builtinAt F.entry ?_
  unfold Builtin.«BaseException.__new__»
  refine wpAt_bind ?_
  show wpAt _ _ _ (stack >>= _) _ _ _
  refine wpAt_bind (wpAt_stack fun p below => wpAt_of_wpAny ?_)
  wp_walk
  refine wpAt_of_wpAny ?_
  rw [F.owner]
  repeat (first | with_reducible refine wpAny_madeHere_exc F.canon hC ?_ | with_reducible refine wpAny_loadPart_at hC ?_ | (with_reducible refine wpAny_isSubtype_exc hC ?_; first | rw [hcB] | rw [hcA] | rw [hcN]) | wp_step)
  show R _ _
  rw [Heap.size_push]
  exact hq
theorem type_callX (X : BaseX B newId initId tail) (hm : refsT tail bm = true) {rest : List Value} {fI : Addr} {Q : Fin → Shared → Prop}
    (hC : h.get? C = some (excClassObj nm q C N bs bm hdct sn sub ab col dd k0 k1 k2 k3 k5 newId))
    (hi : W.Looks (model prog w) h (typeLookup (.ref C) "__init__") (some (.ref fI))) (hb : ∀ self, W.Looks (model prog w) h (bindSpecial (.ref fI) self) (.ref fI, [self])) (hrest : rest.length ≤ sizeLine)
    (hq : codeAny (model prog w) A (.call (.ref fI) ⟨.ref (h.objs.size + 1) :: rest, []⟩)
      (fun r s' => match r with | .ok (.ret v) => v = .none ∧ Q (.done (.ret (.ref (h.objs.size + 1)))) s' | .ok _ => False | .error e => E e s')
      ⟨(h.push (W.kdv_tup rest)).push (excO C h.objs.size), g, d, t, os⟩) :
    wpAny (model prog w) A (Builtin.«type.__call__» ⟨.ref C :: rest, []⟩) Q E ⟨h, g, d, t, os⟩ := by
  obtain ⟨Bn, inN, bmN, F, hBn⟩ := X.F
  repeat (first | with_reducible refine wpAny_loadPart_at hC ?_ | with_reducible refine wpAny_madeBy_exc hC ?_ | wp_step)
  refine codeAny_call_builtin_code (Code.quiet_builtin _ F.quiet) (check_newX F (by rw [refsT_contains _ _ hm, hBn]) hC ?_)
  refine newX X hm hC ?_ hrest
  show wpAny _ _ _ _ _ _
  have k : ∀ b o, h.get? b = some o → ((h.push (W.kdv_tup rest)).push (excO C h.objs.size)).get? b = some o := fun b o e => Heap.get?_push_of_some _ (Heap.get?_push_of_some _ e)
  have hC₁ := k _ _ hC
  have hget : ((h.push (W.kdv_tup rest)).push (excO C h.objs.size)).get? (h.objs.size + 1) = some (excO C h.objs.size) := by heap_get
  have hcC : (Value.ref C :: bm).contains (.ref C) = true := by simp
  have i1 := hi.keeps k
  have b1 := (hb (.ref (h.objs.size + 1))).keeps k
  unfold isInstance
  repeat (first | with_reducible refine wpAny_loadPart_at hget ?_ | (with_reducible refine wpAny_isSubtype_exc hC₁ ?_; rw [hcC]) | wp_step)
  show wpAny _ _ (typeLookup (.ref C) _) _ _ _
  refine i1.at ?_
  refine wpAny_holding (wpAny_bind (b1.at ?_))
  refine wpAny_bind (wpAny_call (codeAny_mono hq fun r s' z => ?_))
  rcases r with e | (v | _ | _ | _) <;> first | exact z | exact z.elim | skip
  obtain ⟨rfl, z⟩ := z
  first
    | exact wpAny_pure (wpAny_pure z)
    | (wp_walk; exact z)
theorem callX (X : BaseX B newId initId tail) (hm : refsT tail bm = true) {rest : List Value} {fI : Addr}
    (hC : h.get? C = some (excClassObj nm q C N bs bm hdct sn sub ab col dd k0 k1 k2 k3 k5 newId))
    (hi : W.Looks (model prog w) h (typeLookup (.ref C) "__init__") (some (.ref fI))) (hb : ∀ self, W.Looks (model prog w) h (bindSpecial (.ref fI) self) (.ref fI, [self])) (hrest : rest.length ≤ sizeLine)
    (hq : codeAny (model prog w) (A.under (.builtin "type.__call__" ⟨.ref C :: rest, []⟩)) (.call (.ref fI) ⟨.ref (h.objs.size + 1) :: rest, []⟩) (W.InitBack (h.objs.size + 1) R)
      ⟨(h.push (W.kdv_tup rest)).push (excO C h.objs.size), g, d, t, os⟩) :
    codeAny (model prog w) A (.call (.ref C) ⟨rest, []⟩) R ⟨h, g, d, t, os⟩ := by
  have f1 := tc_lookup
  have f2 := tc_bind (.ref C)
  have hTy : (⟨h, g, d, t, os⟩ : Shared).TypeIs (.ref C) "type" := ⟨_, hC, rfl⟩
  refine codeAny_of_tree ?_
  show wpAny _ _ (callAny (.ref C) _) _ _ _
  repeat (any_goals (first | assumption | with_reducible refine wpAny_loadPart_at hC ?_ | wp_step))
  refine ⟨rfl, ?_⟩
  refine codeAny_call_builtin_at (Code.quiet_builtin _ (by decide +kernel)) entry_typeCall (wpAny_check_type_call_sub hC (type_callX X hm hC hi hb hrest ?_))
  refine codeAny_mono hq fun r s' z => ?_
  rcases r with e | (v | _ | _ | _) <;> exact z
theorem init_baseX (X : BaseX B newId initId tail) {tail' : List Value} {newId' : String} (hm : refsT tail' bm = true) (hB : tail'.contains (.type B) = true) {e t0 : Addr} {rest : List Value}
    (hC : h.get? C = some (excClassObj nm q C N bs bm hdct sn sub ab col dd k0 k1 k2 k3 k5 newId')) (he : h.get? e = some (excO C t0)) (hrest : rest.length ≤ sizeLine)
    (hq : ∀ h' t1, (∀ b o, b ≠ e → h.get? b = some o → h'.get? b = some o) → h'.get? e = some (excO C t1) → R (.ok (.ret .none)) ⟨h', g, d, t, os⟩) :
    codeAny (model prog w) A (.call (.builtin initId) ⟨.ref e :: rest, []⟩) R ⟨h, g, d, t, os⟩ := by
  refine codeAny_call_builtin X.I.init.plain X.I.initEntry (check_initX X.I (by rw [refsT_contains _ _ hm, hB]) hC he rfl ?_)
  wp_walk
  refine hq _ h.objs.size (fun b o hb ho => ?_) ?_
  · rw [Heap.get?_update_other _ _ (Ne.symm hb)]
    exact Heap.get?_push_of_some _ ho
  · rw [Heap.get?_update_self _ (Heap.get?_push_of_some _ he) rfl]
    rfl
end
end OM

namespace OM
open PySem PySem.HandSPX Builtin Builtin.ObjectAttr
section
variable {prog : Program} {w : World} {A : Around} {E : Value → Shared → Prop} {R : Result → Shared → Prop} {hp : Heap} {g : Array GenState} {d : Drawn} {t : Nat} {os : OsState}
variable {B newId initId : String} {tail : List Value}
theorem osaX (Y : BaseX B newId initId tail) {K : W.Frag} {name : Str} {tk : Tok} {v : Value} {x C : Addr} {fv : Array Value} {cd : ClassData}
    (X : K.In hp) (hx : hp.get? x = some { cls := .ref C, data := .fields fv }) (hcd : W.clsIn K C = some cd) (hm : refsT tail cd.mro = true) (hh : cd.hasDict = true) (ha : W.findIn K (.ref C) name = some none)
    (hq : ∀ h' tk' dx, (∀ b o, b ≠ x → hp.get? b = some o → h'.get? b = some o) → hp.objs.size ≤ dx → dx ≠ x → h'.get? x = some { cls := .ref C, dict := some dx, data := .fields fv } →
      h'.Ns1 dx (fun y => if y = name then some v else none) → R (.ok (.ret .none)) ⟨h', g, d, tk', os⟩) :
    codeAny (model prog w) A (.call (.builtin "object.__setattr__") ⟨[.ref x, .str name tk, v], []⟩) R ⟨hp, g, d, t, os⟩ := by
  have I : W.InstAt hp x { cls := .ref C, data := .fields fv } C none := ⟨hx, rfl, rfl, trivial⟩
  have SF := F.store_object
  have ne := refsT_ne Y.ne hm
  have hob : cd.mro.contains (.type "object") = true := (refsT_contains "object" _ hm).trans Y.obj
  have hxs : x ≠ hp.objs.size := Nat.ne_of_lt (Heap.lt_size hx)
  have sub : W.Looks (model prog w) hp (isInstance (.ref x) (.type "object")) true := I.type.andThen (W.looks_mroIn X (by unfold W.mroIn; rw [hcd, Option.bind_some, if_neg (by rw [ne]; decide), hob]))
  refine codeAny_call_builtin SF.slot.plain SF.entry (@W.check_slot (model prog w) _ _ ⟨hp, g, d, t, os⟩ "object.__setattr__" "object" "__setattr__" (.ref x) [.str name tk, v] [] _ SF.kind SF.split sub (SF.args (.ref x) (.str name tk) v) ?_)
  have hmr : W.Looks (model prog w) hp (mroOf (.ref C)) cd.mro := (W.looks_clsIn X hcd).andThen .now
  have L3 : W.Looks (model prog w) hp (storeTaker? none) none := .now
  have hcls : W.Looks (model prog w) hp (classData C) cd := W.looks_clsIn X hcd
  rw [W.osa_eq, refuse_eq]
  refine wpAny_bind (wpAny_bind (I.type.at (wpAny_bind (hmr.at ?_))))
  rw [refsT_pass (Y.pass _) _ hm]
  refine wpAny_pure (wpAny_bind (I.type.at (wpAny_bind ((W.looks_findIn X ha).at (wpAny_bind (L3.at ?_))))))
  show wpAny _ _ (storeInOwnDict (.ref x) (.ref C) (.str name tk) name v false) _ _ _
  obtain ⟨nm, bs, mro, ns, qn, hd, sn, sb, ab, col, del⟩ := cd
  dsimp only at hh
  subst hh
  unfold storeInOwnDict ownDictForStores
  repeat (first | with_reducible refine store_in_new ?_ ?_ | with_reducible refine wpAny_loadPart_at hx ?_ | with_reducible refine hcls.at ?_ | wp_step)
  · exact ⟨_, #[], _, (Heap.get?_update_ne _ _ _ _ hxs.symm).trans (Heap.get?_push_at rfl rfl), rfl, fun e he => absurd he (by simp), fun _ => rfl⟩
  · intro h' tk' hn' hs
    have hx₁ : (hp.push { cls := .type "dict", data := .dict #[] }).get? x = some { cls := .ref C, data := .fields fv } := Heap.get?_push_of_some _ hx
    refine hq h' tk' hp.objs.size (fun b o hb ho => ?_) (Nat.le_refl _) hxs.symm ?_ hn'
    · exact (hs.2 b (Nat.ne_of_lt (Heap.lt_size ho))).trans ((Heap.get?_update_ne _ _ _ _ hb).trans (Heap.get?_push_of_some _ ho))
    · exact (hs.2 x hxs).trans (Heap.get?_update_self _ hx₁ rfl)
theorem osaX_old (Y : BaseX B newId initId tail) {K : W.Frag} {name : Str} {tk : Tok} {v : Value} {x C dx : Addr} {fv : Array Value} {cd : ClassData} {m0 : Str → Option Value} {nl : List Str}
    (X : K.In hp) (hx : hp.get? x = some { cls := .ref C, dict := some dx, data := .fields fv }) (hns : hp.Ns1 dx m0) (hw : Within m0 nl) (hz : nl.length ≤ 1000) (hcd : W.clsIn K C = some cd) (hm : refsT tail cd.mro = true) (hh : cd.hasDict = true)
    (ha : W.findIn K (.ref C) name = some none)
    (hq : ∀ h' tk', (∀ b o, b ≠ dx → hp.get? b = some o → h'.get? b = some o) → h'.Ns1 dx (fun y => if y = name then some v else m0 y) → R (.ok (.ret .none)) ⟨h', g, d, tk', os⟩) :
    codeAny (model prog w) A (.call (.builtin "object.__setattr__") ⟨[.ref x, .str name tk, v], []⟩) R ⟨hp, g, d, t, os⟩ := by
  obtain ⟨oD, esD, epD, hoD, hdD, _⟩ := hns.count hw
  have I : W.InstAt hp x { cls := .ref C, dict := some dx, data := .fields fv } C (some oD) := ⟨hx, rfl, rfl, hoD⟩
  have SF := F.store_object
  have ne := refsT_ne Y.ne hm
  have hob : cd.mro.contains (.type "object") = true := (refsT_contains "object" _ hm).trans Y.obj
  have sub : W.Looks (model prog w) hp (isInstance (.ref x) (.type "object")) true := I.type.andThen (W.looks_mroIn X (by unfold W.mroIn; rw [hcd, Option.bind_some, if_neg (by rw [ne]; decide), hob]))
  refine codeAny_call_builtin SF.slot.plain SF.entry (@W.check_slot (model prog w) _ _ ⟨hp, g, d, t, os⟩ "object.__setattr__" "object" "__setattr__" (.ref x) [.str name tk, v] [] _ SF.kind SF.split sub (SF.args (.ref x) (.str name tk) v) ?_)
  have hmr : W.Looks (model prog w) hp (mroOf (.ref C)) cd.mro := (W.looks_clsIn X hcd).andThen .now
  have L3 : W.Looks (model prog w) hp (storeTaker? none) none := .now
  have hcls : W.Looks (model prog w) hp (classData C) cd := W.looks_clsIn X hcd
  rw [W.osa_eq, refuse_eq]
  refine wpAny_bind (wpAny_bind (I.type.at (wpAny_bind (hmr.at ?_))))
  rw [refsT_pass (Y.pass _) _ hm]
  refine wpAny_pure (wpAny_bind (I.type.at (wpAny_bind ((W.looks_findIn X ha).at (wpAny_bind (L3.at ?_))))))
  show wpAny _ _ (storeInOwnDict (.ref x) (.ref C) (.str name tk) name v false) _ _ _
  obtain ⟨nm, bs, mro, ns, qn, hd, sn, sb, ab, col, del⟩ := cd
  dsimp only at hh
  subst hh
  unfold storeInOwnDict ownDictForStores
  repeat (first | with_reducible refine PySem.OEX.store_in_old hns hw hz ?_ | with_reducible refine wpAny_loadPart_at hx ?_ | with_reducible refine hcls.at ?_ | wp_step)
  intro h' tk' hn' hs
  exact hq h' tk' (fun b o hb ho => (hs.2 b hb).trans ho) hn'
end
end OM

namespace PySem.W
open PySem PySem.Calls PyProof.Rows
/-- a function read off its class: itself -/
theorem om_fn_get_none {prog : Program} {w : World} {A : Around} {R : Result → Shared → Prop} {s : Shared} {K : Frag} {p C : Addr} (X : K.In s.heap) (hp : typeIn K (.ref p) = some (.type "function"))
    (h : R (.ok (.ret (.ref p))) s) : codeAny (model prog w) A (.call (.builtin "function.__get__") ⟨[.ref p, .none, .ref C], []⟩) R s := by
  obtain ⟨o, ho, hc⟩ := Option.map_eq_some_iff.mp hp
  obtain ⟨hh, g, dr, t, os⟩ := s
  refine codeAny_call_builtin KF.slot_fn.plain KF.entry_fn (KF.slot_fn.check _ _ _ _ _ _ _ _ ⟨_, X _ _ ho, hc⟩ (KF.args_fn _ _ _) ?_)
  unfold Builtin.«function.__get__»
  refine wpAny_bind (wpAny_of_eq (a := ((.ref p : Value), (none : Option Value), some (.ref C : Value))) (by first | rfl | kernel_rfl) ?_)
  exact wpAny_pure h
end PySem.W

namespace OM
open PySem PySem.Spec PyProof.Rows L2
/-- what the written part says of an own exception class -/
structure OexB (K : PySem.W.Frag) (C : Addr) (tail : List Value) : Prop where
  cls : ∃ B newId initId nm q N bs bm sn sub ab col dd k0 k1 k2 k3 k5, BaseX B newId initId tail ∧ K.lookup C = some (excClassObj nm q C N bs bm true sn sub ab col dd k0 k1 k2 k3 k5 newId) ∧ refsT tail bm = true
  sa : PySem.W.findIn K (.ref C) "__setattr__" = some (some (.builtin "object.__setattr__"))
  exC : PySem.W.subIn K (.ref C) (.type "BaseException") = some true
  tyC : PySem.W.typeIn K (.ref C) = some (.type "type")
  kC : PySem.W.keepIn K (.ref C) = true
section
variable {X : Cx} {pins : List (Addr × Obj)} {σ : L2.St} {H : Hp} {s : Shared} {a C dx : Addr} {f : Str} {y : V} {u : Value} {fs : List (Str × V)} {Q : Unit → Shared → Prop} {E : Value → Shared → Prop} {A : Around} {tail : List Value}
theorem ostB_new (T : OexB X.K C tail) (I : Inv X pins σ H s) (e : H a = some (exo a C none)) (hno : PySem.W.findIn X.K (.ref C) f = some none) (ry : RelV y u)
    (h : ∀ dx s', H dx = none → dx ≠ a → Inv X pins σ (upd (upd H dx (exd dx [(f, y)])) a (exo a C (some dx))) s' → Q () s') : wpAny (model X.prog X.w) A (setAttr (.ref a) f u) Q E s := by
  obtain ⟨B, newId, initId, nm, q, N, bs, bm, sn, sub, ab, col, dd, k0, k1, k2, k3, k5, Y, hC, hbm⟩ := T.cls
  have hcl : PySem.W.clsIn X.K C = some { name := nm, bases := bs, mro := .ref C :: bm, ns := N, qualname := q, hasDict := true, slotNames := sn, subclasses := sub, abstract := ab, collection := col, hasDel := false } := by unfold PySem.W.clsIn; rw [hC] <;> rfl
  obtain ⟨t1, ho⟩ := exo_at I.hok e
  obtain ⟨hp, g, d, t, os⟩ := s
  refine PySem.W.set_plain I.kIn (ox := { cls := .ref C, dict := none, data := .fields #[.ref t1, .none, .none, .none, .bool false, .none] }) (od := none) ⟨ho, rfl, rfl, trivial⟩ T.sa ?_
  refine osaX Y I.kIn ho hcl (show refsT tail (.ref C :: bm) = true from hbm) rfl hno (fun h' tk' dx k dn dne hx hn => ?_)
  have hnd : H dx = none := I.hok.fresh dn
  have nd : ∀ {b : Addr} {o : Obj}, hp.get? b = some o → b ≠ dx := fun {b o} q => Nat.ne_of_lt (Nat.lt_of_lt_of_le (Heap.lt_size q) dn)
  have na : ∀ {b : Addr}, H b = none → b ≠ a := fun {b} n z => by
    rw [z, e] at n
    cases n
  have Un1 : Un X.fs [] H (upd (upd H dx (exd dx [(f, y)])) a (exo a C (some dx))) hp h' := {
    keep := fun b o q n _ _ => k b o (na n) q
    slot := fun b o q n _ _ => ⟨o.slots, k b o (na n) q⟩
    free := fun b o q n _ => by rw [upd_ne (na n), upd_ne (nd q)]; exact n
    there := fun b o q _ => by
      by_cases hb : b = a
      · exact ⟨_, by rw [hb]; exact hx⟩
      · exact ⟨o, k b o hb q⟩
    tups := fun b xs q => by rw [upd_ne (at_ne e q exo_tup), upd_ne (ne_of_none q hnd)]; exact q
    frzs := fun b o v q => by rw [upd_ne (at_ne e q exo_frz), upd_ne (ne_of_none q hnd)]; exact q
    tbls := fun b ps q => ⟨#[], by rw [upd_ne (at_ne e q exo_tbl), upd_ne (ne_of_none q hnd), q]; simp⟩ }
  refine h dx _ hnd dne (I.un (t' := tk') Un1 fun b o q => ?_)
  by_cases hb : b = a
  · subst hb
    rw [upd_same] at q
    cases q
    exact exo_ok hx
  · rw [upd_ne hb] at q
    by_cases hd : b = dx
    · subst hd
      rw [upd_same] at q
      cases q
      exact exd_ok hn (relO_put (fs := []) ry fun g => True.intro)
    · rw [upd_ne hd] at q
      exact (I.hok b o q).stay (fun c v hc z => k c v (by
          rcases hc with hc | hc
          · rw [hc]
            exact hb
          · exact at_ne e hc exo_own) z)
        (fun c hc => by rw [upd_ne (at_ne e hc exo_own), upd_ne (ne_of_none hc hnd)]; exact hc) (fun c xs hc => by rw [upd_ne (at_ne e hc exo_tup), upd_ne (ne_of_none hc hnd)]; exact hc)
theorem ostB_old (T : OexB X.K C tail) (I : Inv X pins σ H s) (e : H a = some (exo a C (some dx))) (ed : H dx = some (exd dx fs)) (hl : fs.length ≤ 900) (hno : PySem.W.findIn X.K (.ref C) f = some none) (ry : RelV y u)
    (h : ∀ s', Inv X pins σ (upd H dx (exd dx ((f, y) :: fs))) s' → Q () s') : wpAny (model X.prog X.w) A (setAttr (.ref a) f u) Q E s := by
  obtain ⟨B, newId, initId, nm, q, N, bs, bm, sn, sub, ab, col, dd, k0, k1, k2, k3, k5, Y, hC, hbm⟩ := T.cls
  have hcl : PySem.W.clsIn X.K C = some { name := nm, bases := bs, mro := .ref C :: bm, ns := N, qualname := q, hasDict := true, slotNames := sn, subclasses := sub, abstract := ab, collection := col, hasDel := false } := by unfold PySem.W.clsIn; rw [hC] <;> rfl
  obtain ⟨t1, ho⟩ := exo_at I.hok e
  obtain ⟨mA, hns, rel⟩ := exd_at I.hok ed
  have hw := within_of rel
  obtain ⟨hp, g, d, t, os⟩ := s
  obtain ⟨oD, _, _, hoD, _, _⟩ := hns.count hw
  refine PySem.W.set_plain I.kIn (ox := { cls := .ref C, dict := some dx, data := .fields #[.ref t1, .none, .none, .none, .bool false, .none] }) (od := some oD) ⟨ho, rfl, rfl, hoD⟩ T.sa ?_
  refine osaX_old Y I.kIn ho hns hw (by rw [List.length_map]; omega) hcl (show refsT tail (.ref C :: bm) = true from hbm) rfl hno (fun h' tk' k hn => ?_)
  have hd : ∃ o, h'.get? dx = some o := by
    obtain ⟨o, _, _, e', _⟩ := hn
    exact ⟨o, e'⟩
  exact h _ (I.write (t' := tk') (x := dx) (e := dx) (o := exd dx ((f, y) :: fs)) (by rw [ed]; exact True.intro) (.inl rfl) k hd (exd_ok hn (relO_put ry rel)))
/-- B.__init__(self, ..): nothing of it is told -/
theorem binit_ok {B nI initId : String} {tB : List Value} {us : List Value} {Q : Value → Shared → Prop} (Y : BaseX B nI initId tB) (T : OexB X.K C tail) (hB : tail.contains (.type B) = true) (I : Inv X pins σ H s) (e : H a = some (exo a C none)) (hl : us.length ≤ sizeLine)
    (h : ∀ s', Inv X pins σ H s' → Q .none s') : wpAny (model X.prog X.w) A (call (.builtin initId) (.ref a :: us)) Q E s := by
  obtain ⟨B', newId, initId', nm, q, N, bs, bm, sn, sub, ab, col, dd, k0, k1, k2, k3, k5, Y', hC, hbm⟩ := T.cls
  obtain ⟨t1, ho⟩ := exo_at I.hok e
  obtain ⟨hp, g, d, t, os⟩ := s
  refine wpAny_call (init_baseX Y hbm hB (I.kIn _ _ hC) ho hl fun h' t2 k hx => ?_)
  have J := I.write (t' := t) (x := a) (e := a) (o := exo a C none) (by rw [e]; exact True.intro) (.inl rfl) k ⟨_, hx⟩ (exo_ok hx)
  have eu : upd H a (exo a C none) = H := by
    funext b
    by_cases hb : b = a
    · rw [hb, upd_same, e]
    · rw [upd_ne hb]
  rw [eu] at J
  exact h _ J
end
/-- B.__init__(self, ..) -/
def tBin (K : PySem.W.Frag) (B : String) (ta : TA) : TE := fun σ H Q => ta σ H fun vs H1 => ∃ (a C : Addr) (tail : List Value) (ws : List V), vs = .ref a :: ws ∧ ws.length ≤ 1000 ∧ OexB K C tail ∧ tail.contains (.type B) = true ∧ H1 a = some (exo a C none) ∧ Q .non H1
/-- self.f = e -/
def tOsB (K : PySem.W.Frag) (f : Str) (to te : TE) : TS := fun D σ H => te σ H fun y H1 => to σ H1 fun x H2 => ∃ (a C : Addr) (tail : List Value), x = .ref a ∧ OexB K C tail ∧ PySem.W.findIn K (.ref C) f = some none ∧
  ((H2 a = some (exo a C none) ∧ ∀ dx, H2 dx = none → dx ≠ a → D.nx σ (upd (upd H2 dx (exd dx [(f, y)])) a (exo a C (some dx)))) ∨
    ∃ (dx : Addr) (fs : List (Str × V)), H2 a = some (exo a C (some dx)) ∧ H2 dx = some (exd dx fs) ∧ fs.length ≤ 900 ∧ D.nx σ (upd H2 dx (exd dx ((f, y) :: fs))))
/-- C.m(e, ..): a function of the class at C, called unbound -/
structure UMeth (K : PySem.W.Frag) (C : Addr) (m : Str) (f : Addr) : Prop where
  ga : PySem.W.specialIn K (.ref C) "__getattribute__" = some (some (.builtin "type.__getattribute__"))
  rd : PySem.W.readsIn K C (.type "type") = true
  at_ : PySem.W.findCls K (.ref C) (.type "type") m = some (.val (.ref f))
  ty : PySem.W.typeIn K (.ref f) = some (.type "function")
  kp : PySem.W.keepIn K (.ref f) = true
section
variable {X : Cx} {o e : Expr} {es : List Expr} {to te : TE} {ta : TA} {f : Str} {p p' p1 p2 pos apos : Pos} {x : Str}
theorem pe_binit {B nI initId : String} {tB : List Value} {pl : Sem Bool} (Y : BaseX B nI initId tB) (hg : Gl X x) (hm : X.mg x = none) (hv : bootBuiltins x = some (.type B)) (vV : PySem.W.findCls X.K (.type B) (.type "type") "__init__" = some (.val (.builtin initId))) (hi : PySem.W.handedIn (.builtin initId) = true) (ha : PA X (e :: es) ta)
    (hn : x ≠ "__name__" := by decide) (hd : (x == ("__debug__" : Str)) = false := by decide)
    (hc : eval (.Call (.Attribute (.Name x p1) "__init__" p2) (e :: es) [] pos) X.env = (do
      let ov ← eval (.Name x p1) X.env
      standAt p2.atName
      let (f, first) ← holding [ov] (getMethod ov "__init__" pl)
      callWith pos f first (backTo pos (starEach (e :: es) X.env)) (backToKw pos (keywordEach [] X.env))) := by rfl)
    (he : starEach (e :: es) X.env = (false, eval e X.env) :: starEach es X.env := by rfl) (hpl : (backTo pos (starEach es X.env)).any (·.1) = false := by rfl) :
    PE X (.Call (.Attribute (.Name x p1) "__init__" p2) (e :: es) [] pos) (tBin X.K B ta) := by
  refine ⟨fun pins s σ H Q I h => ?_⟩
  refine PySem.W.methodCall_KW (ld_blt I hg hm hv ?_ hn hd) hc
  obtain ⟨m, fr⟩ := I.fr
  refine PySem.W.method_type fr I.ok.mod.kin Y.ty Y.stub vV hi ?_
  show wpAny _ _ (callWith pos (Value.builtin initId) [] (backTo pos (starEach (e :: es) X.env)) []) _ _ _
  refine PyProof.Rows.callWith_method1 (thn (ha.run pos pins _ σ H _ (I.tok _) h) fun us s1 ⟨vs, H1, I1, r1, a, C, tail, ws, ev, hl, T, hB, ea, q⟩ => ?_) he hpl
  subst ev
  cases r1 with
  | @cons _ u0 _ ur ra rw' =>
    obtain rfl : u0 = Value.ref a := ra
    have hlen : ur.length ≤ sizeLine := by
      rw [← Paired.length rw', sizeLine_eq]
      omega
    exact binit_ok Y T hB I1 ea hlen fun s' J => ⟨.non, H1, J, rfl, q⟩
theorem ps_ostB (ho : PE X o to) (he : PE X e te) (hs : swapsWith e (some (.Attribute o f p')) pos.line X.env = pure false := by rfl) : PS X (.Assign [.Attribute o f p'] e pos) (tOsB X.K f to te) := by
  refine ⟨fun pins s σ H D I h => ?_⟩
  refine plainObj_wpAny_Assign_Attribute (thn (he.run pins s σ H _ I h) fun v s1 ⟨y, H1, I1, r1, q1⟩ => thn (ho.run pins s1 σ H1 _ I1 q1) fun u s2 ⟨x, H2, I2, r2, a, C, tail, ex, T, hno, q⟩ => ?_) hs
  subst ex
  obtain rfl : u = Value.ref a := r2
  rcases q with ⟨ea, q⟩ | ⟨dx, fs, ea, ed, hl, q⟩
  · exact ostB_new T I2 ea hno r1 fun dx s' n ne J => ⟨σ, _, J, q dx n ne⟩
  · exact ostB_old T I2 ea ed hl hno r1 fun s' J => ⟨σ, _, J, q⟩
def tUMe (C : Addr) (sp : Sp) (E : XK) (to : TE) (t : TA) : TE := fun σ H Q => to σ H fun x H1 => x = .ref C ∧ t σ H1 fun vs H2 => sp vs H2 Q E
theorem pe_umeth {CX : CXT} {k : Nat} {C fn : Addr} {m : Str} {fd : FuncData} {ps : List Str} {sp : Sp} {E : XK} {pl : Sem Bool} (ho : PE X o to) (U : UMeth X.K C m fn) (F : FnOk X.prog X.w X.K X.mg X.base CX k fn fd ps sp) (hr : Room k X.A) (hb : Binds X.K fd ps []) (hx : Passes CX X E) (ha : PA X (e :: es) ta)
    (hst : starEach (e :: es) X.env = (false, eval e X.env) :: starEach es X.env := by rfl) (hpl : (backTo pos (starEach es X.env)).any (·.1) = false := by rfl)
    (ht : eval (.Call (.Attribute o m apos) (e :: es) [] pos) X.env = (do
      let ov ← eval o X.env
      standAt apos.atName
      let (f, first) ← holding [ov] (getMethod ov m pl)
      callWith pos f first (backTo pos (starEach (e :: es) X.env)) (backToKw pos (keywordEach [] X.env))) := by rfl) :
    PE X (.Call (.Attribute o m apos) (e :: es) [] pos) (tUMe C sp E to ta) := by
  refine ⟨fun pins s σ H Q I h => ?_⟩
  refine PySem.W.methodCall_KW (pl := pl) (thn (ho.run pins s σ H _ I h) fun u s1 ⟨x, H1, I1, rx, ex, q⟩ => ?_) ht
  subst ex
  obtain rfl : u = Value.ref C := rx
  refine PySem.W.method_cls I1.kIn U.ga (PySem.W.cls_value I1.kIn U.rd U.at_ rfl ?_)
  have I2 : Inv X pins σ H1 { s1 with toks := s1.toks + 1 } := I1.tok _
  refine PySem.W.callWith_K (first := []) (h₀ := X.base) I.ok.mod.kin U.kp (thn (ha.run pos pins _ σ H1 _ I2 q) fun us s3 ⟨vs, H2, I3, rv, q2⟩ => ⟨I3.kIn, ?_⟩) hst hpl
  have q3 : sp (vs ++ []) H2 Q E := by rw [List.append_nil]; exact q2
  exact run_fn F hr hb (dvs := []) (ds := []) .nil hx I3 rv q3
end
end OM

namespace PySem.W
open PySem PySem.Spec PySem.Calls PyProof.Rows
theorem om_forIn_pass {M : Model} {A : Around} {β : Type} {f : Value → β → Sem (ForInStep β)} {b : β} {E : Value → Shared → Prop} {s : Shared} : ∀ {l : List Value} {Q : β → Shared → Prop},
    (∀ c ∈ l, ∀ (Q : ForInStep β → Shared → Prop), Q (.yield b) s → wpAny M A (f c b) Q E s) → Q b s → wpAny M A (forIn l b f) Q E s
  | [], Q, _, q => by
    rw [List.forIn_nil]
    exact wpAny_pure q
  | c :: l, Q, h, q => by
    rw [List.forIn_cons]
    refine wpAny_bind (h c List.mem_cons_self _ ?_)
    exact om_forIn_pass (fun c hc => h c (List.mem_cons_of_mem _ hc)) q
theorem om_forIn_any {M : Model} {A : Around} {β : Type} {f : Value → β → Sem (ForInStep β)} {b x : β} {E : Value → Shared → Prop} {s : Shared} (g : Value → Bool) : ∀ {l : List Value} {Q : β → Shared → Prop},
    (∀ c ∈ l, ∀ (Q : ForInStep β → Shared → Prop), Q (if g c = true then .done x else .yield b) s → wpAny M A (f c b) Q E s) → Q (if l.any g = true then x else b) s → wpAny M A (forIn l b f) Q E s
  | [], Q, _, q => by
    rw [List.forIn_nil]
    exact wpAny_pure q
  | c :: l, Q, h, q => by
    rw [List.forIn_cons]
    refine wpAny_bind (h c List.mem_cons_self _ ?_)
    rw [List.any_cons] at q
    cases e : g c with
    | true =>
      rw [e, Bool.true_or, if_pos rfl] at q
      rw [if_pos rfl]
      exact wpAny_pure q
    | false =>
      rw [e, Bool.false_or] at q
      rw [if_neg Bool.false_ne_true]
      exact om_forIn_any g (fun c hc => h c (List.mem_cons_of_mem _ hc)) q
theorem om_exmAny_all {K : Frag} {cls : Value} : ∀ {l : List Value} {b : Bool}, exmAny K cls l = some b → (∀ c ∈ l, exmOne K cls c = some (exmOne K cls c == some true)) ∧ b = l.any fun c => exmOne K cls c == some true
  | [], b, h => by
    have e : some false = some b := h
    cases e
    exact ⟨fun c hc => (nomatch hc), rfl⟩
  | c :: l, b, h => by
    obtain ⟨b1, d1, h1, h2, rfl⟩ := exmAny_cons h
    obtain ⟨i1, i2⟩ := om_exmAny_all h2
    refine ⟨fun x hx => ?_, ?_⟩
    · rcases List.mem_cons.mp hx with rfl | hx
      · rw [h1]
        cases b1 <;> rfl
      · exact i1 x hx
    · rw [List.any_cons, h1, ← i2]
      cases b1 <;> rfl
theorem om_exm_tup {M : Model} {K : Frag} {cs : List Value} {cls : Value} {tp e : Addr} {b : Bool} {h : Heap} {ot : Obj} {nt : Nat} (X : K.In h) (LT : Looks M h (typeOf (.ref e)) cls) (hp : h.get? tp = some ot) (hoc : ot.cls = .type "tuple") (hod : ot.data = .seq cs.toArray nt) (hx : exmAny K cls cs = some b) :
    Looks M h (excMatches (.ref e) (.ref tp)) b := by
  intro A Q E s k₀ q
  obtain ⟨hh, g, d, tk, os⟩ := s
  have k : ∀ b o, h.get? b = some o → hh.get? b = some o := k₀
  obtain ⟨oc, odd, odt, osl⟩ := ot
  dsimp only at hoc hod
  subst hoc hod
  have LT0 : Looks M h (isInstance (.ref tp) (.type "tuple")) true := ((Looks.ld hp).andThen .now).andThen (Looks.of_pure isSubtype_tuple_tuple)
  obtain ⟨hall, hb⟩ := om_exmAny_all hx
  have LT := LT.keeps k
  have LT0 := LT0.keeps k
  have hp' := k _ _ hp
  unfold excMatches
  refine wpAny_bind (LT0.at ?_)
  dsimp only
  rw [if_pos rfl]
  first
    | refine wpAny_bind (wpAny_seqItems hp' rfl ?_)
    | refine wpAny_bind (wpAny_bind (wpAny_seqItems hp' rfl (wpAny_pure ?_)))
  dsimp only [Option.getD_some, Option.getD]
  refine wpAny_bind (wpAny_pure ?_)
  refine wpAny_bind (om_forIn_pass (fun c hc Q q => ?_) ?_)
  · refine wpAny_bind (((exm_cls (M := M) X (hall c hc)).1.keeps k).at ?_)
    simp only [Bool.not_true, Bool.false_eq_true, if_false]
    exact wpAny_pure q
  · refine wpAny_bind (LT.at ?_)
    refine wpAny_bind (om_forIn_any (fun c => exmOne K cls c == some true) (x := (some true, ())) (fun c hc Q q => ?_) ?_)
    · refine wpAny_bind (((exm_cls (M := M) X (hall c hc)).2.keeps k).at ?_)
      cases e : (exmOne K cls c == some true) with
      | true =>
        rw [e, if_pos rfl] at q
        rw [if_pos rfl]
        exact wpAny_pure q
      | false =>
        rw [e, if_neg Bool.false_ne_true] at q
        rw [if_neg Bool.false_ne_true]
        exact wpAny_pure q
    · rw [← hb]
      cases b with
      | true =>
        rw [if_pos rfl]
        exact wpAny_pure q
      | false =>
        rw [if_neg Bool.false_ne_true]
        exact wpAny_pure q
end PySem.W

namespace PySem.W
open PySem PySem.Spec PySem.Calls PyProof.Rows
section
variable {prog : Program} {w : World} {A : Around} {E : Value → Shared → Prop} {s : Shared} {K : Frag} {x D : Addr} {ox : Obj}
theorem om_findObj_data {C : Addr} {od : Option Obj} {name : Str} {a g : Value} (hc : (clsIn K C).isSome = true) (ha : findIn K (.ref C) name = some (some a)) (hg : specialIn K a "__get__" = some (some g)) (ht : takesIn K a = some true) : findObj K C od name = some (.bind g a) := by
  obtain ⟨cd, hc⟩ := Option.isSome_iff_exists.mp hc
  unfold findObj
  rw [hc, Option.bind_some, ha, Option.bind_some]
  simp [hg, ht]
theorem om_classE {od : Option Obj} {Q : Option Value → Shared → Prop} (hga : findIn K (.ref D) "__getattribute__" = some (some (.builtin "BaseException.__getattribute__"))) (hgt : findIn K (.ref D) "__getattr__" = some none) (hsub : subIn K (.ref D) (.type "BaseException") = some true)
    (hdct : hasDictIn K D = true) (ha : findIn K (.ref D) "__class__" = some (some (.builtin "object.__class__")))
    (hn : specialIn K (.builtin "object.__class__") "__get__" = some (some (.builtin "getset_descriptor.__get__"))) (htk : takesIn K (.builtin "object.__class__") = some true) (hm : mroIn K D (.type "object") = some true)
    (X : K.In s.heap) (I : InstAt s.heap x ox D od) (h : Q (some (.ref D)) { s with toks := s.toks + 1 }) : wpAny (model prog w) A (getAttr? (.ref x) "__class__") Q E s := by
  have hf : findObj K D od "__class__" = some (.bind (.builtin "getset_descriptor.__get__") (.builtin "object.__class__")) := om_findObj_data (by obtain ⟨cd, hc, _⟩ := any_some hdct; rw [hc]; rfl) ha hn htk
  obtain ⟨hp, g, d, t, os⟩ := s
  have L0 := I.type (M := model prog w)
  have L1 := looks_findIn (M := model prog w) X hga
  have L2 := looks_findIn (M := model prog w) X hgt
  have L3 := looks_find (M := model prog w) X I hf
  have sub : Looks (model prog w) hp (isInstance (.ref x) (.type "BaseException")) true := L0.andThen (looks_subIn X hsub)
  have hx0 : (false && onTheHeap (Value.builtin "BaseException.__getattribute__")) = false := rfl
  have hx2 : (Value.builtin "BaseException.__getattribute__" == Value.builtin "object.__getattribute__") = false := by decide +kernel
  have hx1 : (onTheHeap (Value.ref D) && Value.builtin "BaseException.__getattribute__" == Value.builtin "object.__getattribute__") = false := by rw [hx2]; rfl
  unfold getAttr? getAttrBy? getAttrBy
  refine wpAny_bind (wpAny_mkText (wpAny_bind (wpAny_attempt (wpAny_holding (wpAny_bind (L0.at (wpAny_bind (L1.at ?_))))))))
  show wpAny _ _ (if (onTheHeap (Value.ref D) && Value.builtin "BaseException.__getattribute__" == Value.builtin "object.__getattribute__") = true then _ else _) _ _ _
  rw [hx1, if_neg Bool.false_ne_true]
  unfold getAttrByItsOwn hookBefore
  refine wpAny_bind ?_
  rw [if_pos (show onTheHeap (Value.ref D) = true from rfl)]
  refine L2.at ?_
  refine wpAny_bind (wpAny_attempt (wpAny_holding ?_))
  unfold callGetattribute
  rw [hx0, if_neg Bool.false_ne_true]
  unfold boundAndCalled
  rw [PySem.F.excAttr_ValueError.ga.bind (.ref x)]
  refine wpAny_bind (wpAny_pure ?_)
  show wpAny _ _ (call (.builtin "BaseException.__getattribute__") [.ref x, .str "__class__" t]) _ _ _
  refine wpAny_call (codeAny_call_builtin PySem.F.excAttr_ValueError.ga.plain PySem.F.entry_bexc_ga ?_)
  refine @check_slot (model prog w) _ _ ⟨hp, g, d, t + 1, os⟩ "BaseException.__getattribute__" "BaseException" "__getattribute__" (.ref x) [.str "__class__" t] [] _ (by decide +kernel) (by decide +kernel) sub (PySem.F.args_bexc_ga (.ref x) (.str "__class__" t)) ?_
  unfold Builtin.«object.__getattribute__»
  refine wpAny_bind (wpAny_of_eq (a := ((Value.ref x : Value), [Value.str "__class__" t])) (by first | rfl | (simp only [slotArgs]; rfl)) ?_)
  refine wpAny_bind (wpAny_pure (wpAny_bind (L0.at (wpAny_bind (L3.at ?_)))))
  show wpAny _ _ (holding [Value.builtin "object.__class__"] (call (.builtin "getset_descriptor.__get__") [.builtin "object.__class__", .ref x, .ref D]) >>= ret) _ _ _
  refine wpAny_bind (wpAny_holding (wpAny_call (class_get (s := ⟨hp, g, d, t + 1, os⟩) (ox := ox) (od := od) X I hm ?_)))
  refine wpAny_pure ?_
  show wpAny _ _ (handedOut (.ref D)) _ _ _
  rw [handedOut_of (v := .ref D) rfl]
  first
    | exact wpAny_pure (wpAny_pure h)
    | exact wpAny_pure h
    | exact wpAny_pure (wpAny_bind (wpAny_pure (wpAny_pure h)))
theorem om_kitx_exc {od : Option Obj} (hga : findIn K (.ref D) "__getattribute__" = some (some (.builtin "BaseException.__getattribute__"))) (hgt : findIn K (.ref D) "__getattr__" = some none) (hsub : subIn K (.ref D) (.type "BaseException") = some true) (hdct : hasDictIn K D = true) (ha : findIn K (.ref D) "__class__" = some (some (.builtin "object.__class__")))
    (hn : specialIn K (.builtin "object.__class__") "__get__" = some (some (.builtin "getset_descriptor.__get__"))) (htk : takesIn K (.builtin "object.__class__") = some true) (hm : mroIn K D (.type "object") = some true) :
    KitX K (.ref x) (.ref D) (fun h => InstAt h x ox D od) where
  ty := fun _ _ _ I => I.type
  it := fun _ _ X _ => by
    obtain ⟨cdD, hcD, _⟩ := any_some hdct
    unfold clsIn at hcD
    split at hcD
    · rename_i c' d' cd' sl' ho
      intro A' Q' E' s' k q
      unfold isType loadHead
      exact wpAny_bind (wpAny_loadPart (k _ _ (X _ _ ho)) (wpAny_pure q))
    · cases hcD
  ne := fun h tp dd its n sl X htp => by
    obtain ⟨cdD, hcD, _⟩ := any_some hdct
    refine Bool.eq_false_iff.mpr fun q => ?_
    have e : D = tp := Value.ref.inj (beq_iff_eq.mp q)
    subst e
    unfold clsIn at hcD
    split at hcD
    · rename_i c' d' cd' sl' ho
      have z := (X _ _ ho).symm.trans htp
      cases z
    · cases hcD
  ca := fun X I k => om_classE hga hgt hsub hdct ha hn htk hm X I k
end
end PySem.W

namespace OM
open PySem PySem.Spec PyProof.Rows L2
/-- the type of an exception that is tracked, or of None -/
inductive TyE (K : PySem.W.Frag) (H : Hp) : V → Value → Prop where
  | base {x : V} {t : Value} (h : TyX K H x t) : TyE K H x t
  | exc {a C : Addr} : ExcC K C → H a = some (exo a C none) → TyE K H (.ref a) (.ref C)
  | excD {a C dx : Addr} {fs : List (Str × V)} : ExcC K C → H a = some (exo a C (some dx)) → H dx = some (exd dx fs) → TyE K H (.ref a) (.ref C)
def rIsB (K : PySem.W.Frag) : List V → Hp → VK → Prop := fun xs H Q => ∃ (x c : V) (t u : Value) (b : Bool), xs = [x, c] ∧ ClsV c u ∧ TyE K H x t ∧ PySem.W.kitOne K t u = some b ∧ Q (.bl b) H
section
variable {X : Cx}
theorem exo_inst {P : Program} {w : World} {H : Hp} {h : Heap} {a C : Addr} (hok : HOk P w H h) (e : H a = some (exo a C none)) : ∃ ox, PySem.W.InstAt h a ox C none := by
  obtain ⟨t1, ho⟩ := exo_at hok e
  exact ⟨_, ho, rfl, rfl, trivial⟩
theorem exo_instD {P : Program} {w : World} {H : Hp} {h : Heap} {a C dx : Addr} {fs : List (Str × V)} (hok : HOk P w H h) (e : H a = some (exo a C (some dx))) (ed : H dx = some (exd dx fs)) : ∃ ox od, PySem.W.InstAt h a ox C (some od) ∧ ∀ f v, fs.lookup f = some v → ∃ u, RelV v u ∧ PySem.W.lookIn f od = some (some u) := by
  obtain ⟨t1, ho⟩ := exo_at hok e
  obtain ⟨mA, hns, rel⟩ := exd_at hok ed
  obtain ⟨od, hod, hl⟩ := lookIn_ns hns
  refine ⟨_, od, ⟨ho, rfl, rfl, hod⟩, fun f v e => ?_⟩
  obtain ⟨u, hu, ru⟩ := RelO.some_of (v := v) (o := mA f) (by rw [← e]; exact rel f)
  exact ⟨u, ru, by rw [hl, hu]⟩
theorem call_isB : CallR X (.builtin "isinstance") (rIsB X.K) := by
  intro pins s σ H xs us Q I r h
  obtain ⟨x, c, t, u, b, rfl, k, ty, e, q⟩ := h
  obtain ⟨u1, u2, rfl, r1, r2⟩ := vals2 r
  have e2 := k.eq r2
  subst e2
  cases ty with
  | base h0 =>
    obtain ⟨P, Z, p, hx⟩ := kit_of I r1 h0
    exact PySem.W.kia_one Z I.kIn p e hx fun tk => ⟨.bl b, H, I.tok tk, rfl, q⟩
  | @exc a C T ea =>
    obtain rfl : u1 = Value.ref a := r1
    obtain ⟨ox, J⟩ := exo_inst I.hok ea
    exact PySem.W.kia_one (PySem.W.om_kitx_exc T.hg T.hk T.hs T.hd T.ha T.hn T.ht T.hm) I.kIn J e (fun z => nomatch z) fun tk => ⟨.bl b, H, I.tok tk, rfl, q⟩
  | @excD a C dx fs T ea ed =>
    obtain rfl : u1 = Value.ref a := r1
    obtain ⟨ox, od, J, _⟩ := exo_instD I.hok ea ed
    exact PySem.W.kia_one (PySem.W.om_kitx_exc T.hg T.hk T.hs T.hd T.ha T.hn T.ht T.hm) I.kIn J e (fun z => nomatch z) fun tk => ⟨.bl b, H, I.tok tk, rfl, q⟩
/-- e.f, e an exception that is tracked -/
def tXfB (K : PySem.W.Frag) (f : Str) (te : TE) : TE := fun σ H Q => te σ H fun x H1 => ∃ (a C dx : Addr) (fs : List (Str × V)) (v : V), x = .ref a ∧ XfC K C ∧ PySem.W.findIn K (.ref C) f = some none ∧ H1 a = some (exo a C (some dx)) ∧ H1 dx = some (exd dx fs) ∧ fs.lookup f = some v ∧ Q v H1
theorem pe_xfB {e : Expr} {te : TE} {pos : Pos} {n : Str} (he : PE X e te) (hb : attributeBase e n X.env (eval e X.env) = eval e X.env := by rfl) : PE X (.Attribute e n pos) (tXfB X.K n te) := by
  refine ⟨fun pins s σ H Q I h => ?_⟩
  refine attr_of hb (thn (he.run pins s σ H _ I h) fun u s1 hh => ?_)
  obtain ⟨x, H1, I1, rx, a, C, dx, fs, v, ex, T, hno, ea, ed, l, q⟩ := hh
  subst ex
  obtain rfl : u = Value.ref a := rx
  obtain ⟨ox, od, J, hl⟩ := exo_instD I1.hok ea ed
  obtain ⟨u, ru, hu⟩ := hl n v l
  exact HandSPX.exc_get I1.kIn J T.ga T.gg T.exC (PySem.W.findObj_own T.hdC hno rfl hu) (handed_of ru) ⟨v, H1, I1.tok _, ru, q⟩
end

/-! ### making -/
structure MkB (K : PySem.W.Frag) (C fI : Addr) (tail : List Value) : Prop where
  T : OexB K C tail
  iC : PySem.W.findIn K (.ref C) "__init__" = some (some (.ref fI))
  tI : PySem.W.typeIn K (.ref fI) = some (.type "function")
section
variable {X : Cx} {CX : CXT} {k : Nat} {fI C : Addr} {fd : FuncData} {ps : List Str} {sp : Sp} {dvs : List V} {ds : List Value} {x : Str} {p pos : Pos} {e : Expr} {es : List Expr} {ta : TA} {tail : List Value}
theorem run_mkB {pins : List (Addr × Obj)} {σ : L2.St} {H : Hp} {s : Shared} {R : Value → Shared → Prop} {us : List Value} {vs : List V} {RR : Addr → Hp → Prop} (M : MkB X.K C fI tail) (F : FnOk X.prog X.w X.K X.mg X.base CX k fI fd ps sp) (hr : Room (k + 1) X.A) (hb : Binds X.K fd ps ds) (hd : Vals dvs ds)
    (hx : Passes CX X E0) (I : Inv X pins σ H s) (r : Vals vs us) (hz : vs.length ≤ 1000)
    (h : ∀ a, H a = none → sp (.ref a :: (vs ++ dvs)) (upd H a (exo a C none)) (fun v H2 => v = .non ∧ RR a H2) E0)
    (hR : ∀ s2 H2 hp2, s.heap.objs.size ≤ s.heap.objs.size + 1 → (∀ b o, s.heap.get? b = some o → hp2.get? b = some o) → Un (frs X.stack) [] (upd H (s.heap.objs.size + 1) (exo (s.heap.objs.size + 1) C none)) H2 hp2 s2.heap → HOk X.prog X.w H2 s2.heap → s2.os = s.os → AllBare s2.gens →
      Inv X pins σ H2 s2 → RR (s.heap.objs.size + 1) H2 → R (.ref (s.heap.objs.size + 1)) s2) :
    wpAny (model X.prog X.w) X.A (call (.ref C) us) R X.xe s := by
  obtain ⟨B, newId, initId, nm, q, N, bs, bm, sn, sub, ab, col, dd, k0, k1, k2, k3, k5, Y, hC, hbm⟩ := M.T.cls
  obtain ⟨hp, g, dr, tk, os⟩ := s
  have hsz : hp.objs.size ≤ hp.objs.size + 1 := Nat.le_succ _
  have hn : H (hp.objs.size + 1) = none := I.hok.fresh hsz
  have hq := h (hp.objs.size + 1) hn
  have kk : ∀ b o, hp.get? b = some o → ((hp.push (PySem.W.kdv_tup us)).push (PySem.HandSPX.excO C hp.objs.size)).get? b = some o := fun b o e => Heap.get?_push_of_some _ (Heap.get?_push_of_some _ e)
  have hget : ((hp.push (PySem.W.kdv_tup us)).push (PySem.HandSPX.excO C hp.objs.size)).get? (hp.objs.size + 1) = some (PySem.HandSPX.excO C hp.objs.size) := by heap_get
  have I2 : Inv X pins σ (upd H (hp.objs.size + 1) (exo (hp.objs.size + 1) C none)) ⟨(hp.push (PySem.W.kdv_tup us)).push (PySem.HandSPX.excO C hp.objs.size), g, dr, tk, os⟩ :=
    I.laid (t' := tk) (a := hp.objs.size + 1) (o := exo (hp.objs.size + 1) C none) (h' := (hp.push (PySem.W.kdv_tup us)).push (PySem.HandSPX.excO C hp.objs.size)) kk hsz (exo_ok hget)
  have r2 : Vals (V.ref (hp.objs.size + 1) :: (vs ++ dvs)) (Value.ref (hp.objs.size + 1) :: (us ++ ds)) := .cons rfl (r.append hd)
  have hl : (Value.ref (hp.objs.size + 1) :: us ++ ds).length = ps.length := by
    have e := r2.length
    rw [F.len _ _ _ _ hq] at e
    exact e.symm
  have hus : us.length ≤ sizeLine := by
    rw [← Paired.length r, sizeLine_eq]
    omega
  refine wpAny_call (callX Y hbm (I.kIn _ _ hC) (PySem.W.looks_findIn I.kIn M.iC) (fun self => PySem.W.bind_fn I.kIn self M.tI) hus
    (codeAny_mono (F.run _ X.stack _ _ ⟨Value.ref (hp.objs.size + 1) :: us, []⟩ (Value.ref (hp.objs.size + 1) :: (us ++ ds)) _ _ E0 (hr.make C us []) (I2.env0.make C us []) (hb _ (Value.ref (hp.objs.size + 1) :: us) I2.kIn hl) r2 hq) fun r s' hq' => ?_))
  cases r with
  | error er => exact hx pins σ _ _ er s' I2 hq'
  | ok fl =>
    cases fl with
    | ret u =>
      have hq2 := hq'
      obtain ⟨v, H2, os2, bare2, un2, hok2, rv, ev, rr⟩ := hq2
      subst ev
      obtain ⟨_, _, I3, _, _⟩ := I2.after (Q := fun _ _ => True) ⟨.non, H2, os2, bare2, un2, hok2, rv, trivial⟩
      have I3' : Inv X pins σ H2 s' := I2.call' (ch := []) os2 un2 hok2 bare2 (fun b z => absurd z (by simp))
      exact ⟨rv, hR s' H2 _ hsz kk un2 hok2 os2 bare2 I3' rr⟩
    | next => exact False.elim hq'
    | brk => exact False.elim hq'
    | cont => exact False.elim hq'
/-- C(e, ..) as a value: a new exception, tracked -/
def tMkV (C : Addr) (sp : Sp) (dvs : List V) (ta : TA) : TE := fun σ H Q => ta σ H fun vs H1 => vs.length ≤ 1000 ∧ ∀ a, H1 a = none → sp (.ref a :: (vs ++ dvs)) (upd H1 a (exo a C none)) (fun v H2 => v = .non ∧ Q (.ref a) H2) E0
theorem pe_mkV (M : MkB X.K C fI tail) (F : FnOk X.prog X.w X.K X.mg X.base CX k fI fd ps sp) (hr : Room (k + 1) X.A) (hg : Gl X x) (hm : X.mg x = some (.ref C)) (hb : Binds X.K fd ps ds) (hd : Vals dvs ds) (hx : Passes CX X E0)
    (ha : PA X (e :: es) ta) (hdb : (x == ("__debug__" : Str)) = false := by decide) (he : starEach (e :: es) X.env = (false, eval e X.env) :: starEach es X.env := by rfl) (hpl : (backTo pos (starEach es X.env)).any (·.1) = false := by rfl) :
    PE X (.Call (.Name x p) (e :: es) [] pos) (tMkV C sp dvs ta) := by
  refine ⟨fun pins s σ H Q I h => ?_⟩
  refine wpAny_Call_Name_kw (ld_glob I hg hm ?_ hdb)
  refine PySem.W.callWith_K (h₀ := X.base) I.ok.mod.kin M.T.kC (thn (ha.run pos pins s σ H _ I h) fun us s1 ⟨vs, H1, I1, r, hz, q⟩ => ⟨I1.kIn, ?_⟩) he hpl
  exact run_mkB (RR := fun a H2 => Q (.ref a) H2) M F hr hb hd hx I1 r hz q fun s2 H2 hp2 _ _ _ _ _ _ I2 rr => ⟨.ref _, H2, I2, rfl, rr⟩
theorem pe_mkV0 (M : MkB X.K C fI tail) (F : FnOk X.prog X.w X.K X.mg X.base CX k fI fd ps sp) (hr : Room (k + 1) X.A) (hg : Gl X x) (hm : X.mg x = some (.ref C)) (hb : Binds X.K fd ps ds) (hd : Vals dvs ds) (hx : Passes CX X E0)
    (hdb : (x == ("__debug__" : Str)) = false := by decide) : PE X (.Call (.Name x p) [] [] pos) (tMkV C sp dvs tNil) := by
  refine ⟨fun pins s σ H Q I h => ?_⟩
  refine wpAny_Call_Name_kw (ld_glob I hg hm ?_ hdb)
  refine PySem.W.callWith_K0 I.kIn M.T.kC ?_
  obtain ⟨hz, q⟩ := (show ([] : List V).length ≤ 1000 ∧ _ from h)
  exact run_mkB (us := []) (vs := []) (RR := fun a H2 => Q (.ref a) H2) M F hr hb hd hx I .nil hz q fun s2 H2 hp2 _ _ _ _ _ _ I2 rr => ⟨.ref _, H2, I2, rfl, rr⟩
/-- a made exception without a dict is let go -/
theorem mk_endN {pins : List (Addr × Obj)} {σ : L2.St} {H1 H2 : Hp} {hp hp2 h2 : Heap} {g1 g2 : Array GenState} {d1 d2 : Drawn} {t1 t2 : Nat} {os1 os2 : OsState} {a C : Addr} (I1 : Inv X pins σ H1 ⟨hp, g1, d1, t1, os1⟩)
    (ha : hp.objs.size ≤ a) (k : ∀ b o, hp.get? b = some o → hp2.get? b = some o) (un : Un (frs X.stack) [] (upd H1 a (exo a C none)) H2 hp2 h2) (hok : HOk X.prog X.w H2 h2) (ho : os2 = os1) (hb : AllBare g2)
    (ea : H2 a = some (exo a C none)) :
    ∃ (t0 : Addr) (G : Heap), Inv X pins σ (del H2 a) ⟨G, g2, d2, t2, os2⟩ ∧ (∀ b o, G.get? b = some o → h2.get? b = some o) ∧ G.get? a = none ∧
      h2.get? a = some ({ cls := .ref C, dict := none, data := .fields #[.ref t0, .none, .none, .none, .bool false, .none] } : Obj) ∧ (del H2 a) a = none := by
  obtain ⟨t0, hoe⟩ := exo_at hok ea
  have hn : H1 a = none := I1.hok.fresh ha
  obtain ⟨G, g1', g2'⟩ := restrict h2 fun b => decide (b ≠ a)
  have gk : ∀ b, b ≠ a → G.get? b = h2.get? b := fun b hb => g1' b (decide_eq_true hb)
  have ge : G.get? a = none := g2' a (by simp)
  have nha : ∀ {b : Addr} {o : Obj}, hp.get? b = some o → b ≠ a := fun {b o} z => Nat.ne_of_lt (Nat.lt_of_lt_of_le (Heap.lt_size z) ha)
  have up : ∀ {b : Addr}, b ≠ a → H1 b = none → upd H1 a (exo a C none) b = none := fun {b} hb n => by rw [upd_ne hb]; exact n
  have U : Un (frs X.stack) [] H1 (del H2 a) hp G := {
    keep := fun b o z n hf hx => by
      rw [gk b (nha z)]
      exact un.keep b o (k b o z) (up (nha z) n) hf hx
    slot := fun b o z n hf hx => by
      rw [gk b (nha z)]
      exact un.slot b o (k b o z) (up (nha z) n) hf hx
    free := fun b o z n hx => by
      rw [del_ne (nha z)]
      exact un.free b o (k b o z) (up (nha z) n) hx
    there := fun b o z hx => by
      rw [gk b (nha z)]
      exact un.there b o (k b o z) hx
    tups := fun b xs z => by
      rw [del_ne (ne_of_none z hn)]
      exact un.tups b xs (by rw [upd_ne (ne_of_none z hn)]; exact z)
    frzs := fun b o v z => by
      rw [del_ne (ne_of_none z hn)]
      exact un.frzs b o v (by rw [upd_ne (ne_of_none z hn)]; exact z)
    tbls := fun b ps z => by
      rw [del_ne (ne_of_none z hn)]
      exact un.tbls b ps (by rw [upd_ne (ne_of_none z hn)]; exact z) }
  have hok3 : HOk X.prog X.w (del H2 a) G := fun b o z => by
    have hba : b ≠ a := fun e => by
      rw [e, del_same] at z
      cases z
    rw [del_ne hba] at z
    have noa : ∀ {c : Addr}, H2 c = some (.own b) → c ≠ a := fun {c} hc => at_ne ea hc exo_own
    exact (hok b o z).stay (fun c v hc y => by
        have hca : c ≠ a := by
          rcases hc with hc | hc
          · rw [hc]
            exact hba
          · exact noa hc
        rw [gk c hca]
        exact y)
      (fun c hc => by rw [del_ne (noa hc)]; exact hc) (fun c xs hc => by rw [del_ne (at_ne ea hc exo_tup)]; exact hc)
  have J : Inv X pins σ (del H2 a) ⟨G, g2, d2, t2, os2⟩ := I1.call' (ch := []) ho U hok3 hb (fun b z => absurd z (by simp))
  refine ⟨t0, G, J, fun b o z => ?_, ge, hoe, del_same⟩
  by_cases hba : b = a
  · rw [hba, ge] at z
    cases z
  · exact (gk b hba).symm.trans z
/-- raise C(e, ..) -/
def MkR (C : Addr) (H1 : Hp) (Q : XK) (a : Addr) (H2 : Hp) : Prop := (H2 a = some (exo a C none) ∧ Q (.ref C) none (del H2 a)) ∨
  ∃ (d : Addr) (fs : List (Str × V)), H2 a = some (exo a C (some d)) ∧ H2 d = some (exd d fs) ∧ H1 d = none ∧ Q (.ref C) (some d) (upd (del H2 a) d (.xd fs))
def tMkR (C : Addr) (sp : Sp) (dvs : List V) (ta : TA) : L2.St → Hp → XK → Prop := fun σ H Q => ta σ H fun vs H1 => vs.length ≤ 1000 ∧ ∀ a, H1 a = none → sp (.ref a :: (vs ++ dvs)) (upd H1 a (exo a C none)) (fun v H2 => v = .non ∧ MkR C H1 Q a H2) E0
theorem pmk_B (M : MkB X.K C fI tail) (F : FnOk X.prog X.w X.K X.mg X.base CX k fI fd ps sp) (hr : Room (k + 1) X.A) (hg : Gl X x) (hm : X.mg x = some (.ref C)) (hb : Binds X.K fd ps ds) (hd : Vals dvs ds) (hx : Passes CX X E0)
    (ha : PA X (e :: es) ta) (hdb : (x == ("__debug__" : Str)) = false := by decide) (he : starEach (e :: es) X.env = (false, eval e X.env) :: starEach es X.env := by rfl) (hpl : (backTo pos (starEach es X.env)).any (·.1) = false := by rfl) :
    PMk X (.Call (.Name x p) (e :: es) [] pos) (tMkR C sp dvs ta) := by
  intro pins s σ H Q I h
  refine wpAny_Call_Name_kw (ld_glob I hg hm ?_ hdb)
  refine PySem.W.callWith_K (h₀ := X.base) I.ok.mod.kin M.T.kC (thn (ha.run pos pins s σ H _ I h) fun us s1 ⟨vs, H1, I1, r, hz, q⟩ => ⟨I1.kIn, ?_⟩) he hpl
  refine run_mkB (RR := MkR C H1 Q) M F hr hb hd hx I1 r hz q fun s2 H2 hp2 hsz kk un2 hok2 os2 bare2 _ rr => ?_
  obtain ⟨hp, g, dr, tk, os⟩ := s1
  obtain ⟨h2, g2, d2, t2, os'⟩ := s2
  rcases rr with ⟨ea, q2⟩ | ⟨d, fs, ea, ed, hd1, q2⟩
  · obtain ⟨t0, G, J, kG, ge, hoe, na⟩ := mk_endN (d2 := d2) (t2 := t2) I1 hsz kk un2 hok2 os2 bare2 ea
    exact ⟨_, _, _, ⟨G, g2, d2, t2, os'⟩, _, .ref C, none, rfl, J, kG, ge, hoe, ⟨rfl, rfl⟩, rfl, rfl, na, rfl, bare2, raises_own M.T.exC M.T.tyC, q2⟩
  · exact mk_end (raises_own M.T.exC M.T.tyC) I1 hsz kk un2 hok2 os2 bare2 ea ed hd1 q2
end
end OM

namespace OM
open PySem PySem.Spec PyProof.Rows L2
theorem flying_more {base h h' : Heap} {l : List Env} {e : Addr} {Z : Obj → Prop} (x : HandSPX.FlyingZ base l e Z h) (k : ∀ b o, h.get? b = some o → h'.get? b = some o) : HandSPX.FlyingZ base l e Z h' := by
  obtain ⟨k1, k2, k3, oe, vs, T, oT, ts, he, hz, hd, h1, hn, hne, hT, hdT, h3⟩ := x
  exact ⟨fun b o q => k b o (k1 b o q), k2, Heap.FunFrames.of_keeps (fun b o e _ => ⟨o, k b o e, rfl⟩) k3, oe, vs, T, oT, ts, k _ _ he, hz, hd, h1, hn, hne, k _ _ hT, hdT, h3⟩
/-- the test of a clause: ok cls b: it answers b for an exception of the class cls -/
structure TstR (X : Cx) (t : Expr) (ok : Value → Bool → Prop) : Prop where
  run : ∀ (a : Addr) (oe : Obj) (pn : List (Addr × Obj)) (σ : L2.St) (H : Hp) (s : Shared) (cls : Value) (b : Bool) (Q : Bool → Shared → Prop) (E E' : Value → Shared → Prop), Inv (X.suite a ((a, oe) :: pn)) [] σ H s → s.heap.get? a = some oe → oe.cls = cls → ok cls b →
    (∀ h', (∀ q o, s.heap.get? q = some o → h'.get? q = some o) → Q b { s with heap := h' }) →
    wpAny (model X.prog X.w) (X.A.mark (some (.ref a))) (eval t X.env) (fun c s₁ => wpAny (model X.prog X.w) (X.A.mark (some (.ref a))) (excMatches (.ref a) c) Q E' s₁) E s
section
variable {X : Cx} {x : Str} {c : Value} {np tpos : Pos} {tk : Nat}
theorem ld_names {a : Addr} {oe : Obj} {pn pins : List (Addr × Obj)} {σ : L2.St} {H : Hp} {s : Shared} {Q : Value → Shared → Prop} {E : Value → Shared → Prop} (hc : Names X x c) (S : Inv (X.suite a ((a, oe) :: pn)) pins σ H s) (q : Q c s) :
    wpAny (model X.prog X.w) (X.A.mark (some (.ref a))) (eval (.Name x np) X.env) Q E s := by
  obtain ⟨hg, hdbg, hm | ⟨hm, hv, hnn⟩⟩ := hc
  · exact ld_glob (X := X.suite a ((a, oe) :: pn)) S hg hm q hdbg
  · exact ld_blt (X := X.suite a ((a, oe) :: pn)) S hg hm hv q hnn hdbg
theorem tst_one (hc : Names X x c) : TstR X (.Name x np) (fun cls b => PySem.W.exmOne X.K cls c = some b) := by
  refine ⟨fun a oe pn σ H s cls b Q E E' S ha hcls hok q => ?_⟩
  refine ld_names hc S ?_
  have LT : PySem.W.Looks (model X.prog X.w) s.heap (typeOf (.ref a)) cls := fun A Q E s k q => wpAny_typeOf_ref (k _ _ ha) (by rw [hcls]; exact q)
  exact (PySem.W.exm_one (M := model X.prog X.w) S.kIn LT hok).here (q s.heap fun _ _ z => z)
/-- names of classes, one behind the other -/
inductive NamesT (X : Cx) : List Expr → List Value → Prop
  | nil : NamesT X [] []
  | cons {x : Str} {c : Value} {np : Pos} {es : List Expr} {cs : List Value} (hc : Names X x c) (r : NamesT X es cs) (he : starEach (.Name x np :: es) X.env = (false, eval (.Name x np) X.env) :: starEach es X.env := by rfl) : NamesT X (.Name x np :: es) (c :: cs)
theorem items_names {a : Addr} {oe : Obj} {pn : List (Addr × Obj)} {σ : L2.St} {H : Hp} {s : Shared} {E : Value → Shared → Prop} {pos : Pos} (S : Inv (X.suite a ((a, oe) :: pn)) [] σ H s) : ∀ {es : List Expr} {cs : List Value} {Q : List Value → Shared → Prop}, NamesT X es cs → Q cs s →
    wpAny (model X.prog X.w) (X.A.mark (some (.ref a))) (spliced (backTo pos (starEach es X.env))) Q E s
  | _, _, _, .nil, q => wpAny_items_nil q
  | _, _, Q, .cons hc r he, q => wpAny_items_cons (ld_names hc S (items_names (Q := fun vs s => Q (_ :: vs) s) S r q)) he
theorem tst_tup {es : List Expr} {cs : List Value} (hc : NamesT X es cs) (hz : cs.length ≤ sizeLine) : TstR X (.Tuple es tk tpos) (fun cls b => PySem.W.exmAny X.K cls cs = some b) := by
  refine ⟨fun a oe pn σ H s cls b Q E E' S ha hcls hok q => ?_⟩
  refine wpAny_Tuple (items_names S hc ⟨hz, ?_⟩)
  have kp : ∀ q o, s.heap.get? q = some o → (s.heap.push { cls := .type "tuple", data := .seq cs.toArray }).get? q = some o := fun _ _ z => Heap.get?_push_of_some _ z
  have LT : PySem.W.Looks (model X.prog X.w) (s.heap.push { cls := .type "tuple", data := .seq cs.toArray }) (typeOf (.ref a)) cls := fun A Q E s k q => wpAny_typeOf_ref (k _ _ (kp _ _ ha)) (by rw [hcls]; exact q)
  exact (PySem.W.om_exm_tup (M := model X.prog X.w) (S.kIn.keeps kp) LT (Heap.get?_push_size s.heap rfl) rfl rfl hok).here (q _ kp)
end
/-- a clause: its test, the slot of its name, its suite -/
abbrev Cl := (Value → Bool → Prop) × Option Nat × (Addr → Value → Option Addr → TS)
def offD (D : Ends) (i : Nat) : Ends := { nx := fun σ' H' => D.nx (σ'.set i none) H', rt := D.rt, bk := fun σ' H' => D.bk (σ'.set i none) H', ct := fun σ' H' => D.ct (σ'.set i none) H' }
def wTry (Wout : WX) (D : Ends) : List Cl → WX
  | [] => Wout
  | (ok, none, ts) :: r => fun cls d σ H => ∃ b, ok cls b ∧ (b = true → ∀ a, H a = none → ts a cls d D σ H) ∧ (b = false → wTry Wout D r cls d σ H)
  | (ok, some i, ts) :: r => fun cls d σ H => ∃ b, ok cls b ∧ (b = true → ∀ a, H a = none → ts a cls d (offD D i) (σ.set i (some (.ref a))) H) ∧ (b = false → wTry Wout D r cls d σ H)
inductive ClsOk (X : Cx) : List ExceptHandler → List Cl → Prop
  | nil : ClsOk X [] []
  | cons {t : Expr} {ok : Value → Bool → Prop} {ts : Addr → Value → Option Addr → TS} {b₀ : Stmt} {suite : List Stmt} {pos' : Pos} {hds : List ExceptHandler} {l : List Cl} (ht : TstR X t ok)
      (hsu : ∀ (a : Addr) (oe : Obj) (cls : Value) (d : Option Addr) (pn : List (Addr × Obj)), Zc cls d oe → (∃ vs, oe.data = .fields vs) → PSs (X.suite a ((a, oe) :: pn)) (b₀ :: suite) (ts a cls d)) (r : ClsOk X hds l) :
      ClsOk X (.ExceptHandler (some t) none (b₀ :: suite) pos' :: hds) ((ok, none, ts) :: l)
  | as {n : Str} {i : Nat} {t : Expr} {ok : Value → Bool → Prop} {ts : Addr → Value → Option Addr → TS} {b₀ : Stmt} {suite : List Stmt} {pos' : Pos} {hds : List ExceptHandler} {l : List Cl} (hN : X.N.Nodup) (hi : X.N[i]? = some n) (hln : X.env.kindOf n = some .local) (ht : TstR X t ok)
      (hsu : ∀ (a : Addr) (oe : Obj) (cls : Value) (d : Option Addr) (pn : List (Addr × Obj)), Zc cls d oe → (∃ vs, oe.data = .fields vs) → PSs (X.suite a ((a, oe) :: pn)) (b₀ :: suite) (ts a cls d)) (r : ClsOk X hds l) :
      ClsOk X (.ExceptHandler (some t) (some n) (b₀ :: suite) pos' :: hds) ((ok, some i, ts) :: l)
section
variable {X : Cx} {body : List Stmt} {h₀ : ExceptHandler} {hds : List ExceptHandler} {l : List Cl} {pos : Pos} {tb : WX → TS} {Wout : WX}
theorem ps_try_gen (hs : X.stack = X.env :: X.outer) (hf : X.env.frame = some X.env.locals) (tk : Takes X Wout)
    (hb : ∀ (W : WX) (pn : List (Addr × Obj)) (xe : Value → Shared → Prop), Takes (X.tr pn xe) W → PassesOwn (model X.prog X.w) X.A X.env xe → PSs (X.tr pn xe) body (tb W))
    (hh : ClsOk X (h₀ :: hds) l) : PS X (.Try body (h₀ :: hds) [] [] pos) (fun D σ H => tb (wTry Wout D l) D σ H) := by
  refine ⟨fun pins s σ H D I h => ?_⟩
  have ok := I.ok
  have hfr : X.A.frames = some (X.env :: X.outer) := by rw [ok.frames, hs]
  refine wpAny_Try_except ?_
  refine wpAny_mono ((hb (wTry Wout D l) (X.pn ++ pins) (fun e s₁ => wpAny (model X.prog X.w) X.A (noteFrame e X.env) (fun _ s₂ => wpAny (model X.prog X.w) X.A (setFlight e none) (fun _ s₃ =>
    wpAny (model X.prog X.w) X.A (handleBy e X.env (h₀ :: hds)) (SP X pins D) X.xe s₃) X.xe s₂) X.xe s₁) (fun u s' xx => ?_) PassesOwn.looking).run [] s σ H D (I.toTry _) h) (fun f s1 hsp => ?_) (fun e s1 he => he)
  · -- the catch
    obtain ⟨a, B, sI, pins', σ', H', cls, d, rfl, J', nb, up, sky, na, os, ag, w⟩ := xx
    have J : Inv X pins σ' H' sI := J'.ofTry ok
    have sky' : Sky B (X.env :: X.outer) a (Zc cls d) X.env.locals s'.heap := by rw [← hs]; exact sky
    show wpAny (model X.prog X.w) X.A (noteFrame (.ref a) X.env) _ _ _
    refine Sky.land Zc.steady hfr hf sky' fun h3 fl3 up3 => ?_
    have notFr : ∀ {h : Heap} {o : Obj} {vs : Array Value}, h.FunFrames B (X.env :: X.outer) → h.get? a = some o → o.data = .fields vs → a ∉ frs (X.env :: X.outer) := fun {h o vs} ff e dd hm => by
      obtain ⟨_, o', e', hnf⟩ := ff.mem hm
      rw [e] at e'; cases e'
      exact hnf _ dd
    have nfr : a ∉ frs (X.env :: X.outer) := by
      obtain ⟨oe3, vs3, he3, hz3, hd3⟩ := fl3.there
      exact notFr fl3.2.2.1 he3 hd3
    have nL : a ≠ X.env.locals := fun z => nfr (List.mem_filterMap.mpr ⟨X.env, List.mem_cons_self, by rw [hf, z]⟩)
    have nF : a ∉ X.fs := fun hm => by
      obtain ⟨e, he, q⟩ := List.mem_filterMap.mp hm
      exact nfr (List.mem_filterMap.mpr ⟨e, List.mem_cons_of_mem _ he, q⟩)
    have go : ∀ {hds' : List ExceptHandler} {l' : List Cl}, ClsOk X hds' l' → ∀ h5, HandSPX.FlyingZ B (X.env :: X.outer) a (Zc cls d) h5 → s'.heap.UpToSlots h5 → wTry Wout D l' cls d σ' H' →
        wpAny (model X.prog X.w) X.A (handleBy (.ref a) X.env hds') (SP X pins D) X.xe { s' with heap := h5 } := by
      intro hds' l' hk
      induction hk with
      | nil =>
        intro h3 fl3 up3 w
        refine wpAny_handleBy_nil ?_
        obtain ⟨k1, k2, k3, oe, vs, T, oT, ts', he, hz, hd, h1, hr⟩ := id fl3
        unfold PySem.passOn
        refine wpAny_bind (wpAny_field he hd h1 ?_)
        rw [if_neg (show ¬ ((Value.ref T == Value.none) = true) from by simp)]
        have fin : wpAny (model X.prog X.w) X.A (setFlight (.ref a) X.env.frame) (fun _ s4 => wpAny (model X.prog X.w) X.A (throw (.ref a) : Sem Flow) (SP X pins D) X.xe s4) X.xe { s' with heap := h3 } := by
          rw [hf]
          refine HandSPX.setFlight_upZ fl3 fun h4 hh4 up4 => wpAny_throw (tk _ _ ?_)
          exact ⟨a, B, sI, pins, σ', H', cls, d, rfl, J, nb, (up.trans up3).trans up4, .inr (.inr (by rw [hs]; exact hh4)), na, os, ag, w⟩
        first
          | exact wpAny_bind (wpAny_pure (wpAny_bind fin))
          | exact wpAny_bind fin
      | @cons t okp ts b₀ suite pos' hds2 l2 ht hsu r ih =>
        intro h3 fl3 up3 w
        obtain ⟨b, hb1, hyes, hno⟩ := w
        have J3 : Inv X pins σ' H' { s' with heap := h3 } := J.landed nb fl3.1 (up.trans up3) os ag
        obtain ⟨oe3, vs3, he3, hz3, hd3⟩ := fl3.there
        have S3 := J3.suite he3 hd3 na nL nF
        refine wpAny_handleBy_cons (codeAny_handlers_test ?_) (by intro q; cases q)
        refine ht.run a oe3 (X.pn ++ pins) σ' H' _ cls b _ _ _ S3 he3 hz3.1 hb1 (fun h6 k6 => ?_)
        have fl6 := flying_more fl3 k6
        have up6 : s'.heap.UpToSlots h6 := up3.trans (Heap.UpToSlots.of_keeps k6)
        cases b with
        | true =>
          refine codeAny_handlers_suite ?_
          refine HandSPX.lands_againZ fl6 fun h4 fl4 up4 => ?_
          have J4 : Inv X pins σ' H' { s' with heap := h4 } := J.landed nb fl4.1 ((up.trans up6).trans up4) os ag
          obtain ⟨oe4, vs4, he4, hz4, hd4⟩ := fl4.there
          have S4 := J4.suite he4 hd4 na nL nF
          refine wpAny_mono ((hsu a oe4 cls d (X.pn ++ pins) hz4 ⟨_, hd4⟩).run [] _ _ H' _ S4 (hyes rfl a na)) (fun f s6 hsp => ?_) (fun _ _ z => False.elim z)
          cases f with
          | next =>
            obtain ⟨σ6, H6, S6, q6⟩ := hsp
            exact ⟨_, _, S6.unsuite ok, q6⟩
          | brk =>
            obtain ⟨σ6, H6, S6, q6⟩ := hsp
            exact ⟨_, _, S6.unsuite ok, q6⟩
          | cont =>
            obtain ⟨σ6, H6, S6, q6⟩ := hsp
            exact ⟨_, _, S6.unsuite ok, q6⟩
          | ret u =>
            obtain ⟨v6, σ6, H6, S6, r6, q6⟩ := hsp
            exact ⟨_, _, _, S6.unsuite ok, r6, q6⟩
        | false =>
          show wpAny _ X.A (handleBy (.ref a) X.env hds2) _ _ _
          exact ih h6 fl6 up6 (hno rfl)
      | @as n i t okp ts b₀ suite pos' hds2 l2 hN hi hln ht hsu r ih =>
        intro h3 fl3 up3 w
        obtain ⟨b, hb1, hyes, hno⟩ := w
        have J3 : Inv X pins σ' H' { s' with heap := h3 } := J.landed nb fl3.1 (up.trans up3) os ag
        obtain ⟨oe3, vs3, he3, hz3, hd3⟩ := fl3.there
        have S3 := J3.suite he3 hd3 na nL nF
        refine wpAny_handleBy_cons (codeAny_handlers_test ?_) (by intro q; cases q)
        refine ht.run a oe3 (X.pn ++ pins) σ' H' _ cls b _ _ _ S3 he3 hz3.1 hb1 (fun h6 k6 => ?_)
        have fl6 := flying_more fl3 k6
        have up6 : s'.heap.UpToSlots h6 := up3.trans (Heap.UpToSlots.of_keeps k6)
        cases b with
        | true =>
          have hloc : Loc X.env.scope n := .inl hln
          refine codeAny_handlers_suite_as ?_
          refine HandSPX.lands_againZ fl6 fun h4 fl4 up4 => ?_
          have J4 : Inv X pins σ' H' { s' with heap := h4 } := J.landed nb fl4.1 ((up.trans up6).trans up4) os ag
          obtain ⟨oe4, vs4, he4, hz4, hd4⟩ := fl4.there
          have S4 := J4.suite he4 hd4 na nL nF
          refine store_ok (X := X.suite a ((a, oe4) :: (X.pn ++ pins))) (v := .ref a) S4 hN hi hloc rfl (fun s5 S5 => ?_) (.inr hln)
          refine wpAny_mono ((hsu a oe4 cls d (X.pn ++ pins) hz4 ⟨_, hd4⟩).run [] s5 _ H' _ S5 (hyes rfl a na)) (fun f s6 hsp => ?_) (fun _ _ z => False.elim z)
          have end_ : ∀ {σ6 : L2.St} {H6 : Hp} {Q : Shared → Prop}, Inv (X.suite a ((a, oe4) :: (X.pn ++ pins))) [] σ6 H6 s6 → (∀ s7, Inv X pins (σ6.set i none) H6 s7 → Q s7) →
              wpAny (model X.prog X.w) X.A (do bindName X.env n .none; unbindBehindTheSuite X.env n pos') (fun _ s7 => Q s7) X.xe s6 := fun {σ6 H6 Q} S6 hq => gone_ok (S6.unsuite ok) hN hi hln hq
          cases f with
          | next =>
            obtain ⟨σ6, H6, S6, q6⟩ := hsp
            exact end_ S6 fun s7 J7 => ⟨_, _, J7, q6⟩
          | brk =>
            obtain ⟨σ6, H6, S6, q6⟩ := hsp
            exact end_ S6 fun s7 J7 => ⟨_, _, J7, q6⟩
          | cont =>
            obtain ⟨σ6, H6, S6, q6⟩ := hsp
            exact end_ S6 fun s7 J7 => ⟨_, _, J7, q6⟩
          | ret u =>
            obtain ⟨v6, σ6, H6, S6, r6, q6⟩ := hsp
            exact end_ S6 fun s7 J7 => ⟨_, _, _, J7, r6, q6⟩
        | false =>
          show wpAny _ X.A (handleBy (.ref a) X.env hds2) _ _ _
          exact ih h6 fl6 up6 (hno rfl)
    exact go hh h3 fl3 up3 w
  · cases f with
    | next =>
      obtain ⟨σ', H', J', q⟩ := hsp
      exact wpAny_execs_nil ⟨σ', H', J'.ofTry ok, q⟩
    | brk =>
      obtain ⟨σ', H', J', q⟩ := hsp
      exact ⟨σ', H', J'.ofTry ok, q⟩
    | cont =>
      obtain ⟨σ', H', J', q⟩ := hsp
      exact ⟨σ', H', J'.ofTry ok, q⟩
    | ret u =>
      obtain ⟨v, σ', H', J', r, q⟩ := hsp
      exact ⟨v, σ', H', J'.ofTry ok, r, q⟩
end
end OM

namespace OM
open PySem L2
def top (i : Nat) : Stmt := PySem.Challenge.pw_orderlymoves_k05_whole_bounds_on_every_p.main.body.getD i (.Pass ⟨0, 0, 0, 0⟩)
abbrev sDice : Stmt := top 50
abbrev sRoll : Stmt := top 51
abbrev sOneOf : Stmt := top 52

/-- all but a is as it was -/
def But (a : Addr) (H H' : Hp) : Prop := ∀ b o, b ≠ a → H b = some o → H' b = some o
/-- a dice: a list of three ints -/
def Dice (H : Hp) (a : Addr) : Prop := ∃ l m c : Int, H a = some (.lst [.int l, .int m, .int c])

structure TxtD (mg : Str → Option Value) : Prop where
  len : mg "len" = none
  int : mg "int" = none
  abs : mg "abs" = none

def spDice (K : PySem.W.Frag) : Sp := fun vs H Q _ => ∃ (a : Addr) (ns : List Int) (k : Nat), vs = [.ref a, .int (k : Int)] ∧ SqL K H a (ns.map V.int) ∧
  ∀ H' p, Same H H' → H p = none → Dice H' p → Q (.ref p) H'
def spRoll : Sp := fun vs H Q _ => ∃ (d : Addr) (n : Int), vs = [.ref d, .int n] ∧ Dice H d ∧ 0 < n ∧ n < 1073741824 ∧
  ∀ H' (r : Int), 0 ≤ r → r < n → But d H H' → Dice H' d → Q (.int r) H'
def spOneOf (K : PySem.W.Frag) : Sp := fun vs H Q _ => ∃ (d a : Addr) (xs : List V), vs = [.ref d, .ref a] ∧ Dice H d ∧ SqL K H a xs ∧ (H d ≠ none → a ≠ d) ∧ 0 < xs.length ∧ xs.length < 1073741824 ∧
  ∀ H' (i : Nat) v, xs[i]? = some v → But d H H' → Dice H' d → Q v H'

section
variable {P : Program} {w : World} {K : PySem.W.Frag} {mg : Str → Option Value} {base : Heap}
theorem scR : FnScope ["_law_dice_here", "_law_total", "_law_number", "_law_drawn", "_law_one", "_law_two"] ["_law_dice_here", "_law_total"] (defScope sRoll) := ⟨rfl, rfl, rfl, by decide +kernel, rfl, by decide +kernel, by decide +kernel⟩
theorem ok_roll {f : Addr} {fd : FuncData} (F : Fun K "_law_roll" "_law_roll" sRoll f fd) (T : TxtD mg) : FnOk P w K mg base CX0 1 f fd ["_law_dice_here", "_law_total"] spRoll := by
  refine F.ok scR (fun vs H Q E h => ?_) (fun cdv A outer s H vs Q E hr h => ?_)
  · obtain ⟨d, n, rfl, _⟩ := h
    rfl
  · obtain ⟨d, n, rfl, ⟨l, m, c, hd⟩, n0, n1, k⟩ := h
    have big : ∀ {x : Int}, 0 ≤ x → x < 2305843009213693952 → (-(2 ^ 64) < x ∧ x < 2 ^ 64) := fun h1 h2 => ⟨by omega, by omega⟩
    refine ⟨_, pss_cons (ps_set (i := 2) scR.nd rfl (Or.inl rfl) (pe_callTy call_int1 (by rfl) T.int (by decide +kernel) (pa_cons (pv 1) pa_nil)))
      (pss_cons (ps_if (pt_cmpR op_gt (pe_ix ix_list (pv 0) pe_int (fun _ _ => rfl)) pe_int (nomark _))
        (pss_cons (ps_set (i := 3) scR.nd rfl (Or.inl rfl) (pe_op op_mod (pe_ix ix_list (pv 0) pe_int (fun _ _ => rfl)) (pv 2)))
        (pss_cons (ps_asg (pe_op op_fdiv (pe_ix ix_list (pv 0) pe_int (fun _ _ => rfl)) (pv 2)) (pg_sub (pv 0) pe_int set_list))
        (pss_one (ps_ret (pe_callTy call_int1 (by rfl) T.int (by decide +kernel) (pa_cons (pv 3) pa_nil))))))
        pss_nil)
      (pss_cons (ps_asg (pe_op op_add (pe_ix ix_list (pv 0) pe_int (fun _ _ => rfl)) pe_int) (pg_sub (pv 0) pe_int set_list))
      (pss_cons (ps_set (i := 4) scR.nd rfl (Or.inl rfl) (pe_op op_mod (pe_op op_add (pe_ix ix_list (pv 0) pe_int (fun _ _ => rfl)) (pe_op op_mul pe_int (pe_ix ix_list (pv 0) pe_int (fun _ _ => rfl)))) pe_int))
      (pss_cons (ps_set (i := 5) scR.nd rfl (Or.inl rfl) (pe_op op_add (pe_op op_mul (pe_op op_mod (pe_op op_mul (pv 4) (pv 4)) pe_int) (pv 4)) (pe_op op_mul pe_int (pe_ix ix_list (pv 0) pe_int (fun _ _ => rfl)))))
      (pss_cons (ps_set (i := 5) scR.nd rfl (Or.inl rfl) (pe_op op_mod (pv 5) pe_int))
      (pss_one (ps_ret (pe_callTy call_int1 (by rfl) T.int (by decide +kernel) (pa_cons (pe_op op_mod (pe_op op_fdiv (pv 5) pe_int) (pv 2)) pa_nil))))))))), ?_⟩
    refine ⟨_, rfl, .inl ⟨_, rfl, ?_⟩⟩
    refine ⟨_, rfl, d, _, _, _, rfl, rfl, SqL.of hd, rfl, _, _, rfl, rfl, _, rfl, ite2 (fun h0 => ?_) (fun h0 => ?_)⟩
    · refine ⟨_, rfl, d, _, _, _, rfl, rfl, SqL.of hd, rfl, _, rfl, _, _, rfl, rfl, n0, ?_⟩
      refine ⟨_, rfl, d, _, _, _, rfl, rfl, SqL.of hd, rfl, _, rfl, _, _, rfl, rfl, ⟨n0, n1⟩, _, rfl, d, _, _, 0, rfl, rfl, hd, rfl, ?_⟩
      refine ⟨_, rfl, .inl ⟨_, rfl, ?_⟩⟩
      refine k _ _ (Int.emod_nonneg _ (by omega)) (Int.emod_lt_of_pos _ n0) (fun b o nb e => by rw [upd_ne nb]; exact e) ⟨_, _, _, upd_same⟩
    · refine ⟨_, rfl, d, _, _, _, rfl, rfl, SqL.of hd, rfl, _, _, rfl, rfl, _, rfl, d, _, _, 2, rfl, rfl, hd, rfl, ?_⟩
      have hd2 : upd H d (.lst [.int l, .int m, .int (c + 1)]) d = some (.lst [.int l, .int m, .int (c + 1)]) := upd_same
      refine ⟨_, rfl, d, _, _, _, rfl, rfl, SqL.of hd2, rfl, _, rfl, d, _, _, _, rfl, rfl, SqL.of hd2, rfl, _, _, rfl, rfl, .inl (by decide), _, _, rfl, rfl, _, _, rfl, rfl, (by show (0 : Int) < 2305843009213693951; decide), ?_⟩
      have o0 : 0 ≤ (m + 1000099 * (c + 1)) % 2305843009213693951 := Int.emod_nonneg _ (by decide)
      have o1 : (m + 1000099 * (c + 1)) % 2305843009213693951 < 2305843009213693951 := Int.emod_lt_of_pos _ (by decide)
      refine ⟨_, rfl, _, rfl, _, _, rfl, rfl, .inl (big o0 (by omega)), _, _, rfl, rfl, (by show (0 : Int) < 2305843009213693921; decide), _, rfl, _, _, rfl, rfl, .inr (big o0 (by omega)), _, rfl, d, _, _, _, rfl, rfl, SqL.of hd2, rfl, _, _, rfl, rfl, .inl (by decide), _, _, rfl, rfl, ?_⟩
      refine ⟨_, rfl, _, _, rfl, rfl, (by show (0 : Int) < 2305843009213693907; decide), ?_⟩
      refine ⟨_, rfl, _, _, rfl, rfl, ⟨by decide, by decide⟩, _, rfl, _, _, rfl, rfl, n0, .inl ⟨_, rfl, ?_⟩⟩
      exact k _ _ (Int.emod_nonneg _ (by omega)) (Int.emod_lt_of_pos _ n0) (fun b o nb e => by rw [upd_ne nb]; exact e) ⟨_, _, _, upd_same⟩
theorem scO : FnScope ["_law_dice_here", "_law_items"] ["_law_dice_here", "_law_items"] (defScope sOneOf) := ⟨rfl, rfl, rfl, by decide +kernel, rfl, by decide +kernel, by decide +kernel⟩
theorem But.seq {K : PySem.W.Frag} {H H' : Hp} {d a : Addr} {xs : List V} (e : But d H H') (n : H d ≠ none → a ≠ d) (dn : H d ≠ none) (h : SqL K H a xs) : SqL K H' a xs := by
  rcases h with (h | ⟨o, h⟩) | h
  · exact .inl (.inl (e _ _ (n dn) h))
  · exact .inl (.inr ⟨o, e _ _ (n dn) h⟩)
  · exact .inr h
theorem Dice.ne {H : Hp} {d : Addr} (h : Dice H d) : H d ≠ none := by
  obtain ⟨_, _, _, e⟩ := h
  rw [e]
  exact fun z => nomatch z
theorem ok_oneof {f fR : Addr} {fd fdR : FuncData} (F : Fun K "_law_one_of" "_law_one_of" sOneOf f fd) (T : TxtD mg) (FR : Fun K "_law_roll" "_law_roll" sRoll fR fdR) (gR : mg "_law_roll" = some (.ref fR)) (bR : Binds K fdR ["_law_dice_here", "_law_total"] []) :
    FnOk P w K mg base CX0 2 f fd ["_law_dice_here", "_law_items"] (spOneOf K) := by
  have GR : FnOk P w K mg base CX0 1 fR fdR ["_law_dice_here", "_law_total"] spRoll := ok_roll FR T
  refine F.ok scO (fun vs H Q E h => ?_) (fun cdv A outer s H vs Q E hr h => ?_)
  · obtain ⟨d, a, xs, rfl, _⟩ := h
    rfl
  · obtain ⟨d, a, xs, rfl, hd, hx, ne, l0, l1, k⟩ := h
    refine ⟨_, pss_one (ps_ret (pe_ix ix_list (pv 1) (pe_call GR hr rfl gR FR.kp bR .nil pass0 (pa_cons (pv 0) (pa_cons (pe_callB call_len_seq (by rfl) T.len PySem.boot_len (pa_cons (pv 1) pa_nil)) pa_nil))) (fun _ _ => rfl))), ?_⟩
    refine ⟨_, rfl, _, rfl, _, rfl, a, _, rfl, .inl hx, d, _, rfl, hd, by omega, by omega, fun H' r r0 r1 hb hd' => ?_⟩
    obtain ⟨i, rfl⟩ : ∃ i : Nat, r = (i : Int) := ⟨r.toNat, by omega⟩
    have hi : i < xs.length := by omega
    have hv : xs[i]? = some xs[i] := List.getElem?_eq_getElem hi
    exact ⟨a, xs, _, _, rfl, rfl, hb.seq ne hd.ne hx, atI_nat hv, k _ i _ hv hb hd'⟩
theorem scD : FnScope ["_law_script", "_law_at", "_law_cell", "_law_great", "_law_left", "_law_mixed"] ["_law_script", "_law_at"] (defScope sDice) := ⟨rfl, rfl, rfl, by decide +kernel, rfl, by decide +kernel, by decide +kernel⟩
/-- a power of a greater base -/
theorem op_powB {X : Cx} : OpR X (binaryOp .Pow) (rI (fun i j => 0 ≤ j ∧ (PySem.Builtin.Int.intBits i : Int) * j ≤ 2 ^ 27) fun i j => .int (i ^ j.toNat)) := opI fun _ _ _ _ _ _ _ hc q => PyProof.Rows.pow_int hc.1 hc.2 q
theorem ok_dice {f : Addr} {fd : FuncData} (F : Fun K "_law_dice" "_law_dice" sDice f fd) (T : TxtD mg) : FnOk P w K mg base CX0 1 f fd ["_law_script", "_law_at"] (spDice K) := by
  refine F.ok scD (fun vs H Q E h => ?_) (fun cdv A outer s H vs Q E hr h => ?_)
  · obtain ⟨a, ns, k, rfl, _⟩ := h
    rfl
  · obtain ⟨a, ns, k, rfl, hS, q⟩ := h
    refine ⟨_, pss_cons (ps_set (i := 2) scD.nd rfl (Or.inl rfl) (pe_op op_add (pe_op op_mul pe_int (pv 1)) pe_int))
      (pss_cons (ps_if (pt_cmpR op_lt (pv 1) (pe_callB call_len_seq (by rfl) T.len PySem.boot_len (pa_cons (pv 0) pa_nil)) (nomark _))
        (pss_one (ps_set (i := 2) scD.nd rfl (Or.inl rfl) (pe_ix ix_list (pv 0) (pv 1) (fun _ _ => rfl)))) pss_nil)
      (pss_cons (ps_set (i := 3) scD.nd rfl (Or.inl rfl) (pe_op op_mod (pe_callTy call_int1 (by rfl) T.int (by decide +kernel) (pa_cons (pe_callB call_abs (by rfl) T.abs (by decide +kernel) (pa_cons (pv 2) pa_nil)) pa_nil)) (pe_op op_powB (pe_op op_pow pe_int pe_int) pe_int)))
      (pss_cons (ps_set (i := 4) scD.nd rfl (Or.inl rfl) (pe_op op_fdivW (pv 3) (pe_op op_pow pe_int pe_int)))
      (pss_cons (ps_set (i := 5) scD.nd rfl (Or.inl rfl) (pe_op op_add (pe_op op_add (pe_op op_add (pe_op op_mul (pe_op op_mod (pv 3) pe_int) pe_int) (pe_op op_mul pe_int (pv 1))) (pe_op op_mul pe_int (pe_callTy call_int1 (by rfl) T.int (by decide +kernel) (pa_cons (pe_cmpR op_lt (pv 2) pe_int (nomark _)) pa_nil)))) pe_int))
      (pss_one (ps_ret (pe_lst (pa_cons (pv 4) (pa_cons (pe_op op_mod (pv 5) pe_int) (pa_cons pe_int pa_nil)))))))))), ?_⟩
    refine ⟨_, rfl, _, _, rfl, rfl, .inl (by decide), _, _, rfl, rfl, ?_⟩
    refine ⟨_, rfl, _, rfl, a, _, rfl, .inl hS, _, _, rfl, rfl, _, rfl, ite2 (fun h0 => ?_) (fun h0 => ?_)⟩
    · have h1 : k < ns.length := by
        rw [List.length_map] at h0
        have h2 := of_decide_eq_true h0
        omega
      have hv : (ns.map V.int)[k]? = some (V.int ns[k]) := by
        rw [List.getElem?_map, List.getElem?_eq_getElem h1]
        rfl
      refine ⟨_, rfl, _, rfl, a, _, _, _, rfl, rfl, hS, atI_nat hv, ?_⟩
      refine ⟨_, rfl, _, rfl, .inl ⟨_, rfl, ?_⟩⟩
      refine ⟨_, _, rfl, rfl, ⟨by decide, by decide, by decide⟩, _, _, rfl, rfl, ⟨by decide, by decide +kernel⟩, _, _, rfl, rfl, (by show (0 : Int) < (10 ^ (60 : Int).toNat) ^ (10 : Int).toNat; decide +kernel), ?_⟩
      refine ⟨_, rfl, _, _, rfl, rfl, ⟨by decide, by decide, by decide⟩, _, _, rfl, rfl, wide_div (b := 64) (by show (0 : Int) < 10 ^ (18 : Int).toNat; decide +kernel) (by show (10 ^ (18 : Int).toNat : Int).natAbs < 2 ^ 64; decide +kernel) (by decide) (by decide), ?_⟩
      refine ⟨_, rfl, _, _, rfl, rfl, (by show (0 : Int) < 2147483423; decide), _, _, rfl, rfl, .inr (by decide), _, rfl, _, _, rfl, rfl, .inl (by decide), _, _, rfl, rfl, _, rfl, _, _, rfl, rfl, .inr ⟨_, rfl, ?_⟩⟩
      refine ⟨_, _, rfl, rfl, .inl (by decide), _, _, rfl, rfl, _, _, rfl, rfl, ?_⟩
      refine ⟨_, rfl, _, rfl, _, _, rfl, rfl, (by show (0 : Int) < 2147483399; decide), (by show 3 ≤ sizeLine; decide), fun p hp => ?_⟩
      exact q _ p (fun b o e => by rw [upd_ne (ne_of_none e hp)]; exact e) hp ⟨_, _, _, upd_same⟩
    · refine ⟨_, rfl, _, rfl, .inl ⟨_, rfl, ?_⟩⟩
      refine ⟨_, _, rfl, rfl, ⟨by decide, by decide, by decide⟩, _, _, rfl, rfl, ⟨by decide, by decide +kernel⟩, _, _, rfl, rfl, (by show (0 : Int) < (10 ^ (60 : Int).toNat) ^ (10 : Int).toNat; decide +kernel), ?_⟩
      refine ⟨_, rfl, _, _, rfl, rfl, ⟨by decide, by decide, by decide⟩, _, _, rfl, rfl, wide_div (b := 64) (by show (0 : Int) < 10 ^ (18 : Int).toNat; decide +kernel) (by show (10 ^ (18 : Int).toNat : Int).natAbs < 2 ^ 64; decide +kernel) (by decide) (by decide), ?_⟩
      refine ⟨_, rfl, _, _, rfl, rfl, (by show (0 : Int) < 2147483423; decide), _, _, rfl, rfl, .inr (by decide), _, rfl, _, _, rfl, rfl, .inl (by decide), _, _, rfl, rfl, _, rfl, _, _, rfl, rfl, .inr ⟨_, rfl, ?_⟩⟩
      refine ⟨_, _, rfl, rfl, .inl (by decide), _, _, rfl, rfl, _, _, rfl, rfl, ?_⟩
      refine ⟨_, rfl, _, rfl, _, _, rfl, rfl, (by show (0 : Int) < 2147483399; decide), (by show 3 ≤ sizeLine; decide), fun p hp => ?_⟩
      exact q _ p (fun b o e => by rw [upd_ne (ne_of_none e hp)]; exact e) hp ⟨_, _, _, upd_same⟩
end
end OM

namespace OM
open PySem PySem.Spec PyProof.Rows L2
abbrev sCop : Stmt := top 14
/-- a key as a datum -/
def kD : Key → PyData
  | .inl i => .int i
  | .inr x => .str x
/-- values that are no objects -/
inductive At : V → PyData → Prop where
  | non : At .non .none
  | bl (b : Bool) : At (.bl b) (.bool b)
  | int (i : Int) : At (.int i) (.int i)
  | str (x : Str) : At (.str x) (.str x)
mutual
/-- v stands for the datum d, by objects of S alone -/
inductive Dt (S : Addr → Prop) (H : Hp) : V → PyData → Prop where
  | at {v : V} {d : PyData} (h : At v d) : Dt S H v d
  | lst {a : Addr} {xs : List V} {ds : List PyData} (s : S a) (e : H a = some (.lst xs)) (hl : xs.length ≤ 1000) (h : DtAll S H xs ds) : Dt S H (.ref a) (.list ds)
  | tup {a : Addr} {xs : List V} {ds : List PyData} (s : S a) (e : H a = some (.tup xs)) (hl : xs.length ≤ 1000) (h : DtAll S H xs ds) : Dt S H (.ref a) (.tuple ds)
  | dic0 {a : Addr} (s : S a) (e : H a = some (.dK [])) : Dt S H (.ref a) (.dict [])
  | dic1 {a : Addr} {k : Key} {v : V} {d : PyData} (s : S a) (e : H a = some (.dK [(k, v)])) (h : At v d) : Dt S H (.ref a) (.dict [(kD k, d)])
inductive DtAll (S : Addr → Prop) (H : Hp) : List V → List PyData → Prop where
  | nil : DtAll S H [] []
  | cons {v : V} {d : PyData} {vs : List V} {ds : List PyData} (h : Dt S H v d) (r : DtAll S H vs ds) : DtAll S H (v :: vs) (d :: ds)
end
section
variable {S S' : Addr → Prop} {H H' : Hp}
mutual
theorem Dt.mv (hS : ∀ a, S a → S' a) (hH : ∀ a o, S a → H a = some o → H' a = some o) : ∀ {v : V} {d : PyData}, Dt S H v d → Dt S' H' v d
  | _, _, .at h => .at h
  | _, _, .lst s e hl h => .lst (hS _ s) (hH _ _ s e) hl (DtAll.mv hS hH h)
  | _, _, .tup s e hl h => .tup (hS _ s) (hH _ _ s e) hl (DtAll.mv hS hH h)
  | _, _, .dic0 s e => .dic0 (hS _ s) (hH _ _ s e)
  | _, _, .dic1 s e h => .dic1 (hS _ s) (hH _ _ s e) h
theorem DtAll.mv (hS : ∀ a, S a → S' a) (hH : ∀ a o, S a → H a = some o → H' a = some o) : ∀ {vs : List V} {ds : List PyData}, DtAll S H vs ds → DtAll S' H' vs ds
  | _, _, .nil => .nil
  | _, _, .cons h r => .cons (Dt.mv hS hH h) (DtAll.mv hS hH r)
end
mutual
theorem Dt.strong (hS : ∀ a o, S a → H a = some o → S' a ∧ H' a = some o) : ∀ {v : V} {d : PyData}, Dt S H v d → Dt S' H' v d
  | _, _, .at h => .at h
  | _, _, .lst s e hl h => .lst (hS _ _ s e).1 (hS _ _ s e).2 hl (DtAll.strong hS h)
  | _, _, .tup s e hl h => .tup (hS _ _ s e).1 (hS _ _ s e).2 hl (DtAll.strong hS h)
  | _, _, .dic0 s e => .dic0 (hS _ _ s e).1 (hS _ _ s e).2
  | _, _, .dic1 s e h => .dic1 (hS _ _ s e).1 (hS _ _ s e).2 h
theorem DtAll.strong (hS : ∀ a o, S a → H a = some o → S' a ∧ H' a = some o) : ∀ {vs : List V} {ds : List PyData}, DtAll S H vs ds → DtAll S' H' vs ds
  | _, _, .nil => .nil
  | _, _, .cons h r => .cons (Dt.strong hS h) (DtAll.strong hS r)
end
theorem DtAll.snoc : ∀ {vs : List V} {ds : List PyData} {v : V} {d : PyData}, DtAll S H vs ds → Dt S H v d → DtAll S H (vs ++ [v]) (ds ++ [d])
  | _, _, _, _, .nil, h => .cons h .nil
  | _, _, _, _, .cons a r, h => .cons a (DtAll.snoc r h)
theorem DtAll.length : ∀ {vs : List V} {ds : List PyData}, DtAll S H vs ds → vs.length = ds.length
  | _, _, .nil => rfl
  | _, _, .cons _ r => congrArg (· + 1) (DtAll.length r)
theorem DtAll.get : ∀ {vs : List V} {ds : List PyData} {i : Nat} {v : V}, DtAll S H vs ds → vs[i]? = some v → ∃ d, ds[i]? = some d ∧ Dt S H v d
  | _, _, _, _, .nil, e => by simp at e
  | _, _, 0, _, .cons h _, e => by
    simp at e
    subst e
    exact ⟨_, rfl, h⟩
  | _, _, i + 1, _, .cons _ r, e => by
    obtain ⟨d, e2, h⟩ := DtAll.get (i := i) r (by simpa using e)
    exact ⟨d, by simpa using e2, h⟩
theorem depth_get : ∀ {ds : List PyData} {i : Nat} {d : PyData}, ds[i]? = some d → d.depth ≤ PyData.depthAll ds
  | [], _, _, e => by simp at e
  | x :: r, 0, d, e => by
    simp at e
    subst e
    unfold PyData.depthAll
    omega
  | x :: r, i + 1, d, e => by
    have q := depth_get (ds := r) (i := i) (d := d) (by simpa using e)
    unfold PyData.depthAll
    omega
/-- the type that isinstance sees -/
theorem At.ty {K : PySem.W.Frag} {v : V} {d : PyData} (h : At v d) : ∃ n, (n = "NoneType" ∨ n = "bool" ∨ n = "int" ∨ n = "str") ∧ TyX K H v (.type n) := by
  cases h with
  | non => exact ⟨_, .inl rfl, .base .non⟩
  | bl b => exact ⟨_, .inr (.inl rfl), .base (.bl b)⟩
  | int i => exact ⟨_, .inr (.inr (.inl rfl)), .base (.int i)⟩
  | str x => exact ⟨_, .inr (.inr (.inr rfl)), .base (.str x)⟩
end
/-- what _copied answers: the same datum, of objects that were not there -/
def spCop : Nat → Sp
  | 0 => fun _ _ _ _ => False
  | n + 1 => fun vs H Q _ => ∃ (S : Addr → Prop) (v : V) (d : PyData), vs = [v] ∧ Dt S H v d ∧ d.depth ≤ n ∧ ∀ H' v', Same H H' → Dt (fun a => H a = none) H' v' d → Q v' H'
structure TxtC (mg : Str → Option Value) : Prop where
  isi : mg "isinstance" = none
  lst : mg "list" = none
  tup : mg "tuple" = none
  dct : mg "dict" = none
/-- over the keys of a dict that is held -/
theorem dc_keys {d : Addr} {o : Obj} {kws : List (Key × V)} {g : TG} {tt : TT} {tk tv : TE} {vs : List Nat} {σ : L2.St} {H1 : Hp} {D : Addr} {Qd : Hp → Prop} (Pv : Nat → Hp → Prop) (h0 : Pv 0 (upd H1 D (.dK []))) (hl : ∀ i H, Pv i H → H d = some (.frz o (.dK kws)))
    (hs : ∀ i k v H, kws[i]? = some (k, v) → Pv i H → g (kV k) (wipe σ vs) H fun σ2 H2 => wipe σ2 vs = wipe σ vs ∧ tt σ2 H2 fun b H3 =>
      if b = true then tk σ2 H3 fun y H4 => tv σ2 H4 fun z H5 => ∃ kvs k, y = kV k ∧ H5 D = some (.dK kvs) ∧ kvs.length < sizeLine ∧ Pv (i + 1) (upd H5 D (.dK (putK kvs k z))) else Pv (i + 1) H3) (hd : ∀ H, Pv kws.length H → Qd H) :
    ∃ W : Nat → Nat → Hp → Prop, (∃ m, W 0 m (upd H1 D (.dK []))) ∧ ∀ i m H, W i m H →
      ((Itk d o kws).stop i H ∧ Qd H) ∨ ((Itk d o kws).go i H ∧ ∃ Nx : Hp → Prop, (∀ H', Nx H' → ∃ m', m' < m ∧ W (i + 1) m' H') ∧ ∀ x H', (Itk d o kws).yld i H x H' → g x (wipe σ vs) H' fun σ2 H2 => wipe σ2 vs = wipe σ vs ∧ tt σ2 H2 fun b H3 =>
        if b = true then tk σ2 H3 fun y H4 => tv σ2 H4 fun z H5 => ∃ kvs k, y = kV k ∧ H5 D = some (.dK kvs) ∧ kvs.length < sizeLine ∧ Nx (upd H5 D (.dK (putK kvs k z))) else Nx H3) := by
  refine ⟨fun i m H => i ≤ kws.length ∧ m = kws.length - i ∧ Pv i H, ⟨_, Nat.zero_le _, rfl, h0⟩, ?_⟩
  rintro i m H ⟨hi, rfl, p⟩
  have q := hl i H p
  rcases Nat.lt_or_ge i kws.length with hlt | hge
  · refine .inr ⟨⟨q, hlt⟩, Pv (i + 1), fun H' p' => ⟨kws.length - (i + 1), by omega, hlt, rfl, p'⟩, fun x H' y => ?_⟩
    obtain ⟨rfl, k, v, e, rfl⟩ := y
    exact hs i k v _ e p
  · obtain rfl : i = kws.length := by omega
    exact .inl ⟨⟨q, hge⟩, hd H p⟩
section
variable {P : Program} {w : World} {K : PySem.W.Frag} {mg : Str → Option Value} {base : Heap}
theorem scC : FnScope ["value", "part", "key"] ["value"] (defScope sCop) := ⟨rfl, rfl, rfl, by decide +kernel, rfl, by decide +kernel, by decide +kernel⟩
theorem isi_b {H : Hp} {x : V} {n m : String} {r : Bool} {Q : VK} (ty : TyX K H x (.type n)) (h : kitB n m = some r) (q : Q (.bl r) H) : rIsi K [x, .ty m] H Q := ⟨x, .ty m, _, _, r, rfl, .ty m, ty, kit_ty h, q⟩
/-- if isinstance(x, T): , x the name in the i-th slot -/
theorem isi_if {σ : L2.St} {i : Nat} {H : Hp} {x : V} {n m : String} {r : Bool} {Q : Bool → Hp → Prop} (hv : σ[i]? = some (some x)) (ty : TyX K H x (.type n)) (h : kitB n m = some r) (q : Q r H) : tB (tCB (rIsi K) (tCons (tVar i) (tCons (tC (.ty m)) tNil))) σ H Q :=
  ⟨x, hv, isi_b (Q := fun y H1 => ∃ c, y = V.bl c ∧ Q c H1) ty h ⟨r, rfl, q⟩⟩
end
end OM

namespace OM
open PySem PySem.Spec PyProof.Rows L2
section
variable {P : Program} {w : World} {K : PySem.W.Frag} {mg : Str → Option Value} {base : Heap}
theorem same_upd {H : Hp} {D : Addr} {o : HO} (h : H D = none) : Same H (upd H D o) := fun b u e => by rw [upd_ne (ne_of_none e h)]; exact e
theorem same_put {H H' : Hp} {D : Addr} {o : HO} (h : H D = none) (s : Same H H') : Same H (upd H' D o) := fun b u e => by rw [upd_ne (ne_of_none e h)]; exact s b u e
/-- what holds of the parts that were copied so far -/
def PvC (H : Hp) (D : Addr) (ds : List PyData) (i : Nat) (H' : Hp) : Prop := Same H H' ∧ ∃ acc : List V, H' D = some (.lst acc) ∧ DtAll (fun a => H a = none ∧ a ≠ D) H' acc (ds.take i)
theorem PvC.one {S : Addr → Prop} {H H3 : Hp} {D : Addr} {xs : List V} {ds : List PyData} {i m : Nat} {x : V} (hD : H D = none) (hl : xs.length ≤ 1000) (h : DtAll S H xs ds) (hdep : PyData.depthAll ds ≤ m) (hx : xs[i]? = some x) (p : PvC H D ds i H3) :
    spCop (m + 1) [x] H3 (fun y H4 => ∃ acc, H4 D = some (.lst acc) ∧ acc.length < sizeLine ∧ PvC H D ds (i + 1) (upd H4 D (.lst (acc ++ [y])))) E0 := by
  obtain ⟨sm, acc, hD3, da⟩ := p
  obtain ⟨d, hdi, hdt⟩ := h.get hx
  refine ⟨S, x, d, rfl, hdt.mv (fun _ z => z) (fun a o _ e => sm a o e), Nat.le_trans (depth_get hdi) hdep, fun H4 v' sm4 dt4 => ⟨acc, sm4 _ _ hD3, ?_, ?_⟩⟩
  · have e1 := da.length
    rw [List.length_take] at e1
    have e2 : (1000 : Nat) < sizeLine := by decide
    have e3 := h.length
    omega
  · refine ⟨same_put hD (sm.trans sm4), acc ++ [v'], upd_same, ?_⟩
    have et : ds.take (i + 1) = ds.take i ++ [d] := by
      rw [List.take_add_one, hdi] <;> rfl
    rw [et]
    refine DtAll.snoc (da.mv (fun _ z => z) fun a o s e => by rw [upd_ne s.2]; exact sm4 _ _ e) (dt4.mv (fun a (s : H3 a = none) => ⟨sm.free s, fun z => by rw [z, hD3] at s; cases s⟩) fun a o s e => ?_)
    have s' : H3 a = none := s
    rw [upd_ne (fun z => by rw [z, hD3] at s'; cases s')]
    exact e
theorem PvC.all {S : Addr → Prop} {H H5 : Hp} {D : Addr} {xs : List V} {ds : List PyData} (h : DtAll S H xs ds) (p : PvC H D ds xs.length H5) : Same H H5 ∧ ∃ acc : List V, H5 D = some (.lst acc) ∧ acc.length = xs.length ∧ DtAll (fun a => H a = none ∧ a ≠ D) H5 acc ds := by
  obtain ⟨sm, acc, hD5, da⟩ := p
  rw [h.length, List.take_length] at da
  exact ⟨sm, acc, hD5, da.length.trans h.length.symm, da⟩
theorem PvC.zero {H : Hp} {D : Addr} {ds : List PyData} (hD : H D = none) : PvC H D ds 0 (upd H D (.lst [])) := ⟨same_upd hD, [], upd_same, .nil⟩
theorem unlock_same {H H' : Hp} {a : Addr} {od : Obj} {u : HO} (e : H a = some u) (sm : Same (upd H a (.frz od u)) H') : Same H (upd H' a u) := fun b o z => by
  by_cases hb : b = a
  · rw [hb] at z ⊢
    rw [upd_same, ← z, e]
  · rw [upd_ne hb]
    exact sm b o (by rw [upd_ne hb]; exact z)
theorem At.of {S : Addr → Prop} {H : Hp} {v v' : V} {d : PyData} (h : At v d) (x : Dt S H v' d) : At v' d := by
  cases h <;> (cases x; assumption)
theorem cop_step {f : Addr} {fd : FuncData} {n : Nat} (F : Fun K "_copied" "_copied" sCop f fd) (T : TxtC mg) (gC : mg "_copied" = some (.ref f)) (bC : Binds K fd ["value"] []) (G : FnOk P w K mg base CX0 n f fd ["value"] (spCop n)) :
    FnOk P w K mg base CX0 (n + 1) f fd ["value"] (spCop (n + 1)) := by
  refine F.ok scC (fun vs H Q E h => ?_) (fun cdv A outer s H vs Q E hr h => ?_)
  · obtain ⟨S, v, d, rfl, _⟩ := h
    rfl
  · obtain ⟨S, v, d, rfl, hd, hdep, q⟩ := h
    have un : (A.deeper (envOfC "_copied" (defScope sCop) s.heap.objs.size f cdv)).units + 1 < cLine := by
      have := hr.un
      omega
    refine ⟨_, pss_cons (ps_if (pt_val (pe_callB call_isi (by rfl) T.isi (by decide +kernel) (pa_cons (pv 0) (pa_cons (pe_bltn (v := .ty "list") (u := .type "list") (by rfl) T.lst (by decide +kernel) rfl) pa_nil))))
        (pss_one (ps_ret (pe_lc (own := [("part", 1)]) rfl scC.nd (pi_list (pv 0)) (blkOk_by (N := ["value", "part", "key"]) (sc := defScope sCop) (by decide +kernel)) (fun _ _ _ _ _ => pg_name (i := 1) scC.nd rfl (Or.inl rfl)) (fun _ _ _ _ _ => pts_nil)
          (fun _ _ _ _ _ => pe_call G hr rfl gC F.kp bC .nil pass0 (pa_cons (pv 1) pa_nil))))) pss_nil)
      (pss_cons (ps_if (pt_val (pe_callB call_isi (by rfl) T.isi (by decide +kernel) (pa_cons (pv 0) (pa_cons (pe_bltn (v := .ty "tuple") (u := .type "tuple") (by rfl) T.tup (by decide +kernel) rfl) pa_nil))))
        (pss_one (ps_ret (pe_callTy call_tuple_of (by rfl) T.tup (by decide +kernel) (pa_cons (pe_lc (own := [("part", 1)]) rfl scC.nd (pi_tup (pv 0)) (blkOk_by (N := ["value", "part", "key"]) (sc := defScope sCop) (by decide +kernel)) (fun _ _ _ _ _ => pg_name (i := 1) scC.nd rfl (Or.inl rfl)) (fun _ _ _ _ _ => pts_nil)
          (fun _ _ _ _ _ => pe_call G hr rfl gC F.kp bC .nil pass0 (pa_cons (pv 1) pa_nil))) pa_nil)))) pss_nil)
      (pss_cons (ps_if (pt_val (pe_callB call_isi (by rfl) T.isi (by decide +kernel) (pa_cons (pv 0) (pa_cons (pe_bltn (v := .ty "dict") (u := .type "dict") (by rfl) T.dct (by decide +kernel) rfl) pa_nil))))
        (pss_one (ps_ret (pe_lock (pe_dc (own := [("key", 2)]) rfl scC.nd (pi_keys (pv 0)) (blkOk_by (N := ["value", "part", "key"]) (sc := defScope sCop) (by decide +kernel)) (fun _ _ _ _ _ => pg_name (i := 2) scC.nd rfl (Or.inl rfl)) (fun _ _ _ _ _ => pts_nil)
          (fun _ _ _ _ _ => pv 2) (fun _ _ _ _ _ => pe_call G hr rfl gC F.kp bC .nil pass0 (pa_cons (pe_dget un (pv 0) (pv 2) (fun _ _ => rfl)) pa_nil)))))) pss_nil)
      (pss_one (ps_ret (pv 0))))), ?_⟩
    cases hd with
    | «at» h =>
      obtain ⟨t, ht, ty⟩ := h.ty (K := K) (H := H)
      have k1 : kitB t "list" = some false := by rcases ht with rfl | rfl | rfl | rfl <;> decide +kernel
      have k2 : kitB t "tuple" = some false := by rcases ht with rfl | rfl | rfl | rfl <;> decide +kernel
      have k3 : kitB t "dict" = some false := by rcases ht with rfl | rfl | rfl | rfl <;> decide +kernel
      refine isi_if (x := v) rfl ty k1 (iteF ?_)
      refine isi_if (x := v) rfl ty k2 (iteF ?_)
      refine isi_if (x := v) rfl ty k3 (iteF ?_)
      exact ⟨_, rfl, q _ _ (Same.refl _) (.at h)⟩
    | @lst a xs ds sa e hl h =>
      unfold PyData.depth at hdep
      obtain ⟨m, rfl⟩ : ∃ m, n = m + 1 := ⟨n - 1, by omega⟩
      refine isi_if (x := .ref a) (n := "list") (r := true) rfl (.base (.lst e)) (by decide +kernel) (iteT ?_)
      refine ⟨_, rfl, a, rfl, ⟨xs, SqL.of e⟩, fun D hD => lc_list (PvC H D ds) (PvC.zero hD) (fun i H' _ p => SqL.of (p.1 _ _ e)) (fun i x H3 hx p => ?_) (fun H5 p => ?_)⟩
      · exact ⟨rfl, _, rfl, PvC.one hD hl h (by omega) hx p⟩
      · obtain ⟨sm, acc, hD5, hlen, da⟩ := p.all h
        exact q _ _ sm (.lst hD hD5 (by omega) (da.mv (fun _ z => z.1) fun _ _ _ z => z))
    | @tup a xs ds sa e hl h =>
      unfold PyData.depth at hdep
      obtain ⟨m, rfl⟩ : ∃ m, n = m + 1 := ⟨n - 1, by omega⟩
      refine isi_if (x := .ref a) (n := "tuple") (r := false) rfl (.base (.tup e)) (by decide +kernel) (iteF ?_)
      refine isi_if (x := .ref a) (n := "tuple") (r := true) rfl (.base (.tup e)) (by decide +kernel) (iteT ?_)
      refine ⟨_, rfl, a, rfl, ⟨xs, SqT.of e⟩, fun D hD => lc_tup (PvC H D ds) (PvC.zero hD) (fun i H' _ p => SqT.of (p.1 _ _ e)) (fun i x H3 hx p => ?_) (fun H5 p => ?_)⟩
      · exact ⟨rfl, _, rfl, PvC.one hD hl h (by omega) hx p⟩
      · obtain ⟨sm, acc, hD5, hlen, da⟩ := p.all h
        refine ⟨D, acc, rfl, .inl ⟨SqL.of hD5, fun l hn => q _ _ (same_put (sm.free hn) sm) (.tup (sm.free hn) upd_same (by omega) (da.mv (fun _ z => z.1) fun b o s z => ?_))⟩⟩
        rw [upd_ne (ne_of_none z hn)]
        exact z
    | @dic0 a sa e =>
      refine isi_if (x := .ref a) (n := "dict") (r := false) rfl (.base (.dK e)) (by decide +kernel) (iteF ?_)
      refine isi_if (x := .ref a) (n := "dict") (r := false) rfl (.base (.dK e)) (by decide +kernel) (iteF ?_)
      refine isi_if (x := .ref a) (n := "dict") (r := true) rfl (.base (.dK e)) (by decide +kernel) (iteT ?_)
      refine ⟨a, .dK [], e, True.intro, fun od => ⟨_, rfl, a, od, rfl, .inl ⟨[], upd_same, fun D hD => dc_keys (fun _ H' => Same (upd H a (.frz od (.dK []))) H' ∧ H' D = some (.dK [])) ⟨same_upd hD, upd_same⟩ (fun i H' p => p.1 _ _ upd_same) (fun i k v H3 hx p => by simp at hx) (fun H5 p => ?_)⟩⟩⟩
      have hDa : D ≠ a := fun z => by rw [z, upd_same] at hD; cases hD
      rw [upd_ne hDa] at hD
      exact ⟨p.1 _ _ upd_same, q _ _ (unlock_same e p.1) (.dic0 hD (by rw [upd_ne hDa]; exact p.2))⟩
    | @dic1 a k v d sa e h =>
      have hdk : At v d → d.depth = 0 := fun z => by cases z <;> rfl
      obtain ⟨m, rfl⟩ : ∃ m, n = m + 1 := ⟨n - 1, by
        have z : 1 ≤ PyData.depth (.dict [(kD k, d)]) := by
          unfold PyData.depth
          omega
        omega⟩
      refine isi_if (x := .ref a) (n := "dict") (r := false) rfl (.base (.dK e)) (by decide +kernel) (iteF ?_)
      refine isi_if (x := .ref a) (n := "dict") (r := false) rfl (.base (.dK e)) (by decide +kernel) (iteF ?_)
      refine isi_if (x := .ref a) (n := "dict") (r := true) rfl (.base (.dK e)) (by decide +kernel) (iteT ?_)
      refine ⟨a, .dK [(k, v)], e, True.intro, fun od => ⟨_, rfl, a, od, rfl, .inl ⟨[(k, v)], upd_same, fun D hD => dc_keys (fun i H' => Same (upd H a (.frz od (.dK [(k, v)]))) H' ∧ ((i = 0 ∧ H' D = some (.dK [])) ∨ (i = 1 ∧ ∃ v', H' D = some (.dK [(k, v')]) ∧ At v' d)))
        ⟨same_upd hD, .inl ⟨rfl, upd_same⟩⟩ (fun i H' p => p.1 _ _ upd_same) (fun i k' v0 H3 hx p => ?_) (fun H5 p => ?_)⟩⟩⟩
      · cases i with
        | succ i => simp at hx
        | zero =>
          obtain ⟨rfl, rfl⟩ : k = k' ∧ v = v0 := by simpa using hx
          obtain ⟨sm, ⟨_, hD3⟩ | ⟨z, _⟩⟩ := p
          · refine ⟨rfl, _, rfl, _, rfl, _, rfl, a, v, rfl, .inl ⟨[(k, v)], k, .inr ⟨od, sm _ _ upd_same⟩, rfl, ?_⟩, fun _ => True, v, d, rfl, .at h, by rw [hdk h]; exact Nat.zero_le _, fun H4 v' sm4 dt4 => ⟨[], k, rfl, sm4 _ _ hD3, by decide, same_put hD (sm.trans sm4), .inr ⟨rfl, v', ?_, h.of dt4⟩⟩⟩
            · unfold valV
              simp
            · exact upd_same
          · cases z
      · have hDa : D ≠ a := fun z => by rw [z, upd_same] at hD; cases hD
        rw [upd_ne hDa] at hD
        obtain ⟨sm, ⟨z, _⟩ | ⟨_, v', hD5, h5⟩⟩ := p
        · cases z
        · exact ⟨sm _ _ upd_same, q _ _ (unlock_same e sm) (.dic1 hD (by rw [upd_ne hDa]; exact hD5) h5)⟩
end
end OM

namespace OM
open PySem PySem.Spec PyProof.Rows L2
/-- the type of a datum, by name -/
def tyN : PyData → String
  | .none => "NoneType"
  | .bool _ => "bool"
  | .int _ => "int"
  | .str _ => "str"
  | .list _ => "list"
  | .tuple _ => "tuple"
  | .dict _ => "dict"
theorem Dt.tyx {K : PySem.W.Frag} {S : Addr → Prop} {H : Hp} {v : V} {d : PyData} (h : Dt S H v d) : TyX K H v (.type (tyN d)) := by
  cases h with
  | «at» a =>
    cases a with
    | non => exact .base .non
    | bl b => exact .base (.bl b)
    | int i => exact .base (.int i)
    | str x => exact .base (.str x)
  | lst s e hl h => exact .base (.lst e)
  | tup s e hl h => exact .base (.tup e)
  | dic0 s e => exact .base (.dK e)
  | dic1 s e h => exact .base (.dK e)
def isStrD : PyData → Bool
  | .str _ => true
  | _ => false
def isTupD : PyData → Bool
  | .tuple _ => true
  | _ => false
theorem kit_str (d : PyData) : kitB (tyN d) "str" = some (isStrD d) := by
  have k0 : kitB "NoneType" "str" = some false := by decide +kernel
  have k1 : kitB "bool" "str" = some false := by decide +kernel
  have k2 : kitB "int" "str" = some false := by decide +kernel
  have k3 : kitB "str" "str" = some true := by decide +kernel
  have k4 : kitB "list" "str" = some false := by decide +kernel
  have k5 : kitB "tuple" "str" = some false := by decide +kernel
  have k6 : kitB "dict" "str" = some false := by decide +kernel
  cases d <;> assumption
theorem kit_tup (d : PyData) : kitB (tyN d) "tuple" = some (isTupD d) := by
  have k0 : kitB "NoneType" "tuple" = some false := by decide +kernel
  have k1 : kitB "bool" "tuple" = some false := by decide +kernel
  have k2 : kitB "int" "tuple" = some false := by decide +kernel
  have k3 : kitB "str" "tuple" = some false := by decide +kernel
  have k4 : kitB "list" "tuple" = some false := by decide +kernel
  have k5 : kitB "tuple" "tuple" = some true := by decide +kernel
  have k6 : kitB "dict" "tuple" = some false := by decide +kernel
  cases d <;> assumption
/-- if isinstance(x, T): .. as a value -/
theorem isi_te {K : PySem.W.Frag} {σ : L2.St} {i : Nat} {H : Hp} {x : V} {n m : String} {r : Bool} {Q : VK} (hv : σ[i]? = some (some x)) (ty : TyX K H x (.type n)) (h : kitB n m = some r) (q : Q (.bl r) H) : tCB (rIsi K) (tCons (tVar i) (tCons (tC (.ty m)) tNil)) σ H Q := by
  refine ⟨x, hv, ?_⟩
  exact (show rIsi K [x, .ty m] H Q from isi_b ty h q)
/-! ### names -/
def letS (x : Str) : Bool := x.cps.toList.all fun c => decide (97 ≤ c) && decide (c ≤ 122)
def words6 : List Str := ["else", "end", "get", "if", "put", "show"]
def nameS (x : Str) : Bool := decide (1 ≤ x.length) && (decide (x.length ≤ 8) && (letS x && !words6.contains x))
def isNameD : PyData → Bool
  | .str x => nameS x
  | _ => false

mutual
def smlD : PyData → Bool
  | .str x => decide (x.length ≤ 1000) && PyData.strOk x
  | .list xs => smlAll xs
  | .tuple xs => smlAll xs
  | _ => true
def smlAll : List PyData → Bool
  | [] => true
  | x :: r => smlD x && smlAll r
end
theorem sml_get : ∀ {ds : List PyData} {i : Nat} {d : PyData}, smlAll ds = true → ds[i]? = some d → smlD d = true
  | [], _, _, _, e => by simp at e
  | x :: r, 0, d, h, e => by
    simp at e
    subst e
    unfold smlAll at h
    exact (Bool.and_eq_true_iff.mp h).1
  | x :: r, i + 1, d, h, e => by
    unfold smlAll at h
    exact sml_get (Bool.and_eq_true_iff.mp h).2 (by simpa using e)
/-- over a text's signs -/
theorem lc_its {x : Str} {g : TG} {tt : TT} {te : TE} {vs : List Nat} {σ : L2.St} {H1 : Hp} {D : Addr} {Qd : Hp → Prop} (Pv : Nat → Hp → Prop) (h0 : Pv 0 (upd H1 D (.lst [])))
    (hs : ∀ i c H, x.cps.toList[i]? = some c → Pv i H → g (.str ⟨#[c]⟩) (wipe σ vs) H fun σ2 H2 => wipe σ2 vs = wipe σ vs ∧ tt σ2 H2 fun b H3 =>
      if b = true then te σ2 H3 fun y H4 => ∃ acc, H4 D = some (.lst acc) ∧ acc.length < sizeLine ∧ Pv (i + 1) (upd H4 D (.lst (acc ++ [y]))) else Pv (i + 1) H3) (hd : ∀ H, Pv x.cps.toList.length H → Qd H) :
    ∃ W : Nat → Nat → Hp → Prop, (∃ m, W 0 m (upd H1 D (.lst []))) ∧ ∀ i m H, W i m H →
      ((Its x).stop i H ∧ Qd H) ∨ ((Its x).go i H ∧ ∃ Nx : Hp → Prop, (∀ H', Nx H' → ∃ m', m' < m ∧ W (i + 1) m' H') ∧ ∀ v H', (Its x).yld i H v H' → g v (wipe σ vs) H' fun σ2 H2 => wipe σ2 vs = wipe σ vs ∧ tt σ2 H2 fun b H3 =>
        if b = true then te σ2 H3 fun y H4 => ∃ acc, H4 D = some (.lst acc) ∧ acc.length < sizeLine ∧ Nx (upd H4 D (.lst (acc ++ [y]))) else Nx H3) := by
  have hsz : x.cps.toList.length = x.cps.size := Array.length_toList
  refine ⟨fun i m H => i ≤ x.cps.size ∧ m = x.cps.size - i ∧ Pv i H, ⟨_, Nat.zero_le _, rfl, h0⟩, ?_⟩
  rintro i m H ⟨hi, rfl, p⟩
  rcases Nat.lt_or_ge i x.cps.size with hlt | hge
  · refine .inr ⟨hlt, Pv (i + 1), fun H' p' => ⟨x.cps.size - (i + 1), by omega, hlt, rfl, p'⟩, ?_⟩
    rintro v H' ⟨rfl, c, hc, rfl⟩
    exact hs i c _ (by rw [Array.getElem?_toList]; exact hc) p
  · obtain rfl : i = x.cps.size := by omega
    exact .inl ⟨Nat.le_refl _, hd H (by rw [hsz]; exact p)⟩
end OM

namespace OM
open PySem PySem.Spec PyProof.Rows L2
abbrev sIsName : Stmt := top 21
def alphabet : Str := "abcdefghijklmnopqrstuvwxyz"
theorem alpha_tl : alphabet.cps.toList = [97, 98, 99, 100, 101, 102, 103, 104, 105, 106, 107, 108, 109, 110, 111, 112, 113, 114, 115, 116, 117, 118, 119, 120, 121, 122] := by decide +kernel
theorem in_alpha (c : Nat) : (!(Builtin.Str.occurrences alphabet ⟨#[c]⟩ 0 alphabet.length 1).isEmpty) = (decide (97 ≤ c) && decide (c ≤ 122)) := by
  rw [StrLaws.found_one, alpha_tl, Bool.eq_iff_iff]
  simp only [decide_eq_true_eq, Bool.and_eq_true, List.mem_cons, List.not_mem_nil, or_false]
  omega
/-- a word among the six -/
theorem inV_words (x : Str) : inV (.str x) (words6.map V.str) = words6.contains x := by
  have h : ∀ y : Str, (y == x) = (x == y) := fun y => by rw [Bool.eq_iff_iff, beq_iff_eq, beq_iff_eq, eq_comm]
  unfold inV words6
  simp only [List.map_cons, List.map_nil, List.any_cons, List.any_nil, List.contains_cons, List.contains_nil, eqV, h]
/-- constants of the module, as values -/
structure TxtN (K : PySem.W.Frag) (mg : Str → Option Value) : Prop where
  isi : mg "isinstance" = none
  str : mg "str" = none
  len : mg "len" = none
  all : mg "all" = none
  most : ∃ t, mg "MAX_LETTERS" = some (.int 8 t)
  lets : ∃ t, mg "LETTERS" = some (.str alphabet t)
  words : ∃ a, mg "WORDS" = some (.ref a) ∧ ∀ H, SqT K H a (words6.map V.str)
def spName : Sp := fun vs H Q _ => ∃ (S : Addr → Prop) (v : V) (d : PyData), vs = [v] ∧ Dt S H v d ∧ smlD d = true ∧ ∀ H', Same H H' → Q (.bl (isNameD d)) H'
def let1 (c : Nat) : Bool := decide (97 ≤ c) && decide (c ≤ 122)
theorem letS_map (x : Str) : ((x.cps.toList.map let1).all id) = letS x := by
  unfold letS
  rw [List.all_map]
  rfl
theorem name_yes {x : Str} (h1 : decide ((1 : Int) ≤ (x.length : Int)) = true) (h2 : decide ((x.length : Int) ≤ 8) = true) (h3 : (x.cps.toList.map let1).all id = true) : isNameD (.str x) = !inV (.str x) (words6.map V.str) := by
  have e1 := of_decide_eq_true h1
  have e2 := of_decide_eq_true h2
  rw [letS_map] at h3
  show nameS x = _
  unfold nameS
  rw [h3, decide_eq_true (show 1 ≤ x.length by omega), decide_eq_true (show x.length ≤ 8 by omega), inV_words]
  rfl
theorem name_no {x : Str} (h : ¬ decide ((1 : Int) ≤ (x.length : Int)) = true ∨ ¬ decide ((x.length : Int) ≤ 8) = true ∨ ¬ (x.cps.toList.map let1).all id = true) : isNameD (.str x) = false := by
  show nameS x = _
  unfold nameS
  rcases h with h | h | h
  · have : ¬ 1 ≤ x.length := fun z => h (decide_eq_true (by omega))
    rw [decide_eq_false this]
    rfl
  · have : ¬ x.length ≤ 8 := fun z => h (decide_eq_true (by omega))
    rw [decide_eq_false this, Bool.false_and, Bool.and_false]
  · rw [letS_map] at h
    have : letS x = false := by
      cases y : letS x with
      | false => rfl
      | true => exact absurd y h
    rw [this, Bool.false_and, Bool.and_false, Bool.and_false]
def PvN (H : Hp) (D : Addr) (x : Str) (i : Nat) (H' : Hp) : Prop := Same H H' ∧ H' D = some (.lst (((x.cps.toList.take i).map let1).map V.bl))
theorem PvN.step {H H4 : Hp} {D : Addr} {x : Str} {i c : Nat} {b : Bool} (hD : H D = none) (hl : x.length ≤ 1000) (hc : x.cps.toList[i]? = some c) (p : PvN H D x i H4) (hb : b = let1 c) : ∃ acc, H4 D = some (.lst acc) ∧ acc.length < sizeLine ∧ PvN H D x (i + 1) (upd H4 D (.lst (acc ++ [V.bl b]))) := by
  refine ⟨_, p.2, ?_, same_put hD p.1, ?_⟩
  · have hz : x.cps.toList.length = x.length := Array.length_toList
    rw [List.length_map, List.length_map, List.length_take]
    have : (1000 : Nat) < sizeLine := by decide
    omega
  · rw [upd_same, hb, List.take_add_one, hc, List.map_append, List.map_append]
    rfl
theorem PvN.all {H H5 : Hp} {D : Addr} {x : Str} (p : PvN H D x x.cps.toList.length H5) : Same H H5 ∧ H5 D = some (.lst ((x.cps.toList.map let1).map V.bl)) := by
  have e := p.2
  rw [List.take_length] at e
  exact ⟨p.1, e⟩
section
variable {P : Program} {w : World} {K : PySem.W.Frag} {mg : Str → Option Value} {base : Heap} {f : Addr} {fd : FuncData}
theorem scN : FnScope ["value", "letter"] ["value"] (defScope sIsName) := ⟨rfl, rfl, rfl, by decide +kernel, rfl, by decide +kernel, by decide +kernel⟩
theorem ok_isname (F : Fun K "is_name" "is_name" sIsName f fd) (T : TxtN K mg) : FnOk P w K mg base CX0 1 f fd ["value"] spName := by
  refine F.ok scN (fun vs H Q E h => ?_) (fun cdv A outer s H vs Q E hr h => ?_)
  · obtain ⟨S, v, d, rfl, _⟩ := h
    rfl
  · obtain ⟨S, v, d, rfl, hd, sm, q⟩ := h
    obtain ⟨t1, g1⟩ := T.most
    obtain ⟨t2, g2⟩ := T.lets
    obtain ⟨aw, g3, hw⟩ := T.words
    refine ⟨_, pss_one (ps_ret (pe_and (pe_callB call_isi (by rfl) T.isi (by decide +kernel) (pa_cons (pv 0) (pa_cons (pe_bltn (v := .ty "str") (u := .type "str") (by rfl) T.str (by decide +kernel) rfl) pa_nil)))
      (pe_and (pe_chain op_le op_le pe_int (pe_callB call_len_str (by rfl) T.len PySem.boot_len (pa_cons (pv 0) pa_nil)) (pe_glob (v := .int 8) (by rfl) g1 ⟨t1, rfl⟩))
      (pe_and (pe_callB (cr_all rfl) (by rfl) T.all (by decide +kernel) (pa_cons (pe_lc (own := [("letter", 1)]) rfl scN.nd (pi_str (pv 0)) (blkOk_by (N := ["value", "letter"]) (sc := defScope sIsName) (by decide +kernel))
          (fun _ _ _ _ _ => pg_name (i := 1) scN.nd rfl (Or.inl rfl)) (fun _ _ _ _ _ => pts_nil) (fun _ _ _ _ _ => pe_cmpR op_in_str (pv 1) (pe_glob (v := .str alphabet) (by rfl) g2 ⟨t2, rfl⟩) (by rfl))) pa_nil))
      (pe_one (pe_cmpR op_notIn_seq (pv 0) (pe_glob (v := .ref aw) (by rfl) g3 rfl) (by rfl))))))), ?_⟩
    cases hs : isStrD d with
    | false =>
      have e : isNameD d = false := by cases d <;> first | rfl | cases hs
      refine isi_te (x := v) rfl hd.tyx ((kit_str d).trans (congrArg some hs)) ⟨_, rfl, iteF ?_⟩
      have z := q H (Same.refl _)
      rw [e] at z
      exact z
    | true =>
      cases d with
      | str x =>
        have ev : v = .str x := by
          cases hd with
          | «at» a => cases a <;> rfl
        subst ev
        have hl : x.length ≤ 1000 := of_decide_eq_true (Bool.and_eq_true_iff.mp (show (decide (x.length ≤ 1000) && PyData.strOk x) = true by unfold smlD at sm; exact sm)).1
        refine isi_te (x := .str x) rfl hd.tyx ((kit_str (.str x)).trans rfl) ⟨_, rfl, iteT ?_⟩
        refine ⟨_, rfl, x, rfl, Nat.le_trans hl (by decide), 1, (x.length : Int), rfl, rfl, _, rfl, ite2 (fun h1 => ?_) (fun h1 => ?_)⟩
        · refine ⟨(x.length : Int), 8, rfl, rfl, _, rfl, ite2 (fun h2 => ?_) (fun h2 => ?_)⟩
          · refine ⟨_, rfl, x, rfl, fun Dl hD => lc_its (PvN H Dl x) ⟨same_upd hD, upd_same⟩ (fun i c H3 hc p => ?_) (fun H5 p => ?_)⟩
            · refine ⟨rfl, _, rfl, ⟨#[c]⟩, alphabet, rfl, rfl, p.step hD hl hc (in_alpha c)⟩
            · obtain ⟨s5, e5⟩ := p.all
              refine ⟨Dl, _, rfl, SqL.of e5, _, rfl, ite2 (fun h3 => ?_) (fun h3 => ?_)⟩
              · refine ⟨_, rfl, aw, _, rfl, .inr (hw _), rfl, by decide, ?_⟩
                have z := q _ s5
                rw [show isNameD (.str x) = !inV (.str x) (words6.map V.str) from name_yes h1 h2 h3] at z
                exact z
              · have z := q _ s5
                rw [show isNameD (.str x) = false from name_no (.inr (.inr h3))] at z
                exact z
          · have z := q H (Same.refl _)
            rw [show isNameD (.str x) = false from name_no (.inr (.inl h2))] at z
            exact z
        · refine ⟨_, rfl, iteF ?_⟩
          have z := q H (Same.refl _)
          rw [show isNameD (.str x) = false from name_no (.inl h1)] at z
          exact z
      | _ => cases hs
end
end OM

namespace OM
open PySem PySem.Spec PyProof.Rows L2
def chS (c : Nat) : V := .str ⟨#[c]⟩
def chD (c : Nat) : PyData := .str ⟨#[c]⟩
theorem chs_all {K : PySem.W.Frag} {H : Hp} : ∀ l : List Nat, DpAll K H (l.map chS) (l.map chD)
  | [] => .nil
  | c :: r => .cons (.str _) (chs_all r)
theorem ch_ok {c : Nat} (h : c < 0x110000) : PyData.canLay0 (.str ⟨#[c]⟩) = true := by
  unfold PyData.canLay0
  show (#[c] : Array Nat).all (fun c => decide (c < 0x110000)) = true
  simp [h]
theorem chs_lay : ∀ l : List Nat, (∀ c ∈ l, c < 0x110000) → PyData.canLayAll0 (l.map chD) = true
  | [], _ => rfl
  | c :: r, h => by
    show (PyData.canLay0 (.str ⟨#[c]⟩) && PyData.canLayAll0 (r.map chD)) = true
    rw [chs_lay r fun x hx => h x (List.mem_cons_of_mem _ hx), ch_ok (h c (List.mem_cons_self ..))]
    rfl
theorem chs_dep : ∀ l : List Nat, PyData.depthAll (l.map chD) = 0
  | [] => rfl
  | c :: r => by
    show max (PyData.depth (.str ⟨#[c]⟩)) (PyData.depthAll (r.map chD)) = 0
    rw [chs_dep r]
    rfl
theorem chs_sh (l : List Nat) (hc : ∀ c ∈ l, c < 0x110000) : SeqAt.shaped (.list (l.map chD)) = true := by
  show (PyData.canLay0 (.list (l.map chD)) && decide (PyData.depth (.list (l.map chD)) ≤ 64)) = true
  have h1 : PyData.canLay0 (.list (l.map chD)) = true := by
    unfold PyData.canLay0
    exact chs_lay l hc
  have h2 : PyData.depth (.list (l.map chD)) ≤ 64 := by
    unfold PyData.depth
    rw [chs_dep]
    decide
  rw [h1, decide_eq_true h2]
  rfl
theorem nil_sh : SeqAt.shaped (.list []) = true := by decide +kernel
theorem eqv_nil (l : List Nat) : PyData.eqv (.list (l.map chD)) (.list []) = l.isEmpty := by
  cases l with
  | nil => decide +kernel
  | cons c r =>
    show PyData.eqv (.list (chD c :: r.map chD)) (.list []) = false
    unfold PyData.eqv PyData.eqvAll
    rfl
theorem le_a (c : Nat) : (!decide ((⟨#[c]⟩ : Str).cps.toList < ("a" : Str).cps.toList)) = decide (97 ≤ c) := by
  have e : ("a" : Str).cps.toList = [97] := by decide +kernel
  rw [e, Bool.eq_iff_iff]
  have z : ([c] < [97]) ↔ c < 97 := by
    refine ⟨fun h => ?_, fun h => List.Lex.rel h⟩
    cases h with
    | rel h => exact h
    | cons h => cases h
  rw [Bool.not_eq_true', decide_eq_false_iff_not, decide_eq_true_iff, z]
  omega
theorem le_z (c : Nat) : (!decide (("z" : Str).cps.toList < (⟨#[c]⟩ : Str).cps.toList)) = decide (c ≤ 122) := by
  have e : ("z" : Str).cps.toList = [122] := by decide +kernel
  rw [e, Bool.eq_iff_iff]
  have z : ([122] < [c]) ↔ 122 < c := by
    refine ⟨fun h => ?_, fun h => List.Lex.rel h⟩
    cases h with
    | rel h => exact h
    | cons h => cases h
  show ((!decide ([122] < [c])) = true) ↔ _
  rw [Bool.not_eq_true', decide_eq_false_iff_not, decide_eq_true_iff, z]
  omega
theorem bad_none (l : List Nat) : (l.filter fun c => !let1 c).isEmpty = l.all let1 := by
  induction l with
  | nil => rfl
  | cons c r ih =>
    rw [List.filter_cons, List.all_cons]
    cases h : let1 c with
    | true => simpa using ih
    | false => simp
def PvB (H : Hp) (D : Addr) (x : Str) (i : Nat) (H' : Hp) : Prop := Same H H' ∧ H' D = some (.lst (((x.cps.toList.take i).filter fun c => !let1 c).map chS))
theorem PvB.no {H H4 : Hp} {D : Addr} {x : Str} {i c : Nat} (hc : x.cps.toList[i]? = some c) (p : PvB H D x i H4) (h : let1 c = true) : PvB H D x (i + 1) H4 := by
  refine ⟨p.1, ?_⟩
  rw [p.2, List.take_add_one, hc, List.filter_append]
  simp [h]
theorem PvB.step {H H4 : Hp} {D : Addr} {x : Str} {i c : Nat} (hD : H D = none) (hl : x.length ≤ 1000) (hc : x.cps.toList[i]? = some c) (p : PvB H D x i H4) (h : let1 c = false) : ∃ acc, H4 D = some (.lst acc) ∧ acc.length < sizeLine ∧ PvB H D x (i + 1) (upd H4 D (.lst (acc ++ [V.str ⟨#[c]⟩]))) := by
  refine ⟨_, p.2, ?_, same_put hD p.1, ?_⟩
  · have hz : x.cps.toList.length = x.length := Array.length_toList
    rw [List.length_map]
    have h1 := List.length_filter_le (fun c => !let1 c) (x.cps.toList.take i)
    rw [List.length_take] at h1
    have : (1000 : Nat) < sizeLine := by decide
    omega
  · rw [upd_same, List.take_add_one, hc, List.filter_append, List.map_append]
    simp [h, chS]
theorem lname_yes {x : Str} (hw : words6.contains x = false) (h1 : decide ((0 : Int) < (x.length : Int)) = true) (h2 : decide ((x.length : Int) < 9) = true) : isNameD (.str x) = (x.cps.toList.all let1) := by
  have e1 := of_decide_eq_true h1
  have e2 := of_decide_eq_true h2
  show nameS x = _
  unfold nameS
  rw [hw, decide_eq_true (show 1 ≤ x.length by omega), decide_eq_true (show x.length ≤ 8 by omega)]
  simp [letS]
  rfl
theorem lname_no {x : Str} (h : words6.contains x = true ∨ ¬ decide ((0 : Int) < (x.length : Int)) = true ∨ ¬ decide ((x.length : Int) < 9) = true) : isNameD (.str x) = false := by
  show nameS x = _
  unfold nameS
  rcases h with h | h | h
  · rw [h, Bool.not_true, Bool.and_false, Bool.and_false, Bool.and_false]
  · have : ¬ 1 ≤ x.length := fun z => h (decide_eq_true (by omega))
    rw [decide_eq_false this]
    rfl
  · have : ¬ x.length ≤ 8 := fun z => h (decide_eq_true (by omega))
    rw [decide_eq_false this, Bool.false_and, Bool.and_false]
section
variable {P : Program} {w : World} {K : PySem.W.Frag} {mg : Str → Option Value} {base : Heap} {f : Addr} {fd : FuncData}
end
end OM

namespace OM
open PySem PySem.Spec PyProof.Rows L2
/-- a tuple of anything == () -/
theorem op_eqT0 {X : Cx} (hu : X.A.units < cLine) : OpR X (compareOp .Eq) (fun x y H Q => ∃ a b xs, x = .ref a ∧ y = .ref b ∧ SqT X.K H a xs ∧ SqT X.K H b [] ∧ Q (.bl xs.isEmpty) H) := by
  intro pins s σ H x y v u Q I rx ry h
  obtain ⟨a, b, xs, rfl, rfl, ha, hb, q⟩ := h
  obtain rfl : v = Value.ref a := rx
  obtain rfl : u = Value.ref b := ry
  obtain ⟨us, r1, p1, _⟩ := I.tuple ha
  obtain ⟨ws, r2, p2, _⟩ := I.tuple hb
  cases r2
  refine SeqAt.eq_tupleAt (e := fun _ => true) p1 p2 hu (fun j h1 h2 => absurd h2 (by simp)) ⟨.bl _, H, I, rfl, ?_⟩
  have e : ((List.range (min us.toArray.size (([] : List Value).toArray).size)).all (fun _ => true) && us.toArray.size == (([] : List Value).toArray).size) = xs.isEmpty := by
    have l := r1.length
    cases xs with
    | nil =>
      have : us = [] := List.length_eq_zero_iff.mp l.symm
      subst this
      rfl
    | cons x r =>
      cases us with
      | nil => simp at l
      | cons u us => simp
  rw [e]
  exact q
/-- over two tuples side by side -/
theorem lc_zipT {K : PySem.W.Frag} {a b : Addr} {xs ys : List V} {g : TG} {tt : TT} {te : TE} {vs : List Nat} {σ : L2.St} {H1 : Hp} {D : Addr} {Qd : Hp → Prop} (hlen : xs.length = ys.length) (Pv : Nat → Hp → Prop) (h0 : Pv 0 (upd H1 D (.lst []))) (hl : ∀ i H, Pv i H → SqT K H a xs ∧ SqT K H b ys)
    (hs : ∀ i x y T H, xs[i]? = some x → ys[i]? = some y → Pv i H → H T = none → g (.ref T) (wipe σ vs) (upd H T (.tup [x, y])) fun σ2 H2 => wipe σ2 vs = wipe σ vs ∧ tt σ2 H2 fun b H3 =>
      if b = true then te σ2 H3 fun y H4 => ∃ acc, H4 D = some (.lst acc) ∧ acc.length < sizeLine ∧ Pv (i + 1) (upd H4 D (.lst (acc ++ [y]))) else Pv (i + 1) H3) (hd : ∀ H, Pv xs.length H → Qd H) :
    ∃ W : Nat → Nat → Hp → Prop, (∃ m, W 0 m (upd H1 D (.lst []))) ∧ ∀ i m H, W i m H →
      ((RZ.ItzT K a b).stop i H ∧ Qd H) ∨ ((RZ.ItzT K a b).go i H ∧ ∃ Nx : Hp → Prop, (∀ H', Nx H' → ∃ m', m' < m ∧ W (i + 1) m' H') ∧ ∀ v H', (RZ.ItzT K a b).yld i H v H' → g v (wipe σ vs) H' fun σ2 H2 => wipe σ2 vs = wipe σ vs ∧ tt σ2 H2 fun b H3 =>
        if b = true then te σ2 H3 fun y H4 => ∃ acc, H4 D = some (.lst acc) ∧ acc.length < sizeLine ∧ Nx (upd H4 D (.lst (acc ++ [y]))) else Nx H3) := by
  refine ⟨fun i m H => i ≤ xs.length ∧ m = xs.length - i ∧ Pv i H, ⟨_, Nat.zero_le _, rfl, h0⟩, ?_⟩
  rintro i m H ⟨hi, rfl, p⟩
  obtain ⟨qx, qy⟩ := hl i H p
  rcases Nat.lt_or_ge i xs.length with hlt | hge
  · have hx : xs[i]? = some xs[i] := List.getElem?_eq_getElem hlt
    have hy : ys[i]? = some (ys[i]'(by omega)) := List.getElem?_eq_getElem (by omega)
    refine .inr ⟨⟨xs, ys, _, _, qx, qy, hx, hy⟩, Pv (i + 1), fun H' p' => ⟨xs.length - (i + 1), by omega, hlt, rfl, p'⟩, ?_⟩
    rintro v H' ⟨T, x', y', rfl, hT, rfl, f1, f2⟩
    exact hs i x' y' T H (f1 xs qx) (f2 ys qy) p hT
  · obtain rfl : i = xs.length := by omega
    exact .inl ⟨⟨xs, ys, qx, qy, .inl (Nat.le_refl _)⟩, hd H p⟩
/-! ### code, as a datum -/
def formOf (w : Str) : Option (List Str) :=
  if w = "read" then some ["register", "cell"] else if w = "write" then some ["cell", "register"] else if w = "set" then some ["register", "function", "registers"] else if w = "copy" then some ["register", "register"]
  else if w = "get" then some ["register"] else if w = "put" then some ["register"] else if w = "if" then some ["test", "register", "code", "code"] else none
def argsD : PyData → Bool
  | .tuple ds => decide (ds.length ≤ 2) && ds.all isNameD
  | _ => false
def fitD (cd : PyData → Bool) (d : PyData) (role : Str) : Bool := if role = "code" then cd d else if role = "registers" then argsD d else isNameD d
def rowD (cd : PyData → Bool) : PyData → Bool
  | .tuple (.str w :: rest) => match formOf w with
    | some rs => decide (rest.length = rs.length) && (List.zipWith (fitD cd) rest rs).all id
    | none => false
  | _ => false
def codeD : Nat → PyData → Bool
  | 0, .tuple ds => ds.all (rowD fun _ => false)
  | n + 1, .tuple ds => ds.all (rowD (codeD n))
  | _, _ => false
def cdOf : Nat → PyData → Bool
  | 0 => fun _ => false
  | n + 1 => codeD n
theorem codeD_tup (n : Nat) (ds : List PyData) : codeD n (.tuple ds) = ds.all (rowD (cdOf n)) := by
  cases n <;> rfl
abbrev sNested : Stmt := top 26
abbrev sStmt : Stmt := top 27
abbrev sFits : Stmt := top 28
def spNested : Sp := fun vs H Q _ => ∃ (S : Addr → Prop) (v : V) (d : PyData) (n : Nat), vs = [v, .int n] ∧ Dt S H v d ∧ smlD d = true ∧ ∀ H', Same H H' → Q (.bl (codeD n d)) H'
/-- the contract at one depth -/
def spNestedAt : Nat → Sp
  | 0 => fun _ _ _ _ => False
  | n + 1 => fun vs H Q _ => ∃ (S : Addr → Prop) (v : V) (d : PyData), vs = [v, .int n] ∧ Dt S H v d ∧ smlD d = true ∧ ∀ H', Same H H' → Q (.bl (codeD n d)) H'
def spStmt (n : Nat) : Sp := fun vs H Q _ => ∃ (S : Addr → Prop) (v : V) (d : PyData), vs = [v, .int n] ∧ Dt S H v d ∧ smlD d = true ∧ ∀ H', Same H H' → Q (.bl (rowD (cdOf n) d)) H'
def spFits (n : Nat) : Sp := fun vs H Q _ => ∃ (S : Addr → Prop) (v : V) (d : PyData) (r : Str), vs = [v, .str r, .int n] ∧ Dt S H v d ∧ smlD d = true ∧ ∀ H', Same H H' → Q (.bl (fitD (cdOf n) d r)) H'
/-! the same with the third argument False: no show -/
def spNestedAtS : Nat → Sp
  | 0 => fun _ _ _ _ => False
  | n + 1 => fun vs H Q _ => ∃ (S : Addr → Prop) (v : V) (d : PyData), vs = [v, .int n, .bl false] ∧ Dt S H v d ∧ smlD d = true ∧ ∀ H', Same H H' → Q (.bl (codeD n d)) H'
def spStmtS (n : Nat) : Sp := fun vs H Q _ => ∃ (S : Addr → Prop) (v : V) (d : PyData), vs = [v, .int n, .bl false] ∧ Dt S H v d ∧ smlD d = true ∧ ∀ H', Same H H' → Q (.bl (rowD (cdOf n) d)) H'
def spFitsS (n : Nat) : Sp := fun vs H Q _ => ∃ (S : Addr → Prop) (v : V) (d : PyData) (r : Str), vs = [v, .str r, .int n, .bl false] ∧ Dt S H v d ∧ smlD d = true ∧ ∀ H', Same H H' → Q (.bl (fitD (cdOf n) d r)) H'
/-- the modules' constants about statements -/
structure TxtF (K : PySem.W.Frag) (w : World) (mg : Str → Option Value) : Prop where
  tup : mg "tuple" = none
  zip : mg "zip" = none
  most : ∃ t, mg "MAX_REGISTERS" = some (.int 2 t)
  forms : ∃ d es n, mg "FORMS" = some (.ref d) ∧ KDict K w d es n ∧ (∀ z, formOf z = none → z ≠ "show" → PySem.W.nsIn K d z = some none) ∧ (∃ u, PySem.W.nsIn K d "show" = some (some u)) ∧ ∀ z rs, formOf z = some rs → ∃ a, PySem.W.nsIn K d z = some (some (.ref a)) ∧ ∀ H, SqT K H a (rs.map V.str)
/-- a list of truths that grows -/
def PvM (H : Hp) (D : Addr) (bs : List Bool) (i : Nat) (H' : Hp) : Prop := Same H H' ∧ H' D = some (.lst ((bs.take i).map V.bl))
theorem PvM.zero {H : Hp} {D : Addr} {bs : List Bool} (hD : H D = none) : PvM H D bs 0 (upd H D (.lst [])) := ⟨same_upd hD, upd_same⟩
theorem PvM.step {H H3 H4 : Hp} {D : Addr} {bs : List Bool} {i : Nat} {b : Bool} (hD : H D = none) (hl : bs.length ≤ 1000) (hb : bs[i]? = some b) (p : PvM H D bs i H3) (s : Same H3 H4) : ∃ acc, H4 D = some (.lst acc) ∧ acc.length < sizeLine ∧ PvM H D bs (i + 1) (upd H4 D (.lst (acc ++ [V.bl b]))) := by
  refine ⟨_, s _ _ p.2, ?_, same_put hD (p.1.trans s), ?_⟩
  · rw [List.length_map, List.length_take]
    have : (1000 : Nat) < sizeLine := by decide
    omega
  · rw [upd_same, List.take_add_one, hb, List.map_append]
    rfl
theorem PvM.all {H H5 : Hp} {D : Addr} {bs : List Bool} {n : Nat} (p : PvM H D bs n H5) (hn : n = bs.length) : Same H H5 ∧ H5 D = some (.lst (bs.map V.bl)) := by
  have e := p.2
  rw [hn, List.take_length] at e
  exact ⟨p.1, e⟩
theorem all_map_id {α : Type} (f : α → Bool) (l : List α) : (l.map f).all id = l.all f := by
  rw [List.all_map]
  rfl
theorem Dt.tup_of {S : Addr → Prop} {H : Hp} {v : V} {ds : List PyData} (h : Dt S H v (.tuple ds)) : ∃ a xs, v = .ref a ∧ H a = some (.tup xs) ∧ xs.length ≤ 1000 ∧ DtAll S H xs ds := by
  cases h with
  | «at» a => cases a
  | @tup a xs _ s e hl h => exact ⟨a, xs, rfl, e, hl, h⟩
section
variable {P : Program} {w : World} {K : PySem.W.Frag} {mg : Str → Option Value} {base : Heap} {f fS fF fN fI : Addr} {fd dS dF dN dI : FuncData}
theorem scF : FnScope ["part", "role", "depth", "shows", "name"] ["part", "role", "depth", "shows"] (defScope sFits) := ⟨rfl, rfl, rfl, by decide +kernel, rfl, by decide +kernel, by decide +kernel⟩
theorem ok_fits {n k : Nat} (F : Fun K "_fits" "_fits" sFits f fd) (T : TxtN K mg) (TF : TxtF K w mg) (gN : mg "is_nested_code" = some (.ref fN)) (kN : PySem.W.keepIn K (.ref fN) = true) (bN : Binds K dN ["value", "depth", "shows"] []) (GN : FnOk P w K mg base CX0 (k + 1) fN dN ["value", "depth", "shows"] (spNestedAtS n))
    (gI : mg "is_name" = some (.ref fI)) (kI : PySem.W.keepIn K (.ref fI) = true) (bI : Binds K dI ["value"] []) (GI : FnOk P w K mg base CX0 1 fI dI ["value"] spName) : FnOk P w K mg base CX0 (k + 2) f fd ["part", "role", "depth", "shows"] (spFitsS n) := by
  refine F.ok scF (fun vs H Q E h => ?_) (fun cdv A outer s H vs Q E hr h => ?_)
  · obtain ⟨S, v, d, r, rfl, _⟩ := h
    rfl
  · obtain ⟨S, v, d, r, rfl, hd, sm, q⟩ := h
    obtain ⟨t1, g1⟩ := TF.most
    refine ⟨_, pss_cons (ps_if (pt_cmpR op_eq (pv 1) pe_str (nomark _)) (pss_one (ps_ret (pe_and (pe_cmpR op_gt (pv 2) pe_int (nomark _)) (pe_one (pe_call GN hr (by rfl) gN kN bN .nil pass0 (pa_cons (pv 0) (pa_cons (pe_op op_sub (pv 2) pe_int) (pa_cons (pv 3) pa_nil)))))))) pss_nil)
      (pss_cons (ps_if (pt_cmpR op_eq (pv 1) pe_str (nomark _)) (pss_one (ps_ret (pe_and (pe_callB call_isi (by rfl) T.isi (by decide +kernel) (pa_cons (pv 0) (pa_cons (pe_bltn (v := .ty "tuple") (u := .type "tuple") (by rfl) TF.tup (by decide +kernel) rfl) pa_nil)))
          (pe_and (pe_cmpR op_le (pe_callB call_len_seq (by rfl) T.len PySem.boot_len (pa_cons (pv 0) pa_nil)) (pe_glob (v := .int 2) (by rfl) g1 ⟨t1, rfl⟩) (nomark _))
          (pe_one (pe_callB (cr_all rfl) (by rfl) T.all (by decide +kernel) (pa_cons (pe_lc (own := [("name", 4)]) rfl scF.nd (pi_tup (pv 0)) (blkOk_by (N := ["part", "role", "depth", "shows", "name"]) (sc := defScope sFits) (by decide +kernel))
            (fun _ _ _ _ _ => pg_name (i := 4) scF.nd rfl (Or.inl rfl)) (fun _ _ _ _ _ => pts_nil) (fun _ _ _ _ _ => pe_call GI (hr.mono (by omega)) (by rfl) gI kI bI .nil pass0 (pa_cons (pv 4) pa_nil))) pa_nil))))))) pss_nil)
      (pss_one (ps_ret (pe_call GI (hr.mono (by omega)) (by rfl) gI kI bI .nil pass0 (pa_cons (pv 0) pa_nil))))), ?_⟩
    refine ⟨_, rfl, rfl, _, rfl, ite2 (fun h1 => ?_) (fun h1 => ?_)⟩
    · obtain rfl : r = "code" := V.str.inj (of_decide_eq_true h1)
      refine ⟨_, rfl, (n : Int), 0, rfl, rfl, _, rfl, ite2 (fun k => ?_) (fun k => ?_)⟩
      · have k' : (0 : Int) < (n : Int) := of_decide_eq_true k
        obtain ⟨m, rfl⟩ : ∃ m, n = m + 1 := ⟨n - 1, by omega⟩
        refine ⟨_, rfl, _, rfl, ((m + 1 : Nat) : Int), 1, rfl, rfl, _, rfl, S, v, d, ?_, hd, sm, fun H' s' => q H' s'⟩
        show [v, V.int (((m + 1 : Nat) : Int) - 1), V.bl false] = [v, V.int (m : Int), V.bl false]
        rw [show (((m + 1 : Nat) : Int) - 1) = (m : Int) by omega]
      · obtain rfl : n = 0 := by
          have : ¬ (0 : Int) < (n : Int) := fun z => k (decide_eq_true z)
          omega
        exact q H (Same.refl _)
    · have hc : r ≠ "code" := fun z => h1 (decide_eq_true (congrArg V.str z))
      refine ⟨_, rfl, rfl, _, rfl, ite2 (fun h2 => ?_) (fun h2 => ?_)⟩
      · obtain rfl : r = "registers" := V.str.inj (of_decide_eq_true h2)
        have q : ∀ H', Same H H' → Q (.bl (argsD d)) H' := fun H' s' => q H' s'
        cases ht : isTupD d with
        | false =>
          have e : argsD d = false := by cases d <;> first | rfl | cases ht
          refine isi_te (x := v) rfl hd.tyx ((kit_tup d).trans (congrArg some ht)) ⟨_, rfl, iteF ?_⟩
          have z := q H (Same.refl _)
          rw [e] at z
          exact z
        | true =>
          cases d with
          | tuple ds =>
            obtain ⟨a, xs, rfl, ea, hl, hx⟩ := hd.tup_of
            have sa : smlAll ds = true := by
              unfold smlD at sm
              exact sm
            refine isi_te (x := .ref a) rfl (.base (.tup ea)) (kit_tup (.tuple ds)) ⟨_, rfl, iteT ?_⟩
            refine ⟨_, rfl, a, xs, rfl, .inr (SqT.of ea), (xs.length : Int), 2, rfl, rfl, _, rfl, ite2 (fun k => ?_) (fun k => ?_)⟩
            · have k' : ds.length ≤ 2 := by
                have := of_decide_eq_true k
                rw [← hx.length]
                omega
              refine ⟨_, rfl, a, rfl, ⟨xs, SqT.of ea⟩, fun Dl hD => lc_tup (PvM H Dl (ds.map isNameD)) (PvM.zero hD) (fun i H' _ p => SqT.of (p.1 _ _ ea)) (fun i x H3 hi p => ?_) (fun H5 p => ?_)⟩
              · obtain ⟨e, he, hde⟩ := hx.get hi
                exact ⟨rfl, _, rfl, S, x, e, rfl, hde.mv (fun _ z => z) (fun b o _ eb => p.1 b o eb), sml_get sa he, fun H4 s4 => p.step hD (by rw [List.length_map]; omega) (by rw [List.getElem?_map, he]; rfl) s4⟩
              · obtain ⟨s5, e5⟩ := p.all (by rw [List.length_map]; exact hx.length)
                refine ⟨Dl, _, rfl, SqL.of e5, ?_⟩
                have z := q _ s5
                rw [show argsD (.tuple ds) = (decide (ds.length ≤ 2) && ds.all isNameD) from rfl, decide_eq_true k', Bool.true_and, ← all_map_id] at z
                exact z
            · have k' : ¬ ds.length ≤ 2 := fun z => k (decide_eq_true (by rw [hx.length]; omega))
              have z := q H (Same.refl _)
              rw [show argsD (.tuple ds) = (decide (ds.length ≤ 2) && ds.all isNameD) from rfl, decide_eq_false k', Bool.false_and] at z
              exact z
          | _ => cases ht
      · have hg : r ≠ "registers" := fun z => h2 (decide_eq_true (congrArg V.str z))
        refine ⟨_, rfl, S, v, d, rfl, hd, sm, fun H' s' => ?_⟩
        have z := q H' s'
        unfold fitD at z
        rw [if_neg hc, if_neg hg] at z
        exact z
end
end OM

namespace OM
open PySem PySem.Spec PyProof.Rows L2
theorem sml_tail {d : PyData} {ds : List PyData} (h : smlAll (d :: ds) = true) : smlD d = true ∧ smlAll ds = true := by
  unfold smlAll at h
  exact Bool.and_eq_true_iff.mp h
theorem at0 {x : V} {r : List V} : atI (x :: r) 0 = some x := by
  show atI (x :: r) ((0 : Nat) : Int) = some x
  exact atI_nat rfl
theorem cut_tail {x : V} {r : List V} : cutV (x :: r) (some 1) none = r := by
  unfold cutV
  rw [show HT.sIx (x :: r).length 0 (some 1) = 1 from by
    rw [show (some (1 : Int)) = some ((1 : Nat) : Int) from rfl, HT.sIx_nat]
    show min 1 (r.length + 1) = 1
    omega, HT.sIx_none]
  show (r.take (r.length + 1 - 1)) = r
  rw [Nat.add_sub_cancel, List.take_length]
theorem cut_part {x : V} {r : List V} : ¬ (HT.sIx (x :: r).length 0 (some 1) = 0 ∧ HT.sIx (x :: r).length (x :: r).length none = (x :: r).length) := fun h => by
  have e : HT.sIx (x :: r).length 0 (some 1) = 1 := by
    rw [show (some (1 : Int)) = some ((1 : Nat) : Int) from rfl, HT.sIx_nat]
    show min 1 (r.length + 1) = 1
    omega
  rw [e] at h
  exact absurd h.1 (by decide)
theorem rowD_no {cd : PyData → Bool} {w : Str} {rest : List PyData} (h : formOf w = none) : rowD cd (.tuple (.str w :: rest)) = false := by
  show (match formOf w with | some rs => decide (rest.length = rs.length) && (List.zipWith (fitD cd) rest rs).all id | none => false) = false
  rw [h]
theorem rowD_yes {cd : PyData → Bool} {w : Str} {rest : List PyData} {rs : List Str} (h : formOf w = some rs) : rowD cd (.tuple (.str w :: rest)) = (decide (rest.length = rs.length) && (List.zipWith (fitD cd) rest rs).all id) := by
  show (match formOf w with | some rs => decide (rest.length = rs.length) && (List.zipWith (fitD cd) rest rs).all id | none => false) = _
  rw [h]
theorem form_len {w : Str} {rs : List Str} (h : formOf w = some rs) : rs.length ≤ 4 := by
  unfold formOf at h
  repeat (first | (split at h) | (cases h; decide) | cases h)
section
variable {P : Program} {w : World} {K : PySem.W.Frag} {mg : Str → Option Value} {base : Heap} {f fF : Addr} {fd dF : FuncData}
theorem scSt : FnScope ["value", "depth", "shows", "form", "part", "role"] ["value", "depth", "shows"] (defScope sStmt) := ⟨rfl, rfl, rfl, by decide +kernel, rfl, by decide +kernel, by decide +kernel⟩
theorem ok_stmt {n k : Nat} (F : Fun K "_is_statement" "_is_statement" sStmt f fd) (T : TxtN K mg) (TF : TxtF K w mg) (gF : mg "_fits" = some (.ref fF)) (kF : PySem.W.keepIn K (.ref fF) = true) (bF : Binds K dF ["part", "role", "depth", "shows"] []) (GF : FnOk P w K mg base CX0 k fF dF ["part", "role", "depth", "shows"] (spFitsS n)) :
    FnOk P w K mg base CX0 (k + 1) f fd ["value", "depth", "shows"] (spStmtS n) := by
  refine F.ok scSt (fun vs H Q E h => ?_) (fun cdv A outer s H vs Q E hr h => ?_)
  · obtain ⟨S, v, d, rfl, _⟩ := h
    rfl
  · obtain ⟨S, v, d, rfl, hd, sm, q⟩ := h
    obtain ⟨fa, es, nn, gM, KD, hno, ⟨ush, hsh⟩, hyes⟩ := TF.forms
    have hu : (A.deeper (envOfC "_is_statement" (defScope sStmt) s.heap.objs.size f cdv)).units < cLine := by
      have := hr.un
      omega
    refine ⟨_, pss_cons (ps_if (PW.pt (pw_or (pt_not (pt_val (pe_callB call_isi (by rfl) T.isi (by decide +kernel) (pa_cons (pv 0) (pa_cons (pe_bltn (v := .ty "tuple") (u := .type "tuple") (by rfl) TF.tup (by decide +kernel) rfl) pa_nil)))))
        (pw_or (pt_cmpR (op_eqT0 hu) (pv 0) (pe_tup pa_nil) (by rfl))
        (pw_or1 (pt_not (pt_val (pe_callB call_isi (by rfl) T.isi (by decide +kernel) (pa_cons (pe_ix ix_tup (pv 0) pe_int (fun _ _ => rfl)) (pa_cons (pe_bltn (v := .ty "str") (u := .type "str") (by rfl) T.str (by decide +kernel) rfl) pa_nil)))))))))
        (pss_one (ps_ret pe_bl)) pss_nil)
      (pss_cons (ps_if (PW.pt (pw_or (pt_cmpR (op_notIn_kd KD) (pe_ix ix_tup (pv 0) pe_int (fun _ _ => rfl)) (pe_glob (v := .ref fa) (by rfl) gM rfl) (by rfl)) (pw_or1 (PW.pt (pw_and (pt_cmpR op_eq (pe_ix ix_tup (pv 0) pe_int (fun _ _ => rfl)) pe_str (nomark _)) (pw_and1 (pt_not (pt_val (pv 2))))))))) (pss_one (ps_ret pe_bl)) pss_nil)
      (pss_cons (ps_set (i := 3) scSt.nd rfl (Or.inl rfl) (pe_ix ix_kdict (pe_glob (v := .ref fa) (by rfl) gM rfl) (pe_ix ix_tup (pv 0) pe_int (fun _ _ => rfl)) (fun _ _ => rfl)))
      (pss_one (ps_ret (pe_and (pe_cmpR op_eq (pe_callB call_len_seq (by rfl) T.len PySem.boot_len (pa_cons (pv 0) pa_nil)) (pe_op op_add (pe_callB call_len_seq (by rfl) T.len PySem.boot_len (pa_cons (pv 3) pa_nil)) pe_int) (nomark _))
        (pe_one (pe_callB (cr_all rfl) (by rfl) T.all (by decide +kernel) (pa_cons (pe_lc (g := gTup K 2 (gCons (gName 4) (gCons (gName 5) gNil))) (own := [("part", 4), ("role", 5)]) rfl scSt.nd (RZ.pi_zipA (by rfl) TF.zip (pa_cons (pe_slice sl_tupA (pv 0) (po_some pe_int) po_none) (pa_cons (pv 3) pa_nil)))
            (blkOk_by (N := ["value", "depth", "shows", "form", "part", "role"]) (sc := defScope sStmt) (by decide +kernel)) (fun _ _ _ _ _ => pg_tup rfl (pgs_cons (pg_name (i := 4) scSt.nd rfl (Or.inl rfl)) (pgs_cons (pg_name (i := 5) scSt.nd rfl (Or.inl rfl)) pgs_nil))) (fun _ _ _ _ _ => pts_nil)
            (fun _ _ _ _ _ => pe_call GF hr (by rfl) gF kF bF .nil pass0 (pa_cons (pv 4) (pa_cons (pv 5) (pa_cons (pv 1) (pa_cons (pv 2) pa_nil)))))) pa_nil)))))))), ?_⟩
    have z0 : ∀ {b : Bool}, b = rowD (cdOf n) d → ∀ H', Same H H' → Q (.bl b) H' := fun {b} e H' s' => by
      rw [e]
      exact q H' s'
    cases ht : isTupD d with
    | false =>
      have e : false = rowD (cdOf n) d := by cases d <;> first | rfl | cases ht
      exact isi_te (x := v) rfl hd.tyx ((kit_tup d).trans (congrArg some ht)) ⟨_, rfl, iteT (iteT (z0 e H (Same.refl _)))⟩
    | true =>
      cases d with
      | tuple ds =>
        obtain ⟨a, xs, rfl, ea, hl, hx⟩ := hd.tup_of
        have sa : smlAll ds = true := by
          unfold smlD at sm
          exact sm
        refine isi_te (x := .ref a) rfl (.base (.tup ea)) (kit_tup (.tuple ds)) ⟨_, rfl, iteF ?_⟩
        refine ⟨_, rfl, (by show 0 ≤ sizeLine; decide), fun p0 hp0 => ?_⟩
        have s0 := same_upd (o := .tup []) hp0
        have ea0 := s0 _ _ ea
        cases hx with
        | nil => exact ⟨a, p0, [], rfl, rfl, SqT.of ea0, SqT.of upd_same, _, rfl, iteT (iteT (z0 rfl _ s0))⟩
        | @cons x0 d0 xr dr hx0 hxr =>
          refine ⟨a, p0, _, rfl, rfl, SqT.of ea0, SqT.of upd_same, _, rfl, iteF ?_⟩
          have hx1 : Dt S (upd H p0 (.tup [])) x0 d0 := hx0.mv (fun _ z => z) fun b o _ e => s0 b o e
          obtain ⟨sm0, smr⟩ := sml_tail sa
          refine ⟨_, rfl, a, _, 0, x0, rfl, rfl, SqT.of ea0, at0, x0, .ty "str", _, _, isStrD d0, rfl, .ty _, hx1.tyx, kit_ty (kit_str d0), _, rfl, ?_⟩
          cases hs : isStrD d0 with
          | false =>
            have e : false = rowD (cdOf n) (.tuple (d0 :: dr)) := by cases d0 <;> first | rfl | cases hs
            exact iteT (z0 e _ s0)
          | true =>
            cases d0 with
            | str w0 =>
              have ev : x0 = .str w0 := by
                cases hx0 with
                | «at» a => cases a <;> rfl
              subst ev
              refine iteF ?_
              cases hf : formOf w0 with
              | none =>
                by_cases hw : w0 = "show"
                · subst hw
                  exact ⟨_, rfl, a, _, 0, _, rfl, rfl, SqT.of ea0, at0, _, some ush, rfl, rfl, hsh, _, rfl, iteF ⟨_, rfl, a, _, 0, _, rfl, rfl, SqT.of ea0, at0, rfl, _, rfl, ite2 (fun _ => ⟨_, rfl, _, rfl, iteT (z0 (rowD_no hf).symm _ s0)⟩) (fun k => absurd (decide_eq_true rfl) k)⟩⟩
                · exact ⟨_, rfl, a, _, 0, _, rfl, rfl, SqT.of ea0, at0, w0, none, rfl, rfl, hno w0 hf hw, _, rfl, iteT (z0 (rowD_no hf).symm _ s0)⟩
              | some rs =>
                obtain ⟨pf, hnf, hsf⟩ := hyes w0 rs hf
                have hw : w0 ≠ "show" := fun z => by
                  rw [z] at hf
                  cases hf
                refine ⟨_, rfl, a, _, 0, _, rfl, rfl, SqT.of ea0, at0, w0, _, rfl, rfl, hnf, _, rfl, iteF ?_⟩
                refine ⟨_, rfl, a, _, 0, _, rfl, rfl, SqT.of ea0, at0, rfl, _, rfl, ite2 (fun k => absurd (V.str.inj (of_decide_eq_true k)) hw) (fun _ => iteF ?_)⟩
                refine ⟨_, rfl, a, _, 0, _, rfl, rfl, SqT.of ea0, at0, fa, w0, .ref pf, rfl, rfl, ⟨es, nn, _, KD.at_, KD.lit, hnf, rfl⟩, ?_⟩
                refine ⟨_, rfl, a, _, rfl, .inr (SqT.of ea0), _, rfl, pf, _, rfl, .inr (hsf _), _, _, rfl, rfl, rfl, _, rfl, ite2 (fun k1 => ?_) (fun k1 => ?_)⟩
                · have k2 := V.int.inj (of_decide_eq_true k1)
                  have e1 : dr.length = rs.length := by
                    rw [List.length_map, List.length_cons, hxr.length] at k2
                    omega
                  have e0 : xr.length = rs.length := hxr.length.trans e1
                  refine ⟨_, rfl, 1, rfl, a, _, rfl, SqT.of ea0, fun hw => absurd hw cut_part, fun _ pc hpc => ?_⟩
                  rw [cut_tail]
                  have s1 := s0.trans (same_upd (o := .tup xr) hpc)
                  refine ⟨_, rfl, pc, pf, xr, rs.map V.str, rfl, .inr ⟨SqT.of upd_same, hsf _, fun Dl hD => lc_zipT (by rw [List.length_map]; exact e0) (PvM _ Dl (List.zipWith (fitD (cdOf n)) dr rs)) (PvM.zero hD)
                    (fun i H' p => ⟨SqT.of (p.1 _ _ upd_same), hsf _⟩) (fun i x y T H3 hxi hyi p hT => ?_) (fun H5 p => ?_)⟩⟩
                  · obtain ⟨e, he, hde⟩ := hxr.get hxi
                    rw [List.getElem?_map] at hyi
                    obtain ⟨r0, hr0, rfl⟩ := Option.map_eq_some_iff.mp hyi
                    have sT := (s1.trans p.1).trans (same_upd (o := .tup [x, .str r0]) hT)
                    refine ⟨T, _, rfl, SqT.of upd_same, rfl, _, _, rfl, _, _, rfl, rfl, rfl, ?_⟩
                    refine ⟨_, rfl, _, rfl, _, rfl, _, rfl, S, x, e, r0, rfl, hde.mv (fun _ z => z) (fun b o _ eb => sT b o eb), sml_get smr he, fun H4 s4 => ?_⟩
                    refine p.step hD ?_ ?_ ((same_upd hT).trans s4)
                    · have := form_len hf
                      rw [List.length_zipWith]
                      omega
                    · rw [List.getElem?_zipWith, he, hr0]
                  · obtain ⟨s5, e5⟩ := p.all (by rw [List.length_zipWith, e0, e1]; omega)
                    refine ⟨Dl, _, rfl, SqL.of e5, ?_⟩
                    refine z0 ?_ _ (s1.trans s5)
                    rw [rowD_yes hf, decide_eq_true e1, Bool.true_and]
                · have e1 : ¬ dr.length = rs.length := fun z => k1 (decide_eq_true (by
                    rw [List.length_map, List.length_cons, hxr.length, z]
                    rfl))
                  refine z0 ?_ _ s0
                  rw [rowD_yes hf, decide_eq_false e1, Bool.false_and]
            | _ => cases hs
      | _ => cases ht
end
end OM

namespace OM
open PySem PySem.Spec PyProof.Rows L2
abbrev sIsCode : Stmt := top 44
section
variable {P : Program} {w : World} {K : PySem.W.Frag} {mg : Str → Option Value} {base : Heap} {f fS fF fN fI : Addr} {fd dS dF dN dI : FuncData}
theorem scNe : FnScope ["value", "depth", "shows", "part"] ["value", "depth", "shows"] (defScope sNested) := ⟨rfl, rfl, rfl, by decide +kernel, rfl, by decide +kernel, by decide +kernel⟩
theorem nested_step {n k : Nat} {dvs : List V} (F : FunD K "is_nested_code" "is_nested_code" (defArgs sNested) (defBody sNested) (defScope sNested) dvs [] f fd) (T : TxtN K mg) (TF : TxtF K w mg) (gS : mg "_is_statement" = some (.ref fS)) (kS : PySem.W.keepIn K (.ref fS) = true) (bS : Binds K dS ["value", "depth", "shows"] []) (GS : FnOk P w K mg base CX0 k fS dS ["value", "depth", "shows"] (spStmtS n)) :
    FnOk P w K mg base CX0 (k + 1) f fd ["value", "depth", "shows"] (spNestedAtS (n + 1)) := by
  refine F.ok scNe (fun vs H Q E h => ?_) (fun cdv A outer s H vs Q E hr h => ?_)
  · obtain ⟨S, v, d, rfl, _⟩ := h
    rfl
  · obtain ⟨S, v, d, rfl, hd, sm, q⟩ := h
    refine ⟨_, pss_one (ps_ret (pe_and (pe_callB call_isi (by rfl) T.isi (by decide +kernel) (pa_cons (pv 0) (pa_cons (pe_bltn (v := .ty "tuple") (u := .type "tuple") (by rfl) TF.tup (by decide +kernel) rfl) pa_nil)))
      (pe_one (pe_callB (cr_all rfl) (by rfl) T.all (by decide +kernel) (pa_cons (pe_lc (own := [("part", 3)]) rfl scNe.nd (pi_tup (pv 0)) (blkOk_by (N := ["value", "depth", "shows", "part"]) (sc := defScope sNested) (by decide +kernel))
          (fun _ _ _ _ _ => pg_name (i := 3) scNe.nd rfl (Or.inl rfl)) (fun _ _ _ _ _ => pts_nil) (fun _ _ _ _ _ => pe_call GS hr (by rfl) gS kS bS .nil pass0 (pa_cons (pv 3) (pa_cons (pv 1) (pa_cons (pv 2) pa_nil))))) pa_nil))))), ?_⟩
    cases ht : isTupD d with
    | false =>
      have e : codeD n d = false := by cases d <;> cases n <;> first | rfl | cases ht
      refine isi_te (x := v) rfl hd.tyx ((kit_tup d).trans (congrArg some ht)) ⟨_, rfl, iteF ?_⟩
      have z := q H (Same.refl _)
      rw [e] at z
      exact z
    | true =>
      cases d with
      | tuple ds =>
        obtain ⟨a, xs, rfl, ea, hl, hx⟩ := hd.tup_of
        have sa : smlAll ds = true := by
          unfold smlD at sm
          exact sm
        refine isi_te (x := .ref a) rfl (.base (.tup ea)) (kit_tup (.tuple ds)) ⟨_, rfl, iteT ?_⟩
        refine ⟨_, rfl, a, rfl, ⟨xs, SqT.of ea⟩, fun Dl hD => lc_tup (PvM H Dl (ds.map (rowD (cdOf n)))) (PvM.zero hD) (fun i H' _ p => SqT.of (p.1 _ _ ea)) (fun i x H3 hi p => ?_) (fun H5 p => ?_)⟩
        · obtain ⟨e, he, hde⟩ := hx.get hi
          have := hx.length
          exact ⟨rfl, _, rfl, _, rfl, _, rfl, S, x, e, rfl, hde.mv (fun _ z => z) (fun b o _ eb => p.1 b o eb), sml_get sa he, fun H4 s4 => p.step hD (by rw [List.length_map]; omega) (by rw [List.getElem?_map, he]; rfl) s4⟩
        · obtain ⟨s5, e5⟩ := p.all (by rw [List.length_map]; exact hx.length)
          refine ⟨Dl, _, rfl, SqL.of e5, ?_⟩
          have z := q _ s5
          rw [codeD_tup, ← all_map_id] at z
          exact z
      | _ => cases ht
/-- the three that call one another -/
structure CodeF (K : PySem.W.Frag) (mg : Str → Option Value) (fN fS fF fI : Addr) (dN dS dF dI : FuncData) : Prop where
  FN : FunD K "is_nested_code" "is_nested_code" (defArgs sNested) (defBody sNested) (defScope sNested) [.bl false] [] fN dN
  FS : Fun K "_is_statement" "_is_statement" sStmt fS dS
  FF : Fun K "_fits" "_fits" sFits fF dF
  FI : Fun K "is_name" "is_name" sIsName fI dI
  gN : mg "is_nested_code" = some (.ref fN)
  gS : mg "_is_statement" = some (.ref fS)
  gF : mg "_fits" = some (.ref fF)
  gI : mg "is_name" = some (.ref fI)
  bN : Binds K dN ["value", "depth", "shows"] []
  bN1 : ∃ ds, Vals [V.bl false] ds ∧ Binds K dN ["value", "depth", "shows"] ds
  bS : Binds K dS ["value", "depth", "shows"] []
  bF : Binds K dF ["part", "role", "depth", "shows"] []
  bI : Binds K dI ["value"] []
  T : TxtN K mg
theorem ok_nested (C : CodeF K mg fN fS fF fI dN dS dF dI) (TF : TxtF K w mg) : ∀ n, FnOk P w K mg base CX0 (3 * n + 1) fN dN ["value", "depth", "shows"] (spNestedAtS n)
  | 0 => ⟨fun _ _ _ _ h => h.elim, fun _ _ _ _ _ _ _ _ _ _ _ _ _ h => h.elim⟩
  | n + 1 => nested_step C.FN C.T TF C.gS C.FS.kp C.bS (ok_stmt C.FS C.T TF C.gF C.FF.kp C.bF (ok_fits C.FF C.T TF C.gN C.FN.kp C.bN (ok_nested C TF n) C.gI C.FI.kp C.bI (ok_isname C.FI C.T)))
def spIsCode : Sp := fun vs H Q _ => ∃ (S : Addr → Prop) (v : V) (d : PyData), vs = [v] ∧ Dt S H v d ∧ smlD d = true ∧ ∀ H', Same H H' → Q (.bl (codeD 3 d)) H'
theorem scIC : FnScope ["value"] ["value"] (defScope sIsCode) := ⟨rfl, rfl, rfl, by decide +kernel, rfl, by decide +kernel, by decide +kernel⟩
theorem ok_iscode (F : Fun K "is_code" "is_code" sIsCode f fd) (C : CodeF K mg fN fS fF fI dN dS dF dI) (TF : TxtF K w mg) (gD : ∃ t, mg "MAX_DEPTH" = some (.int 3 t)) : FnOk P w K mg base CX0 14 f fd ["value"] spIsCode := by
  have G : FnOk P w K mg base CX0 13 fN dN ["value", "depth", "shows"] (spNestedAtS 4) := ok_nested C TF 4
  obtain ⟨t, g3⟩ := gD
  obtain ⟨dsN, rN, bN1⟩ := C.bN1
  refine F.ok scIC (fun vs H Q E h => ?_) (fun cdv A outer s H vs Q E hr h => ?_)
  · obtain ⟨S, v, d, rfl, _⟩ := h
    rfl
  · obtain ⟨S, v, d, rfl, hd, sm, q⟩ := h
    exact ⟨_, pss_one (ps_ret (pe_call G hr (by rfl) C.gN C.FN.kp bN1 rN pass0 (pa_cons (pv 0) (pa_cons (pe_glob (v := .int 3) (by rfl) g3 ⟨t, rfl⟩) pa_nil)))), _, rfl, S, v, d, rfl, hd, sm, q⟩
end
end OM

namespace OM
open PySem PySem.Spec PyProof.Rows L2
theorem all_true (n : Nat) : ((List.range n).all fun _ => true) = true := List.all_eq_true.mpr fun _ _ => rfl
def rL0 (K : PySem.W.Frag) (neg : Bool) : R2 := fun x y H Q => ∃ a b xs, x = .ref a ∧ y = .ref b ∧ SqL K H a xs ∧ SqL K H b [] ∧ Q (.bl (if neg then !xs.isEmpty else xs.isEmpty)) H
/-- a list of anything == [] -/
theorem op_eqL0 {X : Cx} (hu : X.A.units < cLine) : OpR X (compareOp .Eq) (rL0 X.K false) := by
  intro pins s σ H x y v u Q I rx ry h
  obtain ⟨a, b, xs, rfl, rfl, ha, hb, q⟩ := h
  obtain rfl : v = Value.ref a := rx
  obtain rfl : u = Value.ref b := ry
  obtain ⟨us, r1, p1, _⟩ := I.list ha
  obtain ⟨ws, r2, p2, _⟩ := I.list hb
  cases r2
  have l := r1.length
  cases xs with
  | nil =>
    obtain rfl : us = [] := List.length_eq_zero_iff.mp l.symm
    refine SeqAt.eq_listAt (e := fun _ => true) p1.isList p2.isList rfl hu (fun j h1 h2 => absurd h2 (by simp)) ⟨.bl _, H, I, rfl, ?_⟩
    rw [all_true]
    exact q
  | cons x0 xr =>
    refine SeqAt.eq_list_lengthsAt p1.isList p2.isList ?_ hu ⟨.bl false, H, I, rfl, q⟩
    cases us with
    | nil => simp at l
    | cons u us => simp
theorem op_neL0 {X : Cx} (hu : X.A.units < cLine) : OpR X (compareOp .NotEq) (rL0 X.K true) := by
  intro pins s σ H x y v u Q I rx ry h
  obtain ⟨a, b, xs, rfl, rfl, ha, hb, q⟩ := h
  obtain rfl : v = Value.ref a := rx
  obtain rfl : u = Value.ref b := ry
  obtain ⟨us, r1, p1, _⟩ := I.list ha
  obtain ⟨ws, r2, p2, _⟩ := I.list hb
  cases r2
  have l := r1.length
  cases xs with
  | nil =>
    obtain rfl : us = [] := List.length_eq_zero_iff.mp l.symm
    refine SeqAt.RcNeAt.lists (e := fun _ => true) p1.isList p2.isList rfl hu (fun j h1 h2 => absurd h2 (by simp)) X.prog X.w X.xe _ ⟨.bl _, H, I, rfl, ?_⟩
    rw [all_true]
    exact q
  | cons x0 xr =>
    refine SeqAt.RcNeAt.lists_lengths p1.isList p2.isList ?_ hu X.prog X.w X.xe _ ⟨.bl true, H, I, rfl, q⟩
    cases us with
    | nil => simp at l
    | cons u us => simp
/-- a list of what is none of a kind: empty, if all are -/
def PvF (H : Hp) (D : Addr) (bs : List Bool) (i : Nat) (H' : Hp) : Prop := Same H H' ∧ ∃ acc : List V, H' D = some (.lst acc) ∧ acc.length ≤ i ∧ acc.isEmpty = (bs.take i).all id
theorem PvF.zero {H : Hp} {D : Addr} {bs : List Bool} (hD : H D = none) : PvF H D bs 0 (upd H D (.lst [])) := ⟨same_upd hD, [], upd_same, Nat.le_refl _, rfl⟩
theorem PvF.yes {H H3 H4 : Hp} {D : Addr} {bs : List Bool} {i : Nat} (hb : bs[i]? = some true) (p : PvF H D bs i H3) (s : Same H3 H4) : PvF H D bs (i + 1) H4 := by
  obtain ⟨sm, acc, e, l, z⟩ := p
  refine ⟨sm.trans s, acc, s _ _ e, by omega, ?_⟩
  rw [List.take_add_one, hb, List.all_append, z]
  simp
theorem PvF.no {H H3 H4 : Hp} {D : Addr} {bs : List Bool} {i : Nat} {y : V} (hD : H D = none) (hl : bs.length ≤ 1000) (hb : bs[i]? = some false) (p : PvF H D bs i H3) (s : Same H3 H4) : ∃ acc, H4 D = some (.lst acc) ∧ acc.length < sizeLine ∧ PvF H D bs (i + 1) (upd H4 D (.lst (acc ++ [y]))) := by
  obtain ⟨sm, acc, e, l, z⟩ := p
  have hi : i < bs.length := (List.getElem?_eq_some_iff.mp hb).1
  refine ⟨acc, s _ _ e, Nat.lt_of_le_of_lt (show acc.length ≤ 1000 by omega) (by decide), same_put hD (sm.trans s), acc ++ [y], upd_same, by rw [List.length_append]; show acc.length + 1 ≤ _; omega, ?_⟩
  rw [List.take_add_one, hb, List.all_append]
  simp
theorem PvF.all {H H5 : Hp} {D : Addr} {bs : List Bool} {n : Nat} (p : PvF H D bs n H5) (hn : n = bs.length) : Same H H5 ∧ ∃ acc : List V, H5 D = some (.lst acc) ∧ acc.isEmpty = bs.all id := by
  obtain ⟨sm, acc, e, l, z⟩ := p
  rw [hn, List.take_length] at z
  exact ⟨sm, acc, e, z⟩
def spLCodeAt : Nat → Sp
  | 0 => fun _ _ _ _ => False
  | n + 1 => fun vs H Q _ => ∃ (S : Addr → Prop) (v : V) (d : PyData), vs = [v, .int n] ∧ Dt S H v d ∧ smlD d = true ∧ ∀ H', Same H H' → Q (.bl (codeD n d)) H'
section
variable {P : Program} {w : World} {K : PySem.W.Frag} {mg : Str → Option Value} {base : Heap} {f fR : Addr} {fd dR : FuncData}
end
end OM

namespace OM
open PySem PySem.Spec PyProof.Rows L2
def kvs5 : List (Key × V) := [(.inr "read", .int 2), (.inr "write", .int 2), (.inr "copy", .int 2), (.inr "get", .int 1), (.inr "put", .int 1)]
def lenI (w : Str) : Int := match formOf w with
  | some rs => (rs.length : Int)
  | none => -1
theorem get_len {w : Str} (h1 : w ≠ "if") (h2 : w ≠ "set") : (valV kvs5 (Sum.inr w)).getD (.int (-1)) = .int (lenI w) := by
  by_cases a : w = "read"
  · subst a
    decide +kernel
  by_cases b : w = "write"
  · subst b
    decide +kernel
  by_cases c : w = "copy"
  · subst c
    decide +kernel
  by_cases d : w = "get"
  · subst d
    decide +kernel
  by_cases e : w = "put"
  · subst e
    decide +kernel
  have k : ∀ u : Str, w ≠ u → decide ((Sum.inr u : Key) = Sum.inr w) = false := fun u hu => decide_eq_false fun z => hu (Sum.inr.inj z).symm
  have f : formOf w = none := by
    unfold formOf
    rw [if_neg a, if_neg b, if_neg h2, if_neg c, if_neg d, if_neg e, if_neg h1]
  unfold valV kvs5 lenI
  rw [f]
  simp only [List.find?_cons, List.find?_nil, k _ a, k _ b, k _ c, k _ d, k _ e]
  rfl
theorem row_if (cd : PyData → Bool) (d1 d2 d3 d4 : PyData) : rowD cd (.tuple [.str "if", d1, d2, d3, d4]) = (isNameD d1 && (isNameD d2 && (cd d3 && (cd d4 && true)))) := by
  rw [rowD_yes (rs := ["test", "register", "code", "code"]) (by decide +kernel)]
  rfl
theorem row_if_len {cd : PyData → Bool} {r : List PyData} (h : ¬ r.length = 4) : rowD cd (.tuple (.str "if" :: r)) = false := by
  rw [rowD_yes (rs := ["test", "register", "code", "code"]) (by decide +kernel)]
  show (decide (r.length = 4) && _) = false
  rw [decide_eq_false h, Bool.false_and]
theorem row_if0 {r : List PyData} : rowD (cdOf 0) (.tuple (.str "if" :: r)) = false := by
  by_cases h : r.length = 4
  · match r, h with
    | [d1, d2, d3, d4], _ =>
      rw [row_if]
      show (isNameD d1 && (isNameD d2 && (false && _))) = false
      rw [Bool.false_and, Bool.and_false, Bool.and_false]
  · exact row_if_len h
theorem row_set (cd : PyData → Bool) (d1 d2 d3 : PyData) : rowD cd (.tuple [.str "set", d1, d2, d3]) = (isNameD d1 && (isNameD d2 && (argsD d3 && true))) := by
  rw [rowD_yes (rs := ["register", "function", "registers"]) (by decide +kernel)]
  rfl
theorem row_set_len {cd : PyData → Bool} {r : List PyData} (h : ¬ r.length = 3) : rowD cd (.tuple (.str "set" :: r)) = false := by
  rw [rowD_yes (rs := ["register", "function", "registers"]) (by decide +kernel)]
  show (decide (r.length = 3) && _) = false
  rw [decide_eq_false h, Bool.false_and]
/-- the other statements have names alone -/
theorem row_plain {cd : PyData → Bool} {w : Str} {r : List PyData} (h1 : w ≠ "if") (h2 : w ≠ "set") : rowD cd (.tuple (.str w :: r)) = (decide ((r.length : Int) = lenI w) && r.all isNameD) := by
  cases hf : formOf w with
  | none =>
    rw [rowD_no hf]
    have : ¬ ((r.length : Int) = lenI w) := fun z => by
      unfold lenI at z
      rw [hf] at z
      have z' : (r.length : Int) = -1 := z
      omega
    rw [decide_eq_false this, Bool.false_and]
  | some rs =>
    rw [rowD_yes hf]
    have el : ((r.length : Int) = lenI w) ↔ r.length = rs.length := by
      unfold lenI
      rw [hf]
      show ((r.length : Int) = (rs.length : Int)) ↔ _
      omega
    have pl : rs = (["register", "cell"] : List Str) ∨ rs = (["cell", "register"] : List Str) ∨ rs = (["register", "register"] : List Str) ∨ rs = (["register"] : List Str) := by
      unfold formOf at hf
      by_cases a : w = "read"
      · rw [if_pos a] at hf; exact .inl (Option.some.inj hf).symm
      rw [if_neg a] at hf
      by_cases b : w = "write"
      · rw [if_pos b] at hf; exact .inr (.inl (Option.some.inj hf).symm)
      rw [if_neg b, if_neg h2] at hf
      by_cases c : w = "copy"
      · rw [if_pos c] at hf; exact .inr (.inr (.inl (Option.some.inj hf).symm))
      rw [if_neg c] at hf
      by_cases d : w = "get"
      · rw [if_pos d] at hf; exact .inr (.inr (.inr (Option.some.inj hf).symm))
      rw [if_neg d] at hf
      by_cases e : w = "put"
      · rw [if_pos e] at hf; exact .inr (.inr (.inr (Option.some.inj hf).symm))
      rw [if_neg e, if_neg h1] at hf
      cases hf
    by_cases hl : r.length = rs.length
    · rw [decide_eq_true hl, decide_eq_true (el.mpr hl), Bool.true_and, Bool.true_and]
      rcases pl with rfl | rfl | rfl | rfl
      · match r, hl with
        | [d1, d2], _ => rfl
      · match r, hl with
        | [d1, d2], _ => rfl
      · match r, hl with
        | [d1, d2], _ => rfl
      · match r, hl with
        | [d1], _ => rfl
    · rw [decide_eq_false hl, decide_eq_false (fun z => hl (el.mp z)), Bool.false_and, Bool.false_and]
end OM

namespace OM
open PySem PySem.Spec PyProof.Rows L2
theorem names_hs {S : Addr → Prop} {Hb : Hp} {xs : List V} {ds : List PyData} {Dl : Addr} {s0 s1 s2 s3 s4 : Option V} (hD : Hb Dl = none) (hx : DtAll S Hb xs ds) (sm : smlAll ds = true) (hl : ds.length ≤ 1000) : ∀ i x H3, xs[i]? = some x → PvF Hb Dl (ds.map isNameD) i H3 →
    gName 4 x (wipe [s0, s1, s2, s3, s4] [4]) H3 fun σ2 H2 => wipe σ2 [4] = wipe [s0, s1, s2, s3, s4] [4] ∧ tNot (tB (tCall spName [] E0 (tCons (tVar 4) tNil))) σ2 H2 fun b H3 =>
      if b = true then tVar 4 σ2 H3 fun y H4 => ∃ acc, H4 Dl = some (.lst acc) ∧ acc.length < sizeLine ∧ PvF Hb Dl (ds.map isNameD) (i + 1) (upd H4 Dl (.lst (acc ++ [y]))) else PvF Hb Dl (ds.map isNameD) (i + 1) H3 := by
  intro i x H3 hi p
  obtain ⟨e, he, hde⟩ := hx.get hi
  have hb : (ds.map isNameD)[i]? = some (isNameD e) := by
    rw [List.getElem?_map, he]
    rfl
  refine ⟨rfl, _, rfl, S, x, e, rfl, hde.mv (fun _ z => z) (fun b o _ eb => p.1 b o eb), sml_get sm he, fun H4 s4 => ⟨_, rfl, ?_⟩⟩
  cases hv : isNameD e with
  | true =>
    rw [hv] at hb
    exact iteF (p.yes hb s4)
  | false =>
    rw [hv] at hb
    exact iteT ⟨_, rfl, p.no hD (by rw [List.length_map]; exact hl) hb s4⟩
theorem DtAll.four {S : Addr → Prop} {H : Hp} {xs : List V} {ds : List PyData} (h : DtAll S H xs ds) (l : ds.length = 4) : ∃ x1 x2 x3 x4 d1 d2 d3 d4, xs = [x1, x2, x3, x4] ∧ ds = [d1, d2, d3, d4] ∧ Dt S H x1 d1 ∧ Dt S H x2 d2 ∧ Dt S H x3 d3 ∧ Dt S H x4 d4 := by
  match ds, l with
  | [d1, d2, d3, d4], _ =>
    cases h with
    | cons h1 h =>
      cases h with
      | cons h2 h =>
        cases h with
        | cons h3 h =>
          cases h with
          | cons h4 h =>
            cases h
            exact ⟨_, _, _, _, _, _, _, _, rfl, rfl, h1, h2, h3, h4⟩
theorem DtAll.three {S : Addr → Prop} {H : Hp} {xs : List V} {ds : List PyData} (h : DtAll S H xs ds) (l : ds.length = 3) : ∃ x1 x2 x3 d1 d2 d3, xs = [x1, x2, x3] ∧ ds = [d1, d2, d3] ∧ Dt S H x1 d1 ∧ Dt S H x2 d2 ∧ Dt S H x3 d3 := by
  match ds, l with
  | [d1, d2, d3], _ =>
    cases h with
    | cons h1 h =>
      cases h with
      | cons h2 h =>
        cases h with
        | cons h3 h =>
          cases h
          exact ⟨_, _, _, _, _, _, rfl, rfl, h1, h2, h3⟩
theorem cut4 {x1 x2 x3 x4 : V} : cutV [x1, x2, x3, x4] none (some 2) = [x1, x2] := rfl
theorem cut3 {x1 x2 x3 : V} : cutV [x1, x2, x3] none (some 2) = [x1, x2] := rfl
theorem part4 {x1 x2 x3 x4 : V} : ¬ (HT.sIx [x1, x2, x3, x4].length 0 none = 0 ∧ HT.sIx [x1, x2, x3, x4].length [x1, x2, x3, x4].length (some 2) = [x1, x2, x3, x4].length) := fun h => by
  have z : (2 : Nat) = 4 := h.2
  cases z
theorem part3 {x1 x2 x3 : V} : ¬ (HT.sIx [x1, x2, x3].length 0 none = 0 ∧ HT.sIx [x1, x2, x3].length [x1, x2, x3].length (some 2) = [x1, x2, x3].length) := fun h => by
  have z : (2 : Nat) = 3 := h.2
  cases z
theorem DtAll.same {S : Addr → Prop} {H H' : Hp} {xs : List V} {ds : List PyData} (h : DtAll S H xs ds) (s : Same H H') : DtAll S H' xs ds := h.mv (fun _ z => z) fun b o _ e => s b o e
theorem Dt.sameS {S : Addr → Prop} {H H' : Hp} {v : V} {d : PyData} (h : Dt S H v d) (s : Same H H') : Dt S H' v d := h.mv (fun _ z => z) fun b o _ e => s b o e
theorem smlAll_len {ds : List PyData} {xs : List V} {S : Addr → Prop} {H : Hp} (h : DtAll S H xs ds) (l : xs.length ≤ 1000) : ds.length ≤ 1000 := by
  rw [← h.length]
  exact l
section
variable {P : Program} {w : World} {K : PySem.W.Frag} {mg : Str → Option Value} {base : Heap} {f fC fL : Addr} {fd dC dL : FuncData}
end
end OM

namespace OM
open PySem PySem.Spec PyProof.Rows L2
section
variable {P : Program} {w : World} {K : PySem.W.Frag} {mg : Str → Option Value} {base : Heap} {fC fR fL : Addr} {dC dR dL : FuncData}
end
end OM

namespace OM
open PySem PySem.Spec PyProof.Rows L2
def spMixed (K : PySem.W.Frag) : Sp := fun vs H Q _ => ∃ (d a : Addr) (xs : List V), vs = [.ref d, .ref a] ∧ Dice H d ∧ (SqL K H a xs ∨ SqT K H a xs) ∧ xs.length ≤ 1000 ∧
  ∀ H' p ys, But d H H' → Dice H' d → H p = none → H' p = some (.lst ys) → ys.Perm xs → Q (.ref p) H'
theorem seq_nat {k n : Nat} (h : k < n) : seqIndex? (k : Int) n = some k := by
  unfold seqIndex?
  have h1 : ¬ ((k : Int) < 0) := by omega
  have h2 : (0 : Int) ≤ (k : Int) := by omega
  have h3 : (k : Int) < (n : Int) := by omega
  simp [h1, h2, h3]
theorem perm_erase : ∀ {l : List V} {i : Nat} (h : i < l.length), (l[i] :: l.eraseIdx i).Perm l
  | x :: r, 0, _ => .refl _
  | x :: r, i + 1, h => by
    have ih := perm_erase (l := r) (i := i) (Nat.lt_of_succ_lt_succ h)
    exact (List.Perm.swap x _ _).trans (ih.cons x)
section
variable {P : Program} {w : World} {K : PySem.W.Frag} {mg : Str → Option Value} {base : Heap} {f fR : Addr} {fd fdR : FuncData}
end
end OM

namespace OM
open PySem PySem.Spec PyProof.Rows L2
def regs4 : List Str := ["a", "b", "r", "x"]
def cells3 : List Str := ["x", "y", "zz"]
mutual
/-- a drawn statement: how deep ifs may stand in it, its letters, sets and ifs, its size -/
inductive StD : Nat → PyData → Nat → Nat → Nat → Nat → Prop where
  | read {n : Nat} {r x : Str} (hr : r ∈ regs4) (hx : x ∈ cells3) : StD n (.tuple [.str "read", .str r, .str x]) 0 0 0 1
  | write {n : Nat} {r x : Str} (hx : x ∈ cells3) (hr : r ∈ regs4) : StD n (.tuple [.str "write", .str x, .str r]) 0 0 0 1
  | copy {n : Nat} {r a : Str} (hr : r ∈ regs4) (ha : a ∈ regs4) : StD n (.tuple [.str "copy", .str r, .str a]) 0 0 0 1
  | letter {n : Nat} {w r : Str} (hw : w = "get" ∨ w = "put") (hr : r ∈ regs4) : StD n (.tuple [.str w, .str r]) 1 0 0 1
  | set {n : Nat} {r f : Str} {as : List Str} (hr : r ∈ regs4) (hf : f = "f" ∨ f = "g") (ha : ∀ a ∈ as, a ∈ regs4) (hl : as.length ≤ 2) : StD n (.tuple [.str "set", .str r, .str f, .tuple (as.map PyData.str)]) 0 1 0 1
  | iff {n : Nat} {p r : Str} {ys ns : List PyData} {l1 s1 t1 z1 l2 s2 t2 z2 : Nat} (hp : p = "p" ∨ p = "q") (hr : r ∈ regs4) (hy : CoD n ys l1 s1 t1 z1) (hyl : ys.length ≤ 2) (hn : CoD n ns l2 s2 t2 z2) (hnl : ns.length ≤ 2) :
      StD (n + 1) (.tuple [.str "if", .str p, .str r, .tuple ys, .tuple ns]) (l1 + l2) (s1 + s2) (t1 + t2 + 1) (z1 + z2 + 1)
inductive CoD : Nat → List PyData → Nat → Nat → Nat → Nat → Prop where
  | nil {n : Nat} : CoD n [] 0 0 0 0
  | cons {n : Nat} {d : PyData} {ds : List PyData} {l s t z l' s' t' z' : Nat} (h : StD n d l s t z) (r : CoD n ds l' s' t' z') : CoD n (d :: ds) (l + l') (s + s') (t + t') (z + z')
end
theorem CoD.snoc {n : Nat} {d : PyData} {l' s' t' z' : Nat} (x : StD n d l' s' t' z') : ∀ {ds : List PyData} {l s t z : Nat}, CoD n ds l s t z → CoD n (ds ++ [d]) (l + l') (s + s') (t + t') (z + z')
  | _, _, _, _, _, .nil => by
    have := CoD.cons x .nil
    simpa using this
  | _, _, _, _, _, .cons h r => by
    have q := CoD.cons h (CoD.snoc x r)
    simpa [Nat.add_assoc] using q
/-- all but two is as it was -/
def But2 (a b : Addr) (H H' : Hp) : Prop := ∀ c o, c ≠ a → c ≠ b → H c = some o → H' c = some o
theorem But2.trans {a b : Addr} {H H1 H2 : Hp} (x : But2 a b H H1) (y : But2 a b H1 H2) : But2 a b H H2 := fun c o h1 h2 e => y c o h1 h2 (x c o h1 h2 e)
theorem But.two {a b : Addr} {H H' : Hp} (x : But a H H') : But2 a b H H' := fun c o h1 _ e => x c o h1 e
theorem Same.two {a b : Addr} {H H' : Hp} (x : Same H H') : But2 a b H H' := fun c o _ _ e => x c o e
/-- the room that is left -/
def RoomL (H : Hp) (q : Addr) (l s t : Nat) : Prop := H q = some (.lst [.int l, .int s, .int t])
def spState (n : Nat) : Sp := fun vs H Q _ => ∃ (d q : Addr) (l s t : Nat), vs = [.ref d, .ref q, .int n] ∧ Dice H d ∧ RoomL H q l s t ∧ d ≠ q ∧ ∀ H' v e l1 s1 t1 z1, But2 d q H H' → Dice H' d → StD n e l1 s1 t1 z1 → l1 ≤ l → s1 ≤ s → t1 ≤ t → RoomL H' q (l - l1) (s - s1) (t - t1) →
  Dt (fun b => H b = none) H' v e → Q v H'
def spCodeAt : Nat → Sp
  | 0 => fun _ _ _ _ => False
  | n + 1 => fun vs H Q _ => ∃ (d q : Addr) (m l s t : Nat), vs = [.ref d, .int m, .ref q, .int n] ∧ m ≤ 100 ∧ Dice H d ∧ RoomL H q l s t ∧ d ≠ q ∧ ∀ H' v ds l1 s1 t1 z1, But2 d q H H' → Dice H' d → CoD n ds l1 s1 t1 z1 → ds.length ≤ m → l1 ≤ l → s1 ≤ s → t1 ≤ t → RoomL H' q (l - l1) (s - s1) (t - t1) →
    Dt (fun b => H b = none) H' v (.tuple ds) → Q v H'
section
variable {P : Program} {w : World} {K : PySem.W.Frag} {mg : Str → Option Value} {base : Heap} {f fR fO fC fS : Addr} {fd fdR fdO dC dS : FuncData}
/-- the functions of the dice -/
structure DiceF (K : PySem.W.Frag) (mg : Str → Option Value) (fR fO : Addr) (fdR fdO : FuncData) : Prop where
  FR : Fun K "_law_roll" "_law_roll" sRoll fR fdR
  FO : Fun K "_law_one_of" "_law_one_of" sOneOf fO fdO
  gR : mg "_law_roll" = some (.ref fR)
  gO : mg "_law_one_of" = some (.ref fO)
  bR : Binds K fdR ["_law_dice_here", "_law_total"] []
  bO : Binds K fdO ["_law_dice_here", "_law_items"] []
  T : TxtD mg
end
end OM

namespace OM
open PySem PySem.Spec PyProof.Rows L2
/-- one of some texts, in a list just made -/
theorem one_str {K : PySem.W.Frag} {G : Hp} {d p : Addr} {ws : List Str} {Q : VK} {E : XK} (hd : Dice G d) (hp : G p = none) (h0 : 0 < ws.length) (hl : ws.length ≤ 1000) (q : ∀ G' x, x ∈ ws → But d G G' → Dice G' d → Q (.str x) G') :
    spOneOf K [.ref d, .ref p] (upd G p (.lst (ws.map V.str))) Q E := by
  have s := same_upd (o := .lst (ws.map V.str)) hp
  have pd : p ≠ d := fun z => hd.ne (by rw [← z]; exact hp)
  refine ⟨d, p, ws.map V.str, rfl, ?_, SqL.of upd_same, fun _ => pd, by rw [List.length_map]; exact h0, by rw [List.length_map]; omega, fun G' i v hv b hd' => ?_⟩
  · obtain ⟨a1, a2, a3, e⟩ := hd
    exact ⟨a1, a2, a3, s _ _ e⟩
  · rw [List.getElem?_map] at hv
    obtain ⟨x, hx, rfl⟩ := Option.map_eq_some_iff.mp hv
    exact q G' x (List.mem_of_getElem? hx) (fun c o h e => b c o h (s c o e)) hd'
theorem But.trans' {a : Addr} {H H1 H2 : Hp} (x : But a H H1) (y : But a H1 H2) : But a H H2 := fun c o h1 e => y c o h1 (x c o h1 e)
theorem Same.but' {a : Addr} {H H' : Hp} (x : Same H H') : But a H H' := fun c o _ e => x c o e
theorem cutP {A B : Prop} (f : B → A) (b : B) : A := f b
theorem reg4 {x : Str} (h : x ∈ (["a", "b", "r", "x"] : List Str)) : x ∈ regs4 := h
theorem dt_strs {S : Addr → Prop} {G : Hp} : ∀ as : List Str, DtAll S G (as.map V.str) (as.map PyData.str)
  | [] => .nil
  | a :: as => .cons (.at (.str _)) (dt_strs as)
theorem pq_of {x : Str} (h : x ∈ (["p", "p", "q"] : List Str)) : x = "p" ∨ x = "q" := by
  rcases List.mem_cons.mp h with h | h
  · exact .inl h
  rcases List.mem_cons.mp h with h | h
  · exact .inl h
  · exact .inr (List.mem_singleton.mp h)
theorem two_of {x a b : Str} (h : x ∈ [a, b]) : x = a ∨ x = b := by
  rcases List.mem_cons.mp h with h | h
  · exact .inl h
  · exact .inr (List.mem_singleton.mp h)
theorem cell4 {x : Str} (h : x ∈ (["x", "y", "x", "zz"] : List Str)) : x ∈ cells3 := by
  rcases List.mem_cons.mp h with rfl | h
  · exact .head _
  rcases List.mem_cons.mp h with rfl | h
  · exact .tail _ (.head _)
  rcases List.mem_cons.mp h with rfl | h
  · exact .head _
  rcases List.mem_cons.mp h with rfl | h
  · exact .tail _ (.tail _ (.head _))
  cases h
section
variable {P : Program} {w : World} {K : PySem.W.Frag} {mg : Str → Option Value} {base : Heap} {f fR fO fC : Addr} {fd fdR fdO dC : FuncData}
end
end OM

namespace OM
open PySem PySem.Spec PyProof.Rows L2
section
variable {P : Program} {w : World} {K : PySem.W.Frag} {mg : Str → Option Value} {base : Heap} {fR fO fC fS : Addr} {fdR fdO dC dS : FuncData}
end
end OM

namespace OM
open PySem PySem.Spec PyProof.Rows L2
/-- a drawn stretch: its code within its room, its kept registers apart and in order -/
def spStretch : Sp := fun vs H Q _ => ∃ (d : Addr) (m l t : Nat), vs = [.ref d, .int m, .int l, .int t] ∧ m ≤ 100 ∧ Dice H d ∧ ∀ H' v ds l1 s1 t1 z1 (ks : List Str), But d H H' → Dice H' d → CoD 2 ds l1 s1 t1 z1 → ds.length ≤ m → l1 ≤ l → s1 ≤ 3 → t1 ≤ t →
  sortedS ks = true → ks.Nodup → (∀ k ∈ ks, k ∈ regs4) → Dt (fun b => H b = none) H' v (.tuple [.tuple ds, .tuple (ks.map PyData.str)]) → Q v H'
def unS : V → Str
  | .str x => x
  | _ => ""
theorem perm_strs {ys : List V} {ws : List Str} (h : ys.Perm (ws.map V.str)) : ∃ xs : List Str, ys = xs.map V.str ∧ xs.Perm ws := by
  refine ⟨ys.map unS, ?_, ?_⟩
  · rw [List.map_map]
    have : ys.map (V.str ∘ unS) = ys.map id := List.map_congr_left fun y hy => by
      obtain ⟨x, _, rfl⟩ := List.mem_map.mp (h.mem_iff.mp hy)
      rfl
    rw [this, List.map_id]
  · have q := h.map unS
    rw [List.map_map] at q
    have : ws.map (unS ∘ V.str) = ws.map id := List.map_congr_left fun y _ => rfl
    rw [this, List.map_id] at q
    exact q
theorem cut_strs (ws : List Str) (lo hi : Option Int) : ∃ xs : List Str, cutV (ws.map V.str) lo hi = xs.map V.str ∧ xs.Sublist ws := by
  unfold cutV
  rw [← List.map_drop, ← List.map_take]
  exact ⟨_, rfl, (List.take_sublist _ _).trans (List.drop_sublist _ _)⟩
theorem regs4_nodup : regs4.Nodup := by decide +kernel
section
variable {P : Program} {w : World} {K : PySem.W.Frag} {mg : Str → Option Value} {base : Heap} {f fR fO fC fS fM : Addr} {fd fdR fdO dC dS dM : FuncData}
end
end OM

/-! sets of texts: their members as a list without repeats -/
namespace OM
open PySem PySem.Spec PyProof.Rows L2
/-- the text of an entry -/
def keyT : Int × Value → Str
  | (_, .str x _) => x
  | _ => ""
/-- an entry that is a text -/
def IsTx (w : World) (e : Int × Value) : Prop := ∃ x tk, e = (hashStr w x, Value.str x tk)
structure TabX (w : World) (es : Array (Int × Value)) (t : SetTable) (L : List Str) : Prop where
  tx : ∀ e ∈ es.toList, IsTx w e
  pm : (es.toList.map keyT).Perm L
  nd : L.Nodup
  few : L.length < scanBound
  fit : t.fits es.size = true
  ris : Ris t.place.toList
  led : w.params.followText "set-order" = true ∨ t.led = true
def SetTx (w : World) (h : Heap) (a : Addr) (L : List Str) : Prop := ∃ o es ep t, h.get? a = some o ∧ o.ExactSet ∧ o.data = .set es ep t ∧ TabX w es t L
def addX (L : List Str) (x : Str) : List Str := if x ∈ L then L else x :: L
section
variable {P : Program} {w : World} {h h' : Heap} {a : Addr} {L : List Str} {es : Array (Int × Value)} {t : SetTable}
theorem TabX.size (T : TabX w es t L) : es.size = L.length := by
  have e := T.pm.length_eq
  rw [List.length_map, Array.length_toList] at e
  exact e
theorem TabX.bound (T : TabX w es t L) : es.size < scanBound := by
  rw [T.size]
  exact T.few
theorem SetTx.mv (R : SetTx w h a L) (k : ∀ o, h.get? a = some o → h'.get? a = some o) : SetTx w h' a L :=
  let ⟨o, es, ep, t, ho, r⟩ := R
  ⟨o, es, ep, t, k o ho, r⟩
theorem tx_elems {l : List (Int × Value)} (g : ∀ e ∈ l, IsTx w e) : ElemsOf (strKind P w) l := by
  intro e he
  obtain ⟨x, tk, rfl⟩ := g e he
  exact ⟨⟨x, beq_self_eq_true x, rfl⟩, rfl⟩
theorem tx_is {e : Int × Value} (g : IsTx w e) (x : Str) : (strKind P w).is x e.2 = true ↔ keyT e = x := by
  obtain ⟨y, tk, rfl⟩ := g
  exact beq_iff_eq (a := y) (b := x)
theorem tx_mem {l : List (Int × Value)} (g : ∀ e ∈ l, IsTx w e) (x : Str) : x ∈ l.map keyT ↔ ∃ e ∈ l, (strKind P w).is x e.2 = true := by
  rw [List.mem_map]
  exact ⟨fun ⟨e, he, q⟩ => ⟨e, he, (tx_is (g e he) x).mpr q⟩, fun ⟨e, he, q⟩ => ⟨e, he, (tx_is (g e he) x).mp q⟩⟩
theorem SetTx.of (R : SetTx w h a L) : h.SetOf (strKind P w) a (fun x => decide (x ∈ L)) L.length := by
  obtain ⟨o, es, ep, t, ho, hx, hd, T⟩ := R
  exact ⟨o, es, ep, t, ho, hx, hd, tx_elems T.tx, fun x => by rw [decide_eq_true_iff, ← T.pm.mem_iff, tx_mem T.tx], T.bound, T.fit, T.size⟩
end
section
variable {P : Program} {w : World} {A : Around} {E : Value → Shared → Prop} {s : Shared} {a : Addr} {L : List Str}
/-- a table that is put in, and laid anew where it is too full -/
theorem tx_stored {g : Bool → Sem Unit} (quiet : ∀ b s1 (Z : Unit → Shared → Prop), Z () s1 → wpAny (model P w) A (g b) Z E s1) {o : Obj} {es : Array (Int × Value)} {ep : Nat} {t : SetTable} (at_ : s.heap.get? a = some o) (hex : o.ExactSet) (hd : o.data = .set es ep t)
    {es1 : Array (Int × Value)} {t2 : SetTable} {L' : List Str} (T : TabX w es1 t2 L') {wasDummy : Bool} {R : Option Bool → Shared → Prop} (fin : ∀ h', Heap.SameBut a s.heap h' → SetTx w h' a L' → R (some true) { s with heap := h' }) :
    wpAny (model P w) A (storeSet a es1 t2 >>= fun _ => if (!wasDummy && t2.tooFull) = true then (g (relayAll t2 es1 (SetTable.grown es1.size)).2.2 >>= fun _ => storeSet a (relayAll t2 es1 (SetTable.grown es1.size)).1 (relayAll t2 es1 (SetTable.grown es1.size)).2.1 >>= fun _ => pure (some true)) else pure (some true)) R E s := by
  have one := store_at (es' := es1) (t' := t2) at_ hd
  have b1 := Heap.SameBut.update s.heap a (Obj.putSet es1 t2)
  refine wpAny_bind (wpAny_storeSet_of at_ hd ?_ (fits_of_scanBound T.bound))
  by_cases full : (!wasDummy && t2.tooFull) = true
  · rw [if_pos full]
    have q1 := relayAll_perm t2 es1 (SetTable.grown es1.size)
    have q2 := relayAll_fits t2 es1 (SetTable.grown es1.size)
    have q3 := relayAll_ris t2 es1 (SetTable.grown es1.size)
    have q4 := relayAll_led t2 es1 (SetTable.grown es1.size)
    revert q1 q2 q3 q4
    rcases relayAll t2 es1 (SetTable.grown es1.size) with ⟨es2, t3, gave⟩
    intro q1 q2 q3 q4
    have T3 : TabX w es2 t3 L' := ⟨fun e he => T.tx e (q1.mem_iff.mp he), (q1.map keyT).trans T.pm, T.nd, T.few, q2, q3, T.led.imp id fun z => q4.trans z⟩
    refine wpAny_bind (quiet _ _ _ (wpAny_bind (wpAny_storeSet_of one rfl ?_ (fits_of_scanBound T3.bound))))
    exact wpAny_pure (fin _ (b1.trans (Heap.SameBut.update _ a _)) ⟨_, es2, _, t3, store_at (es' := es2) (t' := t3) one rfl, hex, rfl, T3⟩)
  · rw [if_neg full]
    exact wpAny_pure (fin _ b1 ⟨_, es1, _, t2, one, hex, rfl, T⟩)
theorem TabX.more {es es1 : Array (Int × Value)} {t t1 : SetTable} {x : Str} {tk : Tok} (T : TabX w es t L) (new : x ∉ L) (room : L.length + 1 < scanBound) (pm : es1.toList.Perm (es.push (hashStr w x, Value.str x tk)).toList) (f : t1.fits es1.size = true) (r : Ris t1.place.toList) (l : t1.led = t.led) : TabX w es1 t1 (x :: L) := by
  rw [Array.toList_push] at pm
  have pc := pm.trans (List.perm_append_singleton _ _)
  refine ⟨fun e he => ?_, (pc.map keyT).trans (T.pm.cons x), List.nodup_cons.mpr ⟨new, T.nd⟩, room, f, r, T.led.imp id fun z => l.trans z⟩
  rcases List.mem_cons.mp (pc.mem_iff.mp he) with z | z
  · exact ⟨x, tk, z⟩
  · exact T.tx e z
theorem tx_hashed {x : Str} {tk : Tok} {Q : Bool → Shared → Prop} (R : SetTx w s.heap a L) (room : L.length + 1 < scanBound) (fin : ∀ b h', Heap.SameBut a s.heap h' → SetTx w h' a (addX L x) → Q b { s with heap := h' }) :
    wpAny (model P w) A (setAddHashed a (.str x tk) (hashStr w x)) Q E s := by
  have R0 := R
  obtain ⟨o, es, ep, t, at_, hex, hd, T⟩ := R
  have own : (strKind P w).is x (.str x tk) = true := beq_self_eq_true x
  have scan : (Value.str x tk).scannable = true := rfl
  have els : ElemsOf (strKind P w) es.toList := tx_elems T.tx
  unfold setAddHashed setAddHashedIn
  refine wpAny_holding <| wpAny_bind <| wpAny_setState_of at_ hd T.fit ?_
  dsimp only
  rw [byScan_of scan T.bound els]
  simp only [↓reduceIte]
  unfold setAddByScan
  refine wpAny_bind <| wpAny_bind <| wpAny_rule <| wpAny_bind <| wpAny_setScan_of own at_ hd T.fit els ?_
  cases look : List.findIdx? (fun e => (strKind P w).is x e.2) es.toList with
  | some j =>
    obtain ⟨hj, pj, _⟩ := List.findIdx?_eq_some_iff_getElem.mp look
    have old : x ∈ L := T.pm.mem_iff.mp ((tx_mem (P := P) T.tx x).mpr ⟨_, List.getElem_mem hj, pj⟩)
    dsimp only
    refine wpAny_pure <| wpAny_pure <| fin _ s.heap (Heap.SameBut.refl a s.heap) ?_
    unfold addX
    rw [if_pos old]
    exact R0
  | none =>
    have new : x ∉ L := fun z => by
      obtain ⟨e, he, q⟩ := (tx_mem (P := P) T.tx x).mp (T.pm.mem_iff.mpr z)
      exact absurd q (by rw [List.findIdx?_eq_none_iff.mp look e he]; exact Bool.false_ne_true)
    have ea : addX L x = x :: L := if_neg new
    rw [ea] at fin
    dsimp only
    have q1 := layNew_perm t es (hashStr w x) (.str x tk)
    have q2 := layNew_fits t es (hashStr w x) (.str x tk)
    have q3 := layNew_ris t es (hashStr w x) (.str x tk) T.ris
    have q4 := layNew_led t es (hashStr w x) (.str x tk)
    revert q1 q2 q3 q4
    rcases layNew t es (hashStr w x) (.str x tk) with ⟨es1, t1, wd, gave⟩
    intro q1 q2 q3 q4
    have T1 : TabX w es1 t1 (x :: L) := T.more new room q1 q2 q3 q4
    have quiet : ∀ (b : Bool) (s1 : Shared) (Z : Unit → Shared → Prop), Z () s1 → wpAny (model P w) A (match b with | true => rule "set.scan.the-table-gave-way" | false => pure ()) Z E s1 := fun b s1 Z z => by
      cases b
      · exact wpAny_pure z
      · exact wpAny_rule z
    dsimp only
    refine wpAny_bind (quiet _ _ _ ?_)
    split
    · refine wpAny_bind ?_
      rw [hashByValue_scannable 8 scan]
      refine wpAny_pure ?_
      refine tx_stored (L' := x :: L) quiet at_ hex hd ?_ fun h' sb r => by dsimp only; exact wpAny_pure (fin _ h' sb r)
      refine ⟨T1.tx, T1.pm, T1.nd, T1.few, ?_, ?_, ?_⟩
      · split
        · exact T1.fit
        · exact SetTable.fits_plain_off T1.fit
      · split <;> exact T1.ris
      · split <;> exact T1.led
    · refine wpAny_bind (wpAny_pure ?_)
      simp only [↓reduceIte]
      exact tx_stored quiet at_ hex hd T1 fun h' sb r => by dsimp only; exact wpAny_pure (fin _ h' sb r)
/-- a.add(x) -/
theorem tx_add {x : Str} {tk : Tok} {Q : Value → Shared → Prop} (R : SetTx w s.heap a L) (room : L.length + 1 < scanBound) (fin : ∀ h', Heap.SameBut a s.heap h' → SetTx w h' a (addX L x) → Q .none { s with heap := h', toks := s.toks + 1 }) : wpAny (model P w) A (call (.builtin "set.add") [.ref a, .str x tk]) Q E s := by
  have R0 : s.heap.SetOf (strKind P w) a _ _ := R.of
  refine wpAny_call_entry F.slot_set_add R0.typeIs F.entry_set_add ?_ (F.args_set_add_2 _ _)
  unfold Builtin.«set.add» Builtin.Frozenset.oneOther
  simp only [List.isEmpty_nil, bind_assoc]
  unfold Builtin.Frozenset.addrOf setAdd
  refine wpAny_bind <| wpAny_pure ?_
  try dsimp only
  refine wpAny_bind <| wpAny_pure ?_
  try dsimp only
  refine wpAny_bind <| wpAny_holding <| wpAny_bind <| (strKind P w).pyHash (k := x) (beq_self_eq_true x) ?_
  refine tx_hashed (s := { s with toks := s.toks + 1 }) R room fun b h' sb r => ?_
  show wpAny _ _ (ret Value.none) _ _ _
  exact wpAny_pure ⟨_, rfl, fin h' sb r⟩
theorem tx_fresh {h : Heap} (w : World) : SetTx w (h.push { cls := .type "set", dict := none, data := .set #[] 0 (.fresh 0 0 (!w.params.followText "set-order")) }) h.objs.size [] := by
  refine ⟨_, #[], 0, _, Heap.get?_push_size _ rfl, ⟨rfl, rfl, rfl⟩, rfl, ⟨(fun e he => by simp at he), .refl _, .nil, by decide, rfl, .nil, ?_⟩⟩
  show _ ∨ (!w.params.followText "set-order") = true
  cases w.params.followText "set-order"
  · exact .inr rfl
  · exact .inl rfl
end
/-! ### as tracked things -/
def SetTO (w : World) (a : Addr) (L : List Str) : HO := .ext fun h => SetTx w h a L
theorem txo_new {w : World} {P : Program} {H : Hp} {h : Heap} {a : Addr} {L : List Str} (R : SetTx w h a L) : ObjOk P w H h a (SetTO w a L) := by
  have ⟨o, _, _, _, ho, _⟩ := R
  exact ⟨R, ⟨o, ho⟩, fun h1 h2 p k => SetTx.mv p k⟩
section
variable {X : Cx} {pins : List (Addr × Obj)} {σ : L2.St} {H : Hp} {s : Shared} {D : Addr} {L : List Str}
theorem txo_get (I : Inv X pins σ H s) (ha : H D = some (SetTO X.w D L)) : SetTx X.w s.heap D L := (I.hok D _ ha).1
theorem tx_add_ok {E : Value → Shared → Prop} {x : Str} {tk : Tok} {Q : Value → Shared → Prop} (I : Inv X pins σ H s) (hD : H D = some (SetTO X.w D L)) (room : L.length + 1 < scanBound) (h : ∀ s', Inv X pins σ (upd H D (SetTO X.w D (addX L x))) s' → Q .none s') :
    wpAny (model X.prog X.w) X.A (call (.builtin "set.add") [.ref D, .str x tk]) Q E s := by
  refine tx_add (txo_get I hD) room fun h' sb new => ?_
  have he : ∃ u, h'.get? D = some u := by
    have ⟨o, _, _, _, ho, _⟩ := new
    exact ⟨o, ho⟩
  exact h _ (I.write (e := D) (t' := s.toks + 1) (by rw [hD]; trivial) (.inl rfl) (fun b u hb hu => (sb.2 b hb).trans hu) he (txo_new new))
end
end OM

/-! comprehensions that make a set of texts, with one for or two -/
namespace OM
open PySem PySem.Spec PyProof.Rows L2
section
variable {prog : Program} {w : World} {A : Around} {R : Result → Shared → Prop} {s : Shared} {env : Env}
/-- the tests of a clause -/
def testsOf (ifs : List Expr) (env : Env) : Sem Bool := forIn ifs true fun c r => if r = true then do let ok ← isTrue c env (eval c env); pure (ForInStep.yield ok) else pure (ForInStep.yield r)
/-- a turn of any comprehension, by what its emission does -/
def turnOf (e : Expr) (d : Nat) (it acc : Value) (env : Env) (ip : Pos) (tgt : Expr) (ifs : List Expr) (emit : Sem Fin → Sem Fin) : Sem Fin := do
  standAt ip
  match ← pyNext it with
  | none => pure (.done .next)
  | some v =>
    letOwnedTupleGo tgt it v
    assign tgt env v
    let ok ← testsOf ifs env
    if ok then emit (again (.compLoop e d it acc env)) else again (.compLoop e d it acc env)
theorem loop_any {elt : Expr} {gens : List Comprehension} {scope : Scope} {pos : Pos} {d : Nat} {it acc : Value} {ip : Pos} {tgt : Expr} {ifs : List Expr} {emit : Sem Fin → Sem Fin} {em : (Shared → Prop) → Shared → Prop} (hem : ∀ (k : Sem Fin) (Z : Fin → Shared → Prop) (s : Shared) (Y : Shared → Prop), em Y s → (∀ s', Y s' → wpAny (model prog w) A k Z (notedBy (model prog w) A env fun e s' => R (.error e) s') s') → wpAny (model prog w) A (emit k) Z (notedBy (model prog w) A env fun e s' => R (.error e) s') s) (ht : compTurn (.SetComp elt gens scope pos) d it acc env = turnOf (.SetComp elt gens scope pos) d it acc env ip tgt ifs emit) (I : Nat → Shared → Prop)
    (turn : ∀ n s, I n s → wpAny (model prog w) A (pyNext it) (fun r s1 => match r with
      | none => R (.ok .next) s1
      | some v => wpAny (model prog w) A (letOwnedTupleGo tgt it v) (fun _ s2 => wpAny (model prog w) A (assign tgt env v) (fun _ s3 => wpAny (model prog w) A (testsOf ifs env) (fun ok s4 => if ok = true then em (fun s5 => ∃ m, m < n ∧ I m s5) s4 else ∃ m, m < n ∧ I m s4)
          (notedBy (model prog w) A env fun e s' => R (.error e) s') s3) (notedBy (model prog w) A env fun e s' => R (.error e) s') s2) (notedBy (model prog w) A env fun e s' => R (.error e) s') s1) (notedBy (model prog w) A env fun e s' => R (.error e) s') s)
    (n : Nat) (h : I n s) : codeAny (model prog w) A (.compLoop (.SetComp elt gens scope pos) d it acc env) R s := by
  have up : ∀ {x : Value} {s' : Shared}, notedBy (model prog w) A env (fun e s' => R (.error e) s') x s' → notedBy (model prog w) A env (fun e s' => R (.error e) s') x s' := id
  refine codeAny_loop rfl I (fun n s hI => ?_) n h
  show wpAny _ A ((compTurn (.SetComp elt gens scope pos) d it acc env).onRaise fun x => do noteFrame x env; theTreesLotGoes x) _ _ s
  refine wpAny_noted ?_
  rw [ht]
  refine wpAny_bind <| wpAny_standAt <| wpAny_bind <| wpAny_mono (turn n s hI) (fun r s1 h1 => ?_) fun _ _ => up
  cases r with
  | none => exact wpAny_pure h1
  | some v =>
    refine wpAny_bind <| wpAny_mono h1 (fun _ s2 h2 => ?_) fun _ _ => up
    refine wpAny_bind <| wpAny_mono h2 (fun _ s3 h3 => wpAny_bind <| wpAny_mono h3 (fun ok s4 h4 => ?_) fun _ _ => up) fun _ _ => up
    cases ok with
    | false => exact wpAny_pure ⟨rfl, h4⟩
    | true => exact hem _ _ _ _ h4 fun s5 h5 => wpAny_pure ⟨rfl, h5⟩
theorem start_any {elt : Expr} {gens : List Comprehension} {scope : Scope} {pos : Pos} {d : Nat} {it acc : Value} {g : Comprehension} (hg : gens[d]? = some g) (na : (g.is_async != 0) = false) (h0 : codeAny (model prog w) A (.compLoop (.SetComp elt gens scope pos) d it acc env) R s)
    (h : wpAny (model prog w) A (pyIter it) (fun it' s' => codeAny (model prog w) A (.compLoop (.SetComp elt gens scope pos) d it' acc env) R s') (notedBy (model prog w) A env fun x s' => R (.error x) s') s) : codeAny (model prog w) A (.compStart (.SetComp elt gens scope pos) d it acc env) R s := by
  refine codeAny_of_tree ?_
  show wpAny _ _ ((compStart (.SetComp elt gens scope pos) d it acc env).onRaise fun x => do noteFrame x env; standAt theWindowsPlace) _ _ s
  refine wpAny_notedAt ?_
  unfold compStart
  show wpAny _ _ (do if (gens[d]?).elim false (·.is_async != 0) then _ else _) _ _ s
  rw [hg]
  simp only [Option.elim, na, Bool.false_eq_true, if_false]
  refine wpAny_bind <| wpAny_askSetting <| ?_
  have hg' : (clausesOf (.SetComp elt gens scope pos))[d]? = some g := hg
  rw [hg']
  split
  · exact wpAny_pure ⟨rfl, h0⟩
  · refine wpAny_bind <| wpAny_rule ?_
    exact wpAny_bind <| wpAny_standAt <| wpAny_bind <| wpAny_mono h (fun it' s' h' => wpAny_pure ⟨rfl, h'⟩) fun _ _ z => z
end
end OM

namespace OM
open PySem PySem.Spec PyProof.Rows L2
section
variable {elt t0 i0 t1 i1 : Expr} {c0 c1 : List Expr} {scope : Scope} {pos : Pos}
def addS (elt : Expr) (acc : Value) (env : Env) (k : Sem Fin) : Sem Fin := do
  (do let v ← eval elt env; standAt elt.pos; let _ ← call (.builtin "set.add") [acc, v])
  k
def intoS (e : Expr) (i1 : Expr) (acc : Value) (env : Env) (k : Sem Fin) : Sem Fin := do
  let x ← eval i1 env
  standAt i1.pos
  let x ← foldedSetIterable i1 env x
  let _ ← runOwn (.compStart e 1 (← holding [x] (pyIter x)) acc env) env
  k
theorem turn_s1 (it acc : Value) (env : Env) : compTurn (.SetComp elt [⟨t0, i0, c0, 0⟩] scope pos) 0 it acc env = turnOf (.SetComp elt [⟨t0, i0, c0, 0⟩] scope pos) 0 it acc env i0.pos t0 c0 (addS elt acc env) := by rfl
theorem turn_s2 (it acc : Value) (env : Env) : compTurn (.SetComp elt [⟨t0, i0, c0, 0⟩, ⟨t1, i1, c1, 0⟩] scope pos) 0 it acc env = turnOf (.SetComp elt [⟨t0, i0, c0, 0⟩, ⟨t1, i1, c1, 0⟩] scope pos) 0 it acc env i0.pos t0 c0 (intoS (.SetComp elt [⟨t0, i0, c0, 0⟩, ⟨t1, i1, c1, 0⟩] scope pos) i1 acc env) := by rfl
theorem turn_s2in (it acc : Value) (env : Env) : compTurn (.SetComp elt [⟨t0, i0, c0, 0⟩, ⟨t1, i1, c1, 0⟩] scope pos) 1 it acc env = turnOf (.SetComp elt [⟨t0, i0, c0, 0⟩, ⟨t1, i1, c1, 0⟩] scope pos) 1 it acc env i1.pos t1 c1 (addS elt acc env) := by rfl
end
/-- what an emission asks -/
def emS (P : Program) (w : World) (A : Around) (E : Value → Shared → Prop) (elt : Expr) (acc : Value) (env : Env) (Y : Shared → Prop) (s : Shared) : Prop := wpAny (model P w) A (eval elt env) (fun x s1 => wpAny (model P w) A (call (.builtin "set.add") [acc, x]) (fun _ s2 => Y s2) E s1) E s
def emI (P : Program) (w : World) (A : Around) (E : Value → Shared → Prop) (e i1 : Expr) (acc : Value) (env : Env) (Y : Shared → Prop) (s : Shared) : Prop := wpAny (model P w) A (eval i1 env) (fun x s1 => wpAny (model P w) A (pyIter x) (fun it s2 => codeAny (model P w) A (.compStart e 1 it acc env) (fun r s3 => match r with
  | .ok _ => Y s3
  | .error _ => False) s2) E s1) E s
section
variable {prog : Program} {w : World} {A : Around} {env : Env} {E : Value → Shared → Prop}
theorem emS_ok {elt : Expr} {acc : Value} (k : Sem Fin) (Z : Fin → Shared → Prop) (s : Shared) (Y : Shared → Prop) (h : emS prog w A E elt acc env Y s) (hk : ∀ s', Y s' → wpAny (model prog w) A k Z E s') : wpAny (model prog w) A (addS elt acc env k) Z E s :=
  wpAny_bind <| wpAny_bind <| wpAny_mono h (fun x s1 h1 => wpAny_bind <| wpAny_standAt <| wpAny_bind <| wpAny_mono h1 (fun _ s2 h2 => wpAny_pure (hk s2 h2)) fun _ _ z => z) fun _ _ z => z
theorem emI_ok {e i1 : Expr} {acc : Value} (hs : ∀ x, foldedSetIterable i1 env x = pure x) (k : Sem Fin) (Z : Fin → Shared → Prop) (s : Shared) (Y : Shared → Prop) (h : emI prog w A E e i1 acc env Y s) (hk : ∀ s', Y s' → wpAny (model prog w) A k Z E s') : wpAny (model prog w) A (intoS e i1 acc env k) Z E s := by
  refine wpAny_bind <| wpAny_mono h (fun x s1 h1 => ?_) fun _ _ z => z
  refine wpAny_bind <| wpAny_standAt <| wpAny_bind <| wpAny_of_eq (hs x) <| wpAny_bind <| wpAny_holding <| wpAny_mono h1 (fun it s2 h2 => ?_) fun _ _ z => z
  refine wpAny_bind <| wpAny_runOwn ?_
  rw [Around.mark_none]
  refine codeAny_mono h2 fun r s3 hr => ?_
  cases r with
  | ok f => exact hk s3 hr
  | error x => exact hr.elim
end
section
variable {X : Cx}
/-- σ' knows what σ knows -/
def Knows (σ σ' : L2.St) : Prop := σ.length = σ'.length ∧ ∀ (j : Nat) v, σ[j]? = some (some v) → σ'[j]? = some (some v)
/-- a loop of a block over what T walks -/
theorem blk_loop {s3 : Shared} {H3 : Hp} {scope : Scope} {ce : Env} {fp0 : List Addr} {pins : List (Addr × Obj)} {σ0 : L2.St} {elt tgt : Expr} {gens : List Comprehension} {pos ip : Pos} {d : Nat} {ifs : List Expr} {it : Addr} {acc : Value} {emit : Sem Fin → Sem Fin} {em : (Shared → Prop) → Shared → Prop} {R : Result → Shared → Prop} {fp : List Addr} {tn : Nat → Heap → Prop} {J : It} {g : TG} {tt : TT} {emH : L2.St → Hp → (Hp → Prop) → Prop} {kn : L2.St → Prop} (hkn : ∀ σ2, kn σ2 → Knows σ0 σ2)
    (hc : X.calm = true) (T : Turn X.prog X.w X.K tgt J fp it tn) (stat : ∀ {H' : Hp}, (∀ b ∈ fp, H' b = none) → ∀ b ∈ fp, FpOk (X.blk s3 H3 scope ce fp0) pins H' b) (pg : PG (X.blk s3 H3 scope ce fp0) tgt g) (pt : PTs (X.blk s3 H3 scope ce fp0) ifs tt)
    (hem : ∀ (k : Sem Fin) (Z : Fin → Shared → Prop) (s : Shared) (Y : Shared → Prop), em Y s → (∀ s', Y s' → wpAny (model X.prog X.w) X.A k Z (notedBy (model X.prog X.w) X.A ce fun e s' => R (.error e) s') s') → wpAny (model X.prog X.w) X.A (emit k) Z (notedBy (model X.prog X.w) X.A ce fun e s' => R (.error e) s') s)
    (ht : compTurn (.SetComp elt gens scope pos) d (.ref it) acc ce = turnOf (.SetComp elt gens scope pos) d (.ref it) acc ce ip tgt ifs emit) {W : Nat → Nat → Hp → Prop} {Z : Hp → Prop}
    (turn : ∀ i m H, W i m H → (J.stop i H ∧ Z H) ∨ (J.go i H ∧ ∃ Nx : Hp → Prop, (∀ H', Nx H' → ∃ m', m' < m ∧ W (i + 1) m' H') ∧ ∀ x H', J.yld i H x H' → g x σ0 H' fun σ2 H2 => kn σ2 ∧ tt σ2 H2 fun b H4 => if b = true then emH σ2 H4 Nx else Nx H4))
    (emM : ∀ {Y Y' : Shared → Prop} {s : Shared}, em Y s → (∀ s', Y s' → Y' s') → em Y' s) (emR : ∀ (σ2 : L2.St) (H4 : Hp) (Nx : Hp → Prop) (s : Shared) (pl : List (Addr × Obj)), Inv (X.blk s3 H3 scope ce fp0) (pins ++ pl) σ2 H4 s → Knows σ0 σ2 → emH σ2 H4 Nx → em (fun s' => ∃ σ' H', Inv (X.blk s3 H3 scope ce fp0) (pins ++ pl) σ' H' s' ∧ Knows σ0 σ' ∧ Nx H') s)
    (fin : ∀ s' H', Inv (X.blk s3 H3 scope ce fp0) pins σ0 H' s' → Z H' → R (.ok .next) s') {m0 : Nat} {H0 : Hp} {s : Shared} (I0 : Inv (X.blk s3 H3 scope ce fp0) pins σ0 H0 s) (st0 : tn 0 s.heap) (n0 : ∀ b ∈ fp, H0 b = none) (w0 : W 0 m0 H0) :
    codeAny (model X.prog X.w) X.A (.compLoop (.SetComp elt gens scope pos) d (.ref it) acc ce) R s := by
  refine loop_any hem ht (fun m s' => ∃ i H', Inv (X.blk s3 H3 scope ce fp0) pins σ0 H' s' ∧ tn i s'.heap ∧ (∀ b ∈ fp, H' b = none) ∧ W i m H') ?_ m0 ⟨0, H0, I0, st0, n0, w0⟩
  rintro m s5 ⟨i, H5, I5, st5, n5, w5⟩
  rcases turn i m H5 w5 with ⟨stop, z⟩ | ⟨go, Nx, hNx, step⟩
  · refine thnF (T.done (X.blk s3 H3 scope ce fp0) rfl rfl rfl hc i pins s5 σ0 H5 (fun _ _ => False) I5 (stat n5) st5 stop) fun r s6 ⟨hr, I6⟩ => ?_
    subst hr
    exact fin s6 H5 I6 z
  · refine thnF (T.item (X.blk s3 H3 scope ce fp0) rfl rfl rfl hc i pins s5 σ0 H5 (fun _ _ => False) I5 (stat n5) st5 go) fun r s6 ⟨u, hr, h6⟩ => ?_
    subst hr
    refine thnF h6 fun _ s7 ⟨x, H7, I7, r7, y7, st7, n7⟩ => ?_
    refine thnF (pg.run _ s7 σ0 H7 x u _ (I7.pinned (stat n7) (T.obj _ _ st7)) r7 (step x H7 y7)) fun _ s8 ⟨σ8, H8, I8, kn8, q8⟩ => ?_
    have hk8 := hkn σ8 kn8
    refine thnF (pt.run _ s8 σ8 H8 _ I8 q8) fun b s9 ⟨H9, I9, q9⟩ => ?_
    have back : ∀ {s' : Shared} {σ' : L2.St} {H' : Hp}, Inv (X.blk s3 H3 scope ce fp0) (pins ++ pinsAt fp s7.heap) σ' H' s' → σ0.length = σ'.length → (∀ (j : Nat) v, σ0[j]? = some (some v) → σ'[j]? = some (some v)) → Nx H' → ∃ m', m' < m ∧ ∃ i H', Inv (X.blk s3 H3 scope ce fp0) pins σ0 H' s' ∧ tn i s'.heap ∧ (∀ b ∈ fp, H' b = none) ∧ W i m' H' := by
      intro s' σ' H' I' hl hk nx
      obtain ⟨m', hm, w'⟩ := hNx H' nx
      have held : ∀ b ∈ fp, ∀ o, s7.heap.get? b = some o → s'.heap.get? b = some o ∧ H' b = none := fun b hb o e =>
        have z := I'.pin (b, o) (List.mem_append_right _ (List.mem_append_right _ (mem_pinsAt hb e)))
        ⟨z.1, z.2.1⟩
      exact ⟨m', hm, i + 1, H', I'.unpinned.weak hl hk, T.keep _ _ _ st7 fun b hb o e => (held b hb o e).1, fun b hb => let ⟨o, e, _⟩ := T.obj _ _ st7 b hb; (held b hb o e).2, w'⟩
    cases b with
    | false => exact back I9 hk8.1 hk8.2 q9
    | true =>
      exact emM (emR σ8 H9 Nx s9 _ I9 hk8 q9) fun s' ⟨σ', H', I', hk, nx⟩ => back I' hk.1 hk.2 nx
end
end OM

namespace OM
open PySem PySem.Spec PyProof.Rows L2
def goes (J : It) (W : Nat → Nat → Hp → Prop) (Z : Hp → Prop) (step : V → Hp → (Hp → Prop) → Prop) : Prop := ∀ i m H, W i m H → (J.stop i H ∧ Z H) ∨ (J.go i H ∧ ∃ Nx : Hp → Prop, (∀ H', Nx H' → ∃ m', m' < m ∧ W (i + 1) m' H') ∧ ∀ x H', J.yld i H x H' → step x H' Nx)
/-- a text comes into the set at D -/
def tInto (w : World) (D : Addr) (Nx : Hp → Prop) : VK := fun y H => ∃ x L, y = .str x ∧ H D = some (SetTO w D L) ∧ L.length + 1 < scanBound ∧ Nx (upd H D (SetTO w D (addX L x)))
/-- {elt for tg in iter if ..}, texts -/
def tSx (w : World) (wi : TI) (g : TG) (tt : TT) (te : TE) (vs : List Nat) : TE := fun σ H Q => wi σ H fun J H1 => ∀ D, H1 D = none → ∃ W : Nat → Nat → Hp → Prop, (∃ m, W 0 m (upd H1 D (SetTO w D []))) ∧ goes J W (fun H => Q (.ref D) H) fun x H' Nx => g x (wipe σ vs) H' fun σ2 H2 => wipe σ2 vs = wipe σ vs ∧ tt σ2 H2 fun b H3 => if b = true then te σ2 H3 (tInto w D Nx) else Nx H3
/-- .. with a second for, its names vs1 -/
def tSx2 (w : World) (wi : TI) (g : TG) (tt : TT) (wi1 : TI) (g1 : TG) (tt1 : TT) (te : TE) (vs vs1 : List Nat) : TE := fun σ H Q => wi σ H fun J H1 => ∀ D, H1 D = none → ∃ W : Nat → Nat → Hp → Prop, (∃ m, W 0 m (upd H1 D (SetTO w D []))) ∧ goes J W (fun H => Q (.ref D) H) fun x H' Nx => g x (wipe σ vs) H' fun σ2 H2 => wipe σ2 vs = wipe σ vs ∧ tt σ2 H2 fun b H3 => if b = true then
  wi1 σ2 H3 (fun J1 H4 => ∃ W1 : Nat → Nat → Hp → Prop, (∃ m, W1 0 m H4) ∧ goes J1 W1 Nx fun x H' Nx1 => g1 x (wipe σ2 vs1) H' fun σ3 H5 => wipe σ3 vs1 = wipe σ2 vs1 ∧ tt1 σ3 H5 fun b H6 => if b = true then te σ3 H6 (tInto w D Nx1) else Nx1 H6) else Nx H3
theorem wiped {σ σ2 : L2.St} {vs : List Nat} (h : wipe σ2 vs = wipe σ vs) : Knows (wipe σ vs) σ2 := by
  rw [← h]
  exact ⟨wipe_length _ _, fun j v e => (wipe_some e).1⟩
theorem Knows.tr {a b c : L2.St} (h : Knows a b) (k : Knows b c) : Knows a c := ⟨h.1.trans k.1, fun j v e => k.2 j v (h.2 j v e)⟩
section
variable {X : Cx} {elt tg iter tg1 iter1 : Expr} {ifs ifs1 : List Expr} {scope : Scope} {own : List (Str × Nat)} {vs1 : List Nat} {pos : Pos} {wi wi1 : TI} {g g1 : TG} {tt tt1 : TT} {te : TE}
/-- the innermost emission, within a block -/
theorem into_ok {s3 : Shared} {H3 : Hp} {ce : Env} {fp0 : List Addr} {pins : List (Addr × Obj)} {σ2 σ0 : L2.St} {H4 : Hp} {Nx : Hp → Prop} {s : Shared} {D : Addr} {E : Value → Shared → Prop} (pe : PE (X.blk s3 H3 scope ce fp0) elt te) (I : Inv (X.blk s3 H3 scope ce fp0) pins σ2 H4 s) (hk : Knows σ0 σ2) (h : te σ2 H4 (tInto X.w D Nx)) :
    emS X.prog X.w X.A E elt (.ref D) ce (fun s' => ∃ σ' H', Inv (X.blk s3 H3 scope ce fp0) pins σ' H' s' ∧ Knows σ0 σ' ∧ Nx H') s := by
  refine thnF (pe.run _ s σ2 H4 _ I h) fun z s1 ⟨y, H5, I5, r5, x, L, ey, hD, room, nx⟩ => ?_
  subst ey
  obtain ⟨tk, rfl⟩ := r5
  exact tx_add_ok (X := X.blk s3 H3 scope ce fp0) I5 hD room fun s6 I6 => ⟨σ2, _, I6, hk, nx⟩
theorem sx2_core {pins : List (Addr × Obj)} {s : Shared} {σ : L2.St} {H : Hp} {Q : VK} {pos' : Pos} {use : Option (Value → Sem Unit)} {Qf : Value → Shared → Prop} (hc : X.calm = true) (hN : X.N.Nodup) (I : Inv X pins σ H s) (hi : PI X tg iter wi) (ok : BlkOk X.N X.env.scope scope own) (hv : ∀ i ∈ vs1, i ∈ own.map (·.2))
    (hg : ∀ (s : Shared) (H : Hp) (C : Addr) (cl : List (Str × Addr)) (fp : List Addr), PG (X.blk s H scope (compEnvC scope cl C X.env) fp) tg g) (ht : ∀ (s : Shared) (H : Hp) (C : Addr) (cl : List (Str × Addr)) (fp : List Addr), PTs (X.blk s H scope (compEnvC scope cl C X.env) fp) ifs tt)
    (hi1 : ∀ (s : Shared) (H : Hp) (C : Addr) (cl : List (Str × Addr)) (fp : List Addr), PI (X.blk s H scope (compEnvC scope cl C X.env) fp) tg1 iter1 wi1) (hg1 : ∀ (s : Shared) (H : Hp) (C : Addr) (cl : List (Str × Addr)) (fp : List Addr), PG (X.blk s H scope (compEnvC scope cl C X.env) fp) tg1 g1)
    (ht1 : ∀ (s : Shared) (H : Hp) (C : Addr) (cl : List (Str × Addr)) (fp : List Addr), PTs (X.blk s H scope (compEnvC scope cl C X.env) fp) ifs1 tt1) (he : ∀ (s : Shared) (H : Hp) (C : Addr) (cl : List (Str × Addr)) (fp : List Addr), PE (X.blk s H scope (compEnvC scope cl C X.env) fp) elt te)
    (hs : ∀ x, foldedSetIterable iter X.env x = pure x) (hs1 : ∀ env x, foldedSetIterable iter1 env x = pure x) (h : tSx2 X.w wi g tt wi1 g1 tt1 te (own.map (·.2)) vs1 σ H Q)
    (hRR : ∀ D C s' m H', Inv X pins σ H' s' → Q (.ref D) H' → s'.heap.Ns C m → FpOk X pins H' C → compPost (model X.prog X.w) X.A X.xe use Qf (.ref D) C (.ok .next) s') :
    wpAny (model X.prog X.w) X.A (comprehension (.SetComp elt [⟨tg, iter, ifs, 0⟩, ⟨tg1, iter1, ifs1, 0⟩] scope pos) scope X.env pos' (newSet (.type "set")) false (eval iter X.env) use) Qf X.xe s := by
  have cells : ∀ y ∈ scope.names, y.2 = .free → ∃ c, X.env.cells.lookup y.1 = some c := fun y hy e => (ok.free y hy e).elim (fun k => I.ok.has _ (.inl k)) fun k => I.ok.has _ (.inr k)
  refine wpAny_comprehension_free (use := use) rfl hs (closure_ok cells) ok.kind (fun y hy e => by rw [ok.uniq y hy, e]) (thn (hi.run pins s σ H _ I h) fun xv s1 hx => thn hx fun itv s2 h2 => ?_)
  obtain ⟨it, fp, tn, J, H2, rfl, I2, T, st2, f2, q⟩ := h2
  refine PpSet.newSet_ok (newEnv_comp ?_)
  obtain ⟨D, hD⟩ : ∃ D, s2.heap.objs.size = D := ⟨_, rfl⟩
  obtain ⟨W, ⟨m0, w0⟩, turn⟩ := q D (I2.hok.fresh (Nat.le_of_eq hD))
  have fresh := tx_fresh (h := s2.heap) X.w
  rw [hD] at fresh ⊢
  obtain ⟨s3, es3⟩ : ∃ s3 : Shared, s3 = { s2 with heap := s2.heap.push { cls := .type "set", dict := none, data := .set #[] 0 (.fresh 0 0 (!X.w.params.followText "set-order")) } } := ⟨_, rfl⟩
  have h3 : s3.heap = s2.heap.push { cls := .type "set", dict := none, data := .set #[] 0 (.fresh 0 0 (!X.w.params.followText "set-order")) } := by rw [es3]
  have I3 : Inv X pins σ (upd H2 D (SetTO X.w D [])) s3 := by
    rw [es3]
    exact I2.laid (t' := s2.toks) (fun b o e => Heap.get?_push_of_some _ e) (Nat.le_of_eq hD) (txo_new fresh)
  rw [← es3]
  have f3 : ∀ b ∈ fp, FpOk X pins (upd H2 D (SetTO X.w D [])) b ∧ b < s3.heap.objs.size := fun b hb => by
    obtain ⟨o, e, _⟩ := T.obj _ _ st2 b hb
    have lt := Heap.lt_size e
    exact ⟨⟨by rw [upd_ne (by rw [← hD]; exact Nat.ne_of_lt lt)]; exact (f2 b hb).1, (f2 b hb).2⟩, by rw [h3, Heap.size_push]; exact Nat.lt_succ_of_lt lt⟩
  have st3 : tn 0 s3.heap := T.keep _ _ _ st2 fun b _ o e => by rw [h3]; exact Heap.get?_push_of_some _ e
  have I4 := block_start I3 ok hN f3
  have pg := hg s3 (upd H2 D (SetTO X.w D [])) s3.heap.objs.size (cellsFrom (s3.heap.objs.size + 1) scope.names (cloFrom X.env.cells scope.names [])) fp
  have pt := ht s3 (upd H2 D (SetTO X.w D [])) s3.heap.objs.size (cellsFrom (s3.heap.objs.size + 1) scope.names (cloFrom X.env.cells scope.names [])) fp
  have pe := he s3 (upd H2 D (SetTO X.w D [])) s3.heap.objs.size (cellsFrom (s3.heap.objs.size + 1) scope.names (cloFrom X.env.cells scope.names [])) fp
  have pi1 := hi1 s3 (upd H2 D (SetTO X.w D [])) s3.heap.objs.size (cellsFrom (s3.heap.objs.size + 1) scope.names (cloFrom X.env.cells scope.names [])) fp
  have pg1 := hg1 s3 (upd H2 D (SetTO X.w D [])) s3.heap.objs.size (cellsFrom (s3.heap.objs.size + 1) scope.names (cloFrom X.env.cells scope.names [])) fp
  have pt1 := ht1 s3 (upd H2 D (SetTO X.w D [])) s3.heap.objs.size (cellsFrom (s3.heap.objs.size + 1) scope.names (cloFrom X.env.cells scope.names [])) fp
  show codeAny _ _ (.compStart (.SetComp elt [⟨tg, iter, ifs, 0⟩, ⟨tg1, iter1, ifs1, 0⟩] scope pos) 0 (.ref it) (.ref D) (compEnvC scope (cellsFrom (s3.heap.objs.size + 1) scope.names (cloFrom X.env.cells scope.names [])) s3.heap.objs.size X.env)) (compPost (model X.prog X.w) X.A X.xe use Qf (.ref D) s3.heap.objs.size) { s3 with heap := pushCells (s3.heap.push { cls := .type "dict", data := .dict #[] }) scope.names }
  obtain ⟨ce, ece⟩ : ∃ ce, ce = compEnvC scope (cellsFrom (s3.heap.objs.size + 1) scope.names (cloFrom X.env.cells scope.names [])) s3.heap.objs.size X.env := ⟨_, rfl⟩
  have cL : ce.locals = s3.heap.objs.size := by rw [ece]; rfl
  obtain ⟨s4, es4⟩ : ∃ s4 : Shared, s4 = { s3 with heap := pushCells (s3.heap.push { cls := .type "dict", data := .dict #[] }) scope.names } := ⟨_, rfl⟩
  rw [← ece] at I4 pg pt pe pi1 pg1 pt1 ⊢
  rw [← es4] at I4 ⊢
  have st4 : tn 0 s4.heap := T.keep _ _ _ st3 fun b _ o e => by rw [es4]; exact pushCells_keeps _ _ _ _ (Heap.get?_push_of_some _ e)
  generalize upd H2 D (SetTO X.w D []) = H3 at w0 I3 f3 I4 pg pt pe pi1 pg1 pt1
  have stat : ∀ {H' : Hp}, (∀ b ∈ fp, H' b = none) → ∀ b ∈ fp, FpOk (X.blk s3 H3 scope ce fp) [] H' b := fun {H'} hn b hb =>
    ⟨hn b hb, (I4.ok.exf b hb).1, I4.ok.exfs b hb, .inl hb, fun x c e => (I4.ok.exf b hb).2 x c e, fun p hp => absurd (show p ∈ ([] : List (Addr × Obj)) ++ [] from hp) (by simp)⟩
  have loop : codeAny (model X.prog X.w) X.A (.compLoop (.SetComp elt [⟨tg, iter, ifs, 0⟩, ⟨tg1, iter1, ifs1, 0⟩] scope pos) 0 (.ref it) (.ref D) ce) (compPost (model X.prog X.w) X.A X.xe use Qf (.ref D) s3.heap.objs.size) s4 := by
    refine blk_loop (kn := fun σ2 => wipe σ2 (own.map (·.2)) = wipe σ (own.map (·.2))) (W := W) (Z := fun H => Q (.ref D) H) (g := g) (tt := tt) (em := emI X.prog X.w X.A (notedBy (model X.prog X.w) X.A ce fun e s' => compPost (model X.prog X.w) X.A X.xe use Qf (.ref D) s3.heap.objs.size (.error e) s') (.SetComp elt [⟨tg, iter, ifs, 0⟩, ⟨tg1, iter1, ifs1, 0⟩] scope pos) iter1 (.ref D) ce)
      (emH := fun σ2 H3 Nx => wi1 σ2 H3 fun J1 H4 => ∃ W1 : Nat → Nat → Hp → Prop, (∃ m, W1 0 m H4) ∧ goes J1 W1 Nx fun x H' Nx1 => g1 x (wipe σ2 vs1) H' fun σ3 H5 => wipe σ3 vs1 = wipe σ2 vs1 ∧ tt1 σ3 H5 fun b H6 => if b = true then te σ3 H6 (tInto X.w D Nx1) else Nx1 H6)
      (fun _ z => wiped z) hc T stat pg pt (emI_ok (hs1 ce)) (turn_s2 _ _ _) ?_ ?_ ?_ ?_ I4 st4 (fun b hb => (f3 b hb).1.1) w0
    · exact turn
    · intro Y Y' s h k
      exact wpAny_mono h (fun x s1 h1 => wpAny_mono h1 (fun it s2 h2 => codeAny_mono h2 fun r s3 z => by cases r with | ok f => exact k _ z | error x => exact z) fun _ _ z => z) fun _ _ z => z
    · intro σ2 H4 Nx s pl I' hk q2
      refine thnF (pi1.run _ s σ2 H4 _ I' q2) fun xv s10 hx => thnF hx fun itv s11 h11 => ?_
      obtain ⟨it1, fp1, tn1, J1, H11, rfl, I11, T1, st11, f11, W1, ⟨m1, w1⟩, turn1⟩ := h11
      have kw : Knows (wipe σ (own.map (·.2))) (wipe σ2 vs1) := ⟨hk.1.trans (wipe_length σ2 vs1).symm, fun j v e => by
        rw [wipe_out fun z => (wipe_some e).2 (hv j z)]
        exact hk.2 j v e⟩
      have loop1 : codeAny (model X.prog X.w) X.A (.compLoop (.SetComp elt [⟨tg, iter, ifs, 0⟩, ⟨tg1, iter1, ifs1, 0⟩] scope pos) 1 (.ref it1) (.ref D) ce) (fun r s' => match r with
          | .ok _ => ∃ σ' H', Inv (X.blk s3 H3 scope ce fp) ([] ++ pl) σ' H' s' ∧ Knows (wipe σ (own.map (·.2))) σ' ∧ Nx H'
          | .error _ => False) s11 := by
        refine blk_loop (kn := fun σ3 => wipe σ3 vs1 = wipe σ2 vs1) (pins := [] ++ pl) (σ0 := wipe σ2 vs1) (W := W1) (Z := Nx) (g := g1) (tt := tt1) (em := emS X.prog X.w X.A (notedBy (model X.prog X.w) X.A ce fun e s' => False) elt (.ref D) ce) (emH := fun σ3 H6 Nx1 => te σ3 H6 (tInto X.w D Nx1))
          (fun _ z => wiped z) hc T1 (fun {H'} hn b hb => ⟨hn b hb, (f11 b hb).2⟩) pg1 pt1 emS_ok (turn_s2in _ _ _) ?_ ?_ ?_ ?_ (I11.weak (wipe_length _ _) fun j v e => (wipe_some e).1) st11 (fun b hb => (f11 b hb).1) w1
        · exact turn1
        · intro Y Y' s h k
          exact wpAny_mono h (fun x s1 h1 => wpAny_mono h1 (fun _ s2 h2 => k _ h2) fun _ _ z => z) fun _ _ z => z
        · intro σ3 H6 Nx1 s pl1 I6 hk6 q6
          exact into_ok pe I6 hk6 q6
        · exact fun s' H' I' z => ⟨_, H', I', kw, z⟩
      exact start_any rfl rfl loop1 (T1.self X.A 0 _ _ _ st11 loop1)
    · intro s6 H5 I6 qq
      have I7 : Inv X pins σ H5 s6 := I3.call' (ch := fp) I6.os I6.base I6.hok I6.bare fun b hb => ⟨(f3 b hb).1.2.2.2.1, (f3 b hb).1.2.1, (f3 b hb).1.2.2.2.2.1, (f3 b hb).1.2.2.2.2.2⟩
      have nC : H5 s3.heap.objs.size = none := by
        rw [← cL]
        exact I6.free
      obtain ⟨m, hn, _⟩ := I6.loc
      have hn : s6.heap.Ns ce.locals m := hn
      rw [cL] at hn
      exact hRR D s3.heap.objs.size s6 m H5 I7 qq hn (I3.fpOk (Nat.le_refl _) nC)
  exact start_any rfl rfl loop (T.self X.A 0 _ _ _ st4 loop)
theorem pe_sx2 (hc : X.calm = true) (hN : X.N.Nodup) (hi : PI X tg iter wi) (ok : BlkOk X.N X.env.scope scope own) (hv : ∀ i ∈ vs1, i ∈ own.map (·.2)) (hg : ∀ (s : Shared) (H : Hp) (C : Addr) (cl : List (Str × Addr)) (fp : List Addr), PG (X.blk s H scope (compEnvC scope cl C X.env) fp) tg g)
    (ht : ∀ (s : Shared) (H : Hp) (C : Addr) (cl : List (Str × Addr)) (fp : List Addr), PTs (X.blk s H scope (compEnvC scope cl C X.env) fp) ifs tt) (hi1 : ∀ (s : Shared) (H : Hp) (C : Addr) (cl : List (Str × Addr)) (fp : List Addr), PI (X.blk s H scope (compEnvC scope cl C X.env) fp) tg1 iter1 wi1)
    (hg1 : ∀ (s : Shared) (H : Hp) (C : Addr) (cl : List (Str × Addr)) (fp : List Addr), PG (X.blk s H scope (compEnvC scope cl C X.env) fp) tg1 g1) (ht1 : ∀ (s : Shared) (H : Hp) (C : Addr) (cl : List (Str × Addr)) (fp : List Addr), PTs (X.blk s H scope (compEnvC scope cl C X.env) fp) ifs1 tt1)
    (he : ∀ (s : Shared) (H : Hp) (C : Addr) (cl : List (Str × Addr)) (fp : List Addr), PE (X.blk s H scope (compEnvC scope cl C X.env) fp) elt te) (hs : ∀ x, foldedSetIterable iter X.env x = pure x := by intro _; rfl) (hs1 : ∀ env x, foldedSetIterable iter1 env x = pure x := by intro _ _; rfl) :
    PE X (.SetComp elt [⟨tg, iter, ifs, 0⟩, ⟨tg1, iter1, ifs1, 0⟩] scope pos) (tSx2 X.w wi g tt wi1 g1 tt1 te (own.map (·.2)) vs1) := by
  refine ⟨fun pins s σ H Q I h => ?_⟩
  rw [PpSet.eval_SetComp]
  refine sx2_core hc hN I hi ok hv hg ht hi1 hg1 ht1 he hs hs1 h fun D C s' m H' I' q hn ⟨f0, f1, f2, f3, f4, f5⟩ => ⟨m, hn, fun h'' sb => ?_⟩
  exact ⟨.ref D, H', I'.turned (t' := s'.toks) (fun b o hb e => (sb.2 b hb).trans e) f0 f1 f3 f4 f5, rfl, q⟩
end
end OM

namespace OM
open PySem PySem.Spec PyProof.Rows L2
/-- the text of a value -/
def txV : Value → Str
  | .str x _ => x
  | _ => ""
theorem strs_txV : ∀ (l : List Value), (∀ v ∈ l, ∃ x tk, v = Value.str x tk) → StrsAre l (l.map txV)
  | [], _ => .nil
  | v :: l, h => by
    obtain ⟨x, tk, rfl⟩ := h v List.mem_cons_self
    exact .cons x tk (strs_txV l fun u hu => h u (List.mem_cons_of_mem _ hu))
section
variable {P : Program} {w : World} {A : Around} {E : Value → Shared → Prop} {s : Shared} {a : Addr} {L : List Str}
theorem sorted_tx {Q : Value → Shared → Prop} (R : SetTx w s.heap a L) (hh : A.handled = none)
    (fin : ∀ s' p (out : Array Value) (c : Nat) (ys : List Str), (∀ b o, s.heap.get? b = some o → s'.heap.get? b = some o) → s'.gens = s.gens → s'.os = s.os → s.heap.objs.size ≤ p → s'.heap.get? p = some (seqObj "list" out c) → StrsAre out.toList ys → ys.Perm L → sortedS ys = true → Q (.ref p) s') :
    wpAny (model P w) A (call (.builtin "sorted") [.ref a]) Q E s := by
  obtain ⟨o, es, ep, t, at_, hex, hd, T⟩ := R
  refine Calls.call_function_entry kind_sorted plain_sorted entry_sorted (args_sorted1 _) ?_
  unfold Builtin.«sorted»
  refine wpAny_bind (m := checkCount "sorted" 1 1 _) (wpAny_pure ?_)
  refine wpAny_bind <| collect_set (A := A.in1) hh ⟨o, at_, hex.1, hd⟩ T.fit T.bound T.ris T.led fun s1 vs k1 hz g1 o1 pm => ?_
  have vl : vs.length = L.length := by rw [pm.length_eq, List.length_map, Array.length_toList, T.size]
  have S : StrsAre vs (vs.map txV) := strs_txV vs fun v hv => by
    obtain ⟨e, he, q⟩ := List.mem_map.mp (pm.mem_iff.mp hv)
    obtain ⟨x, tk, h1⟩ := T.tx e he
    exact ⟨x, tk, by rw [← q, h1]⟩
  have pk : (vs.map txV).Perm L := by
    have q := pm.map txV
    rw [List.map_map] at q
    refine q.trans ?_
    have e : es.toList.map (txV ∘ (·.2)) = es.toList.map keyT := List.map_congr_left fun e he => by
      obtain ⟨x, tk, rfl⟩ := T.tx e he
      rfl
    rw [e]
    exact T.pm
  have line : vs.length ≤ sizeLine := by
    rw [vl]
    exact fits_of_scanBound T.few
  refine wpAny_bind (wpAny_newList ?_ line)
  have new : (s1.heap.push (seqObj "list" vs.toArray 0)).get? s1.heap.objs.size = some (seqObj "list" vs.toArray 0) := Heap.get?_push_size _ rfl
  refine wpAny_bind <| wpAny_holding <| wpAny_call_entry slot_list_sort ⟨_, new, rfl⟩ entry_list_sort (list_sort_treeKAny strKind_oneLt new S.keysOf (fun v₁ v₂ rest e => keyKind_strs (by rw [← e]; exact S)) line fun st' hp hs => ⟨_, rfl, ?_⟩) (args_list_sort _)
  obtain ⟨ys, q1, q2, q3⟩ := sorted_out_str S hp hs
  obtain ⟨c, hc⟩ := sortedHeap_at (vs := vs) (out := (arrOf st').map (·.2)) new
  refine wpAny_pure ⟨_, rfl, fin _ s1.heap.objs.size _ c ys (fun b u e => ?_) g1 o1 hz hc q1 (q2.trans pk) q3⟩
  have z := k1 b u e
  have lt := Heap.lt_size z
  exact (sortedHeap_old (Nat.ne_of_lt lt) (by rw [size_push']; exact Nat.lt_succ_of_lt lt)).trans (Heap.get?_push_of_some _ z)
end
section
variable {X : Cx}
/-- sorted(a set of texts) -/
def rSortX (w : World) : List V → Hp → VK → Prop := fun vs H Q => ∃ (a : Addr) (L : List Str), vs = [V.ref a] ∧ H a = some (SetTO w a L) ∧ ∀ (ys : List Str) (p : Addr), ys.Perm L → sortedS ys = true → H p = none → Q (.ref p) (upd H p (.lst (ys.map V.str)))
theorem cr_sortX (hc : X.calm = true) : CallR X (.builtin "sorted") (rSortX X.w) := by
  intro pins s σ H vs us Q I r h
  obtain ⟨a, L, rfl, ha, q⟩ := h
  have R := txo_get I ha
  have few : L.length < scanBound := by
    obtain ⟨_, _, _, _, _, _, _, T⟩ := R
    exact T.few
  rw [Vals.ref1 r]
  refine sorted_tx R (I.ok.hd hc) fun s' p out c ys k g o hp hg hi pm so => ?_
  have len : (ys.map V.str).length ≤ sizeLine := by
    rw [List.length_map, pm.length_eq]
    exact fits_of_scanBound few
  have hn : H p = none := I.hok.fresh hp
  have J : Inv X pins σ (upd H p (.lst (ys.map V.str))) { s with heap := s'.heap, gens := s'.gens, drawn := s'.drawn, toks := s'.toks } := I.call (ch := []) (Un.laid k hp hn) (I.hok.laid k hp ⟨len, out.toList, c, vals_of_strs hi, hg⟩) (by rw [g]; exact I.bare) (fun _ z => nomatch z)
  have e : s' = { s with heap := s'.heap, gens := s'.gens, drawn := s'.drawn, toks := s'.toks } := by
    cases s'
    cases s
    cases o
    rfl
  rw [e]
  exact ⟨.ref p, _, J, rfl, q ys p pm so hn⟩
end
end OM

namespace OM
open PySem PySem.Spec PyProof.Rows L2
def firsts (L : List Str) (xs : List Str) : List Str := xs.foldl addX L
theorem mem_addX {L : List Str} {x y : Str} : y ∈ addX L x ↔ y ∈ L ∨ y = x := by
  unfold addX
  split
  · rename_i h
    exact ⟨.inl, fun z => z.elim id fun e => e ▸ h⟩
  · rw [List.mem_cons]
    exact Or.comm
theorem len_addX (L : List Str) (x : Str) : (addX L x).length ≤ L.length + 1 := by
  unfold addX
  split
  · exact Nat.le_succ _
  · exact Nat.le_refl _
theorem nodup_addX {L : List Str} (h : L.Nodup) (x : Str) : (addX L x).Nodup := by
  unfold addX
  split
  · exact h
  · exact List.nodup_cons.mpr ⟨by assumption, h⟩
theorem mem_firsts {y : Str} : ∀ {xs L : List Str}, y ∈ firsts L xs ↔ y ∈ L ∨ y ∈ xs
  | [], L => by simp [firsts]
  | x :: r, L => by
    show y ∈ firsts (addX L x) r ↔ _
    rw [mem_firsts, mem_addX, List.mem_cons, or_assoc]
theorem len_firsts : ∀ (xs L : List Str), (firsts L xs).length ≤ L.length + xs.length
  | [], L => Nat.le_refl _
  | x :: r, L => by
    have h1 := len_firsts r (addX L x)
    have h2 := len_addX L x
    show (firsts (addX L x) r).length ≤ L.length + (r.length + 1)
    omega
theorem nodup_firsts : ∀ (xs : List Str) {L : List Str}, L.Nodup → (firsts L xs).Nodup
  | [], _, h => h
  | x :: r, _, h => nodup_firsts r (nodup_addX h x)
section
variable {P : Program} {w : World} {A : Around} {I : Addr} {fp wr : List Addr} {G : Array GenState → Array GenState → Prop} {n : Nat} {Pv : Nat → Value → Prop} {St : Nat → Shared → Prop} {R : Result → Shared → Prop}
/-- the loop of set.update over texts -/
theorem update_tx (W : WalksS P w A.in1 I fp wr G n Pv St) (S : Addr) (apart : S ∉ fp) (xs : List Str) (hn : xs.length = n) (val : ∀ i v, Pv i v → ∃ t, v = .str (xs.getD i Str.empty) t) : ∀ (k i : Nat) (s : Shared) (L : List Str), n - i = k → i ≤ n → St i s → SetTx w s.heap S L → L.length + k < scanBound →
    (∀ s', Moved (S :: wr) G s s' → SetTx w s'.heap S (firsts L (xs.drop i)) → R (.ok (.ret .none)) s') → codeAny (model P w) A (.builtin "set.update.loop" ⟨[.ref S, .ref I], []⟩) R s := by
  have nw : S ∉ wr := fun h => apart (W.sub _ h)
  have wider : ∀ b ∈ wr, b ∈ S :: wr := fun b hb => List.mem_cons_of_mem _ hb
  intro k
  induction k with
  | zero =>
    intro i s L hk hi st hS room fin
    obtain rfl : i = n := by omega
    refine codeAny_builtin F.entry_set_update_loop ?_
    rw [Around.under_plainId F.plain_set_update_loop _]
    show wpAny _ A.in1 (pyNext (.ref I) >>= _) _ _ s
    refine wpAny_bind <| W.done s _ _ st fun s' hm => ?_
    show wpAny _ A.in1 (ret Value.none) _ _ s'
    refine wpAny_pure <| fin s' (hm.mono wider) ?_
    rw [← hn, List.drop_length]
    exact hS.mv fun o e => hm.heap S o nw e
  | succ k ih =>
    intro i s L hk hi st hS room fin
    have lt : i < n := by omega
    refine codeAny_builtin F.entry_set_update_loop ?_
    rw [Around.under_plainId F.plain_set_update_loop _]
    show wpAny _ A.in1 (pyNext (.ref I) >>= _) _ _ s
    refine wpAny_bind <| W.item i s _ _ lt st fun v s' hP st' hm => ?_
    obtain ⟨tk, rfl⟩ := val i v hP
    have hS' : SetTx w s'.heap S L := hS.mv fun o e => hm.heap S o nw e
    have hx : xs.drop i = xs.getD i Str.empty :: xs.drop (i + 1) := by
      have h1 : i < xs.length := by omega
      rw [List.getD_eq_getElem?_getD, List.getElem?_eq_getElem h1]
      exact List.drop_eq_getElem_cons h1
    rw [hx] at fin
    revert fin
    generalize xs.getD i Str.empty = x
    intro fin
    show wpAny _ A.in1 (holding [Value.str x tk] (setAdd S (.str x tk)) >>= _) _ _ s'
    refine wpAny_bind <| wpAny_holding ?_
    unfold setAdd
    refine wpAny_holding <| wpAny_bind <| (strKind P w).pyHash (k := x) (beq_self_eq_true x) ?_
    refine tx_hashed (s := { s' with toks := s'.toks + 1 }) hS' (by omega) fun b h' sb r => ?_
    have la := len_addX L x
    refine wpAny_pure ⟨plainId_quiet F.plain_set_update_loop _, ih (i + 1) _ (addX L x) (by omega) lt (W.frame _ s' _ _ st' (Nat.le_succ _) fun b hb o e => ?_) r (by omega) fun s'' hm'' r'' => fin s'' (Moved.trans W.gtrans ((hm.mono wider).then_heap (Nat.le_succ _) fun b o hb e => ?_) hm'') r''⟩
    · exact (sb.2 b fun z => apart (by rw [← z]; exact hb)).trans e
    · exact (sb.2 b fun z => hb (by rw [z]; exact List.mem_cons_self)).trans e
end
end OM

namespace OM
open PySem PySem.Spec PyProof.Rows L2
abbrev blankSet (w : World) : Obj := { cls := .type "set", dict := none, data := .set #[] 0 (.fresh 0 0 (!w.params.followText "set-order")) }
section
variable {P : Program} {w : World} {A : Around} {E : Value → Shared → Prop} {s : Shared}
/-- set(x), by what its __init__ makes of the blank set -/
theorem set_made {x : Value} {Q : Value → Shared → Prop} {Z : Shared → Prop}
    (hT : codeAny (model P w) A.in1 (.call (.builtin "set.__init__") ⟨[.ref s.heap.objs.size, x], []⟩) (wants (fun r s2 => r = .none ∧ Z s2) E) { s with heap := s.heap.push (blankSet w) })
    (fin : ∀ s2, Z s2 → Q (.ref s.heap.objs.size) s2) : wpAny (model P w) A (call (.type "set") [x]) Q E s := by
  obtain ⟨c, tl, hmro⟩ := F.called_set.mro
  have f1 := F.called_set.made
  have f2 := F.called_set.sub
  refine wpAny_call <| codeAny_of_tree ?_
  show wpAny _ _ (callAny (.type "set") _) _ _ _
  refine wpAny_pure ⟨Code.quiet_builtin _ (by decide +kernel), codeAny_builtin F.entry_type_call ?_⟩
  rw [Around.under_plain (weight_type_call_type "set" [x] []) rfl]
  have f3 := F.called_set.notType
  have f4 := F.called_set.canCreate
  have f5 := F.typeCall_set_1 x
  repeat (any_goals (first | assumption | wp_step))
  refine codeAny_mono (code_set_led1 x (E := E) (Q₁ := fun obj s1 => obj = .ref s.heap.objs.size ∧ s1 = { s with heap := s.heap.push (blankSet w) }) ⟨rfl, rfl⟩) fun r s1 hr => ?_
  cases r with
  | error e => exact hr
  | ok fl =>
    cases fl with
    | ret obj =>
      obtain ⟨rfl, rfl⟩ := hr
      have at_ : (s.heap.push (blankSet w)).get? s.heap.objs.size = some (blankSet w) := Heap.get?_push_size _ rfl
      have ty : Shared.TypeIs { s with heap := s.heap.push (blankSet w) } (.ref s.heap.objs.size) "set" := ⟨_, at_, rfl⟩
      have f6 := F.called_set.init.lookup
      have f7 := F.called_set.init.bind (.ref s.heap.objs.size)
      repeat (any_goals (first | assumption | wp_step))
      refine codeAny_mono hT fun r2 s2 hr2 => ?_
      cases r2 with
      | error e => exact hr2
      | ok fl2 =>
        cases fl2 with
        | ret r =>
          obtain ⟨rfl, z⟩ := hr2
          have q := fin s2 z
          repeat (any_goals (first | assumption | wp_step))
        | _ => exact hr2.elim
    | _ => exact hr.elim
/-- set(xs), xs a list or a tuple of texts -/
theorem set_list {l : Addr} {items : Array Value} {xs : List Str} {Q : Value → Shared → Prop} (hh : A.handled = none) (hl : s.heap.IsList l items) (hi : StrsAre items.toList xs) (few : xs.length < scanBound)
    (fin : ∀ (h' : Heap) (tk : Nat), SetTx w h' s.heap.objs.size (firsts [] xs) → (∀ b o, b < s.heap.objs.size → s.heap.get? b = some o → h'.get? b = some o) → Q (.ref s.heap.objs.size) { s with heap := h', toks := tk }) : wpAny (model P w) A (call (.type "set") [.ref l]) Q E s := by
  refine set_made (Z := fun s2 => ∃ h' tk, s2 = { s with heap := h', toks := tk } ∧ SetTx w h' s.heap.objs.size (firsts [] xs) ∧ ∀ b o, b < s.heap.objs.size → s.heap.get? b = some o → h'.get? b = some o) ?_ fun s2 ⟨h', tk, e, a, b⟩ => by rw [e]; exact fin h' tk a b
  have at_ : (s.heap.push (blankSet w)).get? s.heap.objs.size = some (blankSet w) := Heap.get?_push_size _ rfl
  have ty : Shared.TypeIs { s with heap := s.heap.push (blankSet w) } (.ref s.heap.objs.size) "set" := ⟨_, at_, rfl⟩
  have hl1 : (s.heap.push (blankSet w)).IsList l items := hl.push _
  have size : (s.heap.push (blankSet w)).objs.size = s.heap.objs.size + 1 := Heap.size_push ..
  obtain ⟨ol, hol, hcl, nl, hdl⟩ := hl
  have lt := Heap.lt_size hol
  obtain ⟨ocls, odict, odata, oslots⟩ := ol
  simp only at hcl hdl
  subst hcl
  subst hdl
  have hol' : (s.heap.push (blankSet w)).get? l = some { cls := .type "list", dict := odict, data := .seq items nl, slots := oslots } := Heap.get?_push_of_some _ hol
  have g1 := F.sub_list_set
  have g2 := F.sub_list_frozenset
  have g3 : (Value.type "list" == Value.type "dict") = false := by decide
  refine codeAny_call_builtin F.called_set.init.plain F.entry_set_init (check_set_init_1 ty ?_)
  unfold Builtin.«set.__init__» noKeywords Builtin.Frozenset.updateFrom
  generalize iter : pyIter = it0
  wp_walk
  subst iter
  refine wpAny_pyIter_list hl1 <| wpAny_bind <| wpAny_runValue ?_
  have n1 : l ≠ (s.heap.push (blankSet w)).objs.size := by
    rw [Heap.size_push]
    exact Nat.ne_of_lt (Nat.lt_succ_of_lt lt)
  have n2 : s.heap.objs.size ∉ [(s.heap.push (blankSet w)).objs.size, l] := by
    rw [Heap.size_push]
    simp only [List.mem_cons, List.not_mem_nil, or_false, not_or]
    exact ⟨Nat.ne_of_lt (Nat.lt_succ_self _), Nat.ne_of_gt lt⟩
  have sz : xs.length = items.size := by rw [← StrsAre.len_eq hi, Array.length_toList]
  refine update_tx ((Walks.list (by simp [hh]) _ l n1 items).toS) s.heap.objs.size n2 xs sz (fun i v hv => SS.strs_at hi i v (by rw [Array.getElem?_toList]; exact hv)) (items.size - 0) 0 _ [] (by omega) (Nat.zero_le _) ⟨⟨_, Heap.get?_push_size _ rfl, rfl, rfl⟩, hl1.push _⟩ ?_ (by rw [← sz]; simpa using few) fun s' hm r => ?_
  · exact (tx_fresh (h := s.heap) w).mv fun o e => Heap.get?_push_of_some _ e
  · obtain ⟨h', g', d', tk', os'⟩ := s'
    obtain rfl : g' = s.gens := hm.gens
    obtain rfl : d' = s.drawn := hm.drawn
    obtain rfl : os' = s.os := hm.os
    show wpAny _ _ _ _ _ _
    refine wpAny_pure ?_
    show wpAny _ _ (ret Value.none) _ _ _
    refine wpAny_pure ⟨rfl, h', tk', rfl, r, fun b o hb e => hm.heap b o ?_ (Heap.get?_push_of_some _ (Heap.get?_push_of_some _ e))⟩
    rw [Heap.size_push]
    simp only [List.mem_cons, List.not_mem_nil, or_false, not_or]
    exact ⟨Nat.ne_of_lt hb, Nat.ne_of_lt (Nat.lt_succ_of_lt hb)⟩
theorem set_tuple {l : Addr} {items : Array Value} {xs : List Str} {Q : Value → Shared → Prop} (hh : A.handled = none) (hl : s.heap.IsTuple l items) (hi : StrsAre items.toList xs) (few : xs.length < scanBound)
    (fin : ∀ (h' : Heap) (tk : Nat), SetTx w h' s.heap.objs.size (firsts [] xs) → (∀ b o, b < s.heap.objs.size → s.heap.get? b = some o → h'.get? b = some o) → Q (.ref s.heap.objs.size) { s with heap := h', toks := tk }) : wpAny (model P w) A (call (.type "set") [.ref l]) Q E s := by
  refine set_made (Z := fun s2 => ∃ h' tk, s2 = { s with heap := h', toks := tk } ∧ SetTx w h' s.heap.objs.size (firsts [] xs) ∧ ∀ b o, b < s.heap.objs.size → s.heap.get? b = some o → h'.get? b = some o) ?_ fun s2 ⟨h', tk, e, a, b⟩ => by rw [e]; exact fin h' tk a b
  have at_ : (s.heap.push (blankSet w)).get? s.heap.objs.size = some (blankSet w) := Heap.get?_push_size _ rfl
  have ty : Shared.TypeIs { s with heap := s.heap.push (blankSet w) } (.ref s.heap.objs.size) "set" := ⟨_, at_, rfl⟩
  have hl1 : (s.heap.push (blankSet w)).IsTuple l items := hl.push _
  have size : (s.heap.push (blankSet w)).objs.size = s.heap.objs.size + 1 := Heap.size_push ..
  obtain ⟨ol, hol, hcl, nl, hdl⟩ := hl
  have lt := Heap.lt_size hol
  obtain ⟨ocls, odict, odata, oslots⟩ := ol
  simp only at hcl hdl
  subst hcl
  subst hdl
  have hol' : (s.heap.push (blankSet w)).get? l = some { cls := .type "tuple", dict := odict, data := .seq items nl, slots := oslots } := Heap.get?_push_of_some _ hol
  have g1 := F.sub_tuple_set
  have g2 := F.sub_tuple_frozenset
  have g3 : (Value.type "tuple" == Value.type "dict") = false := by decide
  refine codeAny_call_builtin F.called_set.init.plain F.entry_set_init (check_set_init_1 ty ?_)
  unfold Builtin.«set.__init__» noKeywords Builtin.Frozenset.updateFrom
  generalize iter : pyIter = it0
  wp_walk
  subst iter
  refine wpAny_pyIter_tuple hl1 <| wpAny_bind <| wpAny_runValue ?_
  have n1 : l ≠ (s.heap.push (blankSet w)).objs.size := by
    rw [Heap.size_push]
    exact Nat.ne_of_lt (Nat.lt_succ_of_lt lt)
  have n2 : s.heap.objs.size ∉ [(s.heap.push (blankSet w)).objs.size, l] := by
    rw [Heap.size_push]
    simp only [List.mem_cons, List.not_mem_nil, or_false, not_or]
    exact ⟨Nat.ne_of_lt (Nat.lt_succ_self _), Nat.ne_of_gt lt⟩
  have sz : xs.length = items.size := by rw [← StrsAre.len_eq hi, Array.length_toList]
  refine update_tx ((Walks.tuple (by simp [hh]) _ l n1 items).toS) s.heap.objs.size n2 xs sz (fun i v hv => SS.strs_at hi i v (by rw [Array.getElem?_toList]; exact hv)) (items.size - 0) 0 _ [] (by omega) (Nat.zero_le _) ⟨⟨_, Heap.get?_push_size _ rfl, rfl, rfl⟩, hl1.push _⟩ ?_ (by rw [← sz]; simpa using few) fun s' hm r => ?_
  · exact (tx_fresh (h := s.heap) w).mv fun o e => Heap.get?_push_of_some _ e
  · obtain ⟨h', g', d', tk', os'⟩ := s'
    obtain rfl : g' = s.gens := hm.gens
    obtain rfl : d' = s.drawn := hm.drawn
    obtain rfl : os' = s.os := hm.os
    show wpAny _ _ _ _ _ _
    refine wpAny_pure ?_
    show wpAny _ _ (ret Value.none) _ _ _
    refine wpAny_pure ⟨rfl, h', tk', rfl, r, fun b o hb e => hm.heap b o ?_ (Heap.get?_push_of_some _ (Heap.get?_push_of_some _ e))⟩
    rw [Heap.size_push]
    simp only [List.mem_cons, List.not_mem_nil, or_false, not_or]
    exact ⟨Nat.ne_of_lt hb, Nat.ne_of_lt (Nat.lt_succ_of_lt hb)⟩
end
section
variable {X : Cx}
/-- set(xs), xs a list or a tuple of texts -/
def rSetX (K : PySem.W.Frag) (w : World) : List V → Hp → VK → Prop := fun vs H Q => ∃ (l : Addr) (xs : List Str), vs = [V.ref l] ∧ (SqL K H l (xs.map V.str) ∨ SqT K H l (xs.map V.str)) ∧ xs.length < scanBound ∧ ∀ p, H p = none → Q (.ref p) (upd H p (SetTO w p (firsts [] xs)))
theorem cr_setX (hc : X.calm = true) : CallR X (.type "set") (rSetX X.K X.w) := by
  intro pins s σ H vs us Q I r h
  obtain ⟨l, xs, rfl, hq, few, q⟩ := h
  rw [Vals.ref1 r]
  have hn : H s.heap.objs.size = none := I.hok.fresh (Nat.le_refl _)
  have fin : ∀ (h' : Heap) (tk : Nat), SetTx X.w h' s.heap.objs.size (firsts [] xs) → (∀ b o, b < s.heap.objs.size → s.heap.get? b = some o → h'.get? b = some o) → EP X pins σ Q (.ref s.heap.objs.size) { s with heap := h', toks := tk } := fun h' tk R k =>
    ⟨.ref s.heap.objs.size, upd H s.heap.objs.size (SetTO X.w s.heap.objs.size (firsts [] xs)), I.laid (t' := tk) (fun b o e => k b o (Heap.lt_size e) e) (Nat.le_refl _) (txo_new R), rfl, q _ hn⟩
  rcases hq with hq | hq
  · obtain ⟨its, rv, pl, hz⟩ := I.list hq
    exact set_list (I.ok.hd hc) pl.isList (by simpa using rv.strs) few fin
  · obtain ⟨its, rv, pl, hz⟩ := I.tuple hq
    exact set_tuple (I.ok.hd hc) pl (by simpa using rv.strs) few fin
/-- len of a set of texts -/
def rLenX (w : World) : List V → Hp → VK → Prop := fun vs H Q => ∃ (a : Addr) (L : List Str), vs = [V.ref a] ∧ H a = some (SetTO w a L) ∧ Q (.int L.length) H
theorem cr_lenX : CallR X (.builtin "len") (rLenX X.w) := by
  intro pins s σ H vs us Q I r h
  obtain ⟨a, L, rfl, ha, q⟩ := h
  rw [Vals.ref1 r]
  obtain ⟨o, es, ep, t, ho, hex, hd, T⟩ := txo_get I ha
  have hf : (es.size : Int) < 2 ^ 63 := by
    have h1 := T.bound
    have h2 : scanBound < 2 ^ 62 := by decide
    omega
  refine call_len_set ho hex hd T.fit hf ⟨.int L.length, H, I.tok _, ⟨_, by rw [T.size]⟩, q⟩
end
end OM

namespace OM
open PySem PySem.Spec PyProof.Rows L2
/-- found.extend(t), t a tuple -/
def rExtT (K : PySem.W.Frag) : V → List V → Hp → VK → Prop := fun x vs H Q => ∃ (l b : Addr) (xs zs : List V), x = .ref l ∧ vs = [.ref b] ∧ H l = some (.lst xs) ∧ SqT K H b zs ∧ xs.length + zs.length ≤ sizeLine ∧ Q .non (upd H l (.lst (xs ++ zs)))
theorem mt_extT {X : Cx} : MtM X "list.extend" (rExtT X.K) := by
  intro pins s σ H x vs v us Q I rx rv h
  obtain ⟨l, b, xs, zs, rfl, rfl, hH, hB, hz, q⟩ := h
  cases rx
  obtain ⟨u, rfl, ru⟩ := rv.one
  cases ru
  obtain ⟨z, its, n, r, hl, e⟩ := I.lstM hH
  obtain ⟨its2, r2, ⟨o, ho, hc, n2, hd⟩, z2⟩ := I.tuple hB
  have l1 := r.length
  have l2 := r2.length
  refine wpAny_call_entry F.slot_list_extend ⟨_, e, rfl⟩ F.entry_list_extend ?_ (F.args_list_extend_2 _ _)
  show wpAny _ _ (Builtin.List.listExtendWith (.ref l) (.ref b) .none) _ _ _
  unfold Builtin.List.listExtendWith
  refine wpAny_bind (wpAny_typeOf ⟨o, ho, hc⟩ ?_)
  have t1 : (Builtin.List.listSameRef (.ref l) (.ref b) || Value.type "tuple" == Value.type "list" || Value.type "tuple" == Value.type "tuple") = true := by simp
  simp only [t1, if_true]
  refine wpAny_bind ?_
  unfold Builtin.List.listItems
  refine wpAny_bind (wpAny_seqItems ho hd (wpAny_pure ?_))
  refine wpAny_bind ?_
  refine wpAny_bind (wpAny_seqItems e rfl (wpAny_pure ?_))
  have long : (!its.toArray.isEmpty && Builtin.List.listTooLong (its.toArray.size + its2.toArray.size)) = false := by
    rw [notLongL (by rw [List.size_toArray, List.size_toArray]; omega), Bool.and_false]
  simp only [long, Bool.false_eq_true, if_false]
  show wpAny _ _ (updateSeq l (· ++ its2.toArray) >>= fun _ => ret Value.none) _ _ _
  refine wpAny_bind (wpAny_updateSeq e rfl (wpAny_pure ⟨_, rfl, .non, _, I.lset (its' := its ++ its2) hH e (by simp) (r.append r2) ?_, rfl, q⟩))
  rw [List.length_append]
  omega
theorem maxOf_spec : ∀ (ys : List Int) (y : Int), PySem.W.maxOf y ys ∈ y :: ys ∧ ∀ z ∈ y :: ys, z ≤ PySem.W.maxOf y ys
  | [], y => ⟨List.mem_cons_self, fun z h => by
      rw [List.mem_singleton.mp h]
      exact Int.le_refl _⟩
  | a :: r, y => by
    obtain ⟨h1, h2⟩ := maxOf_spec r (if decide (y < a) = true then a else y)
    have e : PySem.W.maxOf y (a :: r) = PySem.W.maxOf (if decide (y < a) = true then a else y) r := rfl
    rw [e]
    have h3 := h2 _ List.mem_cons_self
    constructor
    · rcases List.mem_cons.mp h1 with z | z
      · rw [z]
        split
        · exact List.mem_cons_of_mem _ List.mem_cons_self
        · exact List.mem_cons_self
      · exact List.mem_cons_of_mem _ (List.mem_cons_of_mem _ z)
    · intro z hz
      have ya : y ≤ (if decide (y < a) = true then a else y) ∧ a ≤ (if decide (y < a) = true then a else y) := by
        split
        · rename_i h
          have := of_decide_eq_true h
          omega
        · rename_i h
          have : ¬ y < a := fun z => h (decide_eq_true z)
          omega
      rcases List.mem_cons.mp hz with q | q
      · rw [q]
        omega
      · rcases List.mem_cons.mp q with q | q
        · rw [q]
          omega
        · exact h2 z (List.mem_cons_of_mem _ q)
theorem hold_ints {h : Heap} : ∀ {vs : List Value} {ns : List Int}, IntsAre vs ns → PySem.W.HoldAll h vs ns
  | _, _, .nil => PySem.W.HoldAll.nil
  | _, _, .cons n t r => PySem.W.HoldAll.cons ⟨_, .int _ _⟩ (hold_ints r)
/-- max(xs, default=d), ints -/
def rMaxDef (K : PySem.W.Frag) : List V → List V → Hp → VK → Prop := fun vs zs H Q => ∃ (a : Addr) (ns : List Int) (d : Int), vs = [.ref a] ∧ zs = [.int d] ∧ SqL K H a (ns.map V.int) ∧ (ns = [] → Q (.int d) H) ∧ ∀ m, m ∈ ns → (∀ y ∈ ns, y ≤ m) → Q (.int m) H
theorem cr_maxDef {X : Cx} (hc : X.calm = true) (hu : X.A.units + 1 < cLine) : CallRK X (.builtin "max") ["default"] (rMaxDef X.K) := by
  intro pins s σ H xs zs us ws Q I rx rz h
  obtain ⟨a, ns, d, rfl, rfl, hs, q0, q1⟩ := h
  obtain ⟨u, rfl, ru⟩ := rz.one
  obtain ⟨tk, rfl⟩ := ru
  rw [Vals.ref1 rx]
  obtain ⟨its, r, pl, _⟩ := I.list hs
  have hi : IntsAre its ns := by simpa using r.ints
  refine PySem.W.max_list_datum_default (α := Int) (xs := ns) (I.ok.hd hc) pl.isList (by simpa using hold_ints hi) hu (fun e h' tk k => ⟨.int d, H, I.kept k, ⟨_, rfl⟩, q0 e⟩) fun y ys i v h' tk e hv hh k => ?_
  subst e
  obtain ⟨m1, m2⟩ := maxOf_spec ys y
  obtain ⟨as, hr⟩ := hh
  refine ⟨.int (PySem.W.maxOf y ys), H, I.kept k, ?_, q1 _ m1 m2⟩
  have hr : Reads h' v (.int (PySem.W.maxOf y ys)) as := hr
  cases hr
  exact ⟨_, rfl⟩
/-! ### statements, one behind the other -/
def inner2 : PyData → List (List PyData)
  | .tuple [.str w, _, _, .tuple ys, .tuple ns] => if w = "if" then [ys, ns] else []
  | _ => []
/-- a statement and those in it -/
def flatS : Nat → PyData → List PyData
  | 0, d => [d]
  | n + 1, d => d :: (inner2 d).flatMap fun c => c.flatMap (flatS n)
def flatN (n : Nat) (ds : List PyData) : List PyData := ds.flatMap (flatS n)
/-- what code at depth n holds of a row -/
theorem rowD_shape {cd : PyData → Bool} {d : PyData} (h : rowD cd d = true) : ∃ (w : Str) (rest : List PyData) (rs : List Str), d = .tuple (.str w :: rest) ∧ formOf w = some rs ∧ rest.length = rs.length ∧ (List.zipWith (fitD cd) rest rs).all id = true := by
  unfold rowD at h
  split at h
  · rename_i w rest
    split at h
    · rename_i rs e
      obtain ⟨h1, h2⟩ := Bool.and_eq_true_iff.mp h
      exact ⟨w, rest, rs, rfl, e, of_decide_eq_true h1, h2⟩
    · cases h
  · cases h
theorem code_tup {n : Nat} {d : PyData} (h : codeD n d = true) : ∃ ds, d = .tuple ds ∧ ds.all (rowD (cdOf n)) = true := by
  cases d with
  | tuple ds => exact ⟨ds, rfl, by rw [← codeD_tup]; exact h⟩
  | _ => cases n <;> cases h
theorem cdOf_tup {n : Nat} {d : PyData} (h : cdOf n d = true) : ∃ m ds, n = m + 1 ∧ d = .tuple ds ∧ ds.all (rowD (cdOf m)) = true := by
  cases n with
  | zero => cases h
  | succ m =>
    obtain ⟨ds, e, q⟩ := code_tup (n := m) h
    exact ⟨m, ds, rfl, e, q⟩
/-- an if: five parts, two of them code; else no inner code -/
theorem row_iff {n : Nat} {d : PyData} (h : rowD (cdOf n) d = true) : (∃ m p r ys ns, n = m + 1 ∧ d = .tuple [.str "if", p, r, .tuple ys, .tuple ns] ∧ ys.all (rowD (cdOf m)) = true ∧ ns.all (rowD (cdOf m)) = true ∧ isNameD p = true ∧ isNameD r = true) ∨ (∃ w rest, d = .tuple (.str w :: rest) ∧ w ≠ "if" ∧ inner2 d = []) := by
  obtain ⟨w, rest, rs, rfl, e, l, z⟩ := rowD_shape h
  by_cases hw : w = "if"
  · subst hw
    have e4 : formOf "if" = some (["test", "register", "code", "code"] : List Str) := by decide +kernel
    rw [e4] at e
    obtain rfl := (Option.some.inj e).symm
    match rest, l with
    | [p, r, y, x], _ =>
      rw [row_if] at h
      simp only [Bool.and_eq_true, and_true] at h
      obtain ⟨h1, h2, h3, h4⟩ := h
      obtain ⟨m, ys, e1, rfl, q1⟩ := cdOf_tup h3
      obtain ⟨m', ns, e2, rfl, q2⟩ := cdOf_tup h4
      obtain rfl : m = m' := by omega
      exact .inl ⟨m, p, r, ys, ns, e1, rfl, q1, q2, h1, h2⟩
  · refine .inr ⟨w, rest, rfl, hw, ?_⟩
    unfold inner2
    split
    · rename_i w' _ _ _ _ e'
      have : w = w' := by
        injection e' with e'
        injection e' with e' _
        injection e'
      subst this
      exact if_neg hw
    · rfl
end OM

namespace OM
open PySem PySem.Spec PyProof.Rows L2
abbrev sFlat : Stmt := top 29
abbrev sCin : Stmt := top 30
/-- a row as objects: its word first -/
theorem Dt.row {S : Addr → Prop} {H : Hp} {v : V} {w : Str} {rest : List PyData} (h : Dt S H v (.tuple (.str w :: rest))) : ∃ a xr, v = .ref a ∧ H a = some (.tup (.str w :: xr)) ∧ xr.length + 1 ≤ 1000 ∧ DtAll S H xr rest := by
  obtain ⟨a, xs, rfl, ea, hl, hx⟩ := h.tup_of
  cases hx with
  | @cons x0 _ xr _ h0 hr =>
    obtain rfl : x0 = .str w := by
      cases h0 with
      | «at» a => cases a <;> rfl
    exact ⟨a, xr, rfl, ea, hl, hr⟩
def spCin : Sp := fun vs H Q _ => ∃ (S : Addr → Prop) (v : V) (d : PyData) (n : Nat), vs = [v] ∧ Dt S H v d ∧ rowD (cdOf n) d = true ∧ ∀ H' p xs, Same H H' → H p = none → H' p = some (.tup xs) → DtAll S H' xs ((inner2 d).map PyData.tuple) → Q (.ref p) H'
def spFlatAt : Nat → Sp
  | 0 => fun _ _ _ _ => False
  | n + 1 => fun vs H Q _ => ∃ (S : Addr → Prop) (v : V) (ds : List PyData), vs = [v] ∧ Dt S H v (.tuple ds) ∧ ds.all (rowD (cdOf n)) = true ∧ (flatN n ds).length ≤ 500 ∧ ∀ H' p xs, Same H H' → H p = none → H' p = some (.lst xs) → DtAll S H' xs (flatN n ds) → Q (.ref p) H'
theorem cut53 {a b c d e : V} : cutV [a, b, c, d, e] (some 3) none = [d, e] := rfl
theorem DtAll.app {S : Addr → Prop} {H : Hp} : ∀ {xs ys : List V} {ds es : List PyData}, DtAll S H xs ds → DtAll S H ys es → DtAll S H (xs ++ ys) (ds ++ es)
  | _, _, _, _, .nil, k => k
  | _, _, _, _, .cons h r, k => .cons h (DtAll.app r k)
/-- objects of H stay, whatever comes beside them -/
theorem DtAll.base {S : Addr → Prop} {H H1 H2 : Hp} (live : ∀ a, S a → H a ≠ none) (s1 : Same H H1) (s2 : Same H H2) {xs : List V} {ds : List PyData} (h : DtAll S H1 xs ds) : DtAll S H2 xs ds := by
  refine h.mv (fun _ z => z) fun a o s e => ?_
  cases y : H a with
  | none => exact absurd y (live a s)
  | some u =>
    have := s1 a u y
    rw [e] at this
    obtain rfl := (Option.some.inj this).symm
    exact s2 a _ y
theorem Dt.base {S : Addr → Prop} {H H1 H2 : Hp} (live : ∀ a, S a → H a ≠ none) (s1 : Same H H1) (s2 : Same H H2) {x : V} {d : PyData} (h : Dt S H1 x d) : Dt S H2 x d := by
  cases DtAll.base live s1 s2 (.cons h .nil) with
  | cons h _ => exact h
theorem Dt.live {S : Addr → Prop} {H : Hp} {x : V} {d : PyData} (h : Dt S H x d) : Dt (fun a => S a ∧ H a ≠ none) H x d := h.strong fun a o s e => ⟨⟨s, by rw [e]; exact fun z => nomatch z⟩, e⟩
theorem flat_take {n i : Nat} {d : PyData} {ds : List PyData} (h : ds[i]? = some d) : flatN n (ds.take (i + 1)) = flatN n (ds.take i) ++ flatS n d := by
  unfold flatN
  rw [List.take_add_one, h, List.flatMap_append]
  simp
theorem flat_le {n i : Nat} {ds : List PyData} : (flatN n (ds.take i)).length ≤ (flatN n ds).length := by
  unfold flatN
  conv => rhs; rw [← List.take_append_drop i ds, List.flatMap_append, List.length_append]
  exact Nat.le_add_right _ _
theorem part_le {α β : Type} {f : α → List β} {l : List α} {x : α} (h : x ∈ l) : (f x).length ≤ (l.flatMap f).length := by
  obtain ⟨s, t, rfl⟩ := List.append_of_mem h
  rw [List.flatMap_append, List.flatMap_cons, List.length_append, List.length_append]
  omega
theorem row_in {n : Nat} {d : PyData} {cd : List PyData} (row : rowD (cdOf n) d = true) (h : cd ∈ inner2 d) : ∃ m, n = m + 1 ∧ cd.all (rowD (cdOf m)) = true ∧ flatS n d = d :: (inner2 d).flatMap (flatN m) := by
  rcases row_iff row with ⟨m, p, r, ys, ns, rfl, rfl, hy, hn, _, _⟩ | ⟨_, _, _, _, e⟩
  · refine ⟨m, rfl, ?_, rfl⟩
    have e : inner2 (.tuple [.str "if", p, r, .tuple ys, .tuple ns]) = [ys, ns] := rfl
    rw [e] at h
    rcases List.mem_cons.mp h with z | z
    · rw [z]; exact hy
    · rw [List.mem_singleton.mp z]; exact hn
  · rw [e] at h
    cases h
theorem flatS_row {n : Nat} {d : PyData} (row : rowD (cdOf n) d = true) : flatS n d = d :: (inner2 d).flatMap (flatN (n - 1)) := by
  cases n with
  | succ m => rfl
  | zero =>
    rcases row_iff row with ⟨m, _, _, _, _, e, _⟩ | ⟨_, _, _, _, e⟩
    · cases e
    · rw [e]
      rfl
section
variable {P : Program} {w : World} {K : PySem.W.Frag} {mg : Str → Option Value} {base : Heap} {f fC : Addr} {fd dC : FuncData}
theorem scCin : FnScope ["statement"] ["statement"] (defScope sCin) := ⟨rfl, rfl, rfl, by decide +kernel, rfl, by decide +kernel, by decide +kernel⟩
theorem ok_cin (F : Fun K "codes_in" "codes_in" sCin f fd) : FnOk P w K mg base CX0 1 f fd ["statement"] spCin := by
  refine F.ok scCin (fun vs H Q E h => ?_) (fun cdv A outer s H vs Q E hr h => ?_)
  · obtain ⟨S, v, d, n, rfl, _⟩ := h
    rfl
  · obtain ⟨S, v, d, n, rfl, hd, row, q⟩ := h
    refine ⟨_, pss_one (ps_ret (pe_ifExp (pt_cmpR op_eq (pe_ix ix_tup (pv 0) pe_int (fun _ _ => rfl)) pe_str (nomark _)) (pe_slice sl_tupA (pv 0) (po_some pe_int) po_none) (pe_tup pa_nil))), ?_⟩
    rcases row_iff row with ⟨m, p, r, ys, ns, _, rfl, hy, hn, _, _⟩ | ⟨wd, rest, rfl, ne, e0⟩
    · obtain ⟨a, xr, rfl, ea, hl, hx⟩ := hd.row
      refine ⟨_, rfl, a, _, 0, _, rfl, rfl, SqT.of ea, at0, rfl, _, rfl, iteT ?_⟩
      cases hx with
      | @cons x1 _ _ _ h1 hx =>
        cases hx with
        | @cons x2 _ _ _ h2 hx =>
          cases hx with
          | @cons x3 _ _ _ h3 hx =>
            cases hx with
            | @cons x4 _ _ _ h4 hx =>
              cases hx
              refine ⟨_, rfl, 3, rfl, a, _, rfl, SqT.of ea, fun hw => absurd hw.1 (by show ¬ (HT.sIx 5 0 (some 3) = 0); decide), fun _ pc hpc => ?_⟩
              rw [cut53]
              have s := same_upd (o := .tup [x3, x4]) hpc
              refine q _ pc _ s hpc upd_same ?_
              exact .cons (h3.mv (fun _ z => z) fun b o _ e => s b o e) (.cons (h4.mv (fun _ z => z) fun b o _ e => s b o e) .nil)
    · obtain ⟨a, xr, rfl, ea, hl, hx⟩ := hd.row
      refine ⟨_, rfl, a, _, 0, _, rfl, rfl, SqT.of ea, at0, rfl, _, rfl, ?_⟩
      have hne : decide (V.str wd = V.str "if") = false := decide_eq_false fun z => ne (V.str.inj z)
      rw [hne]
      refine iteF ⟨(by show 0 ≤ sizeLine; decide), fun p hp => q _ p [] (same_upd hp) hp upd_same ?_⟩
      rw [e0]
      exact .nil
theorem scFl : FnScope ["code", "found", "statement", "inner"] ["code"] (defScope sFlat) := ⟨rfl, rfl, rfl, by decide +kernel, rfl, by decide +kernel, by decide +kernel⟩
theorem flat_step {n : Nat} (F : Fun K "flattened" "flattened" sFlat f fd) (gF : mg "flattened" = some (.ref f)) (bF : Binds K fd ["code"] []) (G : FnOk P w K mg base CX0 (n + 1) f fd ["code"] (spFlatAt n))
    (FC : Fun K "codes_in" "codes_in" sCin fC dC) (gC : mg "codes_in" = some (.ref fC)) (bC : Binds K dC ["statement"] []) : FnOk P w K mg base CX0 (n + 2) f fd ["code"] (spFlatAt (n + 1)) := by
  have GC : FnOk P w K mg base CX0 1 fC dC ["statement"] spCin := ok_cin FC
  refine F.ok scFl (fun vs H Q E h => ?_) (fun cdv A outer s H vs Q E hr h => ?_)
  · obtain ⟨S, v, ds, rfl, _⟩ := h
    rfl
  · obtain ⟨S, v, ds, rfl, hd, rows, size, q⟩ := h
    refine ⟨_, pss_cons (ps_set (i := 1) scFl.nd rfl (Or.inl rfl) (pe_lst pa_nil))
      (pss_cons (ps_for PassesOwn.never rfl (pi_tup (pv 0)) (pg_name (i := 2) scFl.nd rfl (Or.inl rfl))
        (pss_cons (ps_expr (pe_bm PySem.F.plainAttrs_list PySem.F.slot_list_append PySem.F.type_list_append mt_append (pv 1) (pa_cons (pv 2) pa_nil)))
        (pss_one (ps_for PassesOwn.never rfl (pi_tup (pe_call GC (hr.mono (by omega)) (by rfl) gC FC.kp bC .nil pass0 (pa_cons (pv 2) pa_nil))) (pg_name (i := 3) scFl.nd rfl (Or.inl rfl))
          (pss_one (ps_expr (pe_bm PySem.F.plainAttrs_list PySem.F.slot_list_extend PySem.F.type_list_extend mt_extend (pv 1) (pa_cons (pe_call G hr (by rfl) gF F.kp bF .nil pass0 (pa_cons (pv 3) pa_nil)) pa_nil))))))))
      (pss_one (ps_ret (pv 1)))), ?_⟩
    obtain ⟨a, xs, rfl, ea, hl, hx⟩ := hd.live.tup_of
    refine ⟨(by show 0 ≤ sizeLine; decide), fun p hp => ?_⟩
    have s0 := same_upd (o := .lst []) hp
    have live : ∀ b, (S b ∧ H b ≠ none) → H b ≠ none := fun b z => z.2
    refine ⟨_, rfl, a, rfl, ⟨xs, SqT.of (s0 _ _ ea)⟩, for_tup (fun i σ H' => (∃ x2 x3, σ = [some (.ref a), some (.ref p), x2, x3]) ∧ Same H H' ∧ ∃ acc, H' p = some (.lst acc) ∧ DtAll (fun b => S b ∧ H b ≠ none) H' acc (flatN n (ds.take i)))
      ⟨⟨_, _, rfl⟩, s0, [], upd_same, .nil⟩ (fun i σ H' _ h => SqT.of (h.2.1 _ _ ea)) (fun i x σ H' hi h => ?_) (fun σ H' h => ?_)⟩
    · obtain ⟨⟨x2, x3, rfl⟩, s1, acc, ep, da⟩ := h
      obtain ⟨d, hdi, hdt⟩ := hx.get hi
      have row : rowD (cdOf n) d = true := List.all_eq_true.mp rows d (List.mem_of_getElem? hdi)
      have la := da.length
      have le1 : (flatN n (ds.take (i + 1))).length ≤ 500 := Nat.le_trans flat_le size
      rw [flat_take hdi, List.length_append] at le1
      have line : (1000 : Nat) < sizeLine := by decide
      refine ⟨_, rfl, .inl ⟨rfl, acc, SqL.of ep⟩, _, rfl, p, acc, x, rfl, rfl, ep, by omega, ?_⟩
      have s2 : Same H (upd H' p (.lst (acc ++ [x]))) := same_put hp s1
      refine ⟨_, rfl, _, x, d, n, rfl, hdt.base live (Same.refl H) s2, row, fun H3 pc cs s3 hpc epc dc => ⟨pc, rfl, ⟨cs, SqT.of epc⟩, ?_⟩⟩
      have s13 : Same H H3 := s2.trans s3
      have ep3 := s3 _ _ (upd_same (H := H') (a := p))
      rw [flatS_row row, List.length_cons] at le1
      refine for_tup (fun j σ' H4 => (∃ y3, σ' = [some (.ref a), some (.ref p), some x, y3]) ∧ Same H H4 ∧ H4 pc = some (.tup cs) ∧ ∃ acc, H4 p = some (.lst acc) ∧ DtAll (fun b => S b ∧ H b ≠ none) H4 acc (flatN n (ds.take i) ++ d :: ((inner2 d).take j).flatMap (flatN (n - 1))))
        ⟨⟨_, rfl⟩, s13, epc, _, ep3, ?_⟩ (fun j σ' H4 _ h => SqT.of h.2.2.1) (fun j c σ' H4 hj h => ?_) (fun σ' H4 h => ?_)
      · have e : flatN n (ds.take i) ++ d :: ((inner2 d).take 0).flatMap (flatN (n - 1)) = flatN n (ds.take i) ++ [d] := rfl
        rw [e]
        exact (da.base live s1 s13).snoc (hdt.base live (Same.refl H) s13)
      · obtain ⟨⟨y3, rfl⟩, s4, epc4, acc4, ep4, da4⟩ := h
        obtain ⟨cdt, hcd, hct⟩ := dc.get hj
        rw [List.getElem?_map] at hcd
        obtain ⟨cd, hc2, rfl⟩ := Option.map_eq_some_iff.mp hcd
        have hin := List.mem_of_getElem? hc2
        obtain ⟨m, rfl, rows', _⟩ := row_in row hin
        have le2 : (flatN m cd).length ≤ ((inner2 d).flatMap (flatN m)).length := part_le hin
        have le3 : ((inner2 d).take (j + 1)).flatMap (flatN m) = ((inner2 d).take j).flatMap (flatN m) ++ flatN m cd := by
          rw [List.take_add_one, hc2, List.flatMap_append]
          simp
        have le4 : (((inner2 d).take (j + 1)).flatMap (flatN m)).length ≤ ((inner2 d).flatMap (flatN m)).length := by
          conv => rhs; rw [← List.take_append_drop (j + 1) (inner2 d), List.flatMap_append, List.length_append]
          exact Nat.le_add_right _ _
        rw [le3, List.length_append] at le4
        have la4 := da4.length
        have m1 : m + 1 - 1 = m := rfl
        rw [m1] at la4 le1
        rw [List.length_append, List.length_cons] at la4
        refine ⟨_, rfl, .inl ⟨rfl, acc4, SqL.of ep4⟩, _, rfl, _, c, cd, rfl, hct.base live s13 s4, rows', by omega, fun H5 p5 xs5 s5 hp5 e5 d5 => ?_⟩
        have s15 := s4.trans s5
        have ep5 := s5 _ _ ep4
        have la5 := d5.length
        refine ⟨p, p5, acc4, xs5, rfl, rfl, ep5, e5, by omega, ⟨_, rfl⟩, same_put hp s15, ?_, acc4 ++ xs5, upd_same, ?_⟩
        · rw [upd_ne (fun z => by rw [z, ep4] at epc4; cases epc4)]
          exact s5 _ _ epc4
        · rw [m1, le3, ← List.cons_append, ← List.append_assoc]
          exact (da4.base live s4 (same_put hp s15)).app (d5.base live s15 (same_put hp s15))
      · obtain ⟨⟨y3, rfl⟩, s4, epc4, acc4, ep4, da4⟩ := h
        refine ⟨⟨_, _, rfl⟩, s4, acc4, ep4, ?_⟩
        have lc := dc.length
        rw [List.length_map] at lc
        rw [flat_take hdi, flatS_row row]
        rw [lc, List.take_length] at da4
        exact da4
    · obtain ⟨⟨x2, x3, rfl⟩, s1, acc, ep, da⟩ := h
      rw [hx.length, List.take_length] at da
      exact ⟨_, rfl, q _ p acc s1 hp ep (da.mv (fun _ z => z.1) fun _ _ _ z => z)⟩
end
end OM

namespace OM
open PySem PySem.Spec PyProof.Rows L2
abbrev sNamesIn : Stmt := top 31
abbrev sNamesOf : Stmt := top 32
def roles4 : List Str := ["cell", "register", "function", "test"]
def strD : PyData → Str
  | .str x => x
  | _ => ""
def strsD : PyData → List Str
  | .tuple ds => ds.map strD
  | _ => []
def nmD (role : Str) (part : PyData) (known : Str) : List Str := if known = role then [strD part] else if known = "registers" ∧ role = "register" then strsD part else []
/-- the names that a statement itself has in a role -/
def namesD (role : Str) : PyData → List Str
  | .tuple (.str w :: rest) => match formOf w with
    | some rs => (List.zipWith (nmD role) rest rs).flatten
    | none => []
  | _ => []
theorem dt_names {S : Addr → Prop} {H : Hp} : ∀ {xs : List V} {ds : List PyData}, DtAll S H xs ds → ds.all isNameD = true → xs = (ds.map strD).map V.str
  | _, _, .nil, _ => rfl
  | _, _, .cons h r, e => by
    rw [List.all_cons, Bool.and_eq_true] at e
    have q := dt_names r e.2
    cases h with
    | «at» a =>
      cases a with
      | str x =>
        rw [q]
        rfl
      | _ => cases e.1
    | _ => cases e.1
/-- for a, b in zip of two tuples -/
theorem for_zipT {K : PySem.W.Frag} {a b : Addr} {xs ys : List V} {g : TG} {tb : TS} {D : Ends} {σ : L2.St} {H : Hp} (hlen : xs.length = ys.length) (Pv : Nat → L2.St → Hp → Prop) (h0 : Pv 0 σ H) (hl : ∀ i σ H, Pv i σ H → SqT K H a xs ∧ SqT K H b ys)
    (hs : ∀ i x y T σ H, xs[i]? = some x → ys[i]? = some y → Pv i σ H → H T = none → g (.ref T) σ (upd H T (.tup [x, y])) fun σ2 H2 => tb { D with nx := Pv (i + 1), ct := Pv (i + 1), bk := D.nx } σ2 H2) (hd : ∀ σ H, Pv xs.length σ H → D.nx σ H) :
    ∃ W : Nat → Nat → L2.St → Hp → Prop, (∃ m, W 0 m σ H) ∧ ∀ i m σ H, W i m σ H → ((RZ.ItzT K a b).stop i H ∧ D.nx σ H) ∨ ((RZ.ItzT K a b).go i H ∧ ∃ N : L2.St → Hp → Prop, (∀ σ' H', N σ' H' → ∃ m', m' < m ∧ W (i + 1) m' σ' H') ∧ ∀ x H', (RZ.ItzT K a b).yld i H x H' → g x σ H' fun σ2 H2 => tb { D with nx := N, ct := N, bk := D.nx } σ2 H2) := by
  refine ⟨fun i m σ H => i ≤ xs.length ∧ m = xs.length - i ∧ Pv i σ H, ⟨_, Nat.zero_le _, rfl, h0⟩, ?_⟩
  rintro i m σ H ⟨hi, rfl, p⟩
  obtain ⟨qx, qy⟩ := hl i σ H p
  rcases Nat.lt_or_ge i xs.length with hlt | hge
  · have hx : xs[i]? = some xs[i] := List.getElem?_eq_getElem hlt
    have hy : ys[i]? = some (ys[i]'(by omega)) := List.getElem?_eq_getElem (by omega)
    refine .inr ⟨⟨xs, ys, _, _, qx, qy, hx, hy⟩, Pv (i + 1), fun σ' H' p' => ⟨xs.length - (i + 1), by omega, hlt, rfl, p'⟩, ?_⟩
    rintro v H' ⟨T, x', y', rfl, hT, rfl, f1, f2⟩
    exact hs i x' y' T σ H (f1 xs qx) (f2 ys qy) p hT
  · obtain rfl : i = xs.length := by omega
    exact .inl ⟨⟨xs, ys, qx, qy, .inl (Nat.le_refl _)⟩, hd σ H p⟩
def spNamesOf : Sp := fun vs H Q _ => ∃ (S : Addr → Prop) (v : V) (d : PyData) (n : Nat) (role : Str), vs = [v, .str role] ∧ role ∈ roles4 ∧ Dt S H v d ∧ rowD (cdOf n) d = true ∧ ∀ H' p, Same H H' → H p = none → H' p = some (.lst ((namesD role d).map V.str)) → (namesD role d).length ≤ 8 → Q (.ref p) H'
theorem role_part {n : Nat} {part : PyData} {known role : Str} (h : fitD (cdOf n) part known = true) (hr : role ∈ roles4) (e : known = role) : isNameD part = true := by
  subst e
  have n1 : known ≠ "code" := fun z => by rw [z] at hr; exact absurd hr (by decide +kernel)
  have n2 : known ≠ "registers" := fun z => by rw [z] at hr; exact absurd hr (by decide +kernel)
  unfold fitD at h
  rw [if_neg n1, if_neg n2] at h
  exact h
theorem role_args {n : Nat} {part : PyData} {known : Str} (h : fitD (cdOf n) part known = true) (e : known = "registers") : argsD part = true := by
  subst e
  unfold fitD at h
  rw [if_neg (by decide +kernel), if_pos rfl] at h
  exact h
theorem nm_few {n : Nat} {part : PyData} {known role : Str} (h : fitD (cdOf n) part known = true) : (nmD role part known).length ≤ 2 := by
  unfold nmD
  split
  · exact Nat.le_succ _
  · split
    · rename_i z
      have q := role_args h z.1
      cases part with
      | tuple ds =>
        have q : (decide (ds.length ≤ 2) && ds.all isNameD) = true := q
        have := of_decide_eq_true (Bool.and_eq_true_iff.mp q).1
        show (ds.map strD).length ≤ 2
        rw [List.length_map]
        exact this
      | _ => cases q
    · exact Nat.zero_le _
theorem flat_few {α : Type} : ∀ {l : List (List α)} {k : Nat}, (∀ x ∈ l, x.length ≤ k) → l.flatten.length ≤ k * l.length
  | [], _, _ => Nat.zero_le _
  | x :: r, k, h => by
    have h1 := h x List.mem_cons_self
    have h2 := flat_few (l := r) fun y hy => h y (List.mem_cons_of_mem _ hy)
    rw [List.flatten_cons, List.length_append, List.length_cons, Nat.mul_succ]
    omega
section
variable {P : Program} {w : World} {K : PySem.W.Frag} {mg : Str → Option Value} {base : Heap} {f fC : Addr} {fd dC : FuncData}
theorem scNO : FnScope ["statement", "role", "found", "part", "known"] ["statement", "role"] (defScope sNamesOf) := ⟨rfl, rfl, rfl, by decide +kernel, rfl, by decide +kernel, by decide +kernel⟩
theorem ok_namesof (F : Fun K "_names_of" "_names_of" sNamesOf f fd) (TF : TxtF K w mg) : FnOk P w K mg base CX0 1 f fd ["statement", "role"] spNamesOf := by
  refine F.ok scNO (fun vs H Q E h => ?_) (fun cdv A outer s H vs Q E hr h => ?_)
  · obtain ⟨S, v, d, n, role, rfl, _⟩ := h
    rfl
  · obtain ⟨S, v, d, n, role, rfl, hrole, hd, row, q⟩ := h
    obtain ⟨fa, es, nn, gM, KD, hno, _, hyes⟩ := TF.forms
    refine ⟨_, pss_cons (ps_set (i := 2) scNO.nd rfl (Or.inl rfl) (pe_lst pa_nil))
      (pss_cons (ps_for PassesOwn.never rfl (RZ.pi_zipA (by rfl) TF.zip (pa_cons (pe_slice sl_tupA (pv 0) (po_some pe_int) po_none) (pa_cons (pe_ix ix_kdict (pe_glob (v := .ref fa) (by rfl) gM rfl) (pe_ix ix_tup (pv 0) pe_int (fun _ _ => rfl)) (fun _ _ => rfl)) pa_nil)))
          (pg_tup rfl (pgs_cons (pg_name (i := 3) scNO.nd rfl (Or.inl rfl)) (pgs_cons (pg_name (i := 4) scNO.nd rfl (Or.inl rfl)) pgs_nil)))
        (pss_one (ps_if (pt_cmpR op_eq (pv 4) (pv 1) (nomark _)) (pss_one (ps_expr (pe_bm PySem.F.plainAttrs_list PySem.F.slot_list_append PySem.F.type_list_append mt_append (pv 2) (pa_cons (pv 3) pa_nil))))
          (pss_one (ps_if (PW.pt (pw_and (pt_cmpR op_eq (pv 4) pe_str (nomark _)) (pw_and1 (pt_cmpR op_eq (pv 1) pe_str (nomark _))))) (pss_one (ps_expr (pe_bm PySem.F.plainAttrs_list PySem.F.slot_list_extend PySem.F.type_list_extend mt_extT (pv 2) (pa_cons (pv 3) pa_nil)))) pss_nil)))))
      (pss_one (ps_ret (pv 2)))), ?_⟩
    obtain ⟨w0, rest, rs, rfl, hf, hlen, fits⟩ := rowD_shape row
    obtain ⟨a, xr, rfl, ea, hl, hx⟩ := hd.row
    obtain ⟨pf, hnf, hsf⟩ := hyes w0 rs hf
    have eL : namesD role (.tuple (.str w0 :: rest)) = (List.zipWith (nmD role) rest rs).flatten := by
      show (match formOf w0 with | some rs => (List.zipWith (nmD role) rest rs).flatten | none => []) = _
      rw [hf]
    rw [eL] at q
    have xl := hx.length
    have rl := form_len hf
    have each : ∀ {i : Nat} {part : PyData} {r0 : Str}, rest[i]? = some part → rs[i]? = some r0 → fitD (cdOf n) part r0 = true := fun {i part r0} h1 h2 => by
      have e : (List.zipWith (fitD (cdOf n)) rest rs)[i]? = some (fitD (cdOf n) part r0) := by rw [List.getElem?_zipWith, h1, h2]
      exact List.all_eq_true.mp fits _ (List.mem_of_getElem? e)
    have few : (List.zipWith (nmD role) rest rs).flatten.length ≤ 8 := by
      refine Nat.le_trans (flat_few (k := 2) fun x hx => ?_) ?_
      · obtain ⟨i, hi⟩ := List.getElem?_of_mem hx
        rw [List.getElem?_zipWith] at hi
        cases h1 : rest[i]? with
        | none => rw [h1] at hi; cases hi
        | some part =>
          cases h2 : rs[i]? with
          | none => rw [h1, h2] at hi; cases hi
          | some r0 =>
            rw [h1, h2] at hi
            rw [← Option.some.inj hi]
            exact nm_few (each h1 h2)
      · rw [List.length_zipWith]
        omega
    generalize eLL : List.zipWith (nmD role) rest rs = L at q few eL
    refine ⟨(by show 0 ≤ sizeLine; decide), fun p hp => ?_⟩
    have s0 := same_upd (o := .lst []) hp
    refine ⟨_, rfl, 1, rfl, a, _, rfl, SqT.of (s0 _ _ ea), fun hw => absurd hw cut_part, fun _ pc hpc => ?_⟩
    rw [cut_tail]
    have s1 := s0.trans (same_upd (o := .tup xr) hpc)
    have ppc : p ≠ pc := fun z => by
      rw [← z, upd_same] at hpc
      cases hpc
    refine ⟨_, rfl, a, _, 0, _, rfl, rfl, SqT.of (s1 _ _ ea), at0, fa, w0, .ref pf, rfl, rfl, ⟨es, nn, _, KD.at_, KD.lit, hnf, rfl⟩, ?_⟩
    refine ⟨pc, pf, xr, rs.map V.str, rfl, .inr ⟨SqT.of upd_same, hsf _, for_zipT (by rw [List.length_map]; omega) (fun i σ G => (∃ x3 x4, σ = [some (.ref a), some (.str role), some (.ref p), x3, x4]) ∧ Same H G ∧ G pc = some (.tup xr) ∧ G p = some (.lst ((L.take i).flatten.map V.str)))
      ⟨⟨_, _, rfl⟩, s1, upd_same, by rw [upd_ne ppc]; exact upd_same⟩ (fun i σ G h => ⟨SqT.of h.2.2.1, hsf _⟩) (fun i x y T σ G hxi hyi h hT => ?_) (fun σ G h => ?_)⟩⟩
    · obtain ⟨⟨x3, x4, rfl⟩, s2, epc, ep⟩ := h
      obtain ⟨part, hpi, hpt⟩ := hx.get hxi
      rw [List.getElem?_map] at hyi
      obtain ⟨r0, hr0, rfl⟩ := Option.map_eq_some_iff.mp hyi
      have fit := each hpi hr0
      have eLi : L[i]? = some (nmD role part r0) := by rw [← eLL, List.getElem?_zipWith, hpi, hr0]
      have take : (L.take (i + 1)).flatten = (L.take i).flatten ++ nmD role part r0 := by
        rw [List.take_add_one, eLi, List.flatten_append]
        simp
      have sT := same_upd (o := .tup [x, .str r0]) hT
      have s3 := s2.trans sT
      have ep3 := sT _ _ ep
      have epc3 := sT _ _ epc
      have le : (L.take (i + 1)).flatten.length ≤ 8 := by
        refine Nat.le_trans ?_ few
        conv => rhs; rw [← List.take_append_drop (i + 1) L, List.flatten_append, List.length_append]
        exact Nat.le_add_right _ _
      rw [take, List.length_append] at le
      have line : (1000 : Nat) < sizeLine := by decide
      have lm : ((L.take i).flatten.map V.str).length = (L.take i).flatten.length := List.length_map _
      refine ⟨T, _, rfl, SqT.of upd_same, rfl, _, _, rfl, _, _, rfl, rfl, ?_⟩
      refine ⟨_, rfl, _, rfl, rfl, _, rfl, ite2 (fun h1 => ?_) (fun h1 => ?_)⟩
      · have e1 : r0 = role := V.str.inj (of_decide_eq_true h1)
        have nm := role_part fit hrole e1
        cases part with
        | str z =>
          obtain rfl : x = .str z := by
            cases hpt with
            | «at» a => cases a <;> rfl
          refine ⟨_, rfl, .inl ⟨rfl, _, SqL.of ep3⟩, _, rfl, p, _, .str z, rfl, rfl, ep3, by omega, ⟨_, _, rfl⟩, same_put hp s3, by rw [upd_ne (Ne.symm ppc)]; exact epc3, ?_⟩
          rw [upd_same, take, List.map_append]
          have : nmD role (.str z) r0 = [z] := if_pos e1
          rw [this]
          rfl
        | _ => cases nm
      · have n1 : r0 ≠ role := fun z => h1 (decide_eq_true (by rw [z]))
        have stay : nmD role part r0 = [] → (∃ x3' x4', [some (V.ref a), some (.str role), some (.ref p), some x, some (.str r0)] = [some (V.ref a), some (.str role), some (.ref p), x3', x4']) ∧ Same H (upd G T (.tup [x, .str r0])) ∧ (upd G T (.tup [x, .str r0])) pc = some (.tup xr) ∧ (upd G T (.tup [x, .str r0])) p = some (.lst ((L.take (i + 1)).flatten.map V.str)) := fun e => by
          refine ⟨⟨_, _, rfl⟩, s3, epc3, ?_⟩
          rw [take, e, List.append_nil]
          exact ep3
        refine ⟨_, rfl, rfl, _, rfl, ite2 (fun h2 => ?_) (fun h2 => ?_)⟩
        · have e2 : r0 = "registers" := V.str.inj (of_decide_eq_true h2)
          refine ⟨_, rfl, rfl, _, rfl, ite2 (fun h3 => ?_) (fun h3 => ?_)⟩
          · have e3 : role = "register" := V.str.inj (of_decide_eq_true h3)
            have ar := role_args fit e2
            cases part with
            | tuple ds =>
              have ar : (decide (ds.length ≤ 2) && ds.all isNameD) = true := ar
              obtain ⟨b, zs, rfl, eb, bl, hz⟩ := hpt.tup_of
              have ez := dt_names hz (Bool.and_eq_true_iff.mp ar).2
              have em : nmD role (.tuple ds) r0 = ds.map strD := by
                unfold nmD
                rw [if_neg n1, if_pos ⟨e2, e3⟩]
                rfl
              rw [em, List.length_map] at le
              have lz : zs.length = ds.length := hz.length
              refine ⟨_, rfl, .inl ⟨rfl, _, SqL.of ep3⟩, _, rfl, p, b, _, zs, rfl, rfl, ep3, SqT.of (s3 _ _ eb), by omega, ⟨_, _, rfl⟩, same_put hp s3, by rw [upd_ne (Ne.symm ppc)]; exact epc3, ?_⟩
              rw [upd_same, take, List.map_append, em, ez]
            | _ => cases ar
          · exact stay (by
              unfold nmD
              rw [if_neg n1, if_neg fun z => h3 (decide_eq_true (by rw [z.2]))])
        · exact iteF (stay (by
            unfold nmD
            rw [if_neg n1, if_neg fun z => h2 (decide_eq_true (by rw [z.1]))]))
    · obtain ⟨⟨x3, x4, rfl⟩, s2, epc, ep⟩ := h
      have lL : L.length = xr.length := by
        rw [← eLL, List.length_zipWith]
        omega
      rw [← lL, List.take_length] at ep
      exact ⟨_, rfl, q _ p s2 hp ep few⟩
end
end OM

namespace OM
open PySem PySem.Spec PyProof.Rows L2
theorem goes_list {K : PySem.W.Frag} {a : Addr} {xs : List V} {H0 : Hp} {Z : Hp → Prop} {step : V → Hp → (Hp → Prop) → Prop} (Pv : Nat → Hp → Prop) (h0 : Pv 0 H0) (hl : ∀ i H, Pv i H → SqL K H a xs) (hs : ∀ i x H, xs[i]? = some x → Pv i H → step x H (Pv (i + 1))) (hd : ∀ H, Pv xs.length H → Z H) :
    ∃ W : Nat → Nat → Hp → Prop, (∃ m, W 0 m H0) ∧ goes (Itl K a) W Z step := by
  refine ⟨fun i m H => m = xs.length - i ∧ i ≤ xs.length ∧ Pv i H, ⟨_, rfl, Nat.zero_le _, h0⟩, ?_⟩
  rintro i m H ⟨rfl, hi, p⟩
  have q := hl i H p
  rcases Nat.lt_or_ge i xs.length with hlt | hge
  · refine .inr ⟨⟨xs, xs[i], q, by simp [hlt]⟩, Pv (i + 1), fun H' p' => ⟨xs.length - (i + 1), by omega, rfl, hlt, p'⟩, fun x H' y => ?_⟩
    obtain ⟨rfl, y⟩ := y
    exact hs i x _ (y xs q) p
  · obtain rfl : i = xs.length := by omega
    exact .inl ⟨⟨xs, q, Nat.le_refl _⟩, hd H p⟩
theorem pi_listK {X : Cx} {K : PySem.W.Frag} {tg l : Expr} {tl : TE} (hK : X.K = K) (hl : PE X l tl) : PI X tg l (iList K tl) := by
  subst hK
  exact pi_list hl
theorem firsts_snoc (l : List Str) (z : Str) : firsts [] (l ++ [z]) = addX (firsts [] l) z := by
  unfold firsts
  rw [List.foldl_append]
  rfl
theorem flatMap_few {α β : Type} {f : α → List β} {k : Nat} : ∀ {l : List α}, (∀ x ∈ l, (f x).length ≤ k) → (l.flatMap f).length ≤ k * l.length
  | [], _ => Nat.zero_le _
  | x :: r, h => by
    have h1 := h x List.mem_cons_self
    have h2 := flatMap_few (l := r) fun y hy => h y (List.mem_cons_of_mem _ hy)
    rw [List.flatMap_cons, List.length_append, List.length_cons, Nat.mul_succ]
    omega
theorem names_few {n : Nat} {d : PyData} {role : Str} (row : rowD (cdOf n) d = true) : (namesD role d).length ≤ 8 := by
  obtain ⟨w0, rest, rs, rfl, hf, hlen, fits⟩ := rowD_shape row
  have eL : namesD role (.tuple (.str w0 :: rest)) = (List.zipWith (nmD role) rest rs).flatten := by
    show (match formOf w0 with | some rs => (List.zipWith (nmD role) rest rs).flatten | none => []) = _
    rw [hf]
  have rl := form_len hf
  rw [eL]
  refine Nat.le_trans (flat_few (k := 2) fun x hx => ?_) ?_
  · obtain ⟨i, hi⟩ := List.getElem?_of_mem hx
    rw [List.getElem?_zipWith] at hi
    cases h1 : rest[i]? with
    | none => rw [h1] at hi; cases hi
    | some part =>
      cases h2 : rs[i]? with
      | none => rw [h1, h2] at hi; cases hi
      | some r0 =>
        rw [h1, h2] at hi
        rw [← Option.some.inj hi]
        have e : (List.zipWith (fitD (cdOf n)) rest rs)[i]? = some (fitD (cdOf n) part r0) := by rw [List.getElem?_zipWith, h1, h2]
        exact nm_few (n := n) (List.all_eq_true.mp fits _ (List.mem_of_getElem? e))
  · rw [List.length_zipWith]
    omega
structure TxtS (mg : Str → Option Value) : Prop where
  sorted : mg "sorted" = none
  tuple : mg "tuple" = none
  sum : mg "sum" = none
  max : mg "max" = none
  len : mg "len" = none
def spNamesIn : Sp := fun vs H Q _ => ∃ (S : Addr → Prop) (v : V) (ds : List PyData) (role : Str), vs = [v, .str role] ∧ role ∈ roles4 ∧ Dt S H v (.tuple ds) ∧ ds.all (rowD (cdOf 3)) = true ∧ (flatN 3 ds).length ≤ 400 ∧ ∀ H' p ys, Same H H' → H p = none → H' p = some (.tup (ys.map V.str)) → ys.Perm (firsts [] ((flatN 3 ds).flatMap (namesD role))) → sortedS ys = true → Q (.ref p) H'
theorem rows_flatS {n : Nat} : ∀ {d : PyData}, rowD (cdOf n) d = true → ∀ e ∈ flatS n d, ∃ m, rowD (cdOf m) e = true := by
  induction n with
  | zero =>
    intro d row e he
    rw [List.mem_singleton.mp he]
    exact ⟨0, row⟩
  | succ n ih =>
    intro d row e he
    rcases List.mem_cons.mp he with rfl | he
    · exact ⟨n + 1, row⟩
    · obtain ⟨c, hc, he⟩ := List.mem_flatMap.mp he
      obtain ⟨d', hd', he⟩ := List.mem_flatMap.mp he
      obtain ⟨m, em, rows, _⟩ := row_in row hc
      obtain rfl : n = m := by omega
      exact ih (List.all_eq_true.mp rows d' hd') e he
section
variable {P : Program} {w : World} {K : PySem.W.Frag} {mg : Str → Option Value} {base : Heap} {f fC fF fO : Addr} {fd dC dF dO : FuncData}
/-- flattened, codes_in, _names_of as they stand -/
structure FlatF (K : PySem.W.Frag) (mg : Str → Option Value) (fF fC fO : Addr) (dF dC dO : FuncData) : Prop where
  FF : Fun K "flattened" "flattened" sFlat fF dF
  FC : Fun K "codes_in" "codes_in" sCin fC dC
  FO : Fun K "_names_of" "_names_of" sNamesOf fO dO
  gF : mg "flattened" = some (.ref fF)
  gC : mg "codes_in" = some (.ref fC)
  gO : mg "_names_of" = some (.ref fO)
  bF : Binds K dF ["code"] []
  bC : Binds K dC ["statement"] []
  bO : Binds K dO ["statement", "role"] []
theorem ok_flat (C : FlatF K mg fF fC fO dF dC dO) : ∀ n, FnOk P w K mg base CX0 (n + 1) fF dF ["code"] (spFlatAt n)
  | 0 => ⟨fun _ _ _ _ h => h.elim, fun _ _ _ _ _ _ _ _ _ _ _ _ _ h => h.elim⟩
  | n + 1 => flat_step C.FF C.gF C.bF (ok_flat C n) C.FC C.gC C.bC
theorem scNI : FnScope ["code", "role", "name", "statement"] ["code", "role"] (defScope sNamesIn) := ⟨rfl, rfl, rfl, by decide +kernel, rfl, by decide +kernel, by decide +kernel⟩
theorem ok_namesin (F : Fun K "names_in" "names_in" sNamesIn f fd) (TF : TxtF K w mg) (TS : TxtS mg) (C : FlatF K mg fF fC fO dF dC dO) : FnOk P w K mg base CX0 6 f fd ["code", "role"] spNamesIn := by
  have GF : FnOk P w K mg base CX0 5 fF dF ["code"] (spFlatAt 4) := ok_flat C 4
  have GO : FnOk P w K mg base CX0 1 fO dO ["statement", "role"] spNamesOf := ok_namesof C.FO TF
  refine F.ok scNI (fun vs H Q E h => ?_) (fun cdv A outer s H vs Q E hr h => ?_)
  · obtain ⟨S, v, ds, role, rfl, _⟩ := h
    rfl
  · obtain ⟨S, v, ds, role, rfl, hrole, hd, rows, size, q⟩ := h
    refine ⟨_, pss_one (ps_ret (pe_callTy call_tuple_of (by rfl) TS.tuple (by decide +kernel) (pa_cons (pe_callB (cr_sortX rfl) (by rfl) TS.sorted (by decide +kernel) (pa_cons (pe_sx2 (own := [("name", 2), ("statement", 3)]) (vs1 := [2]) rfl scNI.nd
      (pi_list (pe_call GF hr (by rfl) C.gF C.FF.kp C.bF .nil pass0 (pa_cons (pv 0) pa_nil))) (blkOk_by (N := ["code", "role", "name", "statement"]) (sc := defScope sNamesIn) (by decide +kernel)) (by simp)
      (fun _ _ _ _ _ => pg_name (i := 3) scNI.nd rfl (Or.inl rfl)) (fun _ _ _ _ _ => pts_nil)
      (fun _ _ _ _ _ => pi_listK (K := K) rfl (pe_call GO (hr.mono (by decide)) (by rfl) C.gO C.FO.kp C.bO .nil pass0 (pa_cons (pv 3) (pa_cons (pv 1) pa_nil)))) (fun _ _ _ _ _ => pg_name (i := 2) scNI.nd rfl (Or.inl rfl)) (fun _ _ _ _ _ => pts_nil)
      (fun _ _ _ _ _ => pv 2)) pa_nil)) pa_nil))), ?_⟩
    have live : ∀ b, (S b ∧ H b ≠ none) → H b ≠ none := fun b z => z.2
    refine ⟨_, rfl, _, v, ds, rfl, hd.live, rows, Nat.le_trans size (by decide), fun H1 pl xs s1 hpl epl dl => ⟨pl, rfl, ⟨xs, SqL.of epl⟩, fun D hD => goes_list (xs := xs) (fun i H' => Same H1 H' ∧ H' D = some (SetTO w D (firsts [] (((flatN 3 ds).take i).flatMap (namesD role))))) ⟨same_upd hD, upd_same⟩ (fun i H' h => SqL.of (h.1 _ _ epl)) (fun i x H' hx h => ?_) (fun H' h => ?_)⟩⟩
    · obtain ⟨s2, eD⟩ := h
      obtain ⟨d, hdi, hdt⟩ := dl.get hx
      obtain ⟨d0, hd0, hmem⟩ := List.mem_flatMap.mp (List.mem_of_getElem? hdi)
      obtain ⟨m, row⟩ := rows_flatS (List.all_eq_true.mp rows d0 hd0) d hmem
      have take : ((flatN 3 ds).take (i + 1)).flatMap (namesD role) = ((flatN 3 ds).take i).flatMap (namesD role) ++ namesD role d := by
        rw [List.take_add_one, hdi, List.flatMap_append]
        simp
      refine ⟨rfl, _, rfl, _, rfl, _, x, d, m, role, rfl, hrole, hdt.base live s1 (s1.trans s2), row, fun H3 pn s3 hpn epn few => ⟨pn, rfl, ⟨_, SqL.of epn⟩, goes_list (xs := (namesD role d).map V.str) (fun j H4 => Same H1 H4 ∧ H4 pn = some (.lst ((namesD role d).map V.str)) ∧ H4 D = some (SetTO w D (firsts [] (((flatN 3 ds).take i).flatMap (namesD role) ++ (namesD role d).take j)))) ⟨s2.trans s3, epn, by rw [List.take_zero, List.append_nil]; exact s3 _ _ eD⟩ (fun j H4 h => SqL.of h.2.1) (fun j y H4 hy h => ?_) (fun H4 h => ?_)⟩⟩
      · obtain ⟨s4, en4, eD4⟩ := h
        rw [List.getElem?_map] at hy
        obtain ⟨z, hz, rfl⟩ := Option.map_eq_some_iff.mp hy
        refine ⟨rfl, _, rfl, z, _, rfl, eD4, ?_, same_put hD s4, ?_, ?_⟩
        · have l1 := len_firsts (((flatN 3 ds).take i).flatMap (namesD role) ++ (namesD role d).take j) []
          have l2 : (((flatN 3 ds).take i).flatMap (namesD role)).length ≤ 8 * ((flatN 3 ds).take i).length := flatMap_few fun e he => by
            obtain ⟨d1, hd1, hm1⟩ := List.mem_flatMap.mp (List.mem_of_mem_take he)
            obtain ⟨m1, row1⟩ := rows_flatS (List.all_eq_true.mp rows d1 hd1) e hm1
            exact names_few row1
          have l3 : ((flatN 3 ds).take i).length ≤ (flatN 3 ds).length := List.length_take_le' _ _
          have l4 : ((namesD role d).take j).length ≤ (namesD role d).length := List.length_take_le' _ _
          have l5 : scanBound = 4096 := rfl
          rw [List.length_append] at l1
          simp only [List.length_nil] at l1
          omega
        · rw [upd_ne (fun z => by rw [z, eD4] at en4; cases en4)]
          exact en4
        · rw [upd_same, List.take_add_one, hz, ← List.append_assoc]
          show _ = some (SetTO w D (firsts [] (_ ++ [z])))
          rw [firsts_snoc]
          rfl
      · obtain ⟨s4, en4, eD4⟩ := h
        refine ⟨s4, ?_⟩
        rw [List.length_map, List.take_length, ← take] at eD4
        exact eD4
    · obtain ⟨s2, eD⟩ := h
      rw [dl.length, List.take_length] at eD
      refine ⟨D, _, rfl, eD, fun ys p3 pm so hp3 => ⟨p3, _, rfl, .inl ⟨SqL.of upd_same, fun p4 hp4 => ?_⟩⟩⟩
      have s3 := (s1.trans s2).trans (same_upd (o := .lst (ys.map V.str)) hp3)
      exact q _ p4 ys (s3.trans (same_upd hp4)) (s3.free hp4) upd_same pm so
end
end OM

namespace OM
open PySem PySem.Spec PyProof.Rows L2
abbrev sMost : Stmt := top 33
abbrev sMostAt : Stmt := top 34
abbrev sKind : Stmt := top 35
/-- what a statement counts as on a path -/
def kindD : PyData → Str
  | .tuple (.str w :: rest) => if w = "get" ∨ w = "put" then "letter" else if w = "set" then (match rest with | [_, _, .tuple []] => "constant" | _ => "set") else w
  | _ => ""
def ownD (k : Str) (d : PyData) : Nat := if kindD d = k then 1 else 0
def maxL : List Nat → Nat
  | [] => 0
  | x :: r => max x (maxL r)
def mostS : Nat → Str → PyData → Nat
  | 0, k, d => ownD k d
  | n + 1, k, d => ownD k d + maxL ((inner2 d).map fun c => (c.map (mostS n k)).sum)
def mostN (n : Nat) (k : Str) (ds : List PyData) : Nat := (ds.map (mostS n k)).sum
theorem inV_two (x a b : Str) : inV (.str x) [.str a, .str b] = true ↔ x = a ∨ x = b := by
  have h : ∀ y : Str, (y == x) = decide (x = y) := fun y => by
    rw [Bool.eq_iff_iff, beq_iff_eq, decide_eq_true_iff, eq_comm]
  unfold inV
  simp only [List.any_cons, List.any_nil, eqV, h, Bool.or_false, Bool.or_eq_true, decide_eq_true_iff]
def spKind : Sp := fun vs H Q _ => ∃ (S : Addr → Prop) (v : V) (d : PyData) (n : Nat), vs = [v] ∧ Dt S H v d ∧ rowD (cdOf n) d = true ∧ ∀ H', Same H H' → Q (.str (kindD d)) H'
def spMostAt (n : Nat) : Sp := fun vs H Q _ => ∃ (S : Addr → Prop) (v : V) (d : PyData) (k : Str), vs = [v, .str k] ∧ Dt S H v d ∧ rowD (cdOf n) d = true ∧ ∀ H', Same H H' → Q (.int (mostS n k d)) H'
def spMost : Nat → Sp
  | 0 => fun _ _ _ _ => False
  | n + 1 => fun vs H Q _ => ∃ (S : Addr → Prop) (v : V) (ds : List PyData) (k : Str), vs = [v, .str k] ∧ Dt S H v (.tuple ds) ∧ ds.all (rowD (cdOf n)) = true ∧ ∀ H', Same H H' → Q (.int (mostN n k ds)) H'
section
variable {P : Program} {w : World} {K : PySem.W.Frag} {mg : Str → Option Value} {base : Heap} {f fC fK fA : Addr} {fd dC dK dA : FuncData}
theorem scKd : FnScope ["statement"] ["statement"] (defScope sKind) := ⟨rfl, rfl, rfl, by decide +kernel, rfl, by decide +kernel, by decide +kernel⟩
theorem ok_kind (F : Fun K "_path_kind" "_path_kind" sKind f fd) : FnOk P w K mg base CX0 1 f fd ["statement"] spKind := by
  refine F.ok scKd (fun vs H Q E h => ?_) (fun cdv A outer s H vs Q E hr h => ?_)
  · obtain ⟨S, v, d, n, rfl, _⟩ := h
    rfl
  · obtain ⟨S, v, d, n, rfl, hd, row, q⟩ := h
    refine ⟨_, pss_cons (ps_if (pt_cmpR op_in_seq (pe_ix ix_tup (pv 0) pe_int (fun _ _ => rfl)) (pe_tup (pa_cons pe_str (pa_cons pe_str pa_nil))) (by rfl)) (pss_one (ps_ret pe_str)) pss_nil)
      (pss_cons (ps_if (pt_cmpR op_eq (pe_ix ix_tup (pv 0) pe_int (fun _ _ => rfl)) pe_str (nomark _)) (pss_one (ps_ret (pe_ifExp (pt_truth (pe_ix ix_tup (pv 0) pe_int (fun _ _ => rfl)) (by intro _; rfl)) pe_str pe_str))) pss_nil)
      (pss_one (ps_ret (pe_ix ix_tup (pv 0) pe_int (fun _ _ => rfl))))), ?_⟩
    obtain ⟨w0, rest, rs, rfl, hf, hlen, fits⟩ := rowD_shape row
    obtain ⟨a, xr, rfl, ea, hl, hx⟩ := hd.row
    refine ⟨_, rfl, a, _, 0, _, rfl, rfl, SqT.of ea, at0, (by show 2 ≤ sizeLine; decide), fun pt hpt => ?_⟩
    have s1 := same_upd (o := .tup [.str "get", .str "put"]) hpt
    refine ⟨pt, _, rfl, .inr (SqT.of upd_same), rfl, by decide, _, rfl, ite2 (fun h1 => ?_) (fun h1 => ?_)⟩
    · have e : kindD (.tuple (.str w0 :: rest)) = "letter" := if_pos ((inV_two _ _ _).mp h1)
      have z := q _ s1
      rw [e] at z
      exact z
    · have n1 : ¬ (w0 = "get" ∨ w0 = "put") := fun z => h1 ((inV_two _ _ _).mpr z)
      refine ⟨_, rfl, a, _, 0, _, rfl, rfl, SqT.of (s1 _ _ ea), at0, rfl, _, rfl, ite2 (fun h2 => ?_) (fun h2 => ?_)⟩
      · obtain rfl : w0 = "set" := V.str.inj (of_decide_eq_true h2)
        have e4 : formOf "set" = some (["register", "function", "registers"] : List Str) := by decide +kernel
        rw [e4] at hf
        obtain rfl := (Option.some.inj hf).symm
        match rest, hlen with
        | [d1, d2, d3], _ =>
          rw [row_set] at row
          simp only [Bool.and_eq_true, and_true] at row
          obtain ⟨_, _, ar⟩ := row
          cases d3 with
          | tuple ds =>
            cases hx with
            | @cons x1 _ _ _ k1 hx =>
              cases hx with
              | @cons x2 _ _ _ k2 hx =>
                cases hx with
                | @cons x3 _ _ _ k3 hx =>
                  cases hx
                  obtain ⟨b, zs, rfl, eb, bl, hz⟩ := k3.tup_of
                  have lz := hz.length
                  refine ⟨_, rfl, a, _, 3, .ref b, rfl, rfl, SqT.of (s1 _ _ ea), rfl, !zs.isEmpty, .inr (.inl ⟨zs, SqT.of (s1 _ _ eb), rfl⟩), ?_⟩
                  cases hz with
                  | nil => exact iteF (q _ s1)
                  | cons _ _ => exact iteT (q _ s1)
          | _ => cases ar
      · have n2 : w0 ≠ "set" := fun z => h2 (decide_eq_true (by rw [z]))
        have e : kindD (.tuple (.str w0 :: rest)) = w0 := by
          show (if _ then _ else _) = _
          rw [if_neg n1, if_neg n2]
        have z := q _ s1
        rw [e] at z
        exact ⟨_, rfl, a, _, 0, _, rfl, rfl, SqT.of (s1 _ _ ea), at0, z⟩
theorem scMA : FnScope ["statement", "kind", "own", "inner"] ["statement", "kind"] (defScope sMostAt) := ⟨rfl, rfl, rfl, by decide +kernel, rfl, by decide +kernel, by decide +kernel⟩
theorem scMo : FnScope ["code", "kind", "statement"] ["code", "kind"] (defScope sMost) := ⟨rfl, rfl, rfl, by decide +kernel, rfl, by decide +kernel, by decide +kernel⟩
/-- a list of numbers that grows -/
def PvI (H : Hp) (D : Addr) (bs : List Nat) (i : Nat) (H' : Hp) : Prop := Same H H' ∧ H' D = some (.lst ((bs.take i).map fun n : Nat => V.int (n : Int)))
theorem PvI.step {H H3 H4 : Hp} {D : Addr} {bs : List Nat} {i b : Nat} (hD : H D = none) (hl : bs.length ≤ 1000) (hb : bs[i]? = some b) (p : PvI H D bs i H3) (s : Same H3 H4) : ∃ acc, H4 D = some (.lst acc) ∧ acc.length < sizeLine ∧ PvI H D bs (i + 1) (upd H4 D (.lst (acc ++ [V.int (b : Int)]))) := by
  refine ⟨_, s _ _ p.2, ?_, same_put hD (p.1.trans s), ?_⟩
  · rw [List.length_map, List.length_take]
    have : (1000 : Nat) < sizeLine := by decide
    omega
  · rw [upd_same, List.take_add_one, hb, List.map_append]
    rfl
theorem PvI.all {H H5 : Hp} {D : Addr} {bs : List Nat} {n : Nat} (p : PvI H D bs n H5) (hn : n = bs.length) : Same H H5 ∧ H5 D = some (.lst ((bs.map fun n : Nat => (n : Int)).map V.int)) := by
  have e := p.2
  rw [hn, List.take_length] at e
  rw [List.map_map]
  exact ⟨p.1, e⟩
theorem sum_nat (bs : List Nat) : (bs.map fun n : Nat => (n : Int)).sum = ((bs.sum : Nat) : Int) := by
  induction bs with
  | nil => rfl
  | cons b r ih =>
    rw [List.map_cons, List.sum_cons, List.sum_cons, ih]
    omega
theorem maxL_of (bs : List Nat) {m : Int} (h : m ∈ (bs.map fun n : Nat => (n : Int))) (hm : ∀ y ∈ (bs.map fun n : Nat => (n : Int)), y ≤ m) : m = ((maxL bs : Nat) : Int) := by
  have le : ∀ bs : List Nat, ∀ b ∈ bs, b ≤ maxL bs := fun bs => by
    induction bs with
    | nil => intro b h; cases h
    | cons x r ih =>
      intro b h
      show b ≤ max x (maxL r)
      rcases List.mem_cons.mp h with rfl | h
      · omega
      · have := ih b h
        omega
  have mem : ∀ bs : List Nat, bs ≠ [] → maxL bs ∈ bs := fun bs => by
    induction bs with
    | nil => intro h; exact absurd rfl h
    | cons x r ih =>
      intro _
      show max x (maxL r) ∈ x :: r
      cases r with
      | nil =>
        show max x 0 ∈ [x]
        rw [Nat.max_zero]
        exact List.mem_cons_self
      | cons y r =>
        have := ih (by simp)
        rcases Nat.le_total x (maxL (y :: r)) with h | h
        · rw [Nat.max_eq_right h]
          exact List.mem_cons_of_mem _ this
        · rw [Nat.max_eq_left h]
          exact List.mem_cons_self
  obtain ⟨b, hb, rfl⟩ := List.mem_map.mp h
  have h1 := le bs b hb
  have h2 := hm _ (List.mem_map.mpr ⟨maxL bs, mem bs (fun z => by rw [z] at hb; cases hb), rfl⟩)
  omega
theorem mostS_row {n : Nat} {k : Str} {d : PyData} (row : rowD (cdOf n) d = true) : mostS n k d = ownD k d + maxL ((inner2 d).map fun c => (c.map (mostS (n - 1) k)).sum) := by
  cases n with
  | succ m => rfl
  | zero =>
    rcases row_iff row with ⟨m, _, _, _, _, e, _⟩ | ⟨_, _, _, _, e⟩
    · cases e
    · rw [e]
      rfl
theorem most_step {n j : Nat} (F : Fun K "most_on_path" "most_on_path" sMost f fd) (TS : TxtS mg) (gA : mg "_most_at" = some (.ref fA)) (kA : PySem.W.keepIn K (.ref fA) = true) (bA : Binds K dA ["statement", "kind"] []) (GA : FnOk P w K mg base CX0 j fA dA ["statement", "kind"] (spMostAt n)) :
    FnOk P w K mg base CX0 (j + 1) f fd ["code", "kind"] (spMost (n + 1)) := by
  refine F.ok scMo (fun vs H Q E h => ?_) (fun cdv A outer s H vs Q E hr h => ?_)
  · obtain ⟨S, v, ds, k, rfl, _⟩ := h
    rfl
  · obtain ⟨S, v, ds, k, rfl, hd, rows, q⟩ := h
    refine ⟨_, pss_one (ps_ret (pe_callB (cr_sum rfl) (by rfl) TS.sum (by decide +kernel) (pa_cons (pe_lc (own := [("statement", 2)]) rfl scMo.nd (pi_tup (pv 0)) (blkOk_by (N := ["code", "kind", "statement"]) (sc := defScope sMost) (by decide +kernel))
      (fun _ _ _ _ _ => pg_name (i := 2) scMo.nd rfl (Or.inl rfl)) (fun _ _ _ _ _ => pts_nil) (fun _ _ _ _ _ => pe_call GA hr (by rfl) gA kA bA .nil pass0 (pa_cons (pv 2) (pa_cons (pv 1) pa_nil)))) pa_nil))), ?_⟩
    obtain ⟨a, xs, rfl, ea, hl, hx⟩ := hd.live.tup_of
    have live : ∀ b, (S b ∧ H b ≠ none) → H b ≠ none := fun b z => z.2
    refine ⟨_, rfl, a, rfl, ⟨xs, SqT.of ea⟩, fun Dl hD => lc_tup (PvI H Dl (ds.map (mostS n k))) ⟨same_upd hD, upd_same⟩ (fun i H' _ p => SqT.of (p.1 _ _ ea)) (fun i x H3 hi p => ?_) (fun H5 p => ?_)⟩
    · obtain ⟨d, hdi, hdt⟩ := hx.get hi
      have := hx.length
      refine ⟨rfl, _, rfl, _, rfl, _, x, d, k, rfl, hdt.base live (Same.refl H) p.1, List.all_eq_true.mp rows d (List.mem_of_getElem? hdi), fun H4 s4 => p.step hD (by rw [List.length_map]; omega) (by rw [List.getElem?_map, hdi]; rfl) s4⟩
    · obtain ⟨s5, e5⟩ := p.all (by rw [List.length_map]; exact hx.length)
      refine ⟨Dl, _, rfl, SqL.of e5, ?_⟩
      have z := q _ s5
      rw [sum_nat]
      exact z
theorem mostat_ok {n j : Nat} (F : Fun K "_most_at" "_most_at" sMostAt fA dA) (TS : TxtS mg) (gM : mg "most_on_path" = some (.ref f)) (kM : PySem.W.keepIn K (.ref f) = true) (bM : Binds K fd ["code", "kind"] []) (GM : FnOk P w K mg base CX0 (j + 1) f fd ["code", "kind"] (spMost n))
    (FC : Fun K "codes_in" "codes_in" sCin fC dC) (gC : mg "codes_in" = some (.ref fC)) (bC : Binds K dC ["statement"] []) (FK : Fun K "_path_kind" "_path_kind" sKind fK dK) (gK : mg "_path_kind" = some (.ref fK)) (bK : Binds K dK ["statement"] []) :
    FnOk P w K mg base CX0 (j + 2) fA dA ["statement", "kind"] (spMostAt n) := by
  have GC : FnOk P w K mg base CX0 1 fC dC ["statement"] spCin := ok_cin FC
  have GK : FnOk P w K mg base CX0 1 fK dK ["statement"] spKind := ok_kind FK
  refine F.ok scMA (fun vs H Q E h => ?_) (fun cdv A outer s H vs Q E hr h => ?_)
  · obtain ⟨S, v, d, k, rfl, _⟩ := h
    rfl
  · obtain ⟨S, v, d, k, rfl, hd, row, q⟩ := h
    have hu : (A.deeper (envOfC "_most_at" (defScope sMostAt) s.heap.objs.size fA cdv)).units + 1 < cLine := by
      have := hr.un
      omega
    refine ⟨_, pss_cons (ps_set (i := 2) scMA.nd rfl (Or.inl rfl) (pe_ifExp (pt_cmpR op_eq (pe_call GK (hr.mono (by omega)) (by rfl) gK FK.kp bK .nil pass0 (pa_cons (pv 0) pa_nil)) (pv 1) (nomark _)) pe_int pe_int))
      (pss_one (ps_ret (pe_op op_add (pv 2) (pe_callBK (cr_maxDef rfl hu) (by rfl) TS.max (by decide +kernel) (pa_cons (pe_lc (own := [("inner", 3)]) rfl scMA.nd (pi_tup (pe_call GC (hr.mono (by omega)) (by rfl) gC FC.kp bC .nil pass0 (pa_cons (pv 0) pa_nil))) (blkOk_by (N := ["statement", "kind", "own", "inner"]) (sc := defScope sMostAt) (by decide +kernel))
        (fun _ _ _ _ _ => pg_name (i := 3) scMA.nd rfl (Or.inl rfl)) (fun _ _ _ _ _ => pts_nil) (fun _ _ _ _ _ => pe_call GM hr (by rfl) gM kM bM .nil pass0 (pa_cons (pv 3) (pa_cons (pv 1) pa_nil)))) pa_nil) (pk_cons pe_int pk_nil))))), ?_⟩
    have live : ∀ b, (S b ∧ H b ≠ none) → H b ≠ none := fun b z => z.2
    refine ⟨_, rfl, S, v, d, n, rfl, hd, row, fun H1 s1 => ⟨_, rfl, rfl, _, rfl, ite2 (fun h1 => ?_) (fun h1 => ?_)⟩⟩
    all_goals
      refine ⟨_, rfl, _, rfl, _, v, d, n, rfl, hd.live.base live (Same.refl H) s1, row, fun H3 pc cs s3 hpc epc dc => ⟨pc, rfl, ⟨cs, SqT.of epc⟩, fun Dl hD => lc_tup (PvI H3 Dl ((inner2 d).map fun c => (c.map (mostS (n - 1) k)).sum)) ⟨same_upd hD, upd_same⟩ (fun i H' _ p => SqT.of (p.1 _ _ epc)) (fun i x H4 hi p => ?_) (fun H5 p => ?_)⟩⟩
      · obtain ⟨cdt, hcd, hct⟩ := dc.get hi
        rw [List.getElem?_map] at hcd
        obtain ⟨cd, hc2, rfl⟩ := Option.map_eq_some_iff.mp hcd
        obtain ⟨m, rfl, rows', _⟩ := row_in row (List.mem_of_getElem? hc2)
        have two : (inner2 d).length ≤ 2 := by
          rcases row_iff row with ⟨_, _, _, _, _, _, rfl, _⟩ | ⟨_, _, _, _, e⟩
          · exact Nat.le_refl 2
          · rw [e]
            exact Nat.zero_le _
        refine ⟨rfl, _, rfl, _, rfl, _, x, cd, k, rfl, hct.base live (s1.trans s3) ((s1.trans s3).trans p.1), rows', fun H6 s6 => p.step (b := mostN m k cd) hD (by rw [List.length_map]; omega) (by rw [List.getElem?_map, hc2]; rfl) s6⟩
      · obtain ⟨s5, e5⟩ := p.all (by rw [List.length_map, dc.length, List.length_map])
        have fin : ∀ M : Nat, M = maxL ((inner2 d).map fun c => (c.map (mostS (n - 1) k)).sum) → Q (.int (((ownD k d : Nat) : Int) + (M : Int))) H5 := fun M e => by
          have z := q _ ((s1.trans s3).trans s5)
          rw [mostS_row row, ← e, Int.natCast_add] at z
          exact z
        first
          | (have eo : ((ownD k d : Nat) : Int) = 1 := by
              unfold ownD
              rw [if_pos (V.str.inj (of_decide_eq_true h1))]
              rfl)
          | (have eo : ((ownD k d : Nat) : Int) = 0 := by
              unfold ownD
              rw [if_neg fun z => h1 (decide_eq_true (by rw [z]))]
              rfl)
        rw [eo] at fin
        refine ⟨Dl, _, 0, rfl, rfl, SqL.of e5, fun e => ⟨_, _, rfl, rfl, ?_⟩, fun M hM hle => ⟨_, _, rfl, rfl, ?_⟩⟩
        · have e0 : (inner2 d).map (fun c => (c.map (mostS (n - 1) k)).sum) = [] := List.map_eq_nil_iff.mp e
          exact fin 0 (by rw [e0]; rfl)
        · rw [maxL_of _ hM hle]
          exact fin _ rfl
end
end OM

namespace OM
open PySem PySem.Spec PyProof.Rows L2
abbrev sIsSet : Stmt := top 22
abbrev sKept : Stmt := top 48
abbrev sBounded : Stmt := top 47
def ltS (a b : Str) : Bool := decide (a.cps.toList < b.cps.toList)
/-- a set of names: ascending -/
def setD : PyData → Bool
  | .tuple ds => ds.all isNameD && (List.zipWith ltS (ds.map strD) (ds.map strD).tail).all id
  | _ => false
def keptD : PyData → Bool
  | .tuple ds => setD (.tuple ds) && decide (ds.length ≤ 4)
  | _ => false
def spSet : Sp := fun vs H Q _ => ∃ (S : Addr → Prop) (v : V) (d : PyData), vs = [v] ∧ Dt S H v d ∧ smlD d = true ∧ ∀ H', Same H H' → Q (.bl (setD d)) H'
def spKept : Sp := fun vs H Q _ => ∃ (S : Addr → Prop) (v : V) (d : PyData), vs = [v] ∧ Dt S H v d ∧ smlD d = true ∧ ∀ H', Same H H' → Q (.bl (keptD d)) H'
/-- over two tuples side by side, the second one shorter -/
theorem lc_zipS {K : PySem.W.Frag} {a b : Addr} {xs ys : List V} {g : TG} {tt : TT} {te : TE} {vs : List Nat} {σ : L2.St} {H1 : Hp} {D : Addr} {Qd : Hp → Prop} (hlen : ys.length ≤ xs.length) (Pv : Nat → Hp → Prop) (h0 : Pv 0 (upd H1 D (.lst []))) (hl : ∀ i H, Pv i H → SqT K H a xs ∧ SqT K H b ys)
    (hs : ∀ i x y T H, xs[i]? = some x → ys[i]? = some y → Pv i H → H T = none → g (.ref T) (wipe σ vs) (upd H T (.tup [x, y])) fun σ2 H2 => wipe σ2 vs = wipe σ vs ∧ tt σ2 H2 fun b H3 =>
      if b = true then te σ2 H3 fun y H4 => ∃ acc, H4 D = some (.lst acc) ∧ acc.length < sizeLine ∧ Pv (i + 1) (upd H4 D (.lst (acc ++ [y]))) else Pv (i + 1) H3) (hd : ∀ H, Pv ys.length H → Qd H) :
    ∃ W : Nat → Nat → Hp → Prop, (∃ m, W 0 m (upd H1 D (.lst []))) ∧ ∀ i m H, W i m H →
      ((RZ.ItzT K a b).stop i H ∧ Qd H) ∨ ((RZ.ItzT K a b).go i H ∧ ∃ Nx : Hp → Prop, (∀ H', Nx H' → ∃ m', m' < m ∧ W (i + 1) m' H') ∧ ∀ v H', (RZ.ItzT K a b).yld i H v H' → g v (wipe σ vs) H' fun σ2 H2 => wipe σ2 vs = wipe σ vs ∧ tt σ2 H2 fun b H3 =>
        if b = true then te σ2 H3 fun y H4 => ∃ acc, H4 D = some (.lst acc) ∧ acc.length < sizeLine ∧ Nx (upd H4 D (.lst (acc ++ [y]))) else Nx H3) := by
  refine ⟨fun i m H => i ≤ ys.length ∧ m = ys.length - i ∧ Pv i H, ⟨_, Nat.zero_le _, rfl, h0⟩, ?_⟩
  rintro i m H ⟨hi, rfl, p⟩
  obtain ⟨qx, qy⟩ := hl i H p
  rcases Nat.lt_or_ge i ys.length with hlt | hge
  · have hx : xs[i]? = some (xs[i]'(by omega)) := List.getElem?_eq_getElem (by omega)
    have hy : ys[i]? = some ys[i] := List.getElem?_eq_getElem hlt
    refine .inr ⟨⟨xs, ys, _, _, qx, qy, hx, hy⟩, Pv (i + 1), fun H' p' => ⟨ys.length - (i + 1), by omega, hlt, rfl, p'⟩, ?_⟩
    rintro v H' ⟨T, x', y', rfl, hT, rfl, f1, f2⟩
    exact hs i x' y' T H (f1 xs qx) (f2 ys qy) p hT
  · obtain rfl : i = ys.length := by omega
    exact .inl ⟨⟨xs, ys, qx, qy, .inr (Nat.le_refl _)⟩, hd H p⟩
theorem zipWith_idx {α β γ : Type} {f : α → β → γ} {l : List α} {r : List β} {i : Nat} {x : α} {y : β} (h1 : l[i]? = some x) (h2 : r[i]? = some y) : (List.zipWith f l r)[i]? = some (f x y) := by
  rw [List.getElem?_zipWith, h1, h2]
theorem tail_strs (ls : List Str) : (ls.map V.str).tail = ls.tail.map V.str := by cases ls <;> rfl
section
variable {P : Program} {w : World} {K : PySem.W.Frag} {mg : Str → Option Value} {base : Heap} {f fI fS : Addr} {fd dI dS : FuncData}
theorem scSet : FnScope ["value", "name", "after"] ["value"] (defScope sIsSet) := ⟨rfl, rfl, rfl, by decide +kernel, rfl, by decide +kernel, by decide +kernel⟩
theorem ok_isset (F : Fun K "is_set" "is_set" sIsSet f fd) (T : TxtN K mg) (TF : TxtF K w mg) (gI : mg "is_name" = some (.ref fI)) (FI : Fun K "is_name" "is_name" sIsName fI dI) (bI : Binds K dI ["value"] []) : FnOk P w K mg base CX0 2 f fd ["value"] spSet := by
  have GI : FnOk P w K mg base CX0 1 fI dI ["value"] spName := ok_isname FI T
  refine F.ok scSet (fun vs H Q E h => ?_) (fun cdv A outer s H vs Q E hr h => ?_)
  · obtain ⟨S, v, d, rfl, _⟩ := h
    rfl
  · obtain ⟨S, v, d, rfl, hd, sm, q⟩ := h
    refine ⟨_, pss_one (ps_ret (pe_and (pe_callB call_isi (by rfl) T.isi (by decide +kernel) (pa_cons (pv 0) (pa_cons (pe_bltn (v := .ty "tuple") (u := .type "tuple") (by rfl) TF.tup (by decide +kernel) rfl) pa_nil)))
      (pe_and (pe_callB (cr_all rfl) (by rfl) T.all (by decide +kernel) (pa_cons (pe_lc (own := [("name", 1)]) rfl scSet.nd (pi_tup (pv 0)) (blkOk_by (N := ["value", "name", "after"]) (sc := defScope sIsSet) (by decide +kernel))
            (fun _ _ _ _ _ => pg_name (i := 1) scSet.nd rfl (Or.inl rfl)) (fun _ _ _ _ _ => pts_nil) (fun _ _ _ _ _ => pe_call GI hr (by rfl) gI FI.kp bI .nil pass0 (pa_cons (pv 1) pa_nil))) pa_nil))
      (pe_one (pe_callB (cr_all rfl) (by rfl) T.all (by decide +kernel) (pa_cons (pe_lc (g := gTup K 2 (gCons (gName 1) (gCons (gName 2) gNil))) (own := [("name", 1), ("after", 2)]) rfl scSet.nd (RZ.pi_zipA (by rfl) TF.zip (pa_cons (pv 0) (pa_cons (pe_slice sl_tupA (pv 0) (po_some pe_int) po_none) pa_nil))) (blkOk_by (N := ["value", "name", "after"]) (sc := defScope sIsSet) (by decide +kernel))
            (fun _ _ _ _ _ => pg_tup rfl (pgs_cons (pg_name (i := 1) scSet.nd rfl (Or.inl rfl)) (pgs_cons (pg_name (i := 2) scSet.nd rfl (Or.inl rfl)) pgs_nil))) (fun _ _ _ _ _ => pts_nil) (fun _ _ _ _ _ => pe_cmpR op_lt_str (pv 1) (pv 2) (nomark _))) pa_nil)))))), ?_⟩
    cases ht : isTupD d with
    | false =>
      have e : setD d = false := by cases d <;> first | rfl | cases ht
      refine isi_te (x := v) rfl hd.tyx ((kit_tup d).trans (congrArg some ht)) ⟨_, rfl, iteF ?_⟩
      have z := q H (Same.refl _)
      rw [e] at z
      exact z
    | true =>
      cases d with
      | tuple ds =>
        obtain ⟨a, xs, rfl, ea, hl, hx⟩ := hd.tup_of
        have sa : smlAll ds = true := by
          unfold smlD at sm
          exact sm
        have xl := hx.length
        refine isi_te (x := .ref a) rfl (.base (.tup ea)) (kit_tup (.tuple ds)) ⟨_, rfl, iteT ?_⟩
        refine ⟨_, rfl, a, rfl, ⟨xs, SqT.of ea⟩, fun Dl hD => lc_tup (PvM H Dl (ds.map isNameD)) (PvM.zero hD) (fun i H' _ p => SqT.of (p.1 _ _ ea)) (fun i x H3 hi p => ?_) (fun H5 p => ?_)⟩
        · obtain ⟨e, he, hde⟩ := hx.get hi
          exact ⟨rfl, _, rfl, S, x, e, rfl, hde.mv (fun _ z => z) (fun b o _ eb => p.1 b o eb), sml_get sa he, fun H4 s4 => p.step hD (by rw [List.length_map]; omega) (by rw [List.getElem?_map, he]; rfl) s4⟩
        · obtain ⟨s5, e5⟩ := p.all (by rw [List.length_map]; exact xl)
          refine ⟨Dl, _, rfl, SqL.of e5, _, rfl, ite2 (fun h1 => ?_) (fun h1 => ?_)⟩
          · rw [all_map_id] at h1
            have exs := dt_names hx h1
            have ll : (ds.map strD).length = ds.length := List.length_map _
            have q' : ∀ H', Same H5 H' → Q (.bl ((List.zipWith ltS (ds.map strD) (ds.map strD).tail).all id)) H' := fun H' s' => by
              have z := q H' (s5.trans s')
              rw [show setD (.tuple ds) = (ds.all isNameD && (List.zipWith ltS (ds.map strD) (ds.map strD).tail).all id) from rfl, h1, Bool.true_and] at z
              exact z
            generalize ds.map strD = ls at exs ll q'
            have ea5 := s5 _ _ ea
            subst exs
            cases ls with
            | nil =>
              refine ⟨_, rfl, _, rfl, 1, rfl, a, _, rfl, SqT.of ea5, fun hw => ?_, fun hn => absurd (And.intro rfl rfl) hn⟩
              refine ⟨a, a, [], [], rfl, .inr ⟨SqT.of ea5, SqT.of ea5, fun D2 hD2 => lc_zipS (Nat.le_refl _) (PvM H5 D2 []) (PvM.zero hD2) (fun i H' p => ⟨SqT.of (p.1 _ _ ea5), SqT.of (p.1 _ _ ea5)⟩) (fun i x y T H3 hi _ _ _ => by simp at hi) (fun H6 p => ?_)⟩⟩
              exact ⟨D2, [], rfl, SqL.of p.2, q' _ p.1⟩
            | cons z0 r =>
              refine ⟨_, rfl, _, rfl, 1, rfl, a, _, rfl, SqT.of ea5, fun hw => absurd hw cut_part, fun _ pc hpc => ?_⟩
              rw [show cutV ((z0 :: r).map V.str) (some 1) none = r.map V.str from cut_tail]
              have sc := same_upd (o := .tup (r.map V.str)) hpc
              refine ⟨a, pc, (z0 :: r).map V.str, r.map V.str, rfl, .inr ⟨SqT.of (sc _ _ ea5), SqT.of upd_same, fun D2 hD2 => lc_zipS (by simp) (PvM _ D2 (List.zipWith ltS (z0 :: r) r)) (PvM.zero hD2) (fun i H' p => ⟨SqT.of (p.1 _ _ (sc _ _ ea5)), SqT.of (p.1 _ _ upd_same)⟩) (fun i x y T H3 hi hj p hT => ?_) (fun H6 p => ?_)⟩⟩
              · rw [List.getElem?_map] at hi hj
                obtain ⟨s1, g1, rfl⟩ := Option.map_eq_some_iff.mp hi
                obtain ⟨s2, g2, rfl⟩ := Option.map_eq_some_iff.mp hj
                refine ⟨T, _, rfl, SqT.of upd_same, rfl, _, _, rfl, _, _, rfl, rfl, rfl, _, rfl, _, rfl, s1, s2, rfl, rfl, ?_⟩
                refine p.step (b := ltS s1 s2) hD2 ?_ (zipWith_idx g1 g2) (same_upd hT)
                rw [List.length_zipWith]
                simp only [List.length_map, List.length_cons] at hl xl ⊢
                omega
              · obtain ⟨s7, e7⟩ := p.all (by rw [List.length_zipWith]; simp)
                exact ⟨D2, _, rfl, SqL.of e7, q' _ (sc.trans s7)⟩
          · have z := q _ s5
            rw [all_map_id] at h1
            have e0 : ds.all isNameD = false := by
              cases y : ds.all isNameD with
              | false => rfl
              | true => exact absurd y h1
            rw [show setD (.tuple ds) = (ds.all isNameD && (List.zipWith ltS (ds.map strD) (ds.map strD).tail).all id) from rfl, e0, Bool.false_and] at z
            exact z
      | _ => cases ht
theorem scKp : FnScope ["value"] ["value"] (defScope sKept) := ⟨rfl, rfl, rfl, by decide +kernel, rfl, by decide +kernel, by decide +kernel⟩
theorem ok_kept (F : Fun K "is_kept" "is_kept" sKept f fd) (T : TxtN K mg) (TF : TxtF K w mg) (gI : mg "is_name" = some (.ref fI)) (FI : Fun K "is_name" "is_name" sIsName fI dI) (bI : Binds K dI ["value"] []) (gS : mg "is_set" = some (.ref fS)) (FS : Fun K "is_set" "is_set" sIsSet fS dS) (bS : Binds K dS ["value"] []) (gM : ∃ t, mg "MAX_KEPT" = some (.int 4 t)) :
    FnOk P w K mg base CX0 3 f fd ["value"] spKept := by
  have GS : FnOk P w K mg base CX0 2 fS dS ["value"] spSet := ok_isset FS T TF gI FI bI
  obtain ⟨t, g4⟩ := gM
  refine F.ok scKp (fun vs H Q E h => ?_) (fun cdv A outer s H vs Q E hr h => ?_)
  · obtain ⟨S, v, d, rfl, _⟩ := h
    rfl
  · obtain ⟨S, v, d, rfl, hd, sm, q⟩ := h
    refine ⟨_, pss_one (ps_ret (pe_and (pe_call GS hr (by rfl) gS FS.kp bS .nil pass0 (pa_cons (pv 0) pa_nil)) (pe_one (pe_cmpR op_le (pe_callB call_len_seq (by rfl) T.len PySem.boot_len (pa_cons (pv 0) pa_nil)) (pe_glob (v := .int 4) (by rfl) g4 ⟨t, rfl⟩) (nomark _))))), ?_⟩
    refine ⟨_, rfl, S, v, d, rfl, hd, sm, fun H1 s1 => ⟨_, rfl, ?_⟩⟩
    cases hs : setD d with
    | false =>
      have e : keptD d = false := by
        cases d with
        | tuple ds =>
          show (setD (.tuple ds) && _) = false
          rw [hs, Bool.false_and]
        | _ => rfl
      have z := q _ s1
      rw [e] at z
      exact iteF z
    | true =>
      cases d with
      | tuple ds =>
        obtain ⟨a, xs, rfl, ea, hl, hx⟩ := hd.tup_of
        have e : keptD (.tuple ds) = decide ((xs.length : Int) ≤ 4) := by
          show (setD (.tuple ds) && decide (ds.length ≤ 4)) = _
          rw [hs, Bool.true_and, hx.length]
          exact decide_eq_decide.mpr (by omega)
        have z := q _ s1
        rw [e] at z
        exact iteT ⟨_, rfl, a, xs, rfl, .inr (SqT.of (s1 _ _ ea)), _, _, rfl, rfl, z⟩
      | _ => cases hs
end
end OM

namespace OM
open PySem PySem.Spec PyProof.Rows L2
/-- a statement within a class -/
abbrev inStK (i j : Nat) : Stmt := (match top i with
  | .ClassDef (body := b) .. => b
  | _ => []).getD j (.Pass ⟨0, 0, 0, 0⟩)
abbrev sMI : Stmt := inStK 2 0
abbrev sSI : Stmt := inStK 45 0
/-- an object that is being made: nothing stands in it yet -/
def Raw (K : PySem.W.Frag) (B : String) (fs : List Str) (a C : Addr) (H : Hp) : Prop := ∃ tail : List Value, OexB K C tail ∧ tail.contains (.type B) = true ∧ H a = some (exo a C none) ∧ ∀ f ∈ fs, PySem.W.findIn K (.ref C) f = some none
/-- __init__ of a class without fields -/
def spI0 (K : PySem.W.Frag) (B : String) : Sp := fun vs H Q _ => ∃ (a C : Addr) (x : V), vs = [.ref a, x] ∧ Raw K B [] a C H ∧ Q .non H
/-- a built-in class's name and its __init__ -/
structure BIn (K : PySem.W.Frag) (mg : Str → Option Value) (x : Str) (B initId : String) : Prop where
  mg : mg x = none
  v : PySem.W.findCls K (.type B) (.type "type") "__init__" = some (.val (.builtin initId))
/-- a class of the package, as it is made -/
structure KCls (K : PySem.W.Frag) (C fI : Addr) (B : String) (fs : List Str) : Prop where
  made : ∃ tail, MkB K C fI tail ∧ tail.contains (.type B) = true
  no : ∀ f ∈ fs, PySem.W.findIn K (.ref C) f = some none
theorem KCls.raw {K : PySem.W.Frag} {C fI a : Addr} {B : String} {fs : List Str} {H : Hp} (k : KCls K C fI B fs) (e : H a = some (exo a C none)) : Raw K B fs a C H := by
  obtain ⟨tail, M, hB⟩ := k.made
  exact ⟨tail, M.T, hB, e, k.no⟩
/-- what is let out -/
def OutN (E : XK) (C : Addr) (H : Hp) : Prop := ∀ H', Same H H' → E (.ref C) none H'
theorem same_del {H : Hp} {a : Addr} {o : HO} (h : H a = none) : Same H (del (upd H a o) a) := fun b u e => by
  have nb := ne_of_none e h
  rw [del_ne nb, upd_ne nb]
  exact e
theorem mk0 {K : PySem.W.Frag} {E : XK} {H : Hp} {C fI : Addr} {x : V} (k : KCls K C fI "ValueError" []) (q : OutN E C H) : [x].length ≤ 1000 ∧ ∀ a, H a = none → spI0 K "ValueError" (.ref a :: ([x] ++ [])) (upd H a (exo a C none)) (fun v H2 => v = .non ∧ MkR C H E a H2) E0 :=
  ⟨(by show 1 ≤ 1000; decide), fun a h => ⟨a, C, x, rfl, k.raw upd_same, rfl, .inl ⟨upd_same, q _ (same_del h)⟩⟩⟩
/-- the bounds of a stretch -/
def bndD (ds : List PyData) : Bool := decide ((flatN 3 ds).length ≤ 24) && (decide ((firsts [] ((flatN 3 ds).flatMap (namesD "cell"))).length ≤ 4) && (decide (mostN 3 "letter" ds ≤ 6) && (decide (mostN 3 "set" ds ≤ 6) && decide (mostN 3 "if" ds ≤ 3))))
def itemsD : PyData → List PyData
  | .tuple ds => ds
  | _ => []
/-- what Stretch takes -/
def okD (c k : PyData) : Bool := codeD 3 c && (bndD (itemsD c) && keptD k)
def spBnd : Sp := fun vs H Q _ => ∃ (S : Addr → Prop) (v : V) (ds : List PyData), vs = [v] ∧ Dt S H v (.tuple ds) ∧ ds.all (rowD (cdOf 3)) = true ∧ (flatN 3 ds).length ≤ 400 ∧ ∀ H', Same H H' → Q (.bl (bndD ds)) H'
section
variable {P : Program} {w : World} {K : PySem.W.Frag} {mg : Str → Option Value} {base : Heap} {f fF fC fO fM fA fK fN : Addr} {fd dF dC dO dM dA dK dN : FuncData}
theorem scMI : FnScope ["self", "why"] ["self", "why"] (defScope sMI) := ⟨rfl, rfl, rfl, by decide +kernel, rfl, by decide +kernel, by decide +kernel⟩
theorem ok_iM {dvs : List V} (F : FunD K "__init__" "MoveError.__init__" (defArgs sMI) (defBody sMI) (defScope sMI) dvs [] f fd) (b : BIn K mg "ValueError" "ValueError" "ValueError.__init__") : FnOk P w K mg base CX0 1 f fd ["self", "why"] (spI0 K "ValueError") := by
  refine F.ok scMI (fun vs H Q E h => ?_) (fun cdv A outer s H vs Q E hr h => ?_)
  · obtain ⟨a, C, x, rfl, _⟩ := h
    rfl
  · obtain ⟨a, C, x, rfl, ⟨tail, T, hB, ea, _⟩, q⟩ := h
    refine ⟨_, pss_one (ps_expr (pe_binit base_VE (by rfl) b.mg (by decide +kernel) b.v (by decide +kernel) (pa_cons (pv 0) (pa_cons (pv 1) pa_nil)))), ?_⟩
    exact ⟨_, rfl, _, rfl, a, C, tail, [x], rfl, (by show 1 ≤ 1000; decide), T, hB, ea, q⟩
/-- most_on_path and the two below it -/
structure MostF (K : PySem.W.Frag) (mg : Str → Option Value) (fM fA fK : Addr) (dM dA dK : FuncData) : Prop where
  FM : Fun K "most_on_path" "most_on_path" sMost fM dM
  FA : Fun K "_most_at" "_most_at" sMostAt fA dA
  FK : Fun K "_path_kind" "_path_kind" sKind fK dK
  gM : mg "most_on_path" = some (.ref fM)
  gA : mg "_most_at" = some (.ref fA)
  gK : mg "_path_kind" = some (.ref fK)
  bM : Binds K dM ["code", "kind"] []
  bA : Binds K dA ["statement", "kind"] []
  bK : Binds K dK ["statement"] []
theorem ok_most (M : MostF K mg fM fA fK dM dA dK) (C : FlatF K mg fF fC fO dF dC dO) (TS : TxtS mg) : ∀ n, FnOk P w K mg base CX0 (2 * n + 1) fM dM ["code", "kind"] (spMost n)
  | 0 => ⟨fun _ _ _ _ h => h.elim, fun _ _ _ _ _ _ _ _ _ _ _ _ _ h => h.elim⟩
  | n + 1 => most_step M.FM TS M.gA M.FA.kp M.bA (mostat_ok (j := 2 * n) M.FA TS M.gM M.FM.kp M.bM (ok_most M C TS n) C.FC C.gC C.bC M.FK M.gK M.bK)
/-- the bounds, as the module tells them -/
structure TxtB (mg : Str → Option Value) : Prop where
  st : ∃ t, mg "MAX_STATEMENTS" = some (.int 24 t)
  ce : ∃ t, mg "MAX_CELLS" = some (.int 4 t)
  le : ∃ t, mg "MAX_LETTERS_SENT" = some (.int 6 t)
  se : ∃ t, mg "MAX_SETS" = some (.int 6 t)
  te : ∃ t, mg "MAX_TESTS" = some (.int 3 t)
theorem scBd : FnScope ["code"] ["code"] (defScope sBounded) := ⟨rfl, rfl, rfl, by decide +kernel, rfl, by decide +kernel, by decide +kernel⟩
theorem dec_3 {a : Nat} : decide ((a : Int) ≤ 3) = decide (a ≤ 3) := decide_eq_decide.mpr (by omega)
theorem dec_4 {a : Nat} : decide ((a : Int) ≤ 4) = decide (a ≤ 4) := decide_eq_decide.mpr (by omega)
theorem dec_6 {a : Nat} : decide ((a : Int) ≤ 6) = decide (a ≤ 6) := decide_eq_decide.mpr (by omega)
theorem dec_24 {a : Nat} : decide ((a : Int) ≤ 24) = decide (a ≤ 24) := decide_eq_decide.mpr (by omega)
theorem ok_bounded (F : Fun K "is_bounded" "is_bounded" sBounded f fd) (TF : TxtF K w mg) (TS : TxtS mg) (TB : TxtB mg) (C : FlatF K mg fF fC fO dF dC dO) (M : MostF K mg fM fA fK dM dA dK) (gN : mg "names_in" = some (.ref fN)) (FN : Fun K "names_in" "names_in" sNamesIn fN dN) (bN : Binds K dN ["code", "role"] []) :
    FnOk P w K mg base CX0 10 f fd ["code"] spBnd := by
  have GF : FnOk P w K mg base CX0 5 fF dF ["code"] (spFlatAt 4) := ok_flat C 4
  have GN : FnOk P w K mg base CX0 6 fN dN ["code", "role"] spNamesIn := ok_namesin FN TF TS C
  have GM : FnOk P w K mg base CX0 9 fM dM ["code", "kind"] (spMost 4) := ok_most M C TS 4
  obtain ⟨t1, g1⟩ := TB.st
  obtain ⟨t2, g2⟩ := TB.ce
  obtain ⟨t3, g3⟩ := TB.le
  obtain ⟨t4, g4⟩ := TB.se
  obtain ⟨t5, g5⟩ := TB.te
  refine F.ok scBd (fun vs H Q E h => ?_) (fun cdv A outer s H vs Q E hr h => ?_)
  · obtain ⟨S, v, ds, rfl, _⟩ := h
    rfl
  · obtain ⟨S, v, ds, rfl, hd, rows, size, q⟩ := h
    refine ⟨_, pss_one (ps_ret (pe_and (pe_cmpR op_le (pe_callB call_len_seq (by rfl) TS.len PySem.boot_len (pa_cons (pe_call GF (hr.mono (by decide)) (by rfl) C.gF C.FF.kp C.bF .nil pass0 (pa_cons (pv 0) pa_nil)) pa_nil)) (pe_glob (v := .int 24) (by rfl) g1 ⟨t1, rfl⟩) (nomark _))
      (pe_and (pe_cmpR op_le (pe_callB call_len_seq (by rfl) TS.len PySem.boot_len (pa_cons (pe_call GN (hr.mono (by decide)) (by rfl) gN FN.kp bN .nil pass0 (pa_cons (pv 0) (pa_cons pe_str pa_nil))) pa_nil)) (pe_glob (v := .int 4) (by rfl) g2 ⟨t2, rfl⟩) (nomark _))
      (pe_and (pe_cmpR op_le (pe_call GM hr (by rfl) M.gM M.FM.kp M.bM .nil pass0 (pa_cons (pv 0) (pa_cons pe_str pa_nil))) (pe_glob (v := .int 6) (by rfl) g3 ⟨t3, rfl⟩) (nomark _))
      (pe_and (pe_cmpR op_le (pe_call GM hr (by rfl) M.gM M.FM.kp M.bM .nil pass0 (pa_cons (pv 0) (pa_cons pe_str pa_nil))) (pe_glob (v := .int 6) (by rfl) g4 ⟨t4, rfl⟩) (nomark _))
      (pe_one (pe_cmpR op_le (pe_call GM hr (by rfl) M.gM M.FM.kp M.bM .nil pass0 (pa_cons (pv 0) (pa_cons pe_str pa_nil))) (pe_glob (v := .int 3) (by rfl) g5 ⟨t5, rfl⟩) (nomark _)))))))), ?_⟩
    have live : ∀ b, (S b ∧ H b ≠ none) → H b ≠ none := fun b z => z.2
    have hd := hd.live
    unfold bndD at q
    refine ⟨_, rfl, _, v, ds, rfl, hd, rows, Nat.le_trans size (by decide), fun H1 p1 xs1 s1 hp1 e1 d1 => ⟨p1, _, rfl, .inl (SqL.of e1), _, _, rfl, rfl, _, rfl, ?_⟩⟩
    rw [d1.length, dec_24]
    refine ite2 (fun k1 => ?_) (fun k1 => ?_)
    · rw [k1, Bool.true_and] at q
      refine ⟨_, rfl, _, v, ds, "cell", rfl, by decide +kernel, hd.base live (Same.refl H) s1, rows, size, fun H2 p2 ys s2 hp2 e2 pm so => ⟨p2, _, rfl, .inr (SqT.of e2), _, _, rfl, rfl, _, rfl, ?_⟩⟩
      rw [List.length_map, pm.length_eq, dec_4]
      have s12 := s1.trans s2
      refine ite2 (fun k2 => ?_) (fun k2 => ?_)
      · rw [k2, Bool.true_and] at q
        refine ⟨_, rfl, _, v, ds, "letter", rfl, hd.base live (Same.refl H) s12, rows, fun H3 s3 => ⟨_, _, rfl, rfl, _, rfl, ?_⟩⟩
        rw [dec_6]
        have s13 := s12.trans s3
        refine ite2 (fun k3 => ?_) (fun k3 => ?_)
        · rw [k3, Bool.true_and] at q
          refine ⟨_, rfl, _, v, ds, "set", rfl, hd.base live (Same.refl H) s13, rows, fun H4 s4 => ⟨_, _, rfl, rfl, _, rfl, ?_⟩⟩
          rw [dec_6]
          have s14 := s13.trans s4
          refine ite2 (fun k4 => ?_) (fun k4 => ?_)
          · rw [k4, Bool.true_and] at q
            refine ⟨_, rfl, _, v, ds, "if", rfl, hd.base live (Same.refl H) s14, rows, fun H5 s5 => ⟨_, _, rfl, rfl, ?_⟩⟩
            show Q (.bl (decide (((mostN 3 "if" ds : Nat) : Int) ≤ 3))) H5
            rw [dec_3]
            exact q _ (s14.trans s5)
          · rw [Bool.eq_false_iff.mpr k4, Bool.false_and] at q
            exact q _ s14
        · rw [Bool.eq_false_iff.mpr k3, Bool.false_and] at q
          exact q _ s13
      · rw [Bool.eq_false_iff.mpr k2, Bool.false_and] at q
        exact q _ s12
    · rw [Bool.eq_false_iff.mpr k1, Bool.false_and] at q
      exact q _ s1
/-- the class Stretch, as it is made -/
structure StrT (K : PySem.W.Frag) (mg : Str → Option Value) (C : Addr) : Prop where
  cl : Cls K C
  nc : NoAttr K C "_code"
  nk : NoAttr K C "_keeps"
/-- Stretch(code, keeps): its fields, or InvalidStretch -/
def spSI (C cS : Addr) : Sp := fun vs H Q E => ∃ (S : Addr → Prop) (p dx : Addr) (c k : V) (dc dk : PyData), vs = [.ref p, c, k] ∧ H p = some (.ins C dx []) ∧ Dt S H c dc ∧ Dt S H k dk ∧ smlD dc = true ∧ smlD dk = true ∧ (codeD 3 dc = true → (flatN 3 (itemsD dc)).length ≤ 400) ∧
  (okD dc dk = true → ∀ H', But p H H' → H' p = some (.ins C dx [("_code", c), ("_keeps", k)]) → Q .non H') ∧ (okD dc dk = false → OutN E cS H)
theorem scSI : FnScope ["self", "code", "keeps"] ["self", "code", "keeps"] (defScope sSI) := ⟨rfl, rfl, rfl, by decide +kernel, rfl, by decide +kernel, by decide +kernel⟩
theorem ok_sinit {dvs : List V} {C cS fI fIC fB fKp : Addr} {dI dIC dB dKp : FuncData} (F : FunD K "__init__" "Stretch.__init__" (defArgs sSI) (defBody sSI) (defScope sSI) dvs [] f fd) (T : StrT K mg C) (kS : KCls K cS fI "ValueError" []) (gcS : mg "InvalidStretch" = some (.ref cS))
    (GI : FnOk P w K mg base CX0 1 fI dI ["self", "why"] (spI0 K "ValueError")) (bI : Binds K dI ["self", "why"] []) (gIC : mg "is_code" = some (.ref fIC)) (kIC : PySem.W.keepIn K (.ref fIC) = true) (bIC : Binds K dIC ["value"] []) (GIC : FnOk P w K mg base CX0 14 fIC dIC ["value"] spIsCode)
    (gB : mg "is_bounded" = some (.ref fB)) (kB : PySem.W.keepIn K (.ref fB) = true) (bB : Binds K dB ["code"] []) (GB : FnOk P w K mg base CX0 10 fB dB ["code"] spBnd) (gKp : mg "is_kept" = some (.ref fKp)) (kKp : PySem.W.keepIn K (.ref fKp) = true) (bKp : Binds K dKp ["value"] []) (GKp : FnOk P w K mg base CX0 3 fKp dKp ["value"] spKept) :
    FnOk P w K mg base (L2.CX P w) 15 f fd ["self", "code", "keeps"] (spSI C cS) := by
  refine F.ok scSI (fun vs H Q E h => ?_) (fun cdv A outer s H vs Q E hr h => ?_)
  · obtain ⟨S, p, dx, c, k, dc, dk, rfl, _⟩ := h
    rfl
  · obtain ⟨S, p, dx, c, k, dc, dk, rfl, hp, hc, hk, sc, sk, size, q, e⟩ := h
    refine ⟨_, pss_cons (ps_if (pt_not (pt_val (pe_call GIC hr (by rfl) gIC kIC bIC .nil pass0 (pa_cons (pv 1) pa_nil)))) (pss_one (ps_raise rfl (takes_of rfl rfl rfl rfl) (pmk_B (Classical.choose_spec kS.made).1 GI (hr.mono (by decide)) (by rfl) gcS bI .nil pass0 (pa_cons pe_str pa_nil)))) pss_nil)
      (pss_cons (ps_if (pt_not (pt_val (pe_call GB (hr.mono (by decide)) (by rfl) gB kB bB .nil pass0 (pa_cons (pv 1) pa_nil)))) (pss_one (ps_raise rfl (takes_of rfl rfl rfl rfl) (pmk_B (Classical.choose_spec kS.made).1 GI (hr.mono (by decide)) (by rfl) gcS bI .nil pass0 (pa_cons pe_str pa_nil)))) pss_nil)
      (pss_cons (ps_if (pt_not (pt_val (pe_call GKp (hr.mono (by decide)) (by rfl) gKp kKp bKp .nil pass0 (pa_cons (pv 2) pa_nil)))) (pss_one (ps_raise rfl (takes_of rfl rfl rfl rfl) (pmk_B (Classical.choose_spec kS.made).1 GI (hr.mono (by decide)) (by rfl) gcS bI .nil pass0 (pa_cons pe_str pa_nil)))) pss_nil)
      (pss_cons (ps_fld (pv 0) (pv 1) rfl) (pss_one (ps_fld (pv 0) (pv 2) rfl))))), ?_⟩
    have out : ∀ {H1 : Hp}, Same H H1 → okD dc dk = false → OutN E cS H1 := fun s1 z H' s' => e z H' (s1.trans s')
    refine ⟨_, rfl, S, c, dc, rfl, hc, sc, fun H1 s1 => ⟨_, rfl, ?_⟩⟩
    cases h1 : codeD 3 dc with
    | false =>
      have z : okD dc dk = false := by
        unfold okD
        rw [h1, Bool.false_and]
      exact iteT (mk0 kS (out s1 z))
    | true =>
      refine iteF ?_
      obtain ⟨ds, rfl, rows⟩ := code_tup h1
      refine ⟨_, rfl, S, c, ds, rfl, hc.mv (fun _ z => z) (fun b o _ z => s1 b o z), rows, size h1, fun H2 s2 => ⟨_, rfl, ?_⟩⟩
      have s12 := s1.trans s2
      cases h2 : bndD ds with
      | false =>
        have z : okD (.tuple ds) dk = false := by
          unfold okD itemsD
          rw [h2, Bool.false_and, Bool.and_false]
        exact iteT (mk0 kS (out s12 z))
      | true =>
        refine iteF ⟨_, rfl, S, k, dk, rfl, hk.mv (fun _ z => z) (fun b o _ z => s12 b o z), sk, fun H3 s3 => ⟨_, rfl, ?_⟩⟩
        have s13 := s12.trans s3
        cases h3 : keptD dk with
        | false =>
          have z : okD (.tuple ds) dk = false := by
            unfold okD
            rw [h3, Bool.and_false, Bool.and_false]
          exact iteT (mk0 kS (out s13 z))
        | true =>
          have z : okD (.tuple ds) dk = true := by
            unfold okD itemsD
            rw [h1, h2, h3]
            rfl
          refine iteF ⟨_, rfl, _, rfl, p, C, dx, [], rfl, s13 _ _ hp, T.cl, T.nc, (by show 0 < 1000; decide), _, rfl, _, rfl, p, C, dx, _, rfl, upd_same, T.cl, T.nk, (by show 1 < 1000; decide), ?_⟩
          refine q z _ (fun b o hb eb => ?_) upd_same
          rw [upd_ne hb, upd_ne hb]
          exact s13 b o eb
end
end OM

namespace OM
open PySem PySem.Spec PyProof.Rows L2
/-- how many ifs, letters and sets with registers a path meets -/
abbrev T3 := Nat × Nat × Nat
def c3 (c : Nat) (p : T3) : Nat := if c = 0 then p.1 else if c = 1 then p.2.1 else p.2.2
def add3 (p q : T3) : T3 := (p.1 + q.1, p.2.1 + q.2.1, p.2.2 + q.2.2)
theorem c3_add (c : Nat) (p q : T3) : c3 c (add3 p q) = c3 c p + c3 c q := by
  unfold c3 add3
  split
  · rfl
  · split <;> rfl
/-- the greatest count of one kind over all paths -/
def Mx (A : List T3) (c m : Nat) : Prop := (∀ p ∈ A, c3 c p ≤ m) ∧ ∃ p ∈ A, c3 c p = m
theorem Mx.one (p : T3) (c : Nat) : Mx [p] c (c3 c p) := ⟨fun q hq => by
  rw [List.mem_singleton] at hq
  rw [hq]
  exact Nat.le_refl _, p, by simp, rfl⟩
theorem Mx.app {A B : List T3} {c a b : Nat} (x : Mx A c a) (y : Mx B c b) : Mx (A ++ B) c (max a b) := by
  refine ⟨fun p hp => ?_, ?_⟩
  · rcases List.mem_append.mp hp with h | h
    · exact Nat.le_trans (x.1 p h) (Nat.le_max_left _ _)
    · exact Nat.le_trans (y.1 p h) (Nat.le_max_right _ _)
  · obtain ⟨p, hp, ep⟩ := x.2
    obtain ⟨q, hq, eq⟩ := y.2
    rcases Nat.le_total a b with h | h
    · exact ⟨q, List.mem_append_right _ hq, by omega⟩
    · exact ⟨p, List.mem_append_left _ hp, by omega⟩
theorem Mx.map {A : List T3} {c a k : Nat} {f : T3 → T3} (x : Mx A c a) (h : ∀ p, c3 c (f p) = c3 c p + k) : Mx (A.map f) c (a + k) := by
  refine ⟨fun q hq => ?_, ?_⟩
  · obtain ⟨p, hp, rfl⟩ := List.mem_map.mp hq
    rw [h]
    have := x.1 p hp
    omega
  · obtain ⟨p, hp, ep⟩ := x.2
    exact ⟨f p, List.mem_map.mpr ⟨p, hp, rfl⟩, by rw [h, ep]⟩
theorem Mx.add {A B C : List T3} {c a b : Nat} (x : Mx A c a) (y : Mx B c b) (h : ∀ z, z ∈ C ↔ ∃ p ∈ A, ∃ q ∈ B, z = add3 p q) : Mx C c (a + b) := by
  refine ⟨fun z hz => ?_, ?_⟩
  · obtain ⟨p, hp, q, hq, rfl⟩ := (h z).mp hz
    rw [c3_add]
    have := x.1 p hp
    have := y.1 q hq
    omega
  · obtain ⟨p, hp, ep⟩ := x.2
    obtain ⟨q, hq, eq⟩ := y.2
    exact ⟨add3 p q, (h _).mpr ⟨p, hp, q, hq, rfl⟩, by rw [c3_add, ep, eq]⟩
def box (m : Nat) : List T3 := (List.range (m + 1)).flatMap fun a => (List.range (m + 1)).flatMap fun b => (List.range (m + 1)).map fun c => (a, b, c)
theorem flat_const {α β : Type} {f : α → List β} {k : Nat} : ∀ {l : List α}, (∀ x ∈ l, (f x).length = k) → (l.flatMap f).length = l.length * k
  | [], _ => by simp
  | x :: r, h => by
    rw [List.flatMap_cons, List.length_append, h x (by simp), flat_const (l := r) (fun y hy => h y (List.mem_cons_of_mem _ hy)), List.length_cons, Nat.add_mul]
    omega
theorem box_len (m : Nat) : (box m).length = (m + 1) * ((m + 1) * (m + 1)) := by
  unfold box
  rw [flat_const (k := (m + 1) * (m + 1)) (fun a _ => ?_), List.length_range]
  rw [flat_const (k := m + 1) (fun b _ => by rw [List.length_map, List.length_range]), List.length_range]
theorem in_box {p : T3} {m : Nat} (h : ∀ c, c < 3 → c3 c p ≤ m) : p ∈ box m := by
  have h0 : p.1 ≤ m := h 0 (by decide)
  have h1 : p.2.1 ≤ m := h 1 (by decide)
  have h2 : p.2.2 ≤ m := h 2 (by decide)
  unfold box
  refine List.mem_flatMap.mpr ⟨p.1, List.mem_range.mpr (by omega), List.mem_flatMap.mpr ⟨p.2.1, List.mem_range.mpr (by omega), List.mem_map.mpr ⟨p.2.2, List.mem_range.mpr (by omega), rfl⟩⟩⟩
/-- few different paths, where each count is small -/
theorem few3 {L : List T3} {m : Nat} (n : L.Nodup) (h : ∀ p ∈ L, ∀ c, c < 3 → c3 c p ≤ m) : L.length ≤ (m + 1) * ((m + 1) * (m + 1)) := by
  rw [← box_len]
  exact List.Nodup.length_le_of_subset n fun p hp => in_box (h p hp)
theorem few_line {L : List T3} {m : Nat} (n : L.Nodup) (h : ∀ p ∈ L, ∀ c, c < 3 → c3 c p ≤ m) (hm : m ≤ 200) : L.length ≤ 8200000 := by
  have := few3 n h
  have h1 : (m + 1) * (m + 1) ≤ 201 * 201 := Nat.mul_le_mul (by omega) (by omega)
  have h2 : (m + 1) * ((m + 1) * (m + 1)) ≤ 201 * (201 * 201) := Nat.mul_le_mul (by omega) h1
  omega
/-! ### as a dict -/
def key3 (p : T3) : List Key := [.inl (p.1 : Int), .inl (p.2.1 : Int), .inl (p.2.2 : Int)]
theorem key3_inj {p q : T3} (h : key3 p = key3 q) : p = q := by
  unfold key3 at h
  simp only [List.cons.injEq, Sum.inl.injEq, and_true] at h
  obtain ⟨h1, h2, h3⟩ := h
  have e1 : p.1 = q.1 := by exact_mod_cast h1
  have e2 : p.2.1 = q.2.1 := by exact_mod_cast h2
  have e3 : p.2.2 = q.2.2 := by exact_mod_cast h3
  exact Prod.ext e1 (Prod.ext e2 e3)
def kv3 (L : List T3) : List (List Key × V) := L.map fun p => (key3 p, V.bl true)
def ins3 (L : List T3) (p : T3) : List T3 := if p ∈ L then L else L ++ [p]
theorem put3 (L : List T3) (p : T3) : putK (kv3 L) (key3 p) (.bl true) = kv3 (ins3 L p) := by
  have h : ((kv3 L).any fun kv => decide (kv.1 = key3 p)) = decide (p ∈ L) := by
    rw [Bool.eq_iff_iff, List.any_eq_true, decide_eq_true_iff]
    constructor
    · rintro ⟨kv, hk, e⟩
      obtain ⟨q, hq, rfl⟩ := List.mem_map.mp hk
      rw [← key3_inj (of_decide_eq_true e)]
      exact hq
    · intro m
      exact ⟨(key3 p, V.bl true), List.mem_map.mpr ⟨p, m, rfl⟩, decide_eq_true rfl⟩
  unfold putK ins3
  rw [h]
  by_cases m : p ∈ L
  · rw [decide_eq_true m, if_pos rfl, if_pos m]
    unfold kv3
    rw [List.map_map]
    refine List.map_congr_left fun q _ => ?_
    show (if key3 q = key3 p then (key3 q, V.bl true) else (key3 q, V.bl true)) = _
    split <;> rfl
  · rw [decide_eq_false m, if_neg Bool.false_ne_true, if_neg m]
    unfold kv3
    rw [List.map_append]
    rfl
theorem ins3_nodup {L : List T3} {p : T3} (h : L.Nodup) : (ins3 L p).Nodup := by
  unfold ins3
  split
  · exact h
  · rename_i m
    exact List.nodup_append.mpr ⟨h, by simp, fun a ha b hb => by
      rw [List.mem_singleton] at hb
      subst hb
      exact fun z => m (z ▸ ha)⟩
theorem mem_ins3 {L : List T3} {p z : T3} : z ∈ ins3 L p ↔ z ∈ L ∨ z = p := by
  unfold ins3
  split
  · rename_i m
    exact ⟨.inl, fun h => h.elim id fun e => e ▸ m⟩
  · simp
end OM

namespace OM
open PySem PySem.Spec PyProof.Rows L2
abbrev sCells : Stmt := top 55
def cellsN (n : Nat) (ds : List PyData) : List Str := (flatN n ds).flatMap (namesD "cell")
def cellS (n : Nat) (d : PyData) : List Str := (flatS n d).flatMap (namesD "cell")
theorem cells_take {n i : Nat} {d : PyData} {ds : List PyData} (h : ds[i]? = some d) : cellsN n (ds.take (i + 1)) = cellsN n (ds.take i) ++ cellS n d := by
  unfold cellsN cellS
  rw [flat_take h, List.flatMap_append]
theorem cells_le {n i : Nat} {ds : List PyData} : (cellsN n (ds.take i)).length ≤ (cellsN n ds).length := by
  unfold cellsN flatN
  conv => rhs; rw [← List.take_append_drop i ds, List.flatMap_append, List.flatMap_append, List.length_append]
  exact Nat.le_add_right _ _
theorem nm_no {part : PyData} {known : Str} (h : known ≠ "cell") : nmD "cell" part known = [] := by
  unfold nmD
  rw [if_neg h, if_neg fun z => absurd z.2 (by decide +kernel)]
theorem nm_yes {part : PyData} : nmD "cell" part "cell" = [strD part] := if_pos rfl
/-- the cells of a row that is no if -/
theorem cell_row {n : Nat} {w : Str} {rest : List PyData} (row : rowD (cdOf n) (.tuple (.str w :: rest)) = true) (ni : w ≠ "if") :
    (∃ r x, w = "read" ∧ rest = [.str r, .str x] ∧ namesD "cell" (.tuple (.str w :: rest)) = [x]) ∨ (∃ x r, w = "write" ∧ rest = [.str x, .str r] ∧ namesD "cell" (.tuple (.str w :: rest)) = [x]) ∨ (w ≠ "read" ∧ w ≠ "write" ∧ namesD "cell" (.tuple (.str w :: rest)) = []) := by
  have isS : ∀ {d : PyData}, isNameD d = true → ∃ x, d = .str x := fun {d} h => by
    cases d with
    | str x => exact ⟨x, rfl⟩
    | _ => cases h
  obtain ⟨w', rest', rs, e, hf, hlen, fits⟩ := rowD_shape row
  obtain ⟨rfl, rfl⟩ : w = w' ∧ rest = rest' := by
    injection e with e
    injection e with e1 e2
    injection e1 with e1
    exact ⟨e1, e2⟩
  have eN : namesD "cell" (.tuple (.str w :: rest)) = (List.zipWith (nmD "cell") rest rs).flatten := by
    show (match formOf w with | some rs => (List.zipWith (nmD "cell") rest rs).flatten | none => []) = _
    rw [hf]
  by_cases h1 : w = "read"
  · subst h1
    have e4 : formOf "read" = some (["register", "cell"] : List Str) := by decide +kernel
    rw [e4] at hf
    obtain rfl := (Option.some.inj hf).symm
    match rest, hlen with
    | [d1, d2], _ =>
      have row' := row
      rw [row_plain (by decide +kernel) (by decide +kernel), Bool.and_eq_true, List.all_cons, List.all_cons, Bool.and_eq_true, Bool.and_eq_true] at row'
      obtain ⟨r, rfl⟩ := isS row'.2.1
      obtain ⟨x, rfl⟩ := isS row'.2.2.1
      refine .inl ⟨r, x, rfl, rfl, ?_⟩
      rw [eN]
      show [nmD "cell" (.str r) "register", nmD "cell" (.str x) "cell"].flatten = [x]
      rw [nm_no (by decide +kernel), nm_yes]
      rfl
  by_cases h2 : w = "write"
  · subst h2
    have e4 : formOf "write" = some (["cell", "register"] : List Str) := by decide +kernel
    rw [e4] at hf
    obtain rfl := (Option.some.inj hf).symm
    match rest, hlen with
    | [d1, d2], _ =>
      have row' := row
      rw [row_plain (by decide +kernel) (by decide +kernel), Bool.and_eq_true, List.all_cons, List.all_cons, Bool.and_eq_true, Bool.and_eq_true] at row'
      obtain ⟨x, rfl⟩ := isS row'.2.1
      obtain ⟨r, rfl⟩ := isS row'.2.2.1
      refine .inr (.inl ⟨x, r, rfl, rfl, ?_⟩)
      rw [eN]
      show [nmD "cell" (.str x) "cell", nmD "cell" (.str r) "register"].flatten = [x]
      rw [nm_no (part := .str r) (known := "register") (by decide +kernel), nm_yes]
      rfl
  refine .inr (.inr ⟨h1, h2, ?_⟩)
  have none_of : ∀ k ∈ rs, k ≠ "cell" := by
    unfold formOf at hf
    rw [if_neg h1, if_neg h2] at hf
    intro k hk z
    subst z
    repeat (first | (split at hf) | (cases hf; exact absurd hk (by decide +kernel)) | cases hf)
  rw [eN, List.flatten_eq_nil_iff]
  intro l hl
  obtain ⟨i, hi⟩ := List.getElem?_of_mem hl
  rw [List.getElem?_zipWith] at hi
  cases k1 : rest[i]? with
  | none => rw [k1] at hi; cases hi
  | some part =>
    cases k2 : rs[i]? with
    | none => rw [k1, k2] at hi; cases hi
    | some r0 =>
      rw [k1, k2] at hi
      rw [← Option.some.inj hi]
      exact nm_no (none_of r0 (List.mem_of_getElem? k2))
theorem cell_if {p r : PyData} {ys ns : List PyData} : namesD "cell" (.tuple [.str "if", p, r, .tuple ys, .tuple ns]) = [] := by
  have e4 : formOf "if" = some (["test", "register", "code", "code"] : List Str) := by decide +kernel
  show (match formOf "if" with | some rs => (List.zipWith (nmD "cell") [p, r, .tuple ys, .tuple ns] rs).flatten | none => []) = _
  rw [e4]
  show [nmD "cell" p "test", nmD "cell" r "register", nmD "cell" (.tuple ys) "code", nmD "cell" (.tuple ns) "code"].flatten = []
  rw [nm_no (by decide +kernel), nm_no (by decide +kernel), nm_no (by decide +kernel), nm_no (by decide +kernel)]
  rfl
def spCellsAt : Nat → Sp
  | 0 => fun _ _ _ _ => False
  | n + 1 => fun vs H Q _ => ∃ (S : Addr → Prop) (v : V) (ds : List PyData), vs = [v] ∧ Dt S H v (.tuple ds) ∧ ds.all (rowD (cdOf n)) = true ∧ (cellsN n ds).length ≤ 4000 ∧ ∀ H' p, Same H H' → H p = none → H' p = some (.lst ((cellsN n ds).map V.str)) → Q (.ref p) H'
section
variable {P : Program} {w : World} {K : PySem.W.Frag} {mg : Str → Option Value} {base : Heap} {f : Addr} {fd : FuncData}
theorem scCl : FnScope ["_law_code", "_law_found", "_law_row"] ["_law_code"] (defScope sCells) := ⟨rfl, rfl, rfl, by decide +kernel, rfl, by decide +kernel, by decide +kernel⟩
theorem cells_step {n k : Nat} (F : Fun K "_law_cells" "_law_cells" sCells f fd) (gF : mg "_law_cells" = some (.ref f)) (bF : Binds K fd ["_law_code"] []) (G : FnOk P w K mg base CX0 k f fd ["_law_code"] (spCellsAt n)) : FnOk P w K mg base CX0 (k + 1) f fd ["_law_code"] (spCellsAt (n + 1)) := by
  refine F.ok scCl (fun vs H Q E h => ?_) (fun cdv A outer s H vs Q E hr h => ?_)
  · obtain ⟨S, v, ds, rfl, _⟩ := h
    rfl
  · obtain ⟨S, v, ds, rfl, hd, rows, size, q⟩ := h
    refine ⟨_, pss_cons (ps_set (i := 1) scCl.nd rfl (Or.inl rfl) (pe_lst pa_nil))
      (pss_cons (ps_for PassesOwn.never rfl (pi_tup (pv 0)) (pg_name (i := 2) scCl.nd rfl (Or.inl rfl))
        (pss_cons (ps_if (pt_cmpR op_eq (pe_ix ix_tup (pv 2) pe_int (fun _ _ => rfl)) pe_str (nomark _))
          (pss_one (ps_set (i := 1) scCl.nd rfl (Or.inl rfl) (pe_op op_cat (pe_op op_cat (pv 1) (pe_call G hr (by rfl) gF F.kp bF .nil pass0 (pa_cons (pe_ix ix_tup (pv 2) pe_int (fun _ _ => rfl)) pa_nil))) (pe_call G hr (by rfl) gF F.kp bF .nil pass0 (pa_cons (pe_ix ix_tup (pv 2) pe_int (fun _ _ => rfl)) pa_nil))))) pss_nil)
        (pss_one (ps_if (pt_cmpR op_in_seq (pe_ix ix_tup (pv 2) pe_int (fun _ _ => rfl)) (pe_tup (pa_cons pe_str (pa_cons pe_str pa_nil))) (by rfl))
          (pss_one (ps_expr (pe_bm PySem.F.plainAttrs_list PySem.F.slot_list_append PySem.F.type_list_append mt_append (pv 1) (pa_cons (pe_ifExp (pt_cmpR op_eq (pe_ix ix_tup (pv 2) pe_int (fun _ _ => rfl)) pe_str (nomark _)) (pe_ix ix_tup (pv 2) pe_int (fun _ _ => rfl)) (pe_ix ix_tup (pv 2) pe_int (fun _ _ => rfl))) pa_nil)))) pss_nil))))
      (pss_one (ps_ret (pv 1)))), ?_⟩
    obtain ⟨a, xs, rfl, ea, hl, hx⟩ := hd.live.tup_of
    have live : ∀ b, (S b ∧ H b ≠ none) → H b ≠ none := fun b z => z.2
    refine ⟨(by show 0 ≤ sizeLine; decide), fun p0 hp0 => ?_⟩
    have s0 := same_upd (o := .lst []) hp0
    refine ⟨_, rfl, a, rfl, ⟨xs, SqT.of (s0 _ _ ea)⟩, for_tup (fun i σ H' => ∃ p x2, σ = [some (.ref a), some (.ref p), x2] ∧ Same H H' ∧ H p = none ∧ H' p = some (.lst ((cellsN n (ds.take i)).map V.str)))
      ⟨p0, _, rfl, s0, hp0, upd_same⟩ (fun i σ H' _ h => by obtain ⟨_, _, _, s1, _⟩ := h; exact SqT.of (s1 _ _ ea)) (fun i x σ H' hi h => ?_) (fun σ H' h => ?_)⟩
    · obtain ⟨p, x2, rfl, s1, hp, ep⟩ := h
      obtain ⟨d, hdi, hdt⟩ := hx.get hi
      have row : rowD (cdOf n) d = true := List.all_eq_true.mp rows d (List.mem_of_getElem? hdi)
      have le1 : (cellsN n (ds.take (i + 1))).length ≤ 4000 := Nat.le_trans cells_le size
      have tk := cells_take (n := n) hdi
      rw [tk, List.length_append] at le1
      have line : (10000 : Nat) < sizeLine := by decide
      have lm : ∀ l : List Str, (l.map V.str).length = l.length := fun l => List.length_map _
      rcases row_iff row with ⟨m, p1, r1, ys, ns, rfl, rfl, hy, hn, _, _⟩ | ⟨w0, rest, rfl, ni, e0⟩
      · have eS : cellS (m + 1) (.tuple [.str "if", p1, r1, .tuple ys, .tuple ns]) = cellsN m ys ++ cellsN m ns := by
          unfold cellS
          rw [flatS_row row]
          show (PyData.tuple [.str "if", p1, r1, .tuple ys, .tuple ns] :: [ys, ns].flatMap (flatN m)).flatMap (namesD "cell") = _
          rw [List.flatMap_cons, cell_if, List.nil_append, List.flatMap_cons, List.flatMap_cons, List.flatMap_nil, List.append_nil, List.flatMap_append]
          rfl
        rw [eS] at le1 tk
        rw [List.length_append] at le1
        obtain ⟨b, xr, rfl, eb, bl, hxr⟩ := hdt.row
        cases hxr with
        | @cons x1 _ _ _ k1 hxr =>
          cases hxr with
          | @cons x2' _ _ _ k2 hxr =>
            cases hxr with
            | @cons x3 _ _ _ k3 hxr =>
              cases hxr with
              | @cons x4 _ _ _ k4 hxr =>
                cases hxr
                have eb' := s1 _ _ eb
                refine ⟨_, rfl, b, _, 0, _, rfl, rfl, SqT.of eb', at0, rfl, _, rfl, iteT ?_⟩
                refine ⟨_, rfl, _, rfl, b, _, 3, x3, rfl, rfl, SqT.of eb', rfl, _, x3, ys, rfl, k3.base live (Same.refl H) s1, hy, by omega, fun H2 p2 s2 hp2 e2 => ?_⟩
                have s12 := s1.trans s2
                refine ⟨p, p2, _, _, rfl, rfl, s2 _ _ ep, e2, ?_, fun p3 hp3 => ?_⟩
                · rw [lm, lm]
                  omega
                have s13 := s12.trans (same_upd (o := .lst ((cellsN (m + 1) (ds.take i)).map V.str ++ (cellsN m ys).map V.str)) hp3)
                refine ⟨_, rfl, b, _, 4, x4, rfl, rfl, SqT.of (s13 _ _ eb), rfl, _, x4, ns, rfl, k4.base live (Same.refl H) s13, hn, by omega, fun H4 p4 s4 hp4 e4 => ?_⟩
                have s14 := s13.trans s4
                refine ⟨p3, p4, _, _, rfl, rfl, s4 _ _ upd_same, e4, ?_, fun p5 hp5 => ?_⟩
                · rw [List.length_append, lm, lm, lm]
                  omega
                have s15 := s14.trans (same_upd (o := .lst (((cellsN (m + 1) (ds.take i)).map V.str ++ (cellsN m ys).map V.str) ++ (cellsN m ns).map V.str)) hp5)
                refine ⟨_, rfl, b, _, 0, _, rfl, rfl, SqT.of (s15 _ _ eb), at0, (by show 2 ≤ sizeLine; decide), fun pt hpt => ?_⟩
                have s16 := s15.trans (same_upd (o := .tup [.str "read", .str "write"]) hpt)
                refine ⟨pt, _, rfl, .inr (SqT.of upd_same), rfl, by decide, _, rfl, ?_⟩
                rw [show inV (.str "if") [.str "read", .str "write"] = false by decide +kernel]
                refine iteF ⟨p5, _, rfl, s16, s14.free hp5, ?_⟩
                rw [same_upd hpt _ _ upd_same, tk, List.map_append, List.map_append, List.append_assoc]
      · have eS : cellS n (.tuple (.str w0 :: rest)) = namesD "cell" (.tuple (.str w0 :: rest)) := by
          unfold cellS
          rw [flatS_row row, e0]
          simp
        rw [eS] at le1 tk
        obtain ⟨b, xr, rfl, eb, bl, hxr⟩ := hdt.row
        have eb' := s1 _ _ eb
        refine ⟨_, rfl, b, _, 0, _, rfl, rfl, SqT.of eb', at0, rfl, _, rfl, ?_⟩
        have nf : decide (V.str w0 = V.str "if") = false := decide_eq_false fun z => ni (V.str.inj z)
        rw [nf]
        refine iteF ⟨_, rfl, b, _, 0, _, rfl, rfl, SqT.of eb', at0, (by show 2 ≤ sizeLine; decide), fun pt hpt => ?_⟩
        have st := same_upd (o := .tup [.str "read", .str "write"]) hpt
        have s2 := s1.trans st
        have ep2 := st _ _ ep
        refine ⟨pt, _, rfl, .inr (SqT.of upd_same), rfl, by decide, _, rfl, ?_⟩
        rcases cell_row row ni with ⟨r, x, rfl, rfl, eC⟩ | ⟨x, r, rfl, rfl, eC⟩ | ⟨n1, n2, eC⟩
        · rw [show inV (.str "read") [.str "read", .str "write"] = true by decide +kernel]
          rw [eC] at le1 tk
          have ez := dt_names hxr (by
            rw [row_plain (by decide +kernel) (by decide +kernel), Bool.and_eq_true] at row
            exact row.2)
          have ez : xr = [V.str r, V.str x] := ez
          subst ez
          refine iteT ⟨_, rfl, .inl ⟨rfl, _, SqL.of ep2⟩, _, rfl, b, _, 0, _, rfl, rfl, SqT.of (s2 _ _ eb), at0, rfl, _, rfl, iteT ⟨_, rfl, b, _, 2, _, rfl, rfl, SqT.of (s2 _ _ eb), rfl, p, _, _, rfl, rfl, ep2, ?_, p, _, rfl, same_put hp s2, hp, ?_⟩⟩
          · rw [lm]
            omega
          · rw [upd_same, tk, List.map_append]
            rfl
        · rw [show inV (.str "write") [.str "read", .str "write"] = true by decide +kernel]
          rw [eC] at le1 tk
          have ez := dt_names hxr (by
            rw [row_plain (by decide +kernel) (by decide +kernel), Bool.and_eq_true] at row
            exact row.2)
          have ez : xr = [V.str x, V.str r] := ez
          subst ez
          refine iteT ⟨_, rfl, .inl ⟨rfl, _, SqL.of ep2⟩, _, rfl, b, _, 0, _, rfl, rfl, SqT.of (s2 _ _ eb), at0, rfl, _, rfl, iteF ⟨_, rfl, b, _, 1, _, rfl, rfl, SqT.of (s2 _ _ eb), rfl, p, _, _, rfl, rfl, ep2, ?_, p, _, rfl, same_put hp s2, hp, ?_⟩⟩
          · rw [lm]
            omega
          · rw [upd_same, tk, List.map_append]
            rfl
        · have z : inV (.str w0) [.str "read", .str "write"] = false := Bool.eq_false_iff.mpr fun z => ((inV_two _ _ _).mp z).elim n1 n2
          rw [z]
          rw [eC, List.append_nil] at tk
          exact iteF ⟨p, _, rfl, s2, hp, by rw [ep2, tk]⟩
    · obtain ⟨p, x2, rfl, s1, hp, ep⟩ := h
      rw [hx.length, List.take_length] at ep
      exact ⟨_, rfl, q _ p s1 hp ep⟩
theorem ok_cells (F : Fun K "_law_cells" "_law_cells" sCells f fd) (gF : mg "_law_cells" = some (.ref f)) (bF : Binds K fd ["_law_code"] []) : ∀ n, FnOk P w K mg base CX0 (n + 1) f fd ["_law_code"] (spCellsAt n)
  | 0 => ⟨fun _ _ _ _ h => h.elim, fun _ _ _ _ _ _ _ _ _ _ _ _ _ h => h.elim⟩
  | n + 1 => cells_step F gF bF (ok_cells F gF bF n)
end
end OM

namespace OM
open PySem PySem.Spec PyProof.Rows L2
abbrev sSize : Stmt := top 54
theorem sum_flat (n : Nat) (ds : List PyData) : (ds.map fun d => (flatS n d).length).sum = (flatN n ds).length := by
  unfold flatN
  rw [List.length_flatMap]
def spSizeAt : Nat → Sp
  | 0 => fun _ _ _ _ => False
  | n + 1 => fun vs H Q _ => ∃ (S : Addr → Prop) (v : V) (ds : List PyData), vs = [v] ∧ Dt S H v (.tuple ds) ∧ ds.all (rowD (cdOf n)) = true ∧ ∀ H', Same H H' → Q (.int ((flatN n ds).length : Nat)) H'
section
variable {P : Program} {w : World} {K : PySem.W.Frag} {mg : Str → Option Value} {base : Heap} {f : Addr} {fd : FuncData}
theorem scSz : FnScope ["_law_code", "_law_row"] ["_law_code"] (defScope sSize) := ⟨rfl, rfl, rfl, by decide +kernel, rfl, by decide +kernel, by decide +kernel⟩
theorem size_step {n k : Nat} (F : Fun K "_law_size" "_law_size" sSize f fd) (sm : mg "sum" = none) (gF : mg "_law_size" = some (.ref f)) (bF : Binds K fd ["_law_code"] []) (G : FnOk P w K mg base CX0 k f fd ["_law_code"] (spSizeAt n)) : FnOk P w K mg base CX0 (k + 1) f fd ["_law_code"] (spSizeAt (n + 1)) := by
  refine F.ok scSz (fun vs H Q E h => ?_) (fun cdv A outer s H vs Q E hr h => ?_)
  · obtain ⟨S, v, ds, rfl, _⟩ := h
    rfl
  · obtain ⟨S, v, ds, rfl, hd, rows, q⟩ := h
    refine ⟨_, pss_one (ps_ret (pe_callB (cr_sum rfl) (by rfl) sm (by decide +kernel) (pa_cons (pe_lc (own := [("_law_row", 1)]) rfl scSz.nd (pi_tup (pv 0)) (blkOk_by (N := ["_law_code", "_law_row"]) (sc := defScope sSize) (by decide +kernel))
      (fun _ _ _ _ _ => pg_name (i := 1) scSz.nd rfl (Or.inl rfl)) (fun _ _ _ _ _ => pts_nil) (fun _ _ _ _ _ => pe_op op_add pe_int (pe_ifExp (pt_cmpR op_eq (pe_ix (r := rIxT K) ix_tup (pv 1) pe_int (fun _ _ => rfl)) pe_str (nomark _))
        (pe_op op_add (pe_call G hr (by rfl) gF F.kp bF .nil pass0 (pa_cons (pe_ix (r := rIxT K) ix_tup (pv 1) pe_int (fun _ _ => rfl)) pa_nil)) (pe_call G hr (by rfl) gF F.kp bF .nil pass0 (pa_cons (pe_ix (r := rIxT K) ix_tup (pv 1) pe_int (fun _ _ => rfl)) pa_nil))) pe_int))) pa_nil))), ?_⟩
    obtain ⟨a, xs, rfl, ea, hl, hx⟩ := hd.live.tup_of
    have live : ∀ b, (S b ∧ H b ≠ none) → H b ≠ none := fun b z => z.2
    refine ⟨_, rfl, a, rfl, ⟨xs, SqT.of ea⟩, fun Dl hD => lc_tup (PvI H Dl (ds.map fun d => (flatS n d).length)) ⟨same_upd hD, upd_same⟩ (fun i H' _ p => SqT.of (p.1 _ _ ea)) (fun i x H3 hi p => ?_) (fun H5 p => ?_)⟩
    · obtain ⟨d, hdi, hdt⟩ := hx.get hi
      have lx := hx.length
      have row : rowD (cdOf n) d = true := List.all_eq_true.mp rows d (List.mem_of_getElem? hdi)
      have fin : ∀ {H4 : Hp} {m : Nat}, Same H3 H4 → m = (flatS n d).length → ∃ acc, H4 Dl = some (.lst acc) ∧ acc.length < sizeLine ∧ PvI H Dl (ds.map fun d => (flatS n d).length) (i + 1) (upd H4 Dl (.lst (acc ++ [V.int (m : Int)]))) := fun {H4 m} s4 e => p.step hD (by rw [List.length_map]; omega) (by rw [List.getElem?_map, hdi, e]; rfl) s4
      have s3 := p.1
      rcases row_iff row with ⟨m, p1, r1, ys, ns, rfl, rfl, hy, hn, _, _⟩ | ⟨w0, rest, rfl, ni, e0⟩
      · have eS : (flatS (m + 1) (.tuple [.str "if", p1, r1, .tuple ys, .tuple ns])).length = 1 + ((flatN m ys).length + (flatN m ns).length) := by
          rw [flatS_row row]
          show (PyData.tuple [.str "if", p1, r1, .tuple ys, .tuple ns] :: [ys, ns].flatMap (flatN m)).length = _
          rw [List.length_cons, List.flatMap_cons, List.flatMap_cons, List.flatMap_nil, List.append_nil, List.length_append]
          omega
        obtain ⟨b, xr, rfl, eb, bl, hxr⟩ := hdt.row
        cases hxr with
        | @cons x1 _ _ _ k1 hxr =>
          cases hxr with
          | @cons x2' _ _ _ k2 hxr =>
            cases hxr with
            | @cons x3 _ _ _ k3 hxr =>
              cases hxr with
              | @cons x4 _ _ _ k4 hxr =>
                cases hxr
                have eb' := s3 _ _ eb
                refine ⟨rfl, _, rfl, b, _, 0, _, rfl, rfl, SqT.of eb', at0, rfl, _, rfl, iteT ?_⟩
                refine ⟨_, rfl, b, _, 3, x3, rfl, rfl, SqT.of eb', rfl, _, x3, ys, rfl, k3.base live (Same.refl H) s3, hy, fun H6 s6 => ?_⟩
                refine ⟨_, rfl, b, _, 4, x4, rfl, rfl, SqT.of (s6 _ _ eb'), rfl, _, x4, ns, rfl, k4.base live (Same.refl H) (s3.trans s6), hn, fun H7 s7 => ?_⟩
                refine ⟨_, _, rfl, rfl, _, _, rfl, rfl, ?_⟩
                have z := fin (s6.trans s7) eS.symm
                have e : (1 : Int) + (((flatN m ys).length : Int) + ((flatN m ns).length : Int)) = ((1 + ((flatN m ys).length + (flatN m ns).length) : Nat) : Int) := by omega
                show ∃ acc, _ ∧ _ ∧ PvI _ _ _ _ (upd H7 Dl (.lst (acc ++ [V.int ((1 : Int) + (((flatN m ys).length : Int) + ((flatN m ns).length : Int)))])))
                rw [e]
                exact z
      · have eS : (flatS n (.tuple (.str w0 :: rest))).length = 1 := by
          rw [flatS_row row, e0]
          rfl
        obtain ⟨b, xr, rfl, eb, bl, hxr⟩ := hdt.row
        have eb' := s3 _ _ eb
        refine ⟨rfl, _, rfl, b, _, 0, _, rfl, rfl, SqT.of eb', at0, rfl, _, rfl, ?_⟩
        have nf : decide (V.str w0 = V.str "if") = false := decide_eq_false fun z => ni (V.str.inj z)
        rw [nf]
        exact iteF ⟨_, _, rfl, rfl, fin (m := 1) (Same.refl H3) eS.symm⟩
    · obtain ⟨s5, e5⟩ := p.all (by rw [List.length_map]; exact hx.length)
      refine ⟨Dl, _, rfl, SqL.of e5, ?_⟩
      have z := q _ s5
      rw [sum_nat, sum_flat]
      exact z
theorem ok_size (F : Fun K "_law_size" "_law_size" sSize f fd) (sm : mg "sum" = none) (gF : mg "_law_size" = some (.ref f)) (bF : Binds K fd ["_law_code"] []) : ∀ n, FnOk P w K mg base CX0 (n + 1) f fd ["_law_code"] (spSizeAt n)
  | 0 => ⟨fun _ _ _ _ h => h.elim, fun _ _ _ _ _ _ _ _ _ _ _ _ _ h => h.elim⟩
  | n + 1 => size_step F sm gF bF (ok_size F sm gF bF n)
end
end OM

namespace OM
open PySem PySem.Spec PyProof.Rows L2
/-- {t: v}: one key, a tuple of ints and texts; the new dict stands empty while the pair is made -/
def tDisp1T (tk tv : TE) : TE := fun σ H Q => ∀ p, H p = none → tk σ (upd H p (.dT [])) fun x H1 => tv σ H1 fun y H2 => ∃ (b : Addr) (ks : List Key), x = .ref b ∧ H2 b = some (.tup (ks.map kV)) ∧ H2 p = some (.dT []) ∧ Q (.ref p) (upd H2 p (.dT [(ks, y)]))
theorem pe_disp1T {X : Cx} {k v : Expr} {tk tv : TE} {pos : Pos} (hu : X.A.units + 1 < cLine) (hk : PE X k tk) (hv : PE X v tv) : PE X (.Dict [some k] [v] pos) (tDisp1T tk tv) := by
  refine ⟨fun pins s σ H Q I q => ?_⟩
  have free := I.hok.fresh (Nat.le_refl s.heap.objs.size)
  have I1 := I.laid (a := s.heap.objs.size) (o := .dT []) (t' := s.toks) (h' := s.heap.push { cls := .type "dict", data := .dict #[] }) (fun _ _ y => Heap.get?_push_of_some _ y) (Nat.le_refl _) (dt_empty s.heap I.big)
  refine wpAny_Dict_any (by rfl) rfl (by simp) (by simp) (thn ((pps_cons (pos := pos) hk hv pps_nil).run pins _ σ _ (fun ps H2 => match ps with
    | [(x, y)] => ∃ (b : Addr) (ks : List Key), x = .ref b ∧ H2 b = some (.tup (ks.map kV)) ∧ H2 s.heap.objs.size = some (.dT []) ∧ Q (.ref s.heap.objs.size) (upd H2 s.heap.objs.size (.dT [(ks, y)]))
    | _ => False) I1 (q _ free)) fun ws s2 ⟨ps, H2, I2, rel, e⟩ => ?_)
  match ps, e with
  | [(x, y)], e =>
    obtain ⟨b, ks, rfl, eb, ep, q2⟩ := e
    cases rel with
    | @cons _ w0 _ _ h0 t0 =>
      cases t0
      obtain ⟨h1, h2⟩ := h0
      obtain ⟨u1, u2⟩ := w0
      obtain rfl : u1 = Value.ref b := h1
      obtain ⟨z, nd, xs, kt, dd⟩ := dt_of I2.hok ep
      cases kt
      unfold storeAll
      rw [List.forIn_cons]
      refine wpAny_bind (wpAny_bind (wpAny_dictSet_heap (hsz := by decide) (show X.A.units < cLine by omega) (key_of I2.hok eb) dd fun h' dd' hs => wpAny_pure ?_))
      show wpAny _ _ (forIn ([] : List (Value × Value)) PUnit.unit _) _ _ _
      rw [List.forIn_nil]
      refine wpAny_pure ⟨.ref s.heap.objs.size, _, ?_, rfl, q2⟩
      obtain ⟨o, es, n, g1, g2, g3, g4, _, g5⟩ := dd'
      refine d_write I2 (by rw [ep]; exact True.intro) hs ⟨o, g1⟩ ⟨by show 1 ≤ sizeLine; decide, nd, _, KT.keeps (KT.put (kvs := []) .nil ks eb h2) fun c ys ec => ?_, o, es, n, g1, g2, g3, g4, g5⟩
      rw [upd_ne (ne_of ec ep (fun y => nomatch y))]
      exact ec
end OM

namespace OM
open PySem PySem.Spec PyProof.Rows L2
/-! ### weights of tuples, taken over all of a datum -/
mutual
def tot (φ : List PyData → Nat) : PyData → Nat
  | .tuple ds => φ ds + totL φ ds
  | _ => 0
def totL (φ : List PyData → Nat) : List PyData → Nat
  | [] => 0
  | d :: r => tot φ d + totL φ r
end
theorem totL_app (φ : List PyData → Nat) : ∀ (a b : List PyData), totL φ (a ++ b) = totL φ a + totL φ b
  | [], b => by
    show totL φ b = totL φ [] + totL φ b
    unfold totL
    omega
  | d :: r, b => by
    show tot φ d + totL φ (r ++ b) = _
    rw [totL_app φ r b]
    show _ = tot φ d + totL φ r + totL φ b
    omega
theorem totL_cons (φ : List PyData → Nat) (d : PyData) (r : List PyData) : totL φ (d :: r) = tot φ d + totL φ r := rfl
theorem tot_tup (φ : List PyData → Nat) (ds : List PyData) : tot φ (.tuple ds) = φ ds + totL φ ds := by
  unfold tot
  rfl
def wsum (ψ : PyData → Nat) (l : List PyData) : Nat := (l.map ψ).sum
theorem wsum_app (ψ : PyData → Nat) (a b : List PyData) : wsum ψ (a ++ b) = wsum ψ a + wsum ψ b := by
  unfold wsum
  rw [List.map_append, List.sum_append]
theorem wsum_cons (ψ : PyData → Nat) (d : PyData) (b : List PyData) : wsum ψ (d :: b) = ψ d + wsum ψ b := rfl
/-- the statements of code lie apart in it -/
def tupW (φ : List PyData → Nat) : PyData → Nat
  | .tuple ds => φ ds
  | _ => 0
theorem flat_tot (φ : List PyData → Nat) : ∀ n : Nat, (∀ d, wsum (tupW φ) (flatS n d) ≤ tot φ d) ∧ ∀ ds, wsum (tupW φ) (flatN n ds) ≤ totL φ ds := by
  have lift : ∀ n, (∀ d, wsum (tupW φ) (flatS n d) ≤ tot φ d) → ∀ ds, wsum (tupW φ) (flatN n ds) ≤ totL φ ds := fun n h ds => by
    induction ds with
    | nil => exact Nat.zero_le _
    | cons d r ih =>
      have e : flatN n (d :: r) = flatS n d ++ flatN n r := List.flatMap_cons
      rw [e, wsum_app, totL_cons]
      have := h d
      omega
  have one : ∀ d, tupW φ d ≤ tot φ d := fun d => by
    cases d with
    | tuple ds =>
      rw [tot_tup]
      exact Nat.le_add_right _ _
    | _ => exact Nat.zero_le _
  intro n
  induction n with
  | zero =>
    have h : ∀ d, wsum (tupW φ) (flatS 0 d) ≤ tot φ d := fun d => one d
    exact ⟨h, lift 0 h⟩
  | succ n ih =>
    have h : ∀ d, wsum (tupW φ) (flatS (n + 1) d) ≤ tot φ d := fun d => by
      show wsum _ (d :: (inner2 d).flatMap (flatN n)) ≤ _
      rw [wsum_cons]
      unfold inner2
      split
      · rename_i w p r ys ns
        rw [tot_tup]
        by_cases hw : w = "if"
        · rw [if_pos hw, List.flatMap_cons, List.flatMap_cons, List.flatMap_nil, List.append_nil, wsum_app]
          have h1 := ih.2 ys
          have h2 := ih.2 ns
          rw [totL_cons, totL_cons, totL_cons, totL_cons, totL_cons, tot_tup, tot_tup]
          show φ [.str w, p, r, .tuple ys, .tuple ns] + _ ≤ _
          omega
        · rw [if_neg hw]
          exact Nat.le_add_right _ _
      · exact Nat.le_trans (Nat.le_of_eq (Nat.add_zero _)) (one d)
    exact ⟨h, lift (n + 1) h⟩
theorem most_sum (k : Str) : ∀ n : Nat, (∀ d, mostS n k d ≤ wsum (ownD k) (flatS n d)) ∧ ∀ ds, mostN n k ds ≤ wsum (ownD k) (flatN n ds) := by
  have lift : ∀ n, (∀ d, mostS n k d ≤ wsum (ownD k) (flatS n d)) → ∀ ds, mostN n k ds ≤ wsum (ownD k) (flatN n ds) := fun n h ds => by
    induction ds with
    | nil => exact Nat.zero_le _
    | cons d r ih =>
      have e : flatN n (d :: r) = flatS n d ++ flatN n r := List.flatMap_cons
      rw [e, wsum_app]
      have := h d
      show mostS n k d + mostN n k r ≤ _
      omega
  intro n
  induction n with
  | zero =>
    have h : ∀ d, mostS 0 k d ≤ wsum (ownD k) (flatS 0 d) := fun d => Nat.le_refl _
    exact ⟨h, lift 0 h⟩
  | succ n ih =>
    have mx : ∀ l : List (List PyData), maxL (l.map fun c => (c.map (mostS n k)).sum) ≤ wsum (ownD k) (l.flatMap (flatN n)) := fun l => by
      induction l with
      | nil => exact Nat.zero_le _
      | cons c r ihl =>
        rw [List.flatMap_cons, wsum_app]
        show max _ (maxL (r.map _)) ≤ _
        have h1 : (c.map (mostS n k)).sum ≤ wsum (ownD k) (flatN n c) := ih.2 c
        exact Nat.max_le.mpr ⟨Nat.le_trans h1 (Nat.le_add_right _ _), Nat.le_trans ihl (Nat.le_add_left _ _)⟩
    have h : ∀ d, mostS (n + 1) k d ≤ wsum (ownD k) (flatS (n + 1) d) := fun d => by
      show ownD k d + _ ≤ wsum _ (d :: (inner2 d).flatMap (flatN n))
      rw [wsum_cons]
      have := mx (inner2 d)
      omega
    exact ⟨h, lift (n + 1) h⟩
theorem wsum_le {ψ χ : PyData → Nat} {l : List PyData} (h : ∀ e ∈ l, ψ e ≤ χ e) : wsum ψ l ≤ wsum χ l := by
  induction l with
  | nil => exact Nat.le_refl _
  | cons d r ih =>
    rw [wsum_cons, wsum_cons]
    have h1 := h d List.mem_cons_self
    have h2 := ih fun e he => h e (List.mem_cons_of_mem _ he)
    omega
/-! ### spoils -/
def odds : List PyData := [.none, .int 0, .bool true, .str "", .str "A", .str "if", .str "get", .str "read", .str "show", .tuple [], .list [], .dict [], .tuple [.str "a"], .str "abcdefghi", .str "a", .tuple [.str "show", .str "a"]]
inductive SpR : PyData → PyData → Prop where
  | odd {d o : PyData} (h : o ∈ odds) : SpR d o
  | del {ds : List PyData} (i : Nat) : SpR (.tuple ds) (.tuple (ds.take i ++ ds.drop (i + 1)))
  | ins {ds : List PyData} {o : PyData} (i : Nat) (h : o ∈ odds) : SpR (.tuple ds) (.tuple (ds.take i ++ o :: ds.drop i))
  | lst {ds : List PyData} : SpR (.tuple ds) (.list ds)
  | sub {ds : List PyData} {d d' : PyData} (i : Nat) (hi : ds[i]? = some d) (h : SpR d d') : SpR (.tuple ds) (.tuple (ds.take i ++ d' :: ds.drop (i + 1)))
/-- a weight that one spoil moves by one at most -/
structure Lip (φ : List PyData → Nat) : Prop where
  nil : φ [] ≤ 1
  odd : ∀ o ∈ odds, tot φ o ≤ 1
  oddL : ∀ o ∈ odds, totL φ (itemsD o) ≤ 1
  del : ∀ (a b : List PyData) (d : PyData), φ (a ++ b) ≤ φ (a ++ d :: b) + 1
  ins : ∀ (a b : List PyData), ∀ o ∈ odds, φ (a ++ o :: b) + tot φ o ≤ φ (a ++ b) + 1
  tup : ∀ (a b : List PyData) (xs ys : List PyData), φ (a ++ .tuple ys :: b) ≤ φ (a ++ .tuple xs :: b)
  put : ∀ (a b : List PyData) (d : PyData), ∀ o ∈ odds, φ (a ++ o :: b) + tot φ o ≤ φ (a ++ d :: b) + 1
  lst : ∀ (a b : List PyData) (xs ys : List PyData), φ (a ++ .list ys :: b) ≤ φ (a ++ .tuple xs :: b) + 1
theorem cut_at {ds : List PyData} {i : Nat} {d : PyData} (h : ds[i]? = some d) : ds = ds.take i ++ d :: ds.drop (i + 1) := by
  obtain ⟨hl, e⟩ := List.getElem?_eq_some_iff.mp h
  rw [← e, ← List.drop_eq_getElem_cons hl, List.take_append_drop]
theorem drop_case (ds : List PyData) (i : Nat) : (∃ d, ds = ds.take i ++ d :: ds.drop (i + 1)) ∨ ds.take i ++ ds.drop (i + 1) = ds := by
  rcases Nat.lt_or_ge i ds.length with h | h
  · exact .inl ⟨ds[i], cut_at (List.getElem?_eq_getElem h)⟩
  · right
    rw [List.take_of_length_le h, List.drop_of_length_le (by omega), List.append_nil]
theorem SpR.tot {φ : List PyData → Nat} (L : Lip φ) : ∀ {d d' : PyData}, SpR d d' → OM.tot φ d' ≤ OM.tot φ d + 1 ∧ totL φ (itemsD d') ≤ totL φ (itemsD d) + 1
  | _, _, .odd h => ⟨Nat.le_trans (L.odd _ h) (Nat.le_add_left _ _), Nat.le_trans (L.oddL _ h) (Nat.le_add_left _ _)⟩
  | _, _, .del (ds := ds) i => by
    rcases drop_case ds i with ⟨d, e⟩ | e
    · have h1 := L.del (ds.take i) (ds.drop (i + 1)) d
      rw [← e] at h1
      have h2 : totL φ ds = totL φ (ds.take i) + (OM.tot φ d + totL φ (ds.drop (i + 1))) := by
        conv => lhs; rw [e, totL_app, totL_cons]
      rw [tot_tup, tot_tup]
      show _ ∧ totL φ (ds.take i ++ ds.drop (i + 1)) ≤ totL φ ds + 1
      rw [totL_app]
      omega
    · rw [e]
      exact ⟨Nat.le_succ _, Nat.le_succ _⟩
  | _, _, .ins (ds := ds) (o := o) i h => by
    have h1 := L.ins (ds.take i) (ds.drop i) o h
    have h3 := L.odd o h
    rw [List.take_append_drop] at h1
    have h2 : totL φ ds = totL φ (ds.take i) + totL φ (ds.drop i) := by
      conv => lhs; rw [← List.take_append_drop i ds, totL_app]
    rw [tot_tup, tot_tup]
    show _ ∧ totL φ (ds.take i ++ o :: ds.drop i) ≤ totL φ ds + 1
    rw [totL_app, totL_cons]
    omega
  | _, _, .lst => ⟨Nat.zero_le _, Nat.zero_le _⟩
  | _, _, .sub (ds := ds) (d := d) (d' := d') i hi h => by
    have e := cut_at hi
    have ih := SpR.tot L h
    have h2 : totL φ ds = totL φ (ds.take i) + (OM.tot φ d + totL φ (ds.drop (i + 1))) := by
      conv => lhs; rw [e, totL_app, totL_cons]
    have key : φ (ds.take i ++ d' :: ds.drop (i + 1)) + OM.tot φ d' ≤ φ ds + OM.tot φ d + 1 := by
      cases h with
      | odd ho =>
        have := L.put (ds.take i) (ds.drop (i + 1)) d d' ho
        rw [← e] at this
        omega
      | @del xs j =>
        have := L.tup (ds.take i) (ds.drop (i + 1)) xs (xs.take j ++ xs.drop (j + 1))
        rw [← e] at this
        have := ih.1
        omega
      | @ins xs o j ho =>
        have := L.tup (ds.take i) (ds.drop (i + 1)) xs (xs.take j ++ o :: xs.drop j)
        rw [← e] at this
        have := ih.1
        omega
      | @lst xs =>
        have := L.lst (ds.take i) (ds.drop (i + 1)) xs xs
        rw [← e] at this
        show _ + 0 ≤ _
        omega
      | @sub xs y y' j hj hy =>
        have := L.tup (ds.take i) (ds.drop (i + 1)) xs (xs.take j ++ y' :: xs.drop (j + 1))
        rw [← e] at this
        have := ih.1
        omega
    rw [tot_tup, tot_tup]
    show _ ∧ totL φ (ds.take i ++ d' :: ds.drop (i + 1)) ≤ totL φ ds + 1
    rw [totL_app, totL_cons]
    have := ih.1
    omega
/-! ### the four weights -/
def headW (P : Str → Bool) : List PyData → Nat
  | .str w :: _ => if P w = true then 1 else 0
  | _ => 0
theorem headW_le (P : Str → Bool) (ds : List PyData) : headW P ds ≤ 1 := by
  unfold headW
  split
  · split
    · exact Nat.le_refl _
    · exact Nat.zero_le _
  · exact Nat.zero_le _
theorem odds_all {p : PyData → Prop} (h0 : p .none) (h1 : p (.int 0)) (h2 : p (.bool true)) (hs : ∀ x, p (.str x)) (ht : p (.tuple [])) (hl : p (.list [])) (hd : p (.dict [])) (ha : p (.tuple [.str "a"])) (hw : p (.tuple [.str "show", .str "a"])) : ∀ o ∈ odds, p o := by
  intro o ho
  unfold odds at ho
  simp only [List.mem_cons, List.not_mem_nil, or_false] at ho
  rcases ho with rfl | rfl | rfl | rfl | rfl | rfl | rfl | rfl | rfl | rfl | rfl | rfl | rfl | rfl | rfl | rfl <;> first | assumption | exact hs _
theorem lip_head (P : Str → Bool) (ha : P "a" = false) (hs : P "show" = false) : Lip (headW P) := by
  have z : ∀ o ∈ odds, tot (headW P) o = 0 := odds_all rfl rfl rfl (fun _ => rfl) rfl rfl rfl (by
    rw [tot_tup]
    show (if P "a" = true then 1 else 0) + _ = 0
    rw [ha]
    rfl) (by
    rw [tot_tup]
    show (if P "show" = true then 1 else 0) + _ = 0
    rw [hs]
    rfl)
  have zl : ∀ o ∈ odds, totL (headW P) (itemsD o) = 0 := odds_all rfl rfl rfl (fun _ => rfl) rfl rfl rfl rfl rfl
  have le := headW_le P
  refine ⟨le _, fun o h => by rw [z o h]; exact Nat.zero_le _, fun o h => by rw [zl o h]; exact Nat.zero_le _, fun a b d => ?_, fun a b o h => ?_, fun a b xs ys => ?_, fun a b d o h => ?_, fun a b xs ys => ?_⟩
  · have := le (a ++ b)
    omega
  · have := le (a ++ o :: b)
    rw [z o h]
    omega
  · cases a with
    | nil => exact Nat.zero_le _
    | cons x r => cases x <;> exact Nat.le_refl _
  · have := le (a ++ o :: b)
    rw [z o h]
    omega
  · have := le (a ++ .list ys :: b)
    omega
theorem lip_one : Lip fun _ => 1 := by
  have z : ∀ o ∈ odds, tot (fun _ => 1) o ≤ 1 := odds_all (Nat.zero_le _) (Nat.zero_le _) (Nat.zero_le _) (fun _ => Nat.zero_le _) (Nat.le_refl _) (Nat.zero_le _) (Nat.zero_le _) (Nat.le_refl _) (Nat.le_refl _)
  have zl : ∀ o ∈ odds, totL (fun _ => 1) (itemsD o) = 0 := odds_all rfl rfl rfl (fun _ => rfl) rfl rfl rfl rfl rfl
  refine ⟨Nat.le_refl _, z, fun o h => by rw [zl o h]; exact Nat.zero_le _, fun a b d => (by omega), fun a b o h => ?_, fun a b xs ys => Nat.le_refl _, fun a b d o h => ?_, fun a b xs ys => (by omega)⟩
  · have := z o h
    omega
  · have := z o h
    omega
def isIfD : PyData → Bool
  | .str w => w == "if"
  | _ => false
/-- how near a tuple is to an if -/
def ifW (ds : List PyData) : Nat := min (min 2 (ds.countP isTupD) + min 1 (ds.countP isIfD) - 1) (min 2 (ds.length - 3))
theorem one_tup (d : PyData) : ((if isTupD d = true then 1 else 0) + (if isIfD d = true then 1 else 0) : Nat) ≤ 1 := by
  cases d with
  | str w =>
    show 0 + _ ≤ 1
    split <;> omega
  | tuple ds => exact Nat.le_refl 1
  | _ => exact Nat.zero_le _
theorem lip_if : Lip ifW := by
  have z : ∀ o ∈ odds, tot ifW o = 0 := odds_all rfl rfl rfl (fun _ => rfl) rfl rfl rfl rfl rfl
  have zl : ∀ o ∈ odds, totL ifW (itemsD o) = 0 := odds_all rfl rfl rfl (fun _ => rfl) rfl rfl rfl rfl rfl
  refine ⟨Nat.zero_le _, fun o h => by rw [z o h]; exact Nat.zero_le _, fun o h => by rw [zl o h]; exact Nat.zero_le _, fun a b d => ?_, fun a b o h => ?_, fun a b xs ys => ?_, fun a b d o h => ?_, fun a b xs ys => ?_⟩
  · unfold ifW
    rw [List.countP_append, List.countP_append, List.countP_append, List.countP_append, List.countP_cons, List.countP_cons, List.length_append, List.length_append, List.length_cons]
    have := one_tup d
    omega
  · rw [z o h]
    unfold ifW
    rw [List.countP_append, List.countP_append, List.countP_append, List.countP_append, List.countP_cons, List.countP_cons, List.length_append, List.length_append, List.length_cons]
    have := one_tup o
    omega
  · unfold ifW
    rw [List.countP_append, List.countP_append, List.countP_append, List.countP_append, List.countP_cons, List.countP_cons, List.countP_cons, List.countP_cons, List.length_append, List.length_append, List.length_cons, List.length_cons]
    exact Nat.le_refl _
  · rw [z o h]
    unfold ifW
    rw [List.countP_append, List.countP_append, List.countP_append, List.countP_append, List.countP_cons, List.countP_cons, List.countP_cons, List.countP_cons, List.length_append, List.length_append, List.length_cons, List.length_cons]
    have h1 := one_tup o
    have h2 := one_tup d
    omega
  · unfold ifW
    rw [List.countP_append, List.countP_append, List.countP_append, List.countP_append, List.countP_cons, List.countP_cons, List.countP_cons, List.countP_cons, List.length_append, List.length_append, List.length_cons, List.length_cons]
    show min (min 2 (_ + (_ + 0)) + min 1 (_ + (_ + 0)) - 1) _ ≤ min (min 2 (_ + (_ + 1)) + min 1 (_ + (_ + 0)) - 1) _ + 1
    omega
def isLet (w : Str) : Bool := decide (w = "get" ∨ w = "put")
def isSet (w : Str) : Bool := decide (w = "set")
end OM

namespace OM
open PySem PySem.Spec PyProof.Rows L2
/-- a tuple of anything != () -/
theorem op_neT0 {X : Cx} (hu : X.A.units < cLine) : OpR X (compareOp .NotEq) (fun x y H Q => ∃ a b xs, x = .ref a ∧ y = .ref b ∧ SqT X.K H a xs ∧ SqT X.K H b [] ∧ Q (.bl (!xs.isEmpty)) H) := by
  intro pins s σ H x y v u Q I rx ry h
  obtain ⟨a, b, xs, rfl, rfl, ha, hb, q⟩ := h
  obtain rfl : v = Value.ref a := rx
  obtain rfl : u = Value.ref b := ry
  obtain ⟨us, r1, p1, _⟩ := I.tuple ha
  obtain ⟨ws, r2, p2, _⟩ := I.tuple hb
  cases r2
  have l := r1.length
  have e : (!((List.range (min us.toArray.size (([] : List Value).toArray).size)).all (fun _ => true) && us.toArray.size == (([] : List Value).toArray).size)) = (!xs.isEmpty) := by
    cases xs with
    | nil =>
      have : us = [] := List.length_eq_zero_iff.mp l.symm
      subst this
      rfl
    | cons x r =>
      cases us with
      | nil => simp at l
      | cons u us => simp
  refine SeqAt.RcNeAt.tuples (e := fun _ => true) p1 p2 hu (fun j h1 h2 => absurd h2 (by simp)) X.prog X.w X.xe _ ⟨.bl _, H, I, rfl, ?_⟩
  rw [e]
  exact q
/-- a path as a tuple -/
def tup3 (p : T3) : HO := .tup [.int (p.1 : Int), .int (p.2.1 : Int), .int (p.2.2 : Int)]
theorem tup3_key (p : T3) : tup3 p = .tup ((key3 p).map kV) := rfl
/-- paths, each a tuple of its own -/
def IsT (H : Hp) (L : List T3) (bs : List Addr) : Prop := L.length = bs.length ∧ ∀ (i : Nat) (p : T3) (b : Addr), L[i]? = some p → bs[i]? = some b → H b = some (tup3 p)
theorem IsT.mv {H H' : Hp} {L : List T3} {bs : List Addr} (s : Same H H') (h : IsT H L bs) : IsT H' L bs := ⟨h.1, fun i p b e1 e2 => s _ _ (h.2 i p b e1 e2)⟩
theorem IsT.nil {H : Hp} : IsT H [] [] := ⟨rfl, fun i p b e => by simp at e⟩
theorem IsT.one {H : Hp} {p : T3} {b : Addr} (e : H b = some (tup3 p)) : IsT H [p] [b] := ⟨rfl, fun i q c e1 e2 => by
  cases i with
  | zero =>
    simp at e1 e2
    subst e1 e2
    exact e
  | succ i => simp at e1⟩
theorem IsT.app {H : Hp} {L M : List T3} {bs cs : List Addr} (x : IsT H L bs) (y : IsT H M cs) : IsT H (L ++ M) (bs ++ cs) := by
  refine ⟨by rw [List.length_append, List.length_append, x.1, y.1], fun i p b e1 e2 => ?_⟩
  rcases Nat.lt_or_ge i L.length with h | h
  · rw [List.getElem?_append_left h] at e1
    rw [List.getElem?_append_left (by rw [← x.1]; exact h)] at e2
    exact x.2 i p b e1 e2
  · rw [List.getElem?_append_right h] at e1
    rw [List.getElem?_append_right (by rw [← x.1]; exact h), ← x.1] at e2
    exact y.2 _ p b e1 e2
theorem isT_keys {H : Hp} : ∀ {L : List T3} {bs : List Addr}, IsKeys H (kv3 L) bs → IsT H L bs
  | [], [], _ => .nil
  | [], _ :: _, h => by cases h
  | _ :: _, [], h => by cases h
  | p :: r, b :: bs, h => by
    unfold IsKeys kv3 at h
    rw [List.map_cons] at h
    cases h with
    | @cons _ _ _ _ h1 h2 => exact IsT.app (IsT.one (show H b = some (tup3 p) from h1)) (isT_keys (L := r) (bs := bs) h2)
/-- the paths so far of a list that grows -/
def PvP (H : Hp) (D : Addr) (L : List T3) (i : Nat) (H' : Hp) : Prop := Same H H' ∧ ∃ cs : List Addr, H' D = some (.lst (cs.map V.ref)) ∧ IsT H' (L.take i) cs
theorem PvP.zero {H : Hp} {D : Addr} {L : List T3} (hD : H D = none) : PvP H D L 0 (upd H D (.lst [])) := ⟨same_upd hD, [], upd_same, .nil⟩
theorem PvP.step {H H3 H4 : Hp} {D c : Addr} {L : List T3} {i : Nat} {p : T3} (hD : H D = none) (hl : L.length < sizeLine) (hp : L[i]? = some p) (x : PvP H D L i H3) (s : Same H3 H4) (ec : H4 c = some (tup3 p)) :
    ∃ acc, H4 D = some (.lst acc) ∧ acc.length < sizeLine ∧ PvP H D L (i + 1) (upd H4 D (.lst (acc ++ [V.ref c]))) := by
  obtain ⟨sm, cs, e, t⟩ := x
  have hi : i < L.length := (List.getElem?_eq_some_iff.mp hp).1
  have nD : ∀ {b : Addr} {q : T3}, H4 b = some (tup3 q) → b ≠ D := fun {b q} eb z => by
    rw [z, s _ _ e] at eb
    cases eb
  refine ⟨_, s _ _ e, ?_, same_put hD (sm.trans s), cs ++ [c], ?_, ?_⟩
  · rw [List.length_map, ← t.1, List.length_take]
    omega
  · rw [upd_same, List.map_append]
    rfl
  · rw [List.take_add_one, hp]
    have t4 : IsT H4 (L.take i ++ [p]) (cs ++ [c]) := (t.mv s).app (.one ec)
    exact ⟨t4.1, fun j q b e1 e2 => by
      have z := t4.2 j q b e1 e2
      rw [upd_ne (nD z)]
      exact z⟩
/-- what holds of the paths of code -/
def MxN (n : Nat) (ds : List PyData) (L : List T3) : Prop := Mx L 0 (mostN n "if" ds) ∧ Mx L 1 (mostN n "letter" ds) ∧ Mx L 2 (mostN n "set" ds)
def MxS (n : Nat) (d : PyData) (L : List T3) : Prop := Mx L 0 (mostS n "if" d) ∧ Mx L 1 (mostS n "letter" d) ∧ Mx L 2 (mostS n "set" d)
theorem own_le (k : Str) (l : List PyData) : wsum (ownD k) l ≤ l.length := by
  induction l with
  | nil => exact Nat.zero_le _
  | cons d r ih =>
    rw [wsum_cons, List.length_cons]
    have : ownD k d ≤ 1 := by
      unfold ownD
      split
      · exact Nat.le_refl _
      · exact Nat.zero_le _
    omega
theorem most_le (k : Str) (n : Nat) (ds : List PyData) : mostN n k ds ≤ (flatN n ds).length := Nat.le_trans ((most_sum k n).2 ds) (own_le k _)
theorem most_take {n i : Nat} {k : Str} {d : PyData} {ds : List PyData} (h : ds[i]? = some d) : mostN n k (ds.take (i + 1)) = mostN n k (ds.take i) + mostS n k d := by
  unfold mostN
  rw [List.take_add_one, h, List.map_append, List.sum_append]
  simp
theorem MxN.few {n : Nat} {ds : List PyData} {L : List T3} (x : MxN n ds L) (nd : L.Nodup) (h : (flatN n ds).length ≤ 200) : L.length ≤ 8200000 := by
  refine few_line (m := 200) nd (fun p hp c hc => ?_) (Nat.le_refl _)
  have h0 := most_le "if" n ds
  have h1 := most_le "letter" n ds
  have h2 := most_le "set" n ds
  match c, hc with
  | 0, _ => exact Nat.le_trans (x.1.1 p hp) (by omega)
  | 1, _ => exact Nat.le_trans (x.2.1.1 p hp) (by omega)
  | 2, _ => exact Nat.le_trans (x.2.2.1 p hp) (by omega)
theorem MxN.add {n i : Nat} {d : PyData} {ds : List PyData} {A B C : List T3} (hd : ds[i]? = some d) (x : MxN n (ds.take i) A) (y : MxS n d B) (h : ∀ z, z ∈ C ↔ ∃ p ∈ A, ∃ q ∈ B, z = add3 p q) : MxN n (ds.take (i + 1)) C := by
  unfold MxN
  rw [most_take hd, most_take hd, most_take hd]
  exact ⟨x.1.add y.1 h, x.2.1.add y.2.1 h, x.2.2.add y.2.2 h⟩
end OM

namespace OM
open PySem PySem.Spec PyProof.Rows L2
theorem totL_strs (φ : List PyData → Nat) : ∀ l : List Str, totL φ (l.map PyData.str) = 0
  | [] => rfl
  | x :: r => by
    show 0 + totL φ (r.map PyData.str) = 0
    rw [totL_strs φ r]
theorem regs_plain : ∀ a ∈ regs4, isLet a = false ∧ isSet a = false ∧ (a == "if") = false := by decide +kernel
theorem cells_plain : ∀ a ∈ cells3, isLet a = false ∧ isSet a = false ∧ (a == "if") = false := by decide +kernel
theorem ifW_short {ds : List PyData} (h : ds.length ≤ 3) : ifW ds = 0 := by
  unfold ifW
  have : ds.length - 3 = 0 := by omega
  rw [this]
  simp
theorem head_regs {P : Str → Bool} {as : List Str} (h : ∀ a ∈ as, P a = false) : headW P (as.map PyData.str) = 0 := by
  cases as with
  | nil => rfl
  | cons a r =>
    show (if P a = true then 1 else 0) = 0
    rw [h a List.mem_cons_self]
    rfl
theorem head_no {P : Str → Bool} {w : Str} {r : List PyData} (h : P w = false) : headW P (.str w :: r) = 0 := by
  show (if P w = true then 1 else 0) = 0
  rw [h]
  rfl
theorem CoD.head {n : Nat} {ds : List PyData} {l s t z : Nat} (h : CoD n ds l s t z) (P : Str → Bool) : headW P ds = 0 := by
  cases h with
  | nil => rfl
  | cons h r => cases h <;> rfl
def Bd (d : PyData) (l s t z : Nat) : Prop := tot (headW isLet) d ≤ l ∧ tot (headW isSet) d ≤ s ∧ tot (fun _ => 1) d ≤ z + 2 * t + s ∧ tot ifW d ≤ 2 * t ∧ z ≤ 1 + 4 * t
def BdL (ds : List PyData) (l s t z : Nat) : Prop := totL (headW isLet) ds ≤ l ∧ totL (headW isSet) ds ≤ s ∧ totL (fun _ => 1) ds ≤ z + 2 * t + s ∧ totL ifW ds ≤ 2 * t ∧ z ≤ ds.length + 4 * t
mutual
theorem StD.w : ∀ {n : Nat} {d : PyData} {l s t z : Nat}, StD n d l s t z → Bd d l s t z
  | _, _, _, _, _, _, .read (r := r) (x := x) hr hx => by
    refine ⟨?_, ?_, ?_, ?_, by omega⟩ <;> rw [tot_tup]
    · rw [head_no (by decide +kernel)]
      exact Nat.le_refl 0
    · rw [head_no (by decide +kernel)]
      exact Nat.le_refl 0
    · exact Nat.le_refl 1
    · rw [ifW_short (by show 3 ≤ 3; decide)]
      exact Nat.le_refl 0
  | _, _, _, _, _, _, .write (r := r) (x := x) hx hr => by
    refine ⟨?_, ?_, ?_, ?_, by omega⟩ <;> rw [tot_tup]
    · rw [head_no (by decide +kernel)]
      exact Nat.le_refl 0
    · rw [head_no (by decide +kernel)]
      exact Nat.le_refl 0
    · exact Nat.le_refl 1
    · rw [ifW_short (by show 3 ≤ 3; decide)]
      exact Nat.le_refl 0
  | _, _, _, _, _, _, .copy (r := r) (a := a) hr ha => by
    refine ⟨?_, ?_, ?_, ?_, by omega⟩ <;> rw [tot_tup]
    · rw [head_no (by decide +kernel)]
      exact Nat.le_refl 0
    · rw [head_no (by decide +kernel)]
      exact Nat.le_refl 0
    · exact Nat.le_refl 1
    · rw [ifW_short (by show 3 ≤ 3; decide)]
      exact Nat.le_refl 0
  | _, _, _, _, _, _, .letter (w := w) (r := r) hw hr => by
    refine ⟨?_, ?_, ?_, ?_, by omega⟩ <;> rw [tot_tup]
    · have := headW_le isLet [.str w, .str r]
      show _ + 0 ≤ 1
      omega
    · rw [head_no (by rcases hw with rfl | rfl <;> decide +kernel)]
      exact Nat.le_refl 0
    · exact Nat.le_refl 1
    · rw [ifW_short (by show 2 ≤ 3; decide)]
      exact Nat.le_refl 0
  | _, _, _, _, _, _, .set (r := r) (f := f) (as := as) hr hf ha hl => by
    have e : ∀ φ : List PyData → Nat, tot φ (.tuple [.str "set", .str r, .str f, .tuple (as.map PyData.str)]) = φ [.str "set", .str r, .str f, .tuple (as.map PyData.str)] + φ (as.map PyData.str) := fun φ => by
      rw [tot_tup]
      show _ + (0 + (0 + (0 + (tot φ (.tuple (as.map PyData.str)) + 0)))) = _
      rw [tot_tup, totL_strs]
      omega
    refine ⟨?_, ?_, ?_, ?_, by omega⟩ <;> rw [e]
    · rw [head_no (by decide +kernel), head_regs fun a h => (regs_plain a (ha a h)).1]
      exact Nat.le_refl 0
    · have := headW_le isSet [.str "set", .str r, .str f, .tuple (as.map PyData.str)]
      rw [head_regs fun a h => (regs_plain a (ha a h)).2.1]
      exact this
    · exact Nat.le_refl 2
    · rw [ifW_short (ds := as.map PyData.str) (by rw [List.length_map]; omega)]
      have h1 := (regs_plain r hr).2.2
      have h2 : (f == "if") = false := by rcases hf with rfl | rfl <;> decide +kernel
      have h3 : ("set" == ("if" : Str)) = false := by decide +kernel
      have c1 : [PyData.str "set", .str r, .str f, .tuple (as.map PyData.str)].countP isIfD = 0 := by
        simp [List.countP_cons, isIfD, h1, h2, h3]
      have c2 : [PyData.str "set", .str r, .str f, .tuple (as.map PyData.str)].countP isTupD = 1 := by
        simp [List.countP_cons, isTupD]
      unfold ifW
      rw [c1, c2]
      exact Nat.le_of_eq (by simp)
  | _, _, _, _, _, _, .iff (p := p) (r := r) (ys := ys) (ns := ns) hp hr hy hyl hn hnl => by
    have e : ∀ φ : List PyData → Nat, tot φ (.tuple [.str "if", .str p, .str r, .tuple ys, .tuple ns]) = φ [.str "if", .str p, .str r, .tuple ys, .tuple ns] + ((φ ys + totL φ ys) + (φ ns + totL φ ns)) := fun φ => by
      rw [tot_tup]
      show _ + (0 + (0 + (0 + (tot φ (.tuple ys) + (tot φ (.tuple ns) + 0))))) = _
      rw [tot_tup, tot_tup]
      omega
    obtain ⟨a1, a2, a3, a4, a5⟩ := CoD.w hy
    obtain ⟨b1, b2, b3, b4, b5⟩ := CoD.w hn
    refine ⟨?_, ?_, ?_, ?_, by omega⟩
    · rw [e, head_no (by decide +kernel), hy.head, hn.head]
      omega
    · rw [e, head_no (by decide +kernel), hy.head, hn.head]
      omega
    · rw [e]
      show 1 + ((1 + totL (fun _ => 1) ys) + (1 + totL (fun _ => 1) ns)) ≤ _
      omega
    · rw [e, ifW_short (ds := ys) (by omega), ifW_short (ds := ns) (by omega)]
      have : ifW [.str "if", .str p, .str r, .tuple ys, .tuple ns] ≤ 2 := by
        unfold ifW
        exact Nat.le_trans (Nat.min_le_right _ _) (Nat.min_le_left _ _)
      omega
theorem CoD.w : ∀ {n : Nat} {ds : List PyData} {l s t z : Nat}, CoD n ds l s t z → BdL ds l s t z
  | _, _, _, _, _, _, .nil => ⟨Nat.le_refl 0, Nat.le_refl 0, Nat.le_refl 0, Nat.le_refl 0, Nat.le_refl 0⟩
  | _, _, _, _, _, _, .cons h r => by
    obtain ⟨a1, a2, a3, a4, a5⟩ := StD.w h
    obtain ⟨b1, b2, b3, b4, b5⟩ := CoD.w r
    refine ⟨?_, ?_, ?_, ?_, ?_⟩
    · rw [totL_cons]; omega
    · rw [totL_cons]; omega
    · rw [totL_cons]; omega
    · rw [totL_cons]; omega
    · rw [List.length_cons]; omega
end
/-- drawn code, and what comes of it by one spoil or two -/
inductive Rch (c : PyData) : PyData → Prop where
  | zero : Rch c c
  | one {d : PyData} (h : SpR c d) : Rch c d
  | two {m d : PyData} (h : SpR c m) (k : SpR m d) : Rch c d
theorem Rch.le {φ : List PyData → Nat} (L : Lip φ) {c d : PyData} (r : Rch c d) : totL φ (itemsD d) ≤ totL φ (itemsD c) + 2 := by
  cases r with
  | zero => omega
  | one h =>
    have := (h.tot L).2
    omega
  | two h k =>
    have h1 := (h.tot L).2
    have h2 := (k.tot L).2
    omega
def kindW (w : Str) (rest : List PyData) : Str := if w = "get" ∨ w = "put" then "letter" else if w = "set" then (match rest with | [_, _, .tuple []] => "constant" | _ => "set") else w
theorem row_own {n : Nat} {e : PyData} (row : rowD (cdOf n) e = true) : ownD "letter" e ≤ tupW (headW isLet) e ∧ ownD "set" e ≤ tupW (headW isSet) e ∧ 2 * ownD "if" e ≤ tupW ifW e ∧ 1 ≤ tupW (fun _ => 1) e := by
  obtain ⟨w, rest, rs, rfl, hf, hlen, fits⟩ := rowD_shape row
  have kd : kindD (.tuple (.str w :: rest)) = kindW w rest := rfl
  refine ⟨?_, ?_, ?_, Nat.le_refl 1⟩
  · unfold ownD
    split
    · rename_i h
      rw [kd] at h
      unfold kindW at h
      split at h
      · rename_i g
        show 1 ≤ (if isLet w = true then 1 else 0)
        rw [if_pos (show isLet w = true from decide_eq_true g)]
        exact Nat.le_refl 1
      · split at h
        · split at h <;> exact absurd h (by decide +kernel)
        · rw [h, show formOf "letter" = none by decide +kernel] at hf
          cases hf
    · exact Nat.zero_le _
  · unfold ownD
    split
    · rename_i h
      rw [kd] at h
      unfold kindW at h
      split at h
      · exact absurd h (by decide +kernel)
      · split at h
        · rename_i g
          show 1 ≤ (if isSet w = true then 1 else 0)
          rw [if_pos (show isSet w = true from decide_eq_true g)]
          exact Nat.le_refl 1
        · rename_i g
          exact absurd h g
    · exact Nat.zero_le _
  · unfold ownD
    split
    · rename_i h
      rw [kd] at h
      unfold kindW at h
      split at h
      · exact absurd h (by decide +kernel)
      · split at h
        · split at h <;> exact absurd h (by decide +kernel)
        · subst h
          rcases row_iff row with ⟨m, p, r, ys, ns, _, e, _⟩ | ⟨w', rest', e, ne, _⟩
          · rw [e]
            show 2 * 1 ≤ ifW [.str "if", p, r, .tuple ys, .tuple ns]
            unfold ifW
            have c1 : 1 ≤ [PyData.str "if", p, r, .tuple ys, .tuple ns].countP isIfD := by
              rw [List.countP_cons]
              have : isIfD (.str "if") = true := by decide +kernel
              rw [this]
              simp
            have c2 : 2 ≤ [PyData.str "if", p, r, .tuple ys, .tuple ns].countP isTupD := by
              rw [List.countP_cons, List.countP_cons, List.countP_cons, List.countP_cons, List.countP_cons]
              have : ∀ zs, isTupD (.tuple zs) = true := fun _ => rfl
              rw [this, this]
              simp
              omega
            show 2 ≤ min (_ - 1) (min 2 (5 - 3))
            omega
          · have : w' = "if" := by
              injection e with e
              injection e with e _
              injection e with e
              exact e.symm
            exact absurd this ne
    · exact Nat.zero_le _
theorem wsum_two (ψ : PyData → Nat) (l : List PyData) : wsum (fun e => 2 * ψ e) l = 2 * wsum ψ l := by
  induction l with
  | nil => rfl
  | cons d r ih =>
    rw [wsum_cons, wsum_cons, ih]
    omega
theorem wsum_len (l : List PyData) : wsum (fun _ => 1) l = l.length := by
  induction l with
  | nil => rfl
  | cons d r ih =>
    rw [wsum_cons, ih, List.length_cons]
    omega
/-- code that came of drawn code by two spoils keeps every bound but the cells' -/
theorem reach_ok {ds0 : List PyData} {l s t z : Nat} {d : PyData} (cd : CoD 2 ds0 l s t z) (hlen : ds0.length ≤ 6) (hl : l ≤ 4) (hs : s ≤ 3) (ht : t ≤ 2) (r : Rch (.tuple ds0) d) (h : codeD 3 d = true) :
    (flatN 3 (itemsD d)).length ≤ 24 ∧ mostN 3 "letter" (itemsD d) ≤ 6 ∧ mostN 3 "set" (itemsD d) ≤ 6 ∧ mostN 3 "if" (itemsD d) ≤ 3 := by
  obtain ⟨w1, w2, w3, w4, w5⟩ := cd.w
  have r1 := r.le (lip_head isLet (by decide +kernel) (by decide +kernel))
  have r2 := r.le (lip_head isSet (by decide +kernel) (by decide +kernel))
  have r3 := r.le lip_one
  have r4 := r.le lip_if
  obtain ⟨ds, rfl, rows⟩ := code_tup h
  have good : ∀ e ∈ flatN 3 ds, ∃ m, rowD (cdOf m) e = true := fun e he => by
    obtain ⟨d0, hd0, hm⟩ := List.mem_flatMap.mp he
    exact rows_flatS (List.all_eq_true.mp rows d0 hd0) e hm
  have f1 := (flat_tot (headW isLet) 3).2 ds
  have f2 := (flat_tot (headW isSet) 3).2 ds
  have f3 := (flat_tot (fun _ => 1) 3).2 ds
  have f4 := (flat_tot ifW 3).2 ds
  have m1 := (most_sum "letter" 3).2 ds
  have m2 := (most_sum "set" 3).2 ds
  have m4 := (most_sum "if" 3).2 ds
  have o1 : wsum (ownD "letter") (flatN 3 ds) ≤ wsum (tupW (headW isLet)) (flatN 3 ds) := wsum_le fun e he => by obtain ⟨m, row⟩ := good e he; exact (row_own row).1
  have o2 : wsum (ownD "set") (flatN 3 ds) ≤ wsum (tupW (headW isSet)) (flatN 3 ds) := wsum_le fun e he => by obtain ⟨m, row⟩ := good e he; exact (row_own row).2.1
  have o4 : wsum (fun e => 2 * ownD "if" e) (flatN 3 ds) ≤ wsum (tupW ifW) (flatN 3 ds) := wsum_le fun e he => by obtain ⟨m, row⟩ := good e he; exact (row_own row).2.2.1
  have o3 : wsum (fun _ => 1) (flatN 3 ds) ≤ wsum (tupW fun _ => 1) (flatN 3 ds) := wsum_le fun e he => by obtain ⟨m, row⟩ := good e he; exact (row_own row).2.2.2
  rw [wsum_two] at o4
  rw [wsum_len] at o3
  have i0 : itemsD (.tuple ds0) = ds0 := rfl
  have i1 : itemsD (.tuple ds) = ds := rfl
  rw [i0, i1] at r1 r2 r3 r4
  rw [i1]
  exact ⟨by omega, by omega, by omega, by omega⟩
theorem reach_bnd {ds0 : List PyData} {l s t z : Nat} {d : PyData} (cd : CoD 2 ds0 l s t z) (hlen : ds0.length ≤ 6) (hl : l ≤ 4) (hs : s ≤ 3) (ht : t ≤ 2) (r : Rch (.tuple ds0) d) (h : codeD 3 d = true) :
    bndD (itemsD d) = decide ((firsts [] (cellsN 3 (itemsD d))).length ≤ 4) := by
  obtain ⟨b1, b2, b3, b4⟩ := reach_ok cd hlen hl hs ht r h
  unfold bndD cellsN
  rw [decide_eq_true b1, decide_eq_true b2, decide_eq_true b3, decide_eq_true b4]
  simp
end OM

namespace OM
open PySem PySem.Spec PyProof.Rows L2
/-- t[lo:hi], as one way -/
theorem sl_one {K : PySem.W.Frag} {a : Addr} {xs : List V} {lo hi : Option Int} {H : Hp} {Q : VK} (ea : H a = some (.tup xs)) (q : ∀ c H', Same H H' → (c = a ∨ H c = none) → H' c = some (.tup (cutV xs lo hi)) → Q (.ref c) H') : rSlA K (.ref a) lo hi H Q := by
  refine ⟨a, xs, rfl, SqT.of ea, fun hw => ?_, fun _ p hp => q p _ (same_upd hp) (.inr hp) upd_same⟩
  have e : cutV xs lo hi = xs := by
    unfold cutV
    rw [hw.1, hw.2, List.drop_zero, Nat.sub_zero, List.take_length]
  exact q a H (Same.refl H) (.inl rfl) (by rw [e]; exact ea)
/-- t + u, as one way -/
theorem cat_one {K : PySem.W.Frag} {a b : Addr} {xs ys : List V} {H : Hp} {Q : VK} (ea : H a = some (.tup xs)) (eb : H b = some (.tup ys)) (sz : xs.length + ys.length ≤ sizeLine) (q : ∀ c H', Same H H' → (c = a ∨ c = b ∨ H c = none) → H' c = some (.tup (xs ++ ys)) → Q (.ref c) H') : rCatA K (.ref a) (.ref b) H Q := by
  refine ⟨a, b, xs, ys, rfl, rfl, SqT.of ea, SqT.of eb, sz, fun e => q b H (Same.refl H) (.inr (.inl rfl)) (by rw [e]; exact eb), fun _ e => q a H (Same.refl H) (.inl rfl) (by rw [e, List.append_nil]; exact ea), fun _ _ p hp => q p _ (same_upd hp) (.inr (.inr hp)) upd_same⟩
theorem cut_take (xs : List V) {i : Nat} (h : i ≤ xs.length) : cutV xs none (some (i : Int)) = xs.take i := by
  unfold cutV
  rw [HT.sIx_nat, HT.sIx_none, List.drop_zero, Nat.sub_zero, Nat.min_eq_left h]
theorem cut_drop (xs : List V) {i : Nat} (h : i ≤ xs.length) : cutV xs (some (i : Int)) none = xs.drop i := by
  unfold cutV
  rw [HT.sIx_nat, HT.sIx_none, Nat.min_eq_left h, ← List.length_drop, List.take_length]
mutual
/-- the longest list or tuple in a datum -/
def widN : PyData → Nat
  | .list xs => max xs.length (widL xs)
  | .tuple xs => max xs.length (widL xs)
  | _ => 0
def widL : List PyData → Nat
  | [] => 0
  | x :: r => max (widN x) (widL r)
end
theorem depthAll_cons (x : PyData) (r : List PyData) : PyData.depthAll (x :: r) = max x.depth (PyData.depthAll r) := by rw [PyData.depthAll]
theorem smlAll_cons (x : PyData) (r : List PyData) : smlAll (x :: r) = (smlD x && smlAll r) := by rw [smlAll]
theorem widL_cons (x : PyData) (r : List PyData) : widL (x :: r) = max (widN x) (widL r) := by rw [widL]
theorem widL_app : ∀ (a b : List PyData), widL (a ++ b) = max (widL a) (widL b)
  | [], b => (Nat.zero_max _).symm
  | x :: r, b => by
    show max (widN x) (widL (r ++ b)) = max (max (widN x) (widL r)) (widL b)
    rw [widL_app r b, Nat.max_assoc]
theorem wid_tup (ds : List PyData) : widN (.tuple ds) = max ds.length (widL ds) := by unfold widN; rfl
theorem wid_lst (ds : List PyData) : widN (.list ds) = max ds.length (widL ds) := by unfold widN; rfl
theorem depthAll_app : ∀ (a b : List PyData), PyData.depthAll (a ++ b) = max (PyData.depthAll a) (PyData.depthAll b)
  | [], b => (Nat.zero_max _).symm
  | x :: r, b => by
    show PyData.depthAll (x :: (r ++ b)) = max (PyData.depthAll (x :: r)) (PyData.depthAll b)
    rw [depthAll_cons, depthAll_cons, depthAll_app r b, Nat.max_assoc]
theorem dep_tup (ds : List PyData) : PyData.depth (.tuple ds) = PyData.depthAll ds + 1 := by unfold PyData.depth; first | rfl | omega
theorem dep_lst (ds : List PyData) : PyData.depth (.list ds) = PyData.depthAll ds + 1 := by unfold PyData.depth; first | rfl | omega
theorem smlAll_app : ∀ (a b : List PyData), smlAll (a ++ b) = (smlAll a && smlAll b)
  | [], b => rfl
  | x :: r, b => by
    show smlAll (x :: (r ++ b)) = (smlAll (x :: r) && smlAll b)
    rw [smlAll_cons, smlAll_cons, smlAll_app r b, Bool.and_assoc]
theorem sml_tup (ds : List PyData) : smlD (.tuple ds) = smlAll ds := by unfold smlD; rfl
theorem sml_lst (ds : List PyData) : smlD (.list ds) = smlAll ds := by unfold smlD; rfl
theorem odds_small : ∀ o ∈ odds, widN o ≤ 2 ∧ o.depth ≤ 1 ∧ smlD o = true := by
  intro o ho
  unfold odds at ho
  simp only [List.mem_cons, List.not_mem_nil, or_false] at ho
  rcases ho with rfl | rfl | rfl | rfl | rfl | rfl | rfl | rfl | rfl | rfl | rfl | rfl | rfl | rfl | rfl | rfl <;> decide +kernel
/-- a spoil leaves things about as small -/
theorem SpR.small : ∀ {d d' : PyData}, SpR d d' → widN d' ≤ widN d + 2 ∧ d'.depth ≤ d.depth + 2 ∧ (smlD d = true → smlD d' = true)
  | _, _, .odd h => by
    obtain ⟨h1, h2, h3⟩ := odds_small _ h
    exact ⟨by omega, by omega, fun _ => h3⟩
  | _, _, .del (ds := ds) i => by
    rcases drop_case ds i with ⟨d, e⟩ | e
    · have w : widL ds = max (widL (ds.take i)) (max (widN d) (widL (ds.drop (i + 1)))) := by
        conv => lhs; rw [e, widL_app, widL_cons]
      have p : PyData.depthAll ds = max (PyData.depthAll (ds.take i)) (max d.depth (PyData.depthAll (ds.drop (i + 1)))) := by
        conv => lhs; rw [e, depthAll_app, depthAll_cons]
      have l : ds.length = (ds.take i).length + ((ds.drop (i + 1)).length + 1) := by
        conv => lhs; rw [e, List.length_append, List.length_cons]
      have m : smlAll ds = (smlAll (ds.take i) && (smlD d && smlAll (ds.drop (i + 1)))) := by
        conv => lhs; rw [e, smlAll_app, smlAll_cons]
      rw [wid_tup, wid_tup, dep_tup, dep_tup, sml_tup, sml_tup, widL_app, depthAll_app, smlAll_app, List.length_append, m]
      refine ⟨by omega, by omega, fun h => ?_⟩
      simp only [Bool.and_eq_true] at h ⊢
      exact ⟨h.1, h.2.2⟩
    · rw [e]
      exact ⟨by omega, by omega, id⟩
  | _, _, .ins (ds := ds) (o := o) i h => by
    obtain ⟨h1, h2, h3⟩ := odds_small _ h
    have w : widL ds = max (widL (ds.take i)) (widL (ds.drop i)) := by conv => lhs; rw [← List.take_append_drop i ds, widL_app]
    have p : PyData.depthAll ds = max (PyData.depthAll (ds.take i)) (PyData.depthAll (ds.drop i)) := by conv => lhs; rw [← List.take_append_drop i ds, depthAll_app]
    have l : ds.length = (ds.take i).length + (ds.drop i).length := by conv => lhs; rw [← List.take_append_drop i ds, List.length_append]
    have m : smlAll ds = (smlAll (ds.take i) && smlAll (ds.drop i)) := by conv => lhs; rw [← List.take_append_drop i ds, smlAll_app]
    rw [wid_tup, wid_tup, dep_tup, dep_tup, sml_tup, sml_tup, widL_app, depthAll_app, smlAll_app, widL_cons, depthAll_cons, smlAll_cons, List.length_append, List.length_cons, m, h3]
    refine ⟨by omega, by omega, fun h => ?_⟩
    simpa using h
  | _, _, .lst (ds := ds) => by
    rw [wid_tup, wid_lst, dep_tup, dep_lst, sml_tup, sml_lst]
    exact ⟨by omega, by omega, id⟩
  | _, _, .sub (ds := ds) (d := d) (d' := d') i hi h => by
    have e := cut_at hi
    obtain ⟨h1, h2, h3⟩ := SpR.small h
    have w : widL ds = max (widL (ds.take i)) (max (widN d) (widL (ds.drop (i + 1)))) := by
      conv => lhs; rw [e, widL_app, widL_cons]
    have p : PyData.depthAll ds = max (PyData.depthAll (ds.take i)) (max d.depth (PyData.depthAll (ds.drop (i + 1)))) := by
      conv => lhs; rw [e, depthAll_app, depthAll_cons]
    have l : ds.length = (ds.take i).length + ((ds.drop (i + 1)).length + 1) := by
      conv => lhs; rw [e, List.length_append, List.length_cons]
    have m : smlAll ds = (smlAll (ds.take i) && (smlD d && smlAll (ds.drop (i + 1)))) := by
      conv => lhs; rw [e, smlAll_app, smlAll_cons]
    rw [wid_tup, wid_tup, dep_tup, dep_tup, sml_tup, sml_tup, widL_app, depthAll_app, smlAll_app, widL_cons, depthAll_cons, smlAll_cons, List.length_append, List.length_cons, m]
    refine ⟨by omega, by omega, fun h => ?_⟩
    simp only [Bool.and_eq_true] at h ⊢
    exact ⟨h.1, h3 h.2.1, h.2.2⟩
def spSpoilt : Nat → Sp
  | 0 => fun _ _ _ _ => False
  | n + 1 => fun vs H Q _ => ∃ (S : Addr → Prop) (d : Addr) (v : V) (e : PyData), vs = [.ref d, v] ∧ Dice H d ∧ Dt S H v e ∧ (∀ b, S b → b ≠ d) ∧ e.depth ≤ n ∧ widN e ≤ 900 ∧ ∀ H' v' e', But d H H' → Dice H' d → SpR e e' → Dt (fun b => S b ∨ H b = none) H' v' e' → Q v' H'
end OM

namespace OM
open PySem PySem.Spec PyProof.Rows L2
theorem sl_two {K : PySem.W.Frag} {a : Addr} {xs : List V} {lo : Option Int} {H : Hp} {Q : VK} {σ : L2.St} (ea : H a = some (.tup xs)) (q : ∀ c H', Same H H' → (c = a ∨ H c = none) → H' c = some (.tup (cutV xs lo none)) → Q (.ref c) H') : tNoPart σ H fun u H3 => rSlA K (.ref a) lo u H3 Q := sl_one ea q
theorem Dice.mv {H H' : Hp} {d : Addr} (s : Same H H') (h : Dice H d) : Dice H' d := by
  obtain ⟨a1, a2, a3, e⟩ := h
  exact ⟨a1, a2, a3, s _ _ e⟩
theorem But.tr {d : Addr} {H H1 H2 : Hp} (x : But d H H1) (y : But d H1 H2) : But d H H2 := fun b o hb e => y b o hb (x b o hb e)
theorem s_bt {d : Addr} {H H1 : Hp} (x : Same H H1) : But d H H1 := fun b o _ e => x b o e
/-- what was free stays free behind -/
theorem But.free {d : Addr} {H H1 : Hp} (x : But d H H1) (dn : H1 d ≠ none) {b : Addr} (h : H1 b = none) : H b = none := by
  cases y : H b with
  | none => rfl
  | some o =>
    by_cases e : b = d
    · rw [e] at h
      exact absurd h dn
    · rw [x b o e y] at h
      cases h
theorem dta_take {S : Addr → Prop} {H : Hp} : ∀ {xs : List V} {ds : List PyData} (i : Nat), DtAll S H xs ds → DtAll S H (xs.take i) (ds.take i)
  | _, _, 0, _ => .nil
  | _, _, i + 1, .nil => .nil
  | _, _, i + 1, .cons h r => .cons h (dta_take i r)
theorem dta_drop {S : Addr → Prop} {H : Hp} : ∀ {xs : List V} {ds : List PyData} (i : Nat), DtAll S H xs ds → DtAll S H (xs.drop i) (ds.drop i)
  | _, _, 0, h => h
  | _, _, i + 1, .nil => .nil
  | _, _, i + 1, .cons h r => dta_drop i r
section
variable {P : Program} {w : World} {K : PySem.W.Frag} {mg : Str → Option Value} {base : Heap} {f fR fO : Addr} {fd fdR fdO : FuncData}
end
end OM

namespace OM
open PySem PySem.Spec PyProof.Rows L2
theorem key_reads {h : Heap} {k : Key} {u : Value} (e : keyIs k u = true) : Reads h u (kD k) [] := by
  rcases keyIs_shape e with ⟨i, t, rfl, rfl⟩ | ⟨x, t, rfl, rfl⟩
  · exact .int i t
  · exact .str x t
theorem At.reads {h : Heap} {v : V} {u : Value} {d : PyData} (a : At v d) (r : RelV v u) : Reads h u d [] := by
  cases a with
  | non =>
    obtain rfl : u = Value.none := r
    exact .none
  | bl b =>
    obtain rfl : u = Value.bool b := r
    exact .bool b
  | int i =>
    obtain ⟨t, rfl⟩ : ∃ t, u = Value.int i t := r
    exact .int i t
  | str x =>
    obtain ⟨t, rfl⟩ : ∃ t, u = Value.str x t := r
    exact .str x t
section
variable {P : Program} {w : World} {H : Hp} {h : Heap} {S : Addr → Prop}
mutual
theorem Dt.reads (hok : HOk P w H h) : ∀ {v : V} {d : PyData} {u : Value}, Dt S H v d → RelV v u → ∃ as, Reads h u d as ∧ ∀ b ∈ as, H b ≠ none
  | _, _, _, .at a, r => ⟨[], a.reads r, fun _ z => nomatch z⟩
  | _, _, u, @Dt.lst _ _ a xs ds s e hl hx, r => by
    obtain rfl : u = Value.ref a := r
    obtain ⟨_, its, n, rv, eo⟩ := (show ObjOk P w H h a (.lst xs) from hok a _ e)
    obtain ⟨as, ra, na⟩ := DtAll.reads hok hx rv
    refine ⟨a :: as, .list eo rfl rfl (by simpa using ra), fun b hb => ?_⟩
    rcases List.mem_cons.mp hb with rfl | hb
    · rw [e]
      exact fun z => nomatch z
    · exact na b hb
  | _, _, u, @Dt.tup _ _ a xs ds s e hl hx, r => by
    obtain rfl : u = Value.ref a := r
    obtain ⟨_, its, rv, o, eo, ec, n, ed⟩ := (show ObjOk P w H h a (.tup xs) from hok a _ e)
    obtain ⟨as, ra, na⟩ := DtAll.reads hok hx rv
    exact ⟨as, .tuple eo ec ed (by simpa using ra), na⟩
  | _, _, u, @Dt.dic0 _ _ a s e, r => by
    obtain rfl : u = Value.ref a := r
    obtain ⟨_, _, vs, kv, o, es, ep, eo, ex, ed, ks, ps, _⟩ := (show ObjOk P w H h a (.dK []) from hok a _ e)
    cases kv
    have hes : es.toList = [] := by
      have := ps.length
      simpa using this
    refine ⟨a :: [] ++ [], .dict (kvs := []) eo ex.1 ed (by rw [hes]; exact .nil) (by rw [hes]; exact .nil), fun b hb => ?_⟩
    obtain rfl : b = a := by simpa using hb
    rw [e]
    exact fun z => nomatch z
  | _, _, u, @Dt.dic1 _ _ a k v d s e hd, r => by
    obtain rfl : u = Value.ref a := r
    obtain ⟨_, _, vs, kv, o, es, ep, eo, ex, ed, ks, ps, _⟩ := (show ObjOk P w H h a (.dK [(k, v)]) from hok a _ e)
    cases kv with
    | @cons _ q _ _ hq tl =>
      cases tl
      obtain ⟨ek, rv⟩ := hq
      have key : ∀ l, Pairs (mixKind P w) l [q] → ∃ e1, l = [e1] ∧ (mixKind P w).is q.1 e1.key = true ∧ e1.val = q.2 := fun l p => by
        cases p with
        | cons a b c =>
          cases c
          exact ⟨_, rfl, a, b⟩
      obtain ⟨e1, hes, hk, hv⟩ := key _ ps
      have ek' : k = q.1 := ek
      have hk' : keyIs k e1.key = true := by rw [ek']; exact hk
      have rv' : RelV v e1.val := by rw [hv]; exact rv
      refine ⟨a :: ([] ++ []) ++ ([] ++ []), .dict (kvs := [(kD k, d)]) eo ex.1 ed (by rw [hes]; exact .cons (key_reads hk') .nil) (by rw [hes]; exact .cons (hd.reads rv') .nil), fun b hb => ?_⟩
      obtain rfl : b = a := by simpa using hb
      rw [e]
      exact fun z => nomatch z
theorem DtAll.reads (hok : HOk P w H h) : ∀ {vs : List V} {ds : List PyData} {us : List Value}, DtAll S H vs ds → Vals vs us → ∃ as, ReadsAll h us ds as ∧ ∀ b ∈ as, H b ≠ none
  | _, _, _, .nil, .nil => ⟨[], .nil, fun _ z => nomatch z⟩
  | _, _, _, .cons hd tl, .cons r rs => by
    obtain ⟨as, ra, na⟩ := Dt.reads hok hd r
    obtain ⟨bs, rb, nb⟩ := DtAll.reads hok tl rs
    refine ⟨as ++ bs, .cons ra rb, fun b hb => ?_⟩
    rcases List.mem_append.mp hb with hb | hb
    · exact na b hb
    · exact nb b hb
end
end
/-- repr(x) of a datum -/
def rRep : List V → Hp → VK → Prop := fun xs H Q => ∃ (x : V) (d : PyData) (S : Addr → Prop), xs = [x] ∧ Dt S H x d ∧ d.showable = true ∧ d.depth ≤ 20 ∧ d.shown.length ≤ sizeLine ∧ Q (.str d.shown) H
theorem call_rep {X : Cx} (hg : X.A.guards = some []) (hu : X.A.units + 25 < cLine) (hs : ∃ o, X.base.get? sysModules = some o) : CallR X (.builtin "repr") rRep := by
  intro pins s σ H xs us Q I r h
  obtain ⟨x, d, S, rfl, hd, sh, dep, hz, q⟩ := h
  obtain ⟨u, rfl, ru⟩ := vals1 r
  obtain ⟨hp, g, dr, tk, os⟩ := s
  obtain ⟨as, rd, na⟩ := hd.reads I.hok ru
  obtain ⟨om, hom⟩ := hs
  have hns : sysModules ∉ as := fun z => na _ z (I.bs _ _ hom).2
  have big : ∀ {a : Addr}, u = Value.ref a → wpAny (model X.prog X.w) X.A (call (.builtin "repr") [u]) (EP X pins σ Q) X.xe ⟨hp, g, dr, tk, os⟩ := fun {a} e => by
    subst e
    exact repr_of_reads' rd sh (fun _ => hns) hg (by omega) (fun _ _ z => z) (fun h' u tk2 hk => ⟨.str d.shown, H, I.kept (t' := tk2) hk, ⟨_, rfl⟩, q⟩) hz
  cases hd with
  | «at» h =>
    cases h with
    | non =>
      obtain rfl : u = Value.none := ru
      exact PySem.P.repr_of_none ⟨.str _, H, I.tok _, ⟨_, rfl⟩, q⟩
    | bl b =>
      obtain rfl : u = Value.bool b := ru
      cases b with
      | true => exact PySem.P.repr_of_bool ⟨.str _, H, I.tok _, ⟨_, rfl⟩, q⟩
      | false => exact PySem.P.repr_of_bool ⟨.str _, H, I.tok _, ⟨_, rfl⟩, q⟩
    | int i =>
      obtain ⟨t, rfl⟩ : ∃ t, u = Value.int i t := ru
      have sh' : i.natAbs.log2 < 1920 := by
        unfold PyData.showable at sh
        exact of_decide_eq_true sh
      exact PySem.P.repr_of_int sh' ⟨.str _, H, I.tok _, ⟨_, rfl⟩, q⟩
    | str y =>
      obtain ⟨t, rfl⟩ : ∃ t, u = Value.str y t := ru
      exact PySem.P.repr_of_str ⟨.str _, H, I.tok _, ⟨_, rfl⟩, q⟩ hz
  | lst s e hl h => exact big ru
  | tup s e hl h => exact big ru
  | dic0 s e => exact big ru
  | dic1 s e h => exact big ru
end OM

namespace OM
open PySem PySem.Spec PyProof.Rows L2
/-- a function's promise, wherever no text is being shown around it -/
structure GFn (P : Program) (w : World) (K : PySem.W.Frag) (mg : Str → Option Value) (base : Heap) (n : Nat) (g : Addr) (gd : FuncData) (names : List Str) (sp : Sp) : Prop where
  cnt : ∀ xs H Q E, sp xs H Q E → xs.length = names.length
  go : ∀ (B : Around) (out : List Env) (z : Shared) (H : Hp) (ar : Args) (ws : List Value) (xs : List V) (Q : VK) (E : XK), B.guards = some [] → Room n B → Env0 P w K mg base B out z H → BindsTo z gd ar (names.zip ws) → Vals xs ws → sp xs H Q E →
    codeAny (model P w) B (.call (.ref g) ar) (CR CX0 out P w H z Q E) z
section
variable {P : Program} {w : World} {K : PySem.W.Frag} {mg : Str → Option Value} {base : Heap}
theorem gfn_of {x qual : Str} {st : Stmt} {g : Addr} {gd : FuncData} {N names : List Str} {n : Nat} {sp : Sp} (F : Fun K x qual st g gd) (S : FnScope N names (defScope st)) (cnt : ∀ xs H Q E, sp xs H Q E → xs.length = names.length)
    (bd : ∀ (cv : Value) (B : Around) (out : List Env) (z : Shared) (H : Hp) (xs : List V) (Q : VK) (E : XK), B.guards = some [] → Room n (B.deeper (envOfC qual (defScope st) z.heap.objs.size g cv)) → sp xs H Q E →
      ∃ t, PSs (cxOf CX0 P w K mg base N qual (defScope st) g cv B out z H E).nox (defBody st) t ∧ t { nx := fun _ H' => Q .non H', rt := Q } (start N xs) H) : GFn P w K mg base (n + 1) g gd names sp := by
  obtain ⟨oc, od, kV, doc, pm, an, cv, ct, osl, rfl, lk, hcd⟩ := F.ex
  refine ⟨cnt, fun B out z H ar ws xs Q E hg hr e0 hb rv hs => ?_⟩
  have kz : ∀ b o, base.get? b = some o → z.heap.get? b = some o := fun b o e => (e0.bs b o e).1
  have Kz : K.In z.heap := e0.mod.kin.keeps kz
  have hkinds : ∀ y ∈ names.zip ws, (defScope st).names.lookup y.1 = some .local ∨ ((defScope st).names.lookup y.1 = some .cell ∧ ((cellsFrom (z.heap.objs.size + 1) (defScope st).names []).lookup y.1).isSome = true) := by
    rintro ⟨m, v⟩ hy
    refine (S.par m (List.of_mem_zip hy).1).imp id fun c => ⟨c, PySem.W.cellsFrom_some _ _ _ (.inl c)⟩
  refine codeAny_call_function hr.depth (Kz _ _ lk) rfl S.co S.gen rfl (PySem.W.codeRec_of Kz hcd) (hb _ _ _ _ ?_)
  refine wpAny_newFunctionEnv_cells S.kind hkinds fun ev hev z1 ic => ?_
  subst hev
  refine ⟨(e0.mod.nolimit.keeps kz).keeps ic.toInCall.keep, codeAny_func ?_⟩
  obtain ⟨t, ht, hq⟩ := bd cv B out z H xs Q E hg (hr.deeper _) hs
  refine wpAny_mono (ht.nox.run [] z1 (start N xs) H _ (inv_start (CX := CX0) (E := E) S hr.hd e0 (cnt _ _ _ _ hs) rv ic) hq) (fun fl z2 h2 => ?_) fun _ _ h2 => h2
  cases fl with
  | ret u =>
    obtain ⟨v, σ2, H2, J, r2, q2⟩ := h2
    exact ⟨v, H2, J.os, J.bare, J.base, J.hok, r2, q2⟩
  | next =>
    obtain ⟨σ2, H2, J, q2⟩ := h2
    exact ⟨V.non, H2, J.os, J.bare, J.base, J.hok, (show RelV V.non Value.none from rfl), q2⟩
  | brk =>
    obtain ⟨_, _, _, q2⟩ := h2
    cases q2
  | cont =>
    obtain ⟨_, _, _, q2⟩ := h2
    cases q2
end
section
variable {X : Cx} {n : Nat} {g : Addr} {gd : FuncData} {names : List Str} {sp : Sp} {x : Str} {p pos : Pos} {e : Expr} {es : List Expr} {t : TA}
theorem pe_callG (G : GFn X.prog X.w X.K X.mg X.base n g gd names sp) (hgd : X.A.guards = some []) (hr : Room n X.A) (hg : Gl X x) (hm : X.mg x = some (.ref g)) (hk : PySem.W.keepIn X.K (.ref g) = true) (hb : Binds X.K gd names [])
    (ha : PA X (e :: es) t) (hdb : (x == ("__debug__" : Str)) = false := by decide) (h1 : starEach (e :: es) X.env = (false, eval e X.env) :: starEach es X.env := by rfl) (h2 : (backTo pos (starEach es X.env)).any (·.1) = false := by rfl) :
    PE X (.Call (.Name x p) (e :: es) [] pos) (tCall sp [] E0 t) := by
  refine ⟨fun pins s σ H Q I h => ?_⟩
  refine wpAny_Call_Name_kw (ld_glob I hg hm ?_ hdb)
  refine PySem.W.callWith_K (h₀ := X.base) I.ok.mod.kin hk (thn (ha.run pos pins s σ H _ I h) fun us z ⟨vs, H1, I1, r, q⟩ => ⟨I1.kIn, ?_⟩) h1 h2
  have q0 : sp (vs ++ []) H1 Q E0 := q
  rw [List.append_nil] at q0
  have hl : (us ++ []).length = names.length := by
    rw [List.append_nil, ← r.length]
    exact G.cnt _ _ _ _ q0
  have hbt := hb z us I1.kIn hl
  rw [List.append_nil] at hbt
  show wpAny (model X.prog X.w) X.A (call (.ref g) us) _ _ _
  refine wpAny_call (codeAny_mono (G.go X.A X.stack z H1 ⟨us, []⟩ us vs Q E0 hgd hr I1.env0 hbt r q0) fun res z' hq => ?_)
  match res, hq with
  | .ok (.ret u), hq => exact I1.after hq
  | .error er, hq => exact hq.elim
end
/-- the script is known, or held as it is; nothing else is -/
def Scr (K : PySem.W.Frag) (a : Addr) (H : Hp) : Prop := ∀ b u, H b = some u → b = a ∧ K.lookup a = none ∧ ∃ ob xs, u = HO.frz ob (.lst xs)
theorem run_law {P : Program} {w : World} {K : PySem.W.Frag} {mg mb : Str → Option Value} {n : Nat} {fa a : Addr} {gd : FuncData} {x : Str} {sp : Sp} {z : Shared} {vs : List Value} {H : Hp} (Kz : K.In z.heap) (ng : z.heap.Ns mainGlobals mg) (nb : z.heap.Ns builtinsNs mb)
    (bb : ∀ y : Str, y ≠ "__name__" → mb y = bootBuiltins y) (lim : z.heap.NoLimit) (sm : ∃ mm, z.heap.Ns sysModules mm) (hg : z.gens = #[]) (ha : z.heap.get? a = some { cls := .type "list", data := .seq vs.toArray }) (hr : Room n callerA)
    (F : ∀ base : Heap, K.In base → base.Ns mainGlobals mg → (∃ o, base.get? sysModules = some o) → GFn P w K mg base n fa gd [x] sp) (hbind : ∀ (s : Shared) (u : Value), BindsTo s gd ⟨[u], []⟩ [(x, u)])
    (hS : Scr K a H) (hok : HOk P w H z.heap) (hsp : sp [.ref a] H (fun v _ => v = .bl true) E0) :
    codeAny (model P w) callerA (.call (.ref fa) ⟨[.ref a], []⟩) (fun r z' => r = .ok (.ret (.bool true)) ∧ OldK z.heap z'.heap ∧ z'.os = z.os ∧ AllBare z'.gens) z := by
  have toB : ∀ {b : Addr} {m : Str → Option Value}, z.heap.Ns b m → (hidT z.heap H).Ns b m := by
    rintro b m ⟨o, es, ep, e, d, r⟩
    refine ⟨o, es, ep, hidT_get e ?_, d, r⟩
    cases q : H b with
    | none => rfl
    | some u =>
      obtain ⟨rfl, _⟩ := hS _ _ q
      rw [ha] at e
      cases e
      cases (show Data.seq vs.toArray _ = Data.dict es ep from d)
  have Kb : K.In (hidT z.heap H) := fun b o e => hidT_get (Kz b o e) (by
    cases q : H b with
    | none => rfl
    | some u =>
      obtain ⟨rfl, z0, _⟩ := hS _ _ q
      rw [z0] at e
      cases e)
  have M : Mod K mg (hidT z.heap H) := ⟨Kb, toB ng, ⟨mb, toB nb, bb⟩, by
    obtain ⟨mc, h1, h2⟩ := lim
    exact ⟨mc, toB h1, h2⟩⟩
  have hs : ∃ o, (hidT z.heap H).get? sysModules = some o := by
    obtain ⟨mm, q⟩ := sm
    obtain ⟨o, _, _, e, _⟩ := toB q
    exact ⟨o, e⟩
  have e0 : Env0 P w K mg (hidT z.heap H) callerA [] z H := ⟨rfl, M, fun b o e => of_hidT e, Nat.le_of_eq (hidT_size _ _), trivial, (fun b hb => by cases (show b ∈ ([] : List Addr) from hb)), hok, .of_eq hg⟩
  refine codeAny_mono ((F _ Kb (toB ng) hs).go callerA [] z H ⟨[.ref a], []⟩ [.ref a] [.ref a] _ _ rfl hr e0 (hbind z (.ref a)) (.cons rfl .nil) hsp) fun res z' q => ?_
  match res, q with
  | .error e, q => exact q.elim
  | .ok (.ret u), q =>
    obtain ⟨v, H', os, bare, un, hok', r', q'⟩ := q
    subst q'
    obtain rfl : u = Value.bool true := r'
    refine ⟨rfl, OldK.of_keep fun b o e => ?_, os, bare⟩
    cases y : H b with
    | none => exact un.keep b o e y (fun k => by cases (show b ∈ ([] : List Addr) from k)) (fun k => by cases (show b ∈ ([] : List Addr) from k))
    | some u =>
      obtain ⟨rfl, _, ob, xs, rfl⟩ := hS _ _ y
      have h1 := (hok b _ y).1
      have h2 := (hok' b _ (un.frzs b ob _ y)).1
      rw [e] at h1
      cases h1
      exact h2
theorem walkG {l : PySem.W.OpenLaw} {n k : Nat} {q : Program} {loose : List Str} {XP : (Str → Option Value) → Heap → Prop} {YP : World → Heap → Prop} {d : DefRec} {K : Params → PySem.W.Frag} {sp : PySem.W.Frag → Sp} {x : Str} (hn : l.most = some n) (hn2 : n ≤ sizeLine)
    (hdf : d.params.defaults = []) (hi : importsNone q = true) (hr : Room k callerA) (hY : ∀ (w : World) (h : Heap), YP w h → (K w.params).In h)
    (F : ∀ (w : World) (mg : Str → Option Value) (fa : Addr) (h : Heap), (K w.params).In h → h.Ns mainGlobals mg → mg d.name = some (.ref fa) → ∃ gd : FuncData, (∀ (s : Shared) (u : Value), BindsTo s gd ⟨[u], []⟩ [(x, u)]) ∧
      ∀ base : Heap, (K w.params).In base → base.Ns mainGlobals mg → (∃ o, base.get? sysModules = some o) → GFn l.prog w (K w.params) mg base k fa gd [x] (sp (K w.params)))
    (hsp : ∀ (K : PySem.W.Frag) (H : Hp) (a : Addr) (ns : List Int), ns.length ≤ n → SqL K H a (ns.map V.int) → sp K [.ref a] H (fun v _ => v = .bl true) E0) : PySem.W.WalkO q loose XP YP l.row.toRowW d [] (fun f vs => PySem.call f vs) := by
  refine Att.attach_call hn hdf fun w s₀ z mg mb fa o pm cd doc a vs ns G Y ho hd hcd hmg hobj hints hlen hg => ?_
  have Kz := hY w _ Y
  obtain ⟨gd, hb, hF⟩ := F w mg fa _ Kz G.T.g hmg
  have sm : ∃ mm, z.heap.Ns sysModules mm := by
    obtain ⟨mm, h1, _⟩ := (G.T.seer hi).mods
    exact ⟨mm, h1⟩
  have rv := vals_ints hints
  have hl : (ns.map V.int).length ≤ sizeLine := by
    rw [List.length_map]
    omega
  cases hk : (K w.params).lookup a with
  | some o1 =>
    have e := Kz a o1 hk
    rw [hobj] at e
    cases e
    exact run_law (H := fun _ => none) Kz G.T.g G.T.b G.T.builtins G.T.nolimit sm hg hobj hr hF hb (fun b u y => by cases y) (fun b u y => by cases y)
      (hsp _ _ a ns hlen (.inr ⟨_, vs.toArray, _, hk, rfl, rfl, rfl, by rw [List.size_toArray, ← rv.length]; exact hl, by simpa using rv⟩))
  | none =>
    refine run_law (H := fun b => if b = a then some (.frz { cls := .type "list", data := .seq vs.toArray } (.lst (ns.map V.int))) else none) Kz G.T.g G.T.b G.T.builtins G.T.nolimit sm hg hobj hr hF hb (fun b u y => ?_) (fun b u y => ?_)
      (hsp _ _ a ns hlen (.inl (.inr ⟨{ cls := .type "list", data := .seq vs.toArray }, if_pos rfl⟩)))
    · have y1 : (if b = a then some (HO.frz { cls := .type "list", data := .seq vs.toArray } (.lst (ns.map V.int))) else none) = some u := y
      by_cases hb : b = a
      · rw [if_pos hb] at y1
        cases y1
        subst hb
        exact ⟨rfl, hk, _, _, rfl⟩
      · rw [if_neg hb] at y1
        cases y1
    · have y1 : (if b = a then some (HO.frz { cls := .type "list", data := .seq vs.toArray } (.lst (ns.map V.int))) else none) = some u := y
      by_cases hb : b = a
      · rw [if_pos hb] at y1
        cases y1
        subst hb
        exact ⟨hobj, hl, vs, _, rv, hobj⟩
      · rw [if_neg hb] at y1
        cases y1
end OM

namespace OM
open PySem PySem.Spec PyProof.Rows L2 LamX
abbrev sMet : Stmt := top 53
/-- the classes that `_law_met` names -/
structure MetK (mg : Str → Option Value) (c : Nat → Addr) : Prop where
  g0 : mg "InvalidValue" = some (.ref (c 0))
  g1 : mg "InvalidStretch" = some (.ref (c 1))
  g2 : mg "InvalidProgram" = some (.ref (c 2))
  g3 : mg "InvalidOperation" = some (.ref (c 3))
  g4 : mg "ParseError" = some (.ref (c 4))
  g5 : mg "UnknownName" = some (.ref (c 5))
  g6 : mg "Unanswered" = some (.ref (c 6))
  g7 : mg "InvalidNumber" = some (.ref (c 7))
  g8 : mg "TooMany" = some (.ref (c 8))
  g9 : mg "NothingToUndo" = some (.ref (c 9))
  g10 : mg "Refused" = some (.ref (c 10))
/-- what `_law_met` makes of a call that may raise InvalidStretch -/
def TTmet (cS : Addr) : (XK → Hp → VK → Prop) → Hp → VK → Prop := fun tl H Q => tl (fun cls _ H' => cls = .ref cS ∧ Q (.str "stretch") H') H (fun _ H' => Q (.str "fine") H')
theorem pss_never {X : Cx} {b : List Stmt} : PSs X b (fun _ _ _ => False) := ⟨fun _ _ _ _ _ _ h => h.elim⟩
theorem scMe : FnScope ["_law_call", "e"] ["_law_call"] (defScope sMet) := ⟨rfl, rfl, rfl, by decide +kernel, rfl, by decide +kernel, by decide +kernel⟩
section
variable {X : Cx} {g : Addr} {cdg : Value} {q : Str} {c : Nat → Addr}
theorem met_gives (M : MetK X.mg c) (n01 : PySem.W.exmOne X.K (.ref (c 1)) (.ref (c 0)) = some false) (n11 : PySem.W.exmOne X.K (.ref (c 1)) (.ref (c 1)) = some true) :
    GivesTo X ["_law_call", "e"] "_law_met" (defScope sMet) g cdg (defBody sMet) "_law_call" q (TTmet (c 1)) := by
  intro f c' s H Q tl act hc h
  refine ⟨_, pss_cons (ps_try_gen (X := (cxOf CX0 X.prog X.w X.K X.mg X.base ["_law_call", "e"] "_law_met" (defScope sMet) g cdg X.A X.stack s H E0).nox) (Wout := fun _ _ _ _ => False)
      (tb := fun W D σ H => ∃ Ech : XK, (∀ cls d σ' H', Ech cls d H' → W cls d σ' H') ∧ σ[0]? = some (some (.ref f)) ∧ H c' = some (CodeO c' q) ∧ tl Ech H (fun _ H' => D.nx σ H'))
      rfl rfl L2.takes0 (fun W pn xe tk _ => ?_)
      (.cons (tst_one ⟨by rfl, by decide, Or.inl M.g0⟩) (ts := fun _ _ _ => fun _ _ _ => False) (fun _ _ _ _ _ _ _ => pss_never)
      (.cons (tst_one ⟨by rfl, by decide, Or.inl M.g1⟩) (fun _ _ _ _ _ _ _ => pss_one (ps_ret pe_str))
      (.cons (tst_one ⟨by rfl, by decide, Or.inl M.g2⟩) (ts := fun _ _ _ => fun _ _ _ => False) (fun _ _ _ _ _ _ _ => pss_never)
      (.cons (tst_one ⟨by rfl, by decide, Or.inl M.g3⟩) (ts := fun _ _ _ => fun _ _ _ => False) (fun _ _ _ _ _ _ _ => pss_never)
      (.as scMe.nd (i := 1) rfl rfl (tst_one ⟨by rfl, by decide, Or.inl M.g4⟩) (ts := fun _ _ _ => fun _ _ _ => False) (fun _ _ _ _ _ _ _ => pss_never)
      (.as scMe.nd (i := 1) rfl rfl (tst_one ⟨by rfl, by decide, Or.inl M.g5⟩) (ts := fun _ _ _ => fun _ _ _ => False) (fun _ _ _ _ _ _ _ => pss_never)
      (.as scMe.nd (i := 1) rfl rfl (tst_one ⟨by rfl, by decide, Or.inl M.g6⟩) (ts := fun _ _ _ => fun _ _ _ => False) (fun _ _ _ _ _ _ _ => pss_never)
      (.as scMe.nd (i := 1) rfl rfl (tst_one ⟨by rfl, by decide, Or.inl M.g7⟩) (ts := fun _ _ _ => fun _ _ _ => False) (fun _ _ _ _ _ _ _ => pss_never)
      (.as scMe.nd (i := 1) rfl rfl (tst_one ⟨by rfl, by decide, Or.inl M.g8⟩) (ts := fun _ _ _ => fun _ _ _ => False) (fun _ _ _ _ _ _ _ => pss_never)
      (.as scMe.nd (i := 1) rfl rfl (tst_one ⟨by rfl, by decide, Or.inl M.g9⟩) (ts := fun _ _ _ => fun _ _ _ => False) (fun _ _ _ _ _ _ _ => pss_never)
      (.as scMe.nd (i := 1) rfl rfl (tst_one ⟨by rfl, by decide, Or.inl M.g10⟩) (ts := fun _ _ _ => fun _ _ _ => False) (fun _ _ _ _ _ _ _ => pss_never) .nil))))))))))))
    (pss_one (ps_ret pe_str)), ?_⟩
  · refine ⟨fun pins s' σ H' D I h' => ?_⟩
    obtain ⟨Ech, hW, h1, h2, h3⟩ := h'
    exact (pss_one (ps_expr (act W pn xe Ech _ _ tk hW))).run pins s' σ H' D I ⟨h1, h2, h3⟩
  · exact ⟨fun cls _ H' => cls = .ref (c 1) ∧ Q (.str "stretch") H', fun cls d σ' H' ⟨e1, e2⟩ => by
      subst e1
      exact ⟨false, n01, fun z => (nomatch z), fun _ => ⟨true, n11, fun _ a na => e2, fun z => (nomatch z)⟩⟩, rfl, hc, h⟩
end
end OM

namespace OM
open PySem PySem.Spec PyProof.Rows L2 LamX
/-- a def whose code object is known by its address -/
structure FunC (K : PySem.W.Frag) (x qual : Str) (st : Stmt) (f : Addr) (fd : FuncData) (cc : Addr) : Prop where
  ex : ∃ (oc : Value) (od : Option Addr) (kV doc pm : Value) (an : Option Addr) (ct : Value) (osl : Array (Option Value)),
    fd = PySem.W.fnOf x qual (defArgs st) (defBody st) (defScope st) .none kV doc pm an (.ref cc) ct ∧ K.lookup f = some ⟨oc, od, .func fd, osl⟩ ∧ PySem.W.codeIn K (.ref cc) qual = true
  kp : PySem.W.keepIn K (.ref f) = true
theorem FunC.fn {K : PySem.W.Frag} {x qual : Str} {st : Stmt} {f : Addr} {fd : FuncData} {cc : Addr} (F : FunC K x qual st f fd cc) : Fun K x qual st f fd := by
  obtain ⟨oc, od, kV, doc, pm, an, ct, osl, h⟩ := F.ex
  exact ⟨⟨oc, od, kV, doc, pm, an, _, ct, osl, h⟩, F.kp⟩
section
variable {P : Program} {w : World} {K : PySem.W.Frag} {mg : Str → Option Value} {base : Heap}
theorem gfn_ofC {x qual : Str} {st : Stmt} {g cc : Addr} {gd : FuncData} {N names : List Str} {n : Nat} {sp : Sp} (F : FunC K x qual st g gd cc) (S : FnScope N names (defScope st)) (cnt : ∀ xs H Q E, sp xs H Q E → xs.length = names.length)
    (bd : ∀ (B : Around) (out : List Env) (z : Shared) (H : Hp) (xs : List V) (Q : VK) (E : XK), B.guards = some [] → Room n (B.deeper (envOfC qual (defScope st) z.heap.objs.size g (.ref cc))) → sp xs H Q E →
      ∃ t, PSs (cxOf CX0 P w K mg base N qual (defScope st) g (.ref cc) B out z H E).nox (defBody st) t ∧ t { nx := fun _ H' => Q .non H', rt := Q } (start N xs) H) : GFn P w K mg base (n + 1) g gd names sp := by
  obtain ⟨oc, od, kV, doc, pm, an, ct, osl, rfl, lk, hcd⟩ := F.ex
  refine ⟨cnt, fun B out z H ar ws xs Q E hg hr e0 hb rv hs => ?_⟩
  have kz : ∀ b o, base.get? b = some o → z.heap.get? b = some o := fun b o e => (e0.bs b o e).1
  have Kz : K.In z.heap := e0.mod.kin.keeps kz
  have hkinds : ∀ y ∈ names.zip ws, (defScope st).names.lookup y.1 = some .local ∨ ((defScope st).names.lookup y.1 = some .cell ∧ ((cellsFrom (z.heap.objs.size + 1) (defScope st).names []).lookup y.1).isSome = true) := by
    rintro ⟨m, v⟩ hy
    refine (S.par m (List.of_mem_zip hy).1).imp id fun c => ⟨c, PySem.W.cellsFrom_some _ _ _ (.inl c)⟩
  refine codeAny_call_function hr.depth (Kz _ _ lk) rfl S.co S.gen rfl (PySem.W.codeRec_of Kz hcd) (hb _ _ _ _ ?_)
  refine wpAny_newFunctionEnv_cells S.kind hkinds fun ev hev z1 ic => ?_
  subst hev
  refine ⟨(e0.mod.nolimit.keeps kz).keeps ic.toInCall.keep, codeAny_func ?_⟩
  obtain ⟨t, ht, hq⟩ := bd B out z H xs Q E hg (hr.deeper _) hs
  refine wpAny_mono (ht.nox.run [] z1 (start N xs) H _ (inv_start (CX := CX0) (E := E) S hr.hd e0 (cnt _ _ _ _ hs) rv ic) hq) (fun fl z2 h2 => ?_) fun _ _ h2 => h2
  cases fl with
  | ret u =>
    obtain ⟨v, σ2, H2, J, r2, q2⟩ := h2
    exact ⟨v, H2, J.os, J.bare, J.base, J.hok, r2, q2⟩
  | next =>
    obtain ⟨σ2, H2, J, q2⟩ := h2
    exact ⟨V.non, H2, J.os, J.bare, J.base, J.hok, (show RelV V.non Value.none from rfl), q2⟩
  | brk =>
    obtain ⟨_, _, _, q2⟩ := h2
    cases q2
  | cont =>
    obtain ⟨_, _, _, q2⟩ := h2
    cases q2
end
section
variable {S : Addr → Prop} {H H' : Hp}
mutual
theorem Dt.ext (e : ExtN H H') : ∀ {v : V} {d : PyData}, Dt S H v d → Dt S H' v d
  | _, _, .at h => .at h
  | _, _, .lst s q hl h => .lst s (e _ _ q (fun _ z => nomatch z)) hl (DtAll.ext e h)
  | _, _, .tup s q hl h => .tup s (e _ _ q (fun _ z => nomatch z)) hl (DtAll.ext e h)
  | _, _, .dic0 s q => .dic0 s (e _ _ q (fun _ z => nomatch z))
  | _, _, .dic1 s q h => .dic1 s (e _ _ q (fun _ z => nomatch z)) h
theorem DtAll.ext (e : ExtN H H') : ∀ {vs : List V} {ds : List PyData}, DtAll S H vs ds → DtAll S H' vs ds
  | _, _, .nil => .nil
  | _, _, .cons h r => .cons (Dt.ext e h) (DtAll.ext e r)
end
theorem Dice.ext {d : Addr} (e : ExtN H H') (h : Dice H d) : Dice H' d := by
  obtain ⟨a1, a2, a3, q⟩ := h
  exact ⟨a1, a2, a3, e _ _ q (fun _ z => nomatch z)⟩
end
/-- the promise of `_law_made_right`: the code is small; where it is code, its cells decide -/
def MadeD (d : PyData) : Prop := smlD d = true ∧ (codeD 3 d = true → (flatN 3 (itemsD d)).length ≤ 400 ∧ (cellsN 3 (itemsD d)).length ≤ 4000 ∧ bndD (itemsD d) = decide ((firsts [] (cellsN 3 (itemsD d))).length ≤ 4))
def spMade (T : List (Addr × Str)) : Sp := fun vs H Q _ => ∃ (S : Addr → Prop) (v kv : V) (d : PyData) (ks : List Str), vs = [v, kv] ∧ Tabs T H ∧ Dt S H v d ∧ Dt S H kv (.tuple (ks.map PyData.str)) ∧ MadeD d ∧ smlD (.tuple (ks.map PyData.str)) = true ∧ keptD (.tuple (ks.map PyData.str)) = true ∧
  ∀ H', ExtN H H' → Tabs T H' → Q (.bl true) H'
end OM

namespace OM
open PySem PySem.Spec PyProof.Rows L2 LamX
def lamQ : Str := "_law_made_right" ++ ".<locals>." ++ "<lambda>"
theorem andRest {c b : Bool} {H1 : Hp} {tb : VK → Prop} {Q : VK} (rest : ∀ H2, Same H1 H2 → Q (.bl b) H2) (h0 : c = false → b = false) (h1 : c = true → ∀ Q' : VK, (∀ H2, Same H1 H2 → Q' (.bl b) H2) → tb Q') : if c = true then tb Q else Q (.bl false) H1 := by
  cases c with
  | true => exact iteT (h1 rfl Q rest)
  | false =>
    refine iteF ?_
    have e := h0 rfl
    subst e
    exact rest H1 (fun _ _ z => z)
theorem metRest {cS : Addr} {tl : XK → Hp → VK → Prop} {H4 : Hp} {Q : VK} (b : Bool) (rest : ∀ H5, Same H4 H5 → Q (.str (if b = true then "fine" else "stretch")) H5)
    (h : ∀ (E : XK) (Q' : VK), (b = true → ∀ H5 v, Same H4 H5 → Q' v H5) → (b = false → OutN E cS H4) → tl E H4 Q') : TTmet cS tl H4 Q := by
  refine h _ _ (fun e H5 v s => ?_) (fun e H5 s => ⟨rfl, ?_⟩)
  · subst e
    exact rest H5 s
  · subst e
    exact rest H5 s
structure MadeF (P : Program) (w : World) (K : PySem.W.Frag) (mg : Str → Option Value) (base : Heap) (fLC fCe fIC fM fSI C PT cc : Addr) (c : Nat → Addr) (dLC dCe dIC dM dSI : FuncData) : Prop where
  gLC : mg "_law_is_code" = some (.ref fLC)
  kLC : PySem.W.keepIn K (.ref fLC) = true
  bLC : Binds K dLC ["_law_thing", "_law_deep"] []
  GLC : FnOk P w K mg base CX0 9 fLC dLC ["_law_thing", "_law_deep"] (spLCodeAt 4)
  gCe : mg "_law_cells" = some (.ref fCe)
  kCe : PySem.W.keepIn K (.ref fCe) = true
  bCe : Binds K dCe ["_law_code_here"] []
  GCe : FnOk P w K mg base CX0 5 fCe dCe ["_law_code_here"] (spCellsAt 4)
  gIC : mg "is_code" = some (.ref fIC)
  kIC : PySem.W.keepIn K (.ref fIC) = true
  bIC : Binds K dIC ["value"] []
  GIC : FnOk P w K mg base CX0 14 fIC dIC ["value"] spIsCode
  gM : mg "_law_met" = some (.ref fM)
  FM : Fun K "_law_met" "_law_met" sMet fM dM
  bM : Binds K dM ["_law_call"] []
  M : MetK mg c
  n01 : PySem.W.exmOne K (.ref (c 1)) (.ref (c 0)) = some false
  n11 : PySem.W.exmOne K (.ref (c 1)) (.ref (c 1)) = some true
  gSt : mg "Stretch" = some (.ref C)
  MS : Mk K C fSI
  GS : FnOk P w K mg base (L2.CX P w) 15 fSI dSI ["self", "code", "keeps"] (spSI C (c 1))
  bS : Binds K dSI ["self", "code", "keeps"] []
  TB : TabB base mg cc PT
  len : mg "len" = none
  sett : mg "set" = none
  rep : mg "repr" = none
  hs : ∃ o, base.get? sysModules = some o
theorem wd_ok : ∀ b c : Bool, (PyData.list [.bool b, .str (if c = true then "fine" else "stretch")]).showable = true ∧ (PyData.list [.bool b, .str (if c = true then "fine" else "stretch")]).depth ≤ 20 ∧ (PyData.list [.bool b, .str (if c = true then "fine" else "stretch")]).shown.length ≤ sizeLine := by decide +kernel
section
variable {P : Program} {w : World} {K : PySem.W.Frag} {mg : Str → Option Value} {base : Heap} {fLC fCe fIC fM fSI C PT cc f : Addr} {c : Nat → Addr} {dLC dCe dIC dM dSI fd : FuncData}
end
end OM

namespace OM
open PySem PySem.Spec PyProof.Rows L2
abbrev sPaths : Stmt := top 56
theorem cutR {A : Prop} {P R : Hp → Addr → Prop} (f : (∀ G p, P G p → R G p) → A) (b : ∀ G p, P G p → R G p) : A := f b
def b01 (b : Bool) : Nat := if b = true then 1 else 0
theorem b01_int (b : Bool) : (if b = true then (1 : Int) else 0) = ((b01 b : Nat) : Int) := by cases b <;> rfl
/-- a set with registers -/
def setB (w : Str) (rest : List PyData) : Bool := decide (w = "set") && (match rest with
  | [_, _, .tuple []] => false
  | _ => true)
theorem own3 {n : Nat} {w : Str} {rest : List PyData} (row : rowD (cdOf n) (.tuple (.str w :: rest)) = true) (ni : w ≠ "if") :
    ownD "if" (.tuple (.str w :: rest)) = 0 ∧ ownD "letter" (.tuple (.str w :: rest)) = b01 (inV (.str w) [.str "get", .str "put"]) ∧ ownD "set" (.tuple (.str w :: rest)) = b01 (setB w rest) := by
  obtain ⟨w', rest', rs, e, hf, hlen, fits⟩ := rowD_shape row
  obtain ⟨rfl, rfl⟩ : w = w' ∧ rest = rest' := by
    injection e with e
    injection e with e1 e2
    injection e1 with e1
    exact ⟨e1, e2⟩
  by_cases hs : w = "set"
  · subst hs
    have k1 : inV (.str "set") [.str "get", .str "put"] = false := by decide +kernel
    rw [k1]
    have e4 : formOf "set" = some (["register", "function", "registers"] : List Str) := by decide +kernel
    rw [e4] at hf
    obtain rfl := (Option.some.inj hf).symm
    match rest, hlen with
    | [d1, d2, d3], _ =>
      rw [row_set] at row
      simp only [Bool.and_eq_true, and_true] at row
      obtain ⟨_, _, ar⟩ := row
      cases d3 with
      | tuple zs =>
        cases zs with
        | nil => exact ⟨rfl, rfl, rfl⟩
        | cons z r => exact ⟨rfl, rfl, rfl⟩
      | _ => cases ar
  have sb : setB w rest = false := by
    unfold setB
    rw [decide_eq_false hs, Bool.false_and]
  rw [sb]
  by_cases hl : w = "get" ∨ w = "put"
  · rw [(inV_two w "get" "put").mpr hl]
    have kd : kindD (.tuple (.str w :: rest)) = "letter" := if_pos hl
    unfold ownD
    rw [kd]
    exact ⟨rfl, rfl, rfl⟩
  · have kd : kindD (.tuple (.str w :: rest)) = w := by
      show (if _ then _ else _) = _
      rw [if_neg hl, if_neg hs]
    rw [Bool.eq_false_iff.mpr fun z => hl ((inV_two w "get" "put").mp z)]
    unfold ownD
    rw [kd]
    have nl : w ≠ "letter" := fun z => by
      rw [z, show formOf "letter" = none by decide +kernel] at hf
      cases hf
    rw [if_neg ni, if_neg nl, if_neg hs]
    exact ⟨rfl, rfl, rfl⟩
theorem mxs_own {n : Nat} {w : Str} {rest : List PyData} (row : rowD (cdOf n) (.tuple (.str w :: rest)) = true) (ni : w ≠ "if") (e0 : inner2 (.tuple (.str w :: rest)) = []) : MxS n (.tuple (.str w :: rest)) [(0, b01 (inV (.str w) [.str "get", .str "put"]), b01 (setB w rest))] := by
  obtain ⟨h1, h2, h3⟩ := own3 row ni
  unfold MxS
  rw [mostS_row row, mostS_row row, mostS_row row, e0, h1, h2, h3]
  exact ⟨Mx.one _ 0, Mx.one _ 1, Mx.one _ 2⟩
def up1 (p : T3) : T3 := (p.1 + 1, p.2.1, p.2.2)
theorem mxs_if {m : Nat} {p r : PyData} {ys ns : List PyData} {A B : List T3} (row : rowD (cdOf (m + 1)) (.tuple [.str "if", p, r, .tuple ys, .tuple ns]) = true) (x : MxN m ys A) (y : MxN m ns B) : MxS (m + 1) (.tuple [.str "if", p, r, .tuple ys, .tuple ns]) ((A ++ B).map up1) := by
  have k : ∀ k : Str, mostS (m + 1) k (.tuple [.str "if", p, r, .tuple ys, .tuple ns]) = ownD k (.tuple [.str "if", p, r, .tuple ys, .tuple ns]) + max (mostN m k ys) (max (mostN m k ns) 0) := fun k => mostS_row row
  have o1 : ownD "if" (.tuple [.str "if", p, r, .tuple ys, .tuple ns]) = 1 := rfl
  have o2 : ownD "letter" (.tuple [.str "if", p, r, .tuple ys, .tuple ns]) = 0 := rfl
  have o3 : ownD "set" (.tuple [.str "if", p, r, .tuple ys, .tuple ns]) = 0 := rfl
  unfold MxS
  rw [k, k, k, o1, o2, o3, Nat.max_zero, Nat.max_zero, Nat.max_zero, Nat.zero_add, Nat.zero_add, Nat.add_comm 1]
  exact ⟨(x.1.app y.1).map (k := 1) fun _ => rfl, (x.2.1.app y.2.1).map (k := 0) fun _ => rfl, (x.2.2.app y.2.2).map (k := 0) fun _ => rfl⟩
def spPathsAt : Nat → Sp
  | 0 => fun _ _ _ _ => False
  | n + 1 => fun vs H Q _ => ∃ (S : Addr → Prop) (v : V) (ds : List PyData), vs = [v] ∧ Dt S H v (.tuple ds) ∧ ds.all (rowD (cdOf n)) = true ∧ (flatN n ds).length ≤ 200 ∧
    ∀ H' p L bs, Same H H' → H p = none → L.Nodup → MxN n ds L → IsT H' L bs → H' p = some (.lst (bs.map V.ref)) → Q (.ref p) H'
section
variable {P : Program} {w : World} {K : PySem.W.Frag} {mg : Str → Option Value} {base : Heap} {f : Addr} {fd : FuncData}
theorem scPt : FnScope ["_law_code", "_law_found", "_law_row", "_law_more", "_law_path", "_law_later", "_law_one"] ["_law_code"] (defScope sPaths) := ⟨rfl, rfl, rfl, by decide +kernel, rfl, by decide +kernel, by decide +kernel⟩
theorem paths_step {n k : Nat} (F : Fun K "_law_paths" "_law_paths" sPaths f fd) (ti : mg "int" = none) (tl : mg "list" = none) (gF : mg "_law_paths" = some (.ref f)) (bF : Binds K fd ["_law_code"] []) (G : FnOk P w K mg base CX0 k f fd ["_law_code"] (spPathsAt n)) :
    FnOk P w K mg base CX0 (k + 1) f fd ["_law_code"] (spPathsAt (n + 1)) := by
  refine F.ok scPt (fun vs H Q E h => ?_) (fun cdv A outer s H vs Q E hr h => ?_)
  · obtain ⟨S, v, ds, rfl, _⟩ := h
    rfl
  · obtain ⟨S, v, ds, rfl, hd, rows, size, q⟩ := h
    have hu : (A.deeper (envOfC "_law_paths" (defScope sPaths) s.heap.objs.size f cdv)).units + 1 < cLine := by
      have := hr.un
      omega
    have hu0 : (A.deeper (envOfC "_law_paths" (defScope sPaths) s.heap.objs.size f cdv)).units < cLine := by
      have := hr.un
      omega
    refine ⟨_, pss_cons (ps_set (i := 1) scPt.nd rfl (Or.inl rfl) (pe_disp1T hu (pe_tup (pa_cons pe_int (pa_cons pe_int (pa_cons pe_int pa_nil)))) pe_bl))
      (pss_cons (ps_for PassesOwn.never rfl (pi_tup (pv 0)) (pg_name (i := 2) scPt.nd rfl (Or.inl rfl))
        (pss_cons (ps_set (i := 3) scPt.nd rfl (Or.inl rfl) (pe_lst (pa_cons (pe_tup (pa_cons pe_int (pa_cons (pe_callTy call_int1 (by rfl) ti (by decide +kernel) (pa_cons (pe_cmpR op_in_seq (pe_ix ix_tup (pv 2) pe_int (fun _ _ => rfl)) (pe_tup (pa_cons pe_str (pa_cons pe_str pa_nil))) (by rfl)) pa_nil))
          (pa_cons (pe_callTy call_int1 (by rfl) ti (by decide +kernel) (pa_cons (pe_and (pe_cmpR op_eq (pe_ix ix_tup (pv 2) pe_int (fun _ _ => rfl)) pe_str (nomark _)) (pe_one (pe_cmpR (op_neT0 hu0) (pe_ix ix_tup (pv 2) (pe_un un_neg pe_int) (fun _ _ => rfl)) (pe_tup pa_nil) (by rfl)))) pa_nil)) pa_nil)))) pa_nil)))
        (pss_cons (ps_if (pt_cmpR op_eq (pe_ix ix_tup (pv 2) pe_int (fun _ _ => rfl)) pe_str (nomark _)) (pss_one (ps_setLc (i := 3) (own := [("_law_path", 4)]) rfl scPt.nd rfl rfl (by rfl) (pi_list (pe_op op_cat (pe_call G hr (by rfl) gF F.kp bF .nil pass0 (pa_cons (pe_ix ix_tup (pv 2) pe_int (fun _ _ => rfl)) pa_nil)) (pe_call G hr (by rfl) gF F.kp bF .nil pass0 (pa_cons (pe_ix ix_tup (pv 2) pe_int (fun _ _ => rfl)) pa_nil))))
            (blkOk_by (N := ["_law_code", "_law_found", "_law_row", "_law_more", "_law_path", "_law_later", "_law_one"]) (sc := defScope sPaths) (by decide +kernel)) (fun _ _ _ _ _ => (pg_name (i := 4) scPt.nd rfl (Or.inl rfl))) (fun _ _ _ _ _ => pts_nil)
            (fun _ _ _ _ _ => pe_tup (pa_cons (pe_op op_add (pe_ix (r := rIxT K) ix_tup (pv 4) pe_int (fun _ _ => rfl)) pe_int) (pa_cons (pe_ix (r := rIxT K) ix_tup (pv 4) pe_int (fun _ _ => rfl)) (pa_cons (pe_ix (r := rIxT K) ix_tup (pv 4) pe_int (fun _ _ => rfl)) pa_nil)))))) pss_nil)
        (pss_cons (ps_set (i := 5) scPt.nd rfl (Or.inl rfl) pe_dnewT)
        (pss_cons (ps_for PassesOwn.never rfl (pi_list (pe_callTy (call_list_dT rfl) (by rfl) tl (by decide +kernel) (pa_cons (pv 1) pa_nil))) (pg_name (i := 4) scPt.nd rfl (Or.inl rfl))
          (pss_one (ps_for PassesOwn.never rfl (pi_list (pv 3)) (pg_name (i := 6) scPt.nd rfl (Or.inl rfl))
            (pss_one (ps_dput hu (pv 5) (pe_tup (pa_cons (pe_op op_add (pe_ix ix_tup (pv 4) pe_int (fun _ _ => rfl)) (pe_ix ix_tup (pv 6) pe_int (fun _ _ => rfl))) (pa_cons (pe_op op_add (pe_ix ix_tup (pv 4) pe_int (fun _ _ => rfl)) (pe_ix ix_tup (pv 6) pe_int (fun _ _ => rfl))) (pa_cons (pe_op op_add (pe_ix ix_tup (pv 4) pe_int (fun _ _ => rfl)) (pe_ix ix_tup (pv 6) pe_int (fun _ _ => rfl))) pa_nil)))) pe_bl (by rfl))))))
        (pss_one (ps_set (i := 1) scPt.nd rfl (Or.inl rfl) (pv 5))))))))
      (pss_one (ps_ret (pe_callTy (call_list_dT rfl) (by rfl) tl (by decide +kernel) (pa_cons (pv 1) pa_nil))))), ?_⟩
    obtain ⟨a, xs, rfl, ea, hl, hx⟩ := hd.live.tup_of
    have live : ∀ b, (S b ∧ H b ≠ none) → H b ≠ none := fun b z => z.2
    intro p0 hp0
    refine ⟨(by show 3 ≤ sizeLine; decide), fun pt hpt => ⟨pt, key3 (0, 0, 0), rfl, upd_same, same_upd hpt _ _ upd_same, ?_⟩⟩
    have s1 : Same H (upd (upd (upd H p0 (.dT [])) pt (.tup [.int 0, .int 0, .int 0])) p0 (.dT (kv3 [(0, 0, 0)]))) := same_put hp0 ((same_upd hp0).trans (same_upd hpt))
    refine ⟨_, rfl, a, rfl, ⟨xs, SqT.of (s1 _ _ ea)⟩, for_tup (fun i σ H' => ∃ pf x2 x3 x4 x5 x6 L, σ = [some (.ref a), some (.ref pf), x2, x3, x4, x5, x6] ∧ Same H H' ∧ H pf = none ∧ H' pf = some (.dT (kv3 L)) ∧ L.Nodup ∧ MxN n (ds.take i) L)
      ⟨p0, _, _, _, _, _, [(0, 0, 0)], rfl, s1, hp0, upd_same, by simp, Mx.one _ 0, Mx.one _ 1, Mx.one _ 2⟩ (fun i σ H' _ h => by obtain ⟨_, _, _, _, _, _, _, _, s1, _⟩ := h; exact SqT.of (s1 _ _ ea)) (fun i x σ H' hi h => ?_) (fun σ H' h => ?_)⟩
    · obtain ⟨pf, x2, x3, x4, x5, x6, L, rfl, sH, hpf, epf, nd, mx⟩ := h
      obtain ⟨d, hdi, hdt⟩ := hx.get hi
      have row : rowD (cdOf n) d = true := List.all_eq_true.mp rows d (List.mem_of_getElem? hdi)
      obtain ⟨w0, rest, rs, rfl, hf, hlen, fits⟩ := rowD_shape row
      obtain ⟨b, xr, rfl, eb, bl, hxr⟩ := hdt.row
      have eb' := sH _ _ eb
      refine ⟨_, rfl, b, _, 0, _, rfl, rfl, SqT.of eb', at0, (by show 2 ≤ sizeLine; decide), fun pt hpt => ⟨pt, _, rfl, .inr (SqT.of upd_same), rfl, by decide, .inr ⟨inV (.str w0) [.str "get", .str "put"], rfl, ?_⟩⟩⟩
      have st1 := same_upd (o := .tup [.str "get", .str "put"]) hpt
      have s2 := sH.trans st1
      refine ⟨_, rfl, b, _, 0, _, rfl, rfl, SqT.of (s2 _ _ eb), at0, rfl, _, rfl, andRest (b := setB w0 rest) ?_ ?_ ?_⟩
      · intro H3 s3
        have s03 := st1.trans s3
        apply cutR (P := fun G p => Same H' G ∧ ∃ cs M, G p = some (.lst (cs.map V.ref)) ∧ IsT G M cs ∧ MxS n (.tuple (.str w0 :: rest)) M)
        · intro go
          refine .inr ⟨setB w0 rest, rfl, (by show 3 ≤ sizeLine; decide), fun pm hpm => ⟨(by show 1 ≤ sizeLine; decide), fun pl hpl => ?_⟩⟩
          have s4 := same_upd (o := .tup [.int 0, .int (if inV (.str w0) [.str "get", .str "put"] = true then 1 else 0), .int (if setB w0 rest = true then 1 else 0)]) hpm
          have s5 := same_upd (o := .lst [.ref pm]) hpl
          have s05 := (s03.trans s4).trans s5
          have em : upd (upd H3 pm (.tup [.int 0, .int (if inV (.str w0) [.str "get", .str "put"] = true then 1 else 0), .int (if setB w0 rest = true then 1 else 0)])) pl (.lst [.ref pm]) pl = some (.lst [.ref pm]) := upd_same
          have et : upd (upd H3 pm (.tup [.int 0, .int (if inV (.str w0) [.str "get", .str "put"] = true then 1 else 0), .int (if setB w0 rest = true then 1 else 0)])) pl (.lst [.ref pm]) pm = some (tup3 (0, b01 (inV (.str w0) [.str "get", .str "put"]), b01 (setB w0 rest))) := by
            rw [s5 _ _ upd_same, b01_int, b01_int]
            rfl
          clear s4 s5
          revert s05 em et
          generalize (upd (upd H3 pm (.tup [.int 0, .int (if inV (.str w0) [.str "get", .str "put"] = true then 1 else 0), .int (if setB w0 rest = true then 1 else 0)])) pl (.lst [.ref pm])) = G
          intro s05 em et
          refine ⟨_, rfl, b, _, 0, _, rfl, rfl, SqT.of (s05 _ _ eb'), at0, rfl, _, rfl, ite2 (fun hif => ?yes) (fun hno => go G pl ⟨s05, [pm], _, em, .one et, ?no⟩)⟩
          case no =>
            rcases row_iff row with ⟨m, p1, r1, ys, ns, rfl, ed, hy, hn, _, _⟩ | ⟨w1, rest1, ed, ni, e0⟩
            · have e1 : w0 = "if" := by
                injection ed with ed
                injection ed with e1 e2
                injection e1
              exact absurd (decide_eq_true (by rw [e1])) hno
            · have e1 : w0 = w1 := by
                injection ed with ed
                injection ed with e1 e2
                injection e1
              exact mxs_own row (fun z => ni (e1.symm.trans z)) e0
          case yes =>
            have hw : w0 = "if" := V.str.inj (of_decide_eq_true hif)
            rcases row_iff row with ⟨m, p1, r1, ys, ns, rfl, ed, hy, hn, _, _⟩ | ⟨w1, rest1, ed, ni, e0⟩
            · have e1 : w0 = "if" ∧ rest = [p1, r1, .tuple ys, .tuple ns] := by
                injection ed with ed
                injection ed with e1 e2
                injection e1 with e1
                exact ⟨e1, e2⟩
              obtain ⟨rfl, rfl⟩ := e1
              have eS : (flatS (m + 1) (.tuple [.str "if", p1, r1, .tuple ys, .tuple ns])).length = 1 + ((flatN m ys).length + (flatN m ns).length) := by
                rw [flatS_row row]
                show (PyData.tuple [.str "if", p1, r1, .tuple ys, .tuple ns] :: [ys, ns].flatMap (flatN m)).length = _
                rw [List.length_cons, List.flatMap_cons, List.flatMap_cons, List.flatMap_nil, List.append_nil, List.length_append]
                omega
              have le1 : (flatN (m + 1) (ds.take (i + 1))).length ≤ 200 := Nat.le_trans flat_le size
              rw [flat_take hdi, List.length_append, eS] at le1
              have line : (16400000 : Nat) < sizeLine := by decide
              cases hxr with
              | @cons x1 _ _ _ k1 hxr =>
                cases hxr with
                | @cons x2' _ _ _ k2 hxr =>
                  cases hxr with
                  | @cons x3' _ _ _ k3 hxr =>
                    cases hxr with
                    | @cons x4' _ _ _ k4 hxr =>
                      cases hxr
                      have sHG := sH.trans s05
                      refine ⟨_, rfl, b, _, 3, x3', rfl, rfl, SqT.of (s05 _ _ eb'), rfl, _, x3', ys, rfl, k3.base live (Same.refl H) sHG, hy, by omega, fun G2 q2 L2' bs2 s2' n2' nd2 mx2 t2 e2 => ?_⟩
                      refine ⟨_, rfl, b, _, 4, x4', rfl, rfl, SqT.of (s2' _ _ (s05 _ _ eb')), rfl, _, x4', ns, rfl, k4.base live (Same.refl H) (sHG.trans s2'), hn, by omega, fun G4 q4 L4 bs4 s4' n4' nd4 mx4 t4 e4 => ?_⟩
                      have f2 := mx2.few nd2 (by omega)
                      have f4 := mx4.few nd4 (by omega)
                      have l2 := t2.1
                      have l4 := t4.1
                      refine ⟨q2, q4, _, _, rfl, rfl, s4' _ _ e2, e4, by rw [List.length_map, List.length_map]; omega, fun q6 h6 => ?_⟩
                      have s6 := same_upd (o := .lst (bs2.map V.ref ++ bs4.map V.ref)) h6
                      have tt := ((t2.mv s4').app t4).mv s6
                      rw [← List.map_append]
                      have e6 : upd G4 q6 (.lst ((bs2 ++ bs4).map V.ref)) q6 = some (.lst ((bs2 ++ bs4).map V.ref)) := upd_same
                      have lM : ((L2' ++ L4).map up1).length = (bs2 ++ bs4).length := by rw [List.length_map]; exact tt.1
                      have s06 : Same H' (upd G4 q6 (.lst ((bs2 ++ bs4).map V.ref))) := by
                        rw [List.map_append]
                        exact ((s05.trans s2').trans s4').trans s6
                      have tt' : IsT (upd G4 q6 (.lst ((bs2 ++ bs4).map V.ref))) (L2' ++ L4) (bs2 ++ bs4) := by
                        rw [List.map_append]
                        exact tt
                      clear s6 tt
                      revert e6 s06 tt'
                      generalize upd G4 q6 (.lst ((bs2 ++ bs4).map V.ref)) = J0
                      intro e6 s06 tt'
                      refine ⟨q6, rfl, ⟨_, SqL.of e6⟩, fun Dl hD => lc_list (PvP J0 Dl ((L2' ++ L4).map up1)) (PvP.zero hD) (fun i H' _ p => SqL.of (p.1 _ _ e6)) (fun i5 x5 H5 hx5 p5 => ?_) (fun H7 p7 => ?_)⟩
                      · rw [List.getElem?_map] at hx5
                        obtain ⟨c, hc, rfl⟩ := Option.map_eq_some_iff.mp hx5
                        have li : i5 < (L2' ++ L4).length := by
                          rw [tt'.1]
                          exact (List.getElem?_eq_some_iff.mp hc).1
                        obtain ⟨t, ht⟩ : ∃ t, (L2' ++ L4)[i5]? = some t := ⟨_, List.getElem?_eq_getElem li⟩
                        have ec : H5 c = some (tup3 t) := p5.1 _ _ (tt'.2 i5 t c ht hc)
                        refine ⟨rfl, _, rfl, c, _, 0, _, rfl, rfl, SqT.of ec, rfl, _, _, rfl, rfl, _, rfl, c, _, 1, _, rfl, rfl, SqT.of ec, rfl, _, rfl, c, _, 2, _, rfl, rfl, SqT.of ec, rfl, (by show 3 ≤ sizeLine; decide), fun pz hpz => ?_⟩
                        refine p5.step hD ?_ (by rw [List.getElem?_map, ht]; rfl) (same_upd hpz) (upd_same : upd H5 pz (tup3 (up1 t)) pz = some (tup3 (up1 t)))
                        rw [List.length_map, List.length_append]
                        omega
                      · obtain ⟨s7, cs, ecs, tcs⟩ := p7
                        rw [List.length_map, ← lM, List.take_length] at tcs
                        exact go H7 Dl ⟨s06.trans s7, cs, _, ecs, tcs, mxs_if row mx2 mx4⟩
            · exact absurd (by
                injection ed with ed
                injection ed with e1 e2
                injection e1 with e1
                exact e1.symm.trans hw) ni
        · rintro G pm ⟨sG, cs, M, em, tM, mM⟩
          intro pl hpl
          have sl := same_upd (o := .dT []) hpl
          have epG := sG _ _ epf
          refine ⟨_, rfl, pf, _, rfl, .inl (sl _ _ epG), fun pk bs hpk hk => ?_⟩
          have sk := same_upd (o := .lst (bs.map V.ref)) hpk
          have tL : IsT (upd (upd G pl (.dT [])) pk (.lst (bs.map V.ref))) L bs := (isT_keys hk).mv sk
          have sGk := sl.trans sk
          have epl : upd (upd G pl (.dT [])) pk (.lst (bs.map V.ref)) pl = some (.dT (kv3 [])) := sk _ _ upd_same
          have epk : upd (upd G pl (.dT [])) pk (.lst (bs.map V.ref)) pk = some (.lst (bs.map V.ref)) := upd_same
          have em2 := sGk _ _ em
          have tM2 := tM.mv sGk
          clear sl sk hk
          revert tL sGk epl epk em2 tM2
          generalize upd (upd G pl (.dT [])) pk (.lst (bs.map V.ref)) = J0
          intro tL sGk epl epk em2 tM2
          have kpl : pk ≠ pl := fun z => by
            rw [z, epl] at epk
            cases epk
          have mpl : pm ≠ pl := fun z => by
            rw [z, epl] at em2
            cases em2
          have tpl : ∀ {c : Addr} {t : T3}, J0 c = some (tup3 t) → c ≠ pl := fun {c t} e z => by
            rw [z, epl] at e
            cases e
          have nx : MxN n (ds.take (i + 1)) [] → False := fun z => by
            obtain ⟨_, hp, _⟩ := z.1.2
            cases hp
          -- each sum of a path so far and one of the row's is small
          have small : ∀ {C : List T3}, C.Nodup → (∀ z ∈ C, ∃ p ∈ L, ∃ q ∈ M, z = add3 p q) → C.length < sizeLine := fun {C} nC hC => by
            have hm : ∀ k, mostN n k (ds.take (i + 1)) ≤ 200 := fun k => Nat.le_trans (most_le k n _) (Nat.le_trans flat_le size)
            have line : (8200000 : Nat) < sizeLine := by decide
            refine Nat.lt_of_le_of_lt (few_line (m := 200) nC (fun z hz c hc => ?_) (Nat.le_refl _)) line
            obtain ⟨p, hp, r, hr', rfl⟩ := hC z hz
            rw [c3_add]
            have h0 := hm "if"
            have h1 := hm "letter"
            have h2 := hm "set"
            rw [most_take hdi] at h0 h1 h2
            match c, hc with
            | 0, _ =>
              have := mx.1.1 p hp
              have := mM.1.1 r hr'
              omega
            | 1, _ =>
              have := mx.2.1.1 p hp
              have := mM.2.1.1 r hr'
              omega
            | 2, _ =>
              have := mx.2.2.1 p hp
              have := mM.2.2.1 r hr'
              omega
          refine ⟨pk, rfl, ⟨_, SqL.of epk⟩, for_list (fun i1 σ J => ∃ y4 y6 C, σ = [some (.ref a), some (.ref pf), some (.ref b), some (.ref pm), y4, some (.ref pl), y6] ∧ But pl J0 J ∧ J pl = some (.dT (kv3 C)) ∧ C.Nodup ∧ ∀ z, z ∈ C ↔ ∃ p ∈ L.take i1, ∃ r ∈ M, z = add3 p r)
            ⟨_, _, [], rfl, fun _ _ _ e => e, epl, List.nodup_nil, fun z => by simp⟩ (fun i1 σ J _ h => by obtain ⟨_, _, _, _, bt, _⟩ := h; exact SqL.of (bt _ _ kpl epk)) (fun i1 x1 σ J hi1 h => ?_) (fun σ J h => ?_)⟩
          · obtain ⟨y4, y6, C, rfl, bt, eC, nC, hC⟩ := h
            rw [List.getElem?_map] at hi1
            obtain ⟨c, hc, rfl⟩ := Option.map_eq_some_iff.mp hi1
            have li : i1 < L.length := by
              rw [tL.1]
              exact (List.getElem?_eq_some_iff.mp hc).1
            obtain ⟨t, ht⟩ : ∃ t, L[i1]? = some t := ⟨_, List.getElem?_eq_getElem li⟩
            have ec0 := tL.2 i1 t c ht hc
            refine ⟨_, rfl, pm, rfl, ⟨_, SqL.of (bt _ _ mpl em2)⟩, for_list (fun j1 σ J => ∃ y6 C, σ = [some (.ref a), some (.ref pf), some (.ref b), some (.ref pm), some (.ref c), some (.ref pl), y6] ∧ But pl J0 J ∧ J pl = some (.dT (kv3 C)) ∧ C.Nodup ∧ ∀ z, z ∈ C ↔ (∃ p ∈ L.take i1, ∃ r ∈ M, z = add3 p r) ∨ ∃ r ∈ M.take j1, z = add3 t r)
              ⟨_, C, rfl, bt, eC, nC, fun z => by rw [hC]; simp⟩ (fun j1 σ J _ h => by obtain ⟨_, _, _, bt, _⟩ := h; exact SqL.of (bt _ _ mpl em2)) (fun j1 x2 σ J hj1 h => ?_) (fun σ J h => ?_)⟩
            · obtain ⟨y6, C, rfl, bt, eC, nC, hC⟩ := h
              rw [List.getElem?_map] at hj1
              obtain ⟨c2, hc2, rfl⟩ := Option.map_eq_some_iff.mp hj1
              have lj : j1 < M.length := by
                rw [tM2.1]
                exact (List.getElem?_eq_some_iff.mp hc2).1
              obtain ⟨r, hr2⟩ : ∃ r, M[j1]? = some r := ⟨_, List.getElem?_eq_getElem lj⟩
              have ec2 := tM2.2 j1 r c2 hr2 hc2
              have e1 : J c = some (tup3 t) := bt _ _ (tpl ec0) ec0
              have e2 : J c2 = some (tup3 r) := bt _ _ (tpl ec2) ec2
              refine ⟨_, rfl, _, rfl, c, _, 0, _, rfl, rfl, SqT.of e1, rfl, _, rfl, c2, _, 0, _, rfl, rfl, SqT.of e2, rfl, _, _, rfl, rfl, _, rfl, c, _, 1, _, rfl, rfl, SqT.of e1, rfl, _, rfl, c2, _, 1, _, rfl, rfl, SqT.of e2, rfl, _, _, rfl, rfl, _, rfl, c, _, 2, _, rfl, rfl, SqT.of e1, rfl, _, rfl, c2, _, 2, _, rfl, rfl, SqT.of e2, rfl, _, _, rfl, rfl, (by show 3 ≤ sizeLine; decide), fun pz hpz => ?_⟩
              have ez : (upd J pz (tup3 (add3 t r))) pz = some (.tup ((key3 (add3 t r)).map kV)) := upd_same
              have zpl : pl ≠ pz := fun y => by
                rw [← y, eC] at hpz
                cases hpz
              have eC2 : (upd J pz (tup3 (add3 t r))) pl = some (.dT (kv3 C)) := by rw [upd_ne zpl]; exact eC
              have mem1 : ∀ z, z ∈ ins3 C (add3 t r) ↔ (∃ p ∈ L.take i1, ∃ r ∈ M, z = add3 p r) ∨ ∃ r ∈ M.take (j1 + 1), z = add3 t r := fun z => by
                rw [mem_ins3, hC, List.take_add_one, hr2]
                constructor
                · rintro ((h | ⟨r', h1, h2⟩) | rfl)
                  · exact .inl h
                  · exact .inr ⟨r', List.mem_append_left _ h1, h2⟩
                  · exact .inr ⟨r, List.mem_append_right _ (by simp), rfl⟩
                · rintro (h | ⟨r', h1, h2⟩)
                  · exact .inl (.inl h)
                  · rcases List.mem_append.mp h1 with h1 | h1
                    · exact .inl (.inr ⟨r', h1, h2⟩)
                    · have e : r' = r := by simpa using h1
                      rw [e] at h2
                      exact .inr h2
              refine ⟨pl, _, rfl, DPut.t eC2 ez ?_, _, ins3 C (add3 t r), rfl, ?_, ?_, ins3_nodup nC, mem1⟩
              · show (kv3 C).length < sizeLine
                unfold kv3
                rw [List.length_map]
                refine small nC fun z hz => ?_
                rcases (hC z).mp hz with ⟨p, h1, r', h2, h3⟩ | ⟨r', h1, h2⟩
                · exact ⟨p, List.mem_of_mem_take h1, r', h2, h3⟩
                · exact ⟨t, List.mem_of_getElem? ht, r', List.mem_of_mem_take h1, h2⟩
              · intro d o hd' eo
                rw [upd_ne hd', upd_ne (ne_of_none (bt d o hd' eo) hpz)]
                exact bt d o hd' eo
              · rw [upd_same, put3]
            · obtain ⟨y6, C, rfl, bt, eC, nC, hC⟩ := h
              refine ⟨_, _, C, rfl, bt, eC, nC, fun z => ?_⟩
              rw [hC, List.length_map, ← tM2.1, List.take_length, List.take_add_one, ht]
              constructor
              · rintro (⟨p, h1, h2⟩ | ⟨r, h1, h2⟩)
                · exact ⟨p, List.mem_append_left _ h1, h2⟩
                · exact ⟨t, List.mem_append_right _ (by simp), r, h1, h2⟩
              · rintro ⟨p, h1, h2⟩
                rcases List.mem_append.mp h1 with h1 | h1
                · exact .inl ⟨p, h1, h2⟩
                · have e : p = t := by simpa using h1
                  rw [e] at h2
                  exact .inr h2
          · obtain ⟨y4, y6, C, rfl, bt, eC, nC, hC⟩ := h
            have hC' : ∀ z, z ∈ C ↔ ∃ p ∈ L, ∃ r ∈ M, z = add3 p r := fun z => by
              have e := hC z
              rw [List.length_map, ← tL.1, List.take_length] at e
              exact e
            refine ⟨_, rfl, pl, _, _, _, _, _, C, rfl, fun d o eo => ?_, ?_, eC, nC, mx.add hdi mM hC'⟩
            · have e1 := sGk d o (sG d o (sH d o eo))
              exact bt d o (fun z => by rw [z, epl] at e1; cases e1; exact absurd (sG d _ (sH d _ eo)) (by rw [z, hpl]; exact fun y => nomatch y)) e1
            · exact sH.free (sG.free hpl)
      · intro z
        unfold setB
        rw [decide_eq_false (fun y => absurd (congrArg V.str y) (of_decide_eq_false z)), Bool.false_and]
      · intro z Q' rs'
        have hw : w0 = "set" := V.str.inj (of_decide_eq_true z)
        subst hw
        have e4 : formOf "set" = some (["register", "function", "registers"] : List Str) := by decide +kernel
        rw [e4] at hf
        obtain rfl := (Option.some.inj hf).symm
        match rest, hlen with
        | [d1, d2, d3], _ =>
          have row' := row
          rw [row_set] at row'
          simp only [Bool.and_eq_true, and_true] at row'
          obtain ⟨_, _, ar⟩ := row'
          cases d3 with
          | tuple zs =>
            cases hxr with
            | @cons x1 _ _ _ k1 hxr =>
              cases hxr with
              | @cons x2 _ _ _ k2 hxr =>
                cases hxr with
                | @cons x3 _ _ _ k3 hxr =>
                  cases hxr
                  obtain ⟨bb, us, rfl, ebb, _, hus⟩ := k3.tup_of
                  refine ⟨_, rfl, 1, rfl, b, _, -1, .ref bb, rfl, rfl, SqT.of (s2 _ _ eb), rfl, (by show 0 ≤ sizeLine; decide), fun pe hpe => ⟨bb, pe, us, rfl, rfl, SqT.of (same_upd hpe _ _ (s2 _ _ ebb)), SqT.of upd_same, ?_⟩⟩
                  have e : setB "set" [d1, d2, .tuple zs] = !us.isEmpty := by
                    cases hus with
                    | nil => rfl
                    | cons _ _ => rfl
                  rw [← e]
                  exact rs' _ (same_upd hpe)
          | _ => cases ar
    · obtain ⟨pf, x2, x3, x4, x5, x6, L, rfl, sH, hpf, epf, nd, mx⟩ := h
      refine ⟨_, rfl, pf, _, rfl, .inl epf, fun p bs hp hk => ?_⟩
      have mx' : MxN n ds L := by
        rw [hx.length, List.take_length] at mx
        exact mx
      exact q _ p L bs (sH.trans (same_upd hp)) (sH.free hp) nd mx' ((isT_keys hk).mv (same_upd hp)) upd_same

end
end OM

namespace OM
open PySem PySem.Spec PyProof.Rows L2
abbrev sFits5 : Stmt := top 57
def okP (p : T3) : Prop := p.1 ≤ 3 ∧ p.2.1 ≤ 6 ∧ p.2.2 ≤ 6
/-- the paths that pass a bound, so far -/
def PvE (H : Hp) (D : Addr) (L : List T3) (i : Nat) (H' : Hp) : Prop := Same H H' ∧ ∃ acc : List V, H' D = some (.lst acc) ∧ acc.length ≤ i ∧ (acc.isEmpty = true ↔ ∀ p ∈ L.take i, okP p)
theorem PvE.zero {H : Hp} {D : Addr} {L : List T3} (hD : H D = none) : PvE H D L 0 (upd H D (.lst [])) := ⟨same_upd hD, [], upd_same, Nat.le_refl _, by simp⟩
theorem PvE.yes {H H3 : Hp} {D : Addr} {L : List T3} {i : Nat} {t : T3} (ht : L[i]? = some t) (ok : okP t) (p : PvE H D L i H3) : PvE H D L (i + 1) H3 := by
  obtain ⟨sm, acc, e, l, z⟩ := p
  refine ⟨sm, acc, e, by omega, ?_⟩
  rw [List.take_add_one, ht, z]
  constructor
  · intro h p hp
    rcases List.mem_append.mp hp with hp | hp
    · exact h p hp
    · have : p = t := by simpa using hp
      rw [this]
      exact ok
  · exact fun h p hp => h p (List.mem_append_left _ hp)
theorem PvE.no {H H3 : Hp} {D : Addr} {L : List T3} {i : Nat} {t : T3} {y : V} (hD : H D = none) (hl : L.length < sizeLine) (ht : L[i]? = some t) (ok : ¬ okP t) (p : PvE H D L i H3) : ∃ acc, H3 D = some (.lst acc) ∧ acc.length < sizeLine ∧ PvE H D L (i + 1) (upd H3 D (.lst (acc ++ [y]))) := by
  obtain ⟨sm, acc, e, l, z⟩ := p
  have hi : i < L.length := (List.getElem?_eq_some_iff.mp ht).1
  refine ⟨acc, e, by omega, same_put hD sm, acc ++ [y], upd_same, by rw [List.length_append]; show acc.length + 1 ≤ _; omega, ?_⟩
  rw [List.take_add_one, ht]
  constructor
  · intro h
    cases acc <;> cases h
  · intro h
    exact absurd (h t (List.mem_append_right _ (by simp))) ok
def spFits5 : Sp := fun vs H Q _ => ∃ (S : Addr → Prop) (v : V) (ds : List PyData), vs = [v] ∧ Dt S H v (.tuple ds) ∧ ds.all (rowD (cdOf 3)) = true ∧ (flatN 3 ds).length ≤ 200 ∧ (cellsN 3 ds).length ≤ 4000 ∧ ∀ H', Same H H' → Q (.bl (bndD ds)) H'
theorem bnd_of {ds : List PyData} {L : List T3} {e : Bool} (h1 : (flatN 3 ds).length ≤ 24) (h2 : (firsts [] (cellsN 3 ds)).length ≤ 4) (mx : MxN 3 ds L) (z : e = true ↔ ∀ p ∈ L, okP p) : bndD ds = e := by
  have h2' : (firsts [] ((flatN 3 ds).flatMap (namesD "cell"))).length ≤ 4 := h2
  have all : (∀ p ∈ L, okP p) ↔ mostN 3 "letter" ds ≤ 6 ∧ mostN 3 "set" ds ≤ 6 ∧ mostN 3 "if" ds ≤ 3 := by
    constructor
    · intro h
      obtain ⟨p, hp, ep⟩ := mx.1.2
      obtain ⟨r, hr, er⟩ := mx.2.1.2
      obtain ⟨u, hu, eu⟩ := mx.2.2.2
      exact ⟨by rw [← er]; exact (h r hr).2.1, by rw [← eu]; exact (h u hu).2.2, by rw [← ep]; exact (h p hp).1⟩
    · intro ⟨a, b, c⟩ p hp
      exact ⟨Nat.le_trans (mx.1.1 p hp) c, Nat.le_trans (mx.2.1.1 p hp) a, Nat.le_trans (mx.2.2.1 p hp) b⟩
  unfold bndD
  rw [decide_eq_true h1, decide_eq_true h2', Bool.true_and, Bool.true_and, Bool.eq_iff_iff, z, all]
  simp
section
variable {P : Program} {w : World} {K : PySem.W.Frag} {mg : Str → Option Value} {base : Heap} {f fS fC fP : Addr} {fd dS dC dP : FuncData}
theorem ok_paths (F : Fun K "_law_paths" "_law_paths" sPaths f fd) (ti : mg "int" = none) (tl : mg "list" = none) (gF : mg "_law_paths" = some (.ref f)) (bF : Binds K fd ["_law_code"] []) : ∀ n, FnOk P w K mg base CX0 (n + 1) f fd ["_law_code"] (spPathsAt n)
  | 0 => ⟨fun _ _ _ _ h => h.elim, fun _ _ _ _ _ _ _ _ _ _ _ _ _ h => h.elim⟩
  | n + 1 => paths_step F ti tl gF bF (ok_paths F ti tl gF bF n)
theorem scF5 : FnScope ["_law_code", "_law_path"] ["_law_code"] (defScope sFits5) := ⟨rfl, rfl, rfl, by decide +kernel, rfl, by decide +kernel, by decide +kernel⟩
theorem ok_fits5 (F : Fun K "_law_fits" "_law_fits" sFits5 f fd) (len : mg "len" = none) (sett : mg "set" = none) (gS : mg "_law_size" = some (.ref fS)) (kS : PySem.W.keepIn K (.ref fS) = true) (bS : Binds K dS ["_law_code"] []) (GS : FnOk P w K mg base CX0 5 fS dS ["_law_code"] (spSizeAt 4))
    (gC : mg "_law_cells" = some (.ref fC)) (kC : PySem.W.keepIn K (.ref fC) = true) (bC : Binds K dC ["_law_code"] []) (GC : FnOk P w K mg base CX0 5 fC dC ["_law_code"] (spCellsAt 4)) (gP : mg "_law_paths" = some (.ref fP)) (kP : PySem.W.keepIn K (.ref fP) = true) (bP : Binds K dP ["_law_code"] []) (GP : FnOk P w K mg base CX0 5 fP dP ["_law_code"] (spPathsAt 4)) :
    FnOk P w K mg base CX0 6 f fd ["_law_code"] spFits5 := by
  refine F.ok scF5 (fun vs H Q E h => ?_) (fun cdv A outer s H vs Q E hr h => ?_)
  · obtain ⟨S, v, ds, rfl, _⟩ := h
    rfl
  · obtain ⟨S, v, ds, rfl, hd, rows, size, cz, q⟩ := h
    have hu : (A.deeper (envOfC "_law_fits" (defScope sFits5) s.heap.objs.size f cdv)).units < cLine := by
      have := hr.un
      omega
    refine ⟨_, pss_cons (ps_if (PW.pt (pw_or (pt_cmpR op_gt (pe_call GS hr (by rfl) gS kS bS .nil pass0 (pa_cons (pv 0) pa_nil)) pe_int (nomark _)) (pw_or1 (pt_cmpR op_gt (pe_callB cr_lenX (by rfl) len PySem.boot_len (pa_cons (pe_callTy (cr_setX rfl) (by rfl) sett (by decide +kernel) (pa_cons (pe_call GC hr (by rfl) gC kC bC .nil pass0 (pa_cons (pv 0) pa_nil)) pa_nil)) pa_nil)) pe_int (nomark _))))) (pss_one (ps_ret pe_bl)) pss_nil)
      (pss_one (ps_ret (pe_cmpR (op_eqL0 hu) (pe_lc (own := [("_law_path", 1)]) rfl scF5.nd (pi_list (pe_call GP hr (by rfl) gP kP bP .nil pass0 (pa_cons (pv 0) pa_nil))) (blkOk_by (N := ["_law_code", "_law_path"]) (sc := defScope sFits5) (by decide +kernel))
        (fun _ _ _ _ _ => pg_name (i := 1) scF5.nd rfl (Or.inl rfl)) (fun _ _ _ _ _ => pts_one (PW.pt (pw_or (pt_cmpR op_gt (pe_ix (r := rIxT K) ix_tup (pv 1) pe_int (fun _ _ => rfl)) pe_int (nomark _)) (pw_or (pt_cmpR op_gt (pe_ix (r := rIxT K) ix_tup (pv 1) pe_int (fun _ _ => rfl)) pe_int (nomark _)) (pw_or1 (pt_cmpR op_gt (pe_ix (r := rIxT K) ix_tup (pv 1) pe_int (fun _ _ => rfl)) pe_int (nomark _)))))))
        (fun _ _ _ _ _ => pv 1)) (pe_lst pa_nil) (by rfl)))), ?_⟩
    refine ⟨_, rfl, S, v, ds, rfl, hd, rows, fun H1 s1 => ⟨_, _, rfl, rfl, _, rfl, ite2 (fun h1 => ?_) (fun h1 => ?_)⟩⟩
    · have n1 : ¬ (flatN 3 ds).length ≤ 24 := fun z => by
        have y : (24 : Int) < (((flatN 3 ds).length : Nat) : Int) := of_decide_eq_true h1
        omega
      have z := q _ s1
      have e : bndD ds = false := by
        unfold bndD
        rw [decide_eq_false n1, Bool.false_and]
      rw [e] at z
      exact iteT z
    · have n1 : (flatN 3 ds).length ≤ 24 := by
        have y : ¬ (24 : Int) < (((flatN 3 ds).length : Nat) : Int) := fun y => h1 (decide_eq_true y)
        omega
      refine ⟨_, rfl, S, v, ds, rfl, hd.mv (fun _ z => z) (fun b o _ z => s1 b o z), rows, cz, fun H2 p s2 np ep => ?_⟩
      refine ⟨p, _, rfl, .inl (SqL.of ep), (by show (cellsN 3 ds).length < 4096; omega), fun p2 np2 => ⟨p2, _, rfl, upd_same, _, _, rfl, rfl, _, rfl, ?_⟩⟩
      have s12 := (s1.trans s2).trans (same_upd (o := SetTO w p2 (firsts [] (cellsN 3 ds))) np2)
      refine ite2 (fun h2 => ?_) (fun h2 => ?_)
      · have n2 : ¬ (firsts [] (cellsN 3 ds)).length ≤ 4 := fun z => by
          have y : (4 : Int) < (((firsts [] (cellsN 3 ds)).length : Nat) : Int) := of_decide_eq_true h2
          omega
        have z := q _ s12
        have e : bndD ds = false := by
          have n2' : ¬ (firsts [] ((flatN 3 ds).flatMap (namesD "cell"))).length ≤ 4 := n2
          unfold bndD
          rw [decide_eq_false n2', Bool.false_and, Bool.and_false]
        rw [e] at z
        exact z
      · have n2 : (firsts [] (cellsN 3 ds)).length ≤ 4 := by
          have y : ¬ (4 : Int) < (((firsts [] (cellsN 3 ds)).length : Nat) : Int) := fun y => h2 (decide_eq_true y)
          omega
        refine ⟨_, rfl, S, v, ds, rfl, hd.mv (fun _ z => z) (fun b o _ z => s12 b o z), rows, size, fun J pj L bs sJ nj nd mx tL ej => ?_⟩
        have fL := mx.few nd size
        have line : (8200000 : Nat) < sizeLine := by decide
        refine ⟨pj, rfl, ⟨_, SqL.of ej⟩, fun Dl hD => lc_list (PvE J Dl L) (PvE.zero hD) (fun i H' _ p => SqL.of (p.1 _ _ ej)) (fun i x H5 hx p5 => ?_) (fun H7 p7 => ?_)⟩
        · rw [List.getElem?_map] at hx
          obtain ⟨c, hc, rfl⟩ := Option.map_eq_some_iff.mp hx
          have li : i < L.length := by
            rw [tL.1]
            exact (List.getElem?_eq_some_iff.mp hc).1
          obtain ⟨t, ht⟩ : ∃ t, L[i]? = some t := ⟨_, List.getElem?_eq_getElem li⟩
          have ec : H5 c = some (tup3 t) := p5.1 _ _ (tL.2 i t c ht hc)
          have no : ¬ okP t → ∃ acc, H5 Dl = some (.lst acc) ∧ acc.length < sizeLine ∧ PvE J Dl L (i + 1) (upd H5 Dl (.lst (acc ++ [V.ref c]))) := fun n => p5.no hD (by omega) ht n
          refine ⟨rfl, _, rfl, c, _, 0, _, rfl, rfl, SqT.of ec, rfl, _, _, rfl, rfl, _, rfl, ite2 (fun k1 => iteT ⟨_, rfl, no fun z => ?_⟩) (fun k1 => ⟨_, rfl, c, _, 1, _, rfl, rfl, SqT.of ec, rfl, _, _, rfl, rfl, _, rfl, ite2 (fun k2 => iteT ⟨_, rfl, no fun z => ?_⟩) (fun k2 => ⟨_, rfl, c, _, 2, _, rfl, rfl, SqT.of ec, rfl, _, _, rfl, rfl, _, rfl, ?_⟩)⟩)⟩
          · have y : (3 : Int) < ((t.1 : Nat) : Int) := of_decide_eq_true k1
            have := z.1
            omega
          · have y : (6 : Int) < ((t.2.1 : Nat) : Int) := of_decide_eq_true k2
            have := z.2.1
            omega
          · have y1 : ¬ (3 : Int) < ((t.1 : Nat) : Int) := fun y => k1 (decide_eq_true y)
            have y2 : ¬ (6 : Int) < ((t.2.1 : Nat) : Int) := fun y => k2 (decide_eq_true y)
            refine ite2 (fun k3 => ⟨_, rfl, no fun z => ?_⟩) (fun k3 => p5.yes ht ⟨by omega, by omega, ?_⟩)
            · have y : (6 : Int) < ((t.2.2 : Nat) : Int) := of_decide_eq_true k3
              have := z.2.2
              omega
            · have y : ¬ (6 : Int) < ((t.2.2 : Nat) : Int) := fun y => k3 (decide_eq_true y)
              omega
        · obtain ⟨s7, acc, e7, _, z7⟩ := p7
          rw [List.length_map, ← tL.1, List.take_length] at z7
          refine ⟨(by show 0 ≤ sizeLine; decide), fun p9 h9 => ⟨Dl, p9, acc, rfl, rfl, SqL.of (same_upd h9 _ _ e7), SqL.of upd_same, ?_⟩⟩
          have z := q _ (((s12.trans sJ).trans s7).trans (same_upd (o := .lst []) h9))
          rw [bnd_of n1 n2 mx z7] at z
          exact z
end
end OM

namespace OM
open PySem PySem.Spec PyProof.Rows L2 LamX
theorem ris_step {x y : Str} {r : List Str} (hx : x ∈ regs4) (hy : y ∈ regs4) (ne : x ≠ y) (h : sortedS (x :: y :: r) = true) : ltS x y = true ∧ sortedS (y :: r) = true := by
  have h1 : (∀ x ∈ regs4, ∀ y ∈ regs4, x ≠ y → sortedS [x, y] = true → ltS x y = true) := by decide +kernel
  have h2 : sortedS (x :: y :: r) = (sortedS [x, y] && sortedS (y :: r)) := by
    have e1 : ∀ (a b : Str) (r : List Str), risingS a (b :: r) = (!ltCps b.cps.toList a.cps.toList && risingS b r) := fun a b r => by
      conv => lhs; unfold risingS
    show risingS x (y :: r) = (risingS x [y] && risingS y r)
    rw [e1 x y r, e1 x y []]
    show _ = (_ && true && _)
    rw [Bool.and_true]
  rw [h2, Bool.and_eq_true] at h
  exact ⟨h1 x hx y hy ne h.1, h.2⟩
theorem kept_lt : ∀ {ks : List Str}, sortedS ks = true → ks.Nodup → (∀ k ∈ ks, k ∈ regs4) → (List.zipWith ltS ks ks.tail).all id = true
  | [], _, _, _ => rfl
  | [x], _, _, _ => rfl
  | x :: y :: r, h, n, m => by
    obtain ⟨n1, n2⟩ := List.nodup_cons.mp n
    obtain ⟨a, b⟩ := ris_step (m x (by simp)) (m y (by simp)) (fun z => n1 (by rw [z]; simp)) h
    have ih := kept_lt b n2 (fun k hk => m k (List.mem_cons_of_mem _ hk))
    show (ltS x y :: List.zipWith ltS (y :: r) (y :: r).tail).all id = true
    rw [List.all_cons, ih, Bool.and_true]
    exact a
theorem kept_ok {ks : List Str} (h : sortedS ks = true) (n : ks.Nodup) (m : ∀ k ∈ ks, k ∈ regs4) : keptD (.tuple (ks.map PyData.str)) = true := by
  have hl : ks.length ≤ 4 := List.Nodup.length_le_of_subset (l₂ := regs4) n m
  have hm : (ks.map PyData.str).map strD = ks := by
    rw [List.map_map]
    have : (strD ∘ PyData.str) = id := rfl
    rw [this, List.map_id]
  show ((ks.map PyData.str).all isNameD && (List.zipWith ltS ((ks.map PyData.str).map strD) ((ks.map PyData.str).map strD).tail).all id && decide ((ks.map PyData.str).length ≤ 4)) = true
  rw [hm, kept_lt h n m, List.length_map, decide_eq_true hl, Bool.and_true, Bool.and_true, List.all_map]
  exact List.all_eq_true.mpr fun k hk => (by decide +kernel : ∀ k ∈ regs4, isNameD (.str k) = true) k (m k hk)
theorem sml_strs : ∀ {ks : List Str}, (∀ k ∈ ks, k ∈ regs4) → smlAll (ks.map PyData.str) = true
  | [], _ => rfl
  | k :: r, m => by
    rw [List.map_cons, smlAll_cons, sml_strs (fun x hx => m x (List.mem_cons_of_mem _ hx)), Bool.and_true]
    exact (by decide +kernel : ∀ k ∈ regs4, smlD (.str k) = true) k (m k (by simp))
theorem dep_strs : ∀ {ks : List Str}, PyData.depthAll (ks.map PyData.str) = 0
  | [] => rfl
  | k :: r => by
    rw [List.map_cons, depthAll_cons, dep_strs (ks := r)]
    rfl
theorem wid_strs : ∀ {ks : List Str}, widL (ks.map PyData.str) = 0
  | [] => rfl
  | k :: r => by
    rw [List.map_cons, widL_cons, wid_strs (ks := r)]
    rfl
theorem four {x y z : PyData} (h : smlD x = true ∧ x.depth = 0 ∧ widN x = 0) (k : smlD y = true ∧ y.depth = 0 ∧ widN y = 0) (l : smlD z = true ∧ z.depth = 0 ∧ widN z = 0) (a b : PyData) :
    smlD (.tuple [x, y, z, a, b]) = (smlD a && smlD b) ∧ (PyData.tuple [x, y, z, a, b]).depth = max a.depth b.depth + 1 ∧ widN (.tuple [x, y, z, a, b]) = max 5 (max (widN a) (widN b)) := by
  rw [sml_tup, dep_tup, wid_tup, smlAll_cons, smlAll_cons, smlAll_cons, smlAll_cons, smlAll_cons, depthAll_cons, depthAll_cons, depthAll_cons, depthAll_cons, depthAll_cons, widL_cons, widL_cons, widL_cons, widL_cons, widL_cons, h.1, k.1, l.1, h.2.1, k.2.1, l.2.1, h.2.2, k.2.2, l.2.2]
  refine ⟨by show (true && (true && (true && (smlD a && (smlD b && true))))) = _; simp, ?_, ?_⟩
  · show max 0 (max 0 (max 0 (max a.depth (max b.depth 0)))) + 1 = _
    omega
  · show max 5 (max 0 (max 0 (max 0 (max (widN a) (max (widN b) 0))))) = _
    omega
theorem sAt0 {x : Str} (h : smlD (.str x) = true) : smlD (.str x) = true ∧ (PyData.str x).depth = 0 ∧ widN (.str x) = 0 := ⟨h, rfl, rfl⟩
mutual
theorem StD.small : ∀ {n : Nat} {d : PyData} {l s t z : Nat}, StD n d l s t z → smlD d = true ∧ d.depth ≤ 2 * n + 2 ∧ widN d ≤ 5
  | _, _, _, _, _, _, .read (r := r) (x := x) hr hx => by
    have h := (by decide +kernel : ∀ r ∈ regs4, ∀ x ∈ cells3, smlD (.tuple [.str "read", .str r, .str x]) = true ∧ (PyData.tuple [.str "read", .str r, .str x]).depth ≤ 2 ∧ widN (.tuple [.str "read", .str r, .str x]) ≤ 5) r hr x hx
    exact ⟨h.1, by omega, h.2.2⟩
  | _, _, _, _, _, _, .write (r := r) (x := x) hx hr => by
    have h := (by decide +kernel : ∀ r ∈ regs4, ∀ x ∈ cells3, smlD (.tuple [.str "write", .str x, .str r]) = true ∧ (PyData.tuple [.str "write", .str x, .str r]).depth ≤ 2 ∧ widN (.tuple [.str "write", .str x, .str r]) ≤ 5) r hr x hx
    exact ⟨h.1, by omega, h.2.2⟩
  | _, _, _, _, _, _, .copy (r := r) (a := a) hr ha => by
    have h := (by decide +kernel : ∀ r ∈ regs4, ∀ x ∈ regs4, smlD (.tuple [.str "copy", .str r, .str x]) = true ∧ (PyData.tuple [.str "copy", .str r, .str x]).depth ≤ 2 ∧ widN (.tuple [.str "copy", .str r, .str x]) ≤ 5) r hr a ha
    exact ⟨h.1, by omega, h.2.2⟩
  | _, _, _, _, _, _, .letter (w := w) (r := r) hw hr => by
    have h := (by decide +kernel : ∀ w ∈ (["get", "put"] : List Str), ∀ r ∈ regs4, smlD (.tuple [.str w, .str r]) = true ∧ (PyData.tuple [.str w, .str r]).depth ≤ 2 ∧ widN (.tuple [.str w, .str r]) ≤ 5) w (by simpa using hw) r hr
    exact ⟨h.1, by omega, h.2.2⟩
  | _, _, _, _, _, _, .set (r := r) (f := f) (as := as) hr hf ha hl => by
    have hs : smlD (.tuple (as.map PyData.str)) = true := by rw [sml_tup]; exact sml_strs ha
    have h1 := (by decide +kernel : ∀ r ∈ regs4, smlD (.str r) = true) r hr
    have h2 := (by decide +kernel : ∀ f ∈ (["f", "g"] : List Str), smlD (.str f) = true) f (by simpa using hf)
    have hw : smlD (.str "set") = true := by decide +kernel
    refine ⟨?_, ?_, ?_⟩
    · rw [sml_tup, smlAll_cons, smlAll_cons, smlAll_cons, smlAll_cons, hw, h1, h2, hs]
      rfl
    · rw [dep_tup, depthAll_cons, depthAll_cons, depthAll_cons, depthAll_cons, dep_tup, dep_strs]
      show max 0 (max 0 (max 0 (max (0 + 1) 0))) + 1 ≤ _
      omega
    · rw [wid_tup, widL_cons, widL_cons, widL_cons, widL_cons, wid_tup, wid_strs, List.length_map]
      show max 4 (max 0 (max 0 (max 0 (max (max as.length 0) 0)))) ≤ _
      omega
  | _, _, _, _, _, _, .iff (p := p) (r := r) (ys := ys) (ns := ns) hp hr hy hyl hn hnl => by
    obtain ⟨a1, a2, a3⟩ := CoD.small hy
    obtain ⟨b1, b2, b3⟩ := CoD.small hn
    have h1 := (by decide +kernel : ∀ r ∈ regs4, smlD (.str r) = true) r hr
    have h2 := (by decide +kernel : ∀ f ∈ (["p", "q"] : List Str), smlD (.str f) = true) p (by simpa using hp)
    obtain ⟨c1, c2, c3⟩ := four (sAt0 (x := "if") (by decide +kernel)) (sAt0 h2) (sAt0 h1) (.tuple ys) (.tuple ns)
    rw [c1, c2, c3, sml_tup, sml_tup, dep_tup, dep_tup, wid_tup, wid_tup]
    refine ⟨by rw [a1, b1]; rfl, by omega, by omega⟩
theorem CoD.small : ∀ {n : Nat} {ds : List PyData} {l s t z : Nat}, CoD n ds l s t z → smlAll ds = true ∧ PyData.depthAll ds ≤ 2 * n + 2 ∧ widL ds ≤ 5
  | _, _, _, _, _, _, .nil => ⟨rfl, Nat.zero_le _, Nat.zero_le _⟩
  | _, _, _, _, _, _, .cons h r => by
    obtain ⟨a1, a2, a3⟩ := StD.small h
    obtain ⟨b1, b2, b3⟩ := CoD.small r
    rw [smlAll_cons, depthAll_cons, widL_cons, a1, b1]
    exact ⟨rfl, by omega, by omega⟩
end
theorem nm_le {x : PyData} {k : Str} : (nmD "cell" x k).length ≤ 1 := by
  unfold nmD
  split
  · exact Nat.le_refl _
  · rw [if_neg (fun z => absurd z.2 (by decide +kernel))]
    exact Nat.zero_le _
theorem nms_le : ∀ (xs : List PyData) (rs : List Str), (List.zipWith (nmD "cell") xs rs).flatten.length ≤ rs.length
  | [], _ => by simp
  | _ :: _, [] => by simp
  | x :: xs, k :: rs => by
    have := nms_le xs rs
    have := nm_le (x := x) (k := k)
    simp only [List.zipWith_cons_cons, List.flatten_cons, List.length_append, List.length_cons]
    omega
theorem form_le {w : Str} {rs : List Str} (h : formOf w = some rs) : rs.length ≤ 4 := by
  unfold formOf at h
  repeat' split at h
  all_goals cases h
  all_goals decide
theorem names_le {d : PyData} : (namesD "cell" d).length ≤ 4 := by
  unfold namesD
  split
  · split
    · rename_i h
      exact Nat.le_trans (nms_le _ _) (form_le h)
    · exact Nat.zero_le _
  · exact Nat.zero_le _
theorem flat_names : ∀ (l : List PyData), (l.flatMap (namesD "cell")).length ≤ 4 * l.length
  | [] => Nat.le_refl _
  | d :: r => by
    have := flat_names r
    have := names_le (d := d)
    rw [List.flatMap_cons, List.length_append, List.length_cons]
    omega
theorem made_of {ds0 : List PyData} {l s t z : Nat} {d : PyData} (cd : CoD 2 ds0 l s t z) (hlen : ds0.length ≤ 6) (hl : l ≤ 4) (hs : s ≤ 3) (ht : t ≤ 2) (r : Rch (.tuple ds0) d) : MadeD d := by
  have sm0 : smlD (.tuple ds0) = true := by rw [sml_tup]; exact cd.small.1
  refine ⟨?_, fun h => ?_⟩
  · cases r with
    | zero => exact sm0
    | one h => exact h.small.2.2 sm0
    | two h k => exact k.small.2.2 (h.small.2.2 sm0)
  · obtain ⟨a, _⟩ := reach_ok cd hlen hl hs ht r h
    have b := flat_names (flatN 3 (itemsD d))
    refine ⟨by omega, ?_, reach_bnd cd hlen hl hs ht r h⟩
    unfold cellsN
    omega
end OM

namespace OM
open PySem PySem.Spec PyProof.Rows L2 LamX
/-- all but d and the tables stay -/
def ExtB (d : Addr) (H H' : Hp) : Prop := ∀ b o, b ≠ d → H b = some o → (∀ ps, o ≠ .tbl ps) → H' b = some o
theorem ExtB.tr {d : Addr} {H H1 H2 : Hp} (a : ExtB d H H1) (b : ExtB d H1 H2) : ExtB d H H2 := fun c o n h z => b c o n (a c o n h z) z
theorem ExtB.but {d : Addr} {H H1 : Hp} (a : But d H H1) : ExtB d H H1 := fun c o n h _ => a c o n h
theorem ExtB.ext {d : Addr} {H H1 : Hp} (a : ExtN H H1) : ExtB d H H1 := fun c o _ h z => a c o h z
def spRight (T : List (Addr × Str)) : Sp := fun vs H Q _ => ∃ d : Addr, vs = [.ref d] ∧ Dice H d ∧ Tabs T H ∧ ∀ H', ExtB d H H' → Dice H' d → Tabs T H' → Q (.bl true) H'
structure RightF (P : Program) (w : World) (K : PySem.W.Frag) (mg : Str → Option Value) (base : Heap) (T : List (Addr × Str)) (fSt fMR fSp fR : Addr) (dSt dMR dSp dR : FuncData) : Prop where
  gSt : mg "_law_stretch" = some (.ref fSt)
  kSt : PySem.W.keepIn K (.ref fSt) = true
  bSt : Binds K dSt ["_law_dice_here", "_law_most", "_law_letters", "_law_tests"] []
  GSt : FnOk P w K mg base CX0 9 fSt dSt ["_law_dice_here", "_law_most", "_law_letters", "_law_tests"] spStretch
  gMR : mg "_law_made_right" = some (.ref fMR)
  kMR : PySem.W.keepIn K (.ref fMR) = true
  bMR : Binds K dMR ["_law_thing", "_law_keeps"] []
  GMR : GFn P w K mg base 19 fMR dMR ["_law_thing", "_law_keeps"] (spMade T)
  gSp : mg "_law_spoilt" = some (.ref fSp)
  kSp : PySem.W.keepIn K (.ref fSp) = true
  bSp : Binds K dSp ["_law_dice_here", "_law_thing"] []
  GSp : FnOk P w K mg base CX0 13 fSp dSp ["_law_dice_here", "_law_thing"] (spSpoilt 11)
  gR : mg "_law_roll" = some (.ref fR)
  kR : PySem.W.keepIn K (.ref fR) = true
  bR : Binds K dR ["_law_dice_here", "_law_total"] []
  GR : FnOk P w K mg base CX0 1 fR dR ["_law_dice_here", "_law_total"] spRoll
  rng : mg "range" = none
theorem tabs_but {T : List (Addr × Str)} {d : Addr} {H H1 : Hp} (t : Tabs T H) (hd : Dice H d) (b : But d H H1) : Tabs T H1 := fun p hp => by
  obtain ⟨l, m, c, ed⟩ := hd
  obtain ⟨ps, h1, h2, h3⟩ := t p hp
  have nd : p.1 ≠ d := fun z => by
    rw [z, ed] at h1
    cases h1
  refine ⟨ps, b _ _ nd h1, h2, fun pos cv hc => ?_⟩
  obtain ⟨c', e1, e2⟩ := h3 pos cv hc
  refine ⟨c', e1, b _ _ (fun z => ?_) e2⟩
  rw [z, ed] at e2
  have e3 := Option.some.inj e2
  unfold CodeO at e3
  cases e3
section
variable {P : Program} {w : World} {K : PySem.W.Frag} {mg : Str → Option Value} {base : Heap} {T : List (Addr × Str)} {f fSt fMR fSp fR : Addr} {fd dSt dMR dSp dR : FuncData}
end
end OM

namespace OM
open PySem PySem.Spec PyProof.Rows L2 LamX
/-- what stays as objects are laid -/
structure Stays (R : L2.St → Hp → Prop) : Prop where
  st : ∀ σ H H', Same H H' → R σ H → R σ H'
/-- an expression that stands for the datum d, built anew -/
def tLit (R : L2.St → Hp → Prop) (d : PyData) : TE := fun σ H Q => R σ H ∧ ∀ v H', Same H H' → Dt (fun _ => True) H' v d → Q v H'
def tLits (R : L2.St → Hp → Prop) (ds : List PyData) : TA := fun σ H Q => R σ H ∧ ∀ vs H', Same H H' → DtAll (fun _ => True) H' vs ds → Q vs H'
def tYes (R : L2.St → Hp → Prop) (b : Bool) : TE := fun σ H Q => R σ H ∧ ∀ H', Same H H' → Q (.bl b) H'
def tYess (R : L2.St → Hp → Prop) (bs : List Bool) : TA := fun σ H Q => R σ H ∧ ∀ H', Same H H' → Q (bs.map V.bl) H'
def tBls (R : L2.St → Hp → Prop) (bs : List Bool) : TE := fun σ H Q => R σ H ∧ ∀ p H', Same H H' → H' p = some (.lst (bs.map V.bl)) → Q (.ref p) H'
section
variable {X : Cx} {R : L2.St → Hp → Prop} {e : Expr} {es : List Expr} {j k : Nat} {pos p : Pos} {x : Str}
theorem PE.imp {t t' : TE} (h : PE X e t) (f : ∀ σ H Q, t' σ H Q → t σ H Q) : PE X e t' := ⟨fun pins s σ H Q I q => h.run pins s σ H Q I (f σ H Q q)⟩
theorem PA.imp {t t' : TA} (h : PA X es t) (f : ∀ σ H Q, t' σ H Q → t σ H Q) : PA X es t' := ⟨fun pos pins s σ H Q I q => h.run pos pins s σ H Q I (f σ H Q q)⟩
theorem pe_ls : PE X (.Constant (.str x) j pos) (tLit R (.str x)) := PE.imp pe_str fun σ H Q q => q.2 _ H (Same.refl H) (.at (.str x))
theorem pa_ln : PA X [] (tLits R []) := PA.imp pa_nil fun σ H Q q => q.2 _ H (Same.refl H) .nil
theorem pa_lc (S : Stays R) {d : PyData} {ds : List PyData} (h : PE X e (tLit R d)) (r : PA X es (tLits R ds)) (he : starEach (e :: es) X.env = (false, eval e X.env) :: starEach es X.env := by rfl) : PA X (e :: es) (tLits R (d :: ds)) :=
  PA.imp (pa_cons h r he) fun σ H Q q => ⟨q.1, fun v H1 s1 d1 => ⟨S.st _ _ _ s1 q.1, fun vs H2 s2 d2 => q.2 _ H2 (s1.trans s2) (.cons (d1.mv (fun _ z => z) fun b o _ z => s2 b o z) d2)⟩⟩
theorem pe_lt {ds : List PyData} (h : PA X es (tLits R ds)) (hl : ds.length ≤ 1000 := by decide) : PE X (.Tuple es k pos) (tLit R (.tuple ds)) :=
  PE.imp (pe_tup h) fun σ H Q q => ⟨q.1, fun vs H1 s1 d1 => by
    have l := d1.length
    have : (1000 : Nat) < sizeLine := by decide
    refine ⟨by omega, fun p hp => q.2 _ _ (s1.trans (same_upd hp)) (.tup trivial upd_same (by omega) (d1.mv (fun _ z => z) fun b o _ z => same_upd hp b o z))⟩⟩
theorem pe_isc {f : Addr} {fd : FuncData} {n : Nat} {d : PyData} {b : Bool} (G : FnOk X.prog X.w X.K X.mg X.base CX0 n f fd ["value"] spIsCode) (hr : Room n X.A) (hg : Gl X "is_code") (gF : X.mg "is_code" = some (.ref f)) (kF : PySem.W.keepIn X.K (.ref f) = true) (bF : Binds X.K fd ["value"] [])
    (h : PE X e (tLit R d)) (hd : smlD d = true ∧ codeD 3 d = b) (he : starEach [e] X.env = (false, eval e X.env) :: starEach [] X.env := by rfl) (hpl : (backTo pos (starEach [] X.env)).any (·.1) = false := by rfl) : PE X (.Call (.Name "is_code" p) [e] [] pos) (tYes R b) :=
  PE.imp (pe_call G hr hg gF kF bF .nil pass0 (pa_cons h pa_nil he) (he := he) (hpl := hpl)) fun σ H Q q => ⟨q.1, fun v H1 s1 d1 => ⟨_, v, d, rfl, d1, hd.1, fun H2 s2 => by
    rw [hd.2]
    exact q.2 _ (s1.trans s2)⟩⟩
theorem pa_yn : PA X [] (tYess R []) := PA.imp pa_nil fun σ H Q q => q.2 H (Same.refl H)
theorem pa_yc (S : Stays R) {b : Bool} {bs : List Bool} (h : PE X e (tYes R b)) (r : PA X es (tYess R bs)) (he : starEach (e :: es) X.env = (false, eval e X.env) :: starEach es X.env := by rfl) : PA X (e :: es) (tYess R (b :: bs)) :=
  PA.imp (pa_cons h r he) fun σ H Q q => ⟨q.1, fun H1 s1 => ⟨S.st _ _ _ s1 q.1, fun H2 s2 => q.2 H2 (s1.trans s2)⟩⟩
theorem pe_bs {bs : List Bool} (h : PA X es (tYess R bs)) (hl : bs.length ≤ 1000 := by decide) : PE X (.List es pos) (tBls R bs) :=
  PE.imp (pe_lst h) fun σ H Q q => ⟨q.1, fun H1 s1 => by
    have : (1000 : Nat) < sizeLine := by decide
    refine ⟨by rw [List.length_map]; omega, fun p hp => q.2 p _ (s1.trans (same_upd hp)) upd_same⟩⟩
theorem pe_yb {b : Bool} : PE X (.Constant (.bool b) j pos) (tYes R b) := PE.imp pe_bl fun σ H Q q => q.2 H (Same.refl H)
/-- a variable that holds the datum d -/
def RV (i : Nat) (d : PyData) : L2.St → Hp → Prop := fun σ H => ∃ v, σ[i]? = some (some v) ∧ Dt (fun _ => True) H v d
theorem rv_st {i : Nat} {d : PyData} : Stays (RV i d) := ⟨fun σ H H' s ⟨v, e, h⟩ => ⟨v, e, h.mv (fun _ z => z) fun b o _ z => s b o z⟩⟩
theorem true_st : Stays (fun _ _ => True) := ⟨fun _ _ _ _ _ => trivial⟩
theorem pe_lv (i : Nat) {d : PyData} (hN : X.N[i]? = some x := by rfl) (hv : Vis X.env.scope x := by first | exact Or.inl rfl | exact Or.inr (Or.inl rfl) | exact Or.inr (Or.inr rfl)) (hd : (x == ("__debug__" : Str)) = false := by decide)
    (hcd : (x == ("__classdict__" : Str)) = false := by decide) : PE X (.Name x pos) (tLit (RV i d) d) := PE.imp (pv i hN hv hd hcd) fun σ H Q q => by
  obtain ⟨⟨v, e, h⟩, q⟩ := q
  exact ⟨v, e, q v H (Same.refl H) h⟩
end
/-- three ifs, one in another -/
def threeD : PyData := .tuple [.tuple [.str "if", .str "p", .str "a", .tuple [.tuple [.str "if", .str "p", .str "a", .tuple [], .tuple [.tuple [.str "if", .str "q", .str "b", .tuple [.tuple [.str "put", .str "a"]], .tuple []]]]], .tuple []]]
end OM

namespace OM
open PySem PySem.Spec PyProof.Rows L2 LamX
def boolsD (bs : List Bool) : PyData := .list (bs.map .bool)
theorem dp_all {K : PySem.W.Frag} {H : Hp} : ∀ bs : List Bool, DpAll K H (bs.map V.bl) (bs.map PyData.bool)
  | [] => .nil
  | b :: r => .cons (.bl b) (dp_all r)
theorem dp_bools {K : PySem.W.Frag} {H : Hp} {p : Addr} {bs : List Bool} (e : H p = some (.lst (bs.map V.bl))) : Dp K H (.ref p) (boolsD bs) := .lst (SqL.of e) (dp_all bs)
theorem lay_bools : ∀ bs : List Bool, PyData.canLayAll0 (bs.map .bool) = true
  | [] => rfl
  | b :: r => by
    show (PyData.canLay0 (.bool b) && PyData.canLayAll0 (r.map .bool)) = true
    rw [lay_bools r]
    rfl
theorem dep_bools : ∀ bs : List Bool, PyData.depthAll (bs.map .bool) = 0
  | [] => rfl
  | b :: r => by
    show max (PyData.depth (.bool b)) (PyData.depthAll (r.map .bool)) = 0
    rw [dep_bools r]
    rfl
theorem eqv_bools : ∀ bs : List Bool, PyData.eqvAll (bs.map .bool) (bs.map .bool) = true
  | [] => rfl
  | b :: r => by
    show (PyData.eqv (.bool b) (.bool b) && PyData.eqvAll (r.map .bool) (r.map .bool)) = true
    rw [eqv_bools r]
    cases b <;> rfl
theorem shaped_bools (bs : List Bool) : SeqAt.shaped (boolsD bs) = true := by
  show (PyData.canLay0 (.list (bs.map .bool)) && decide (PyData.depth (.list (bs.map .bool)) ≤ 64)) = true
  have h1 : PyData.canLay0 (.list (bs.map .bool)) = true := by
    unfold PyData.canLay0
    exact lay_bools bs
  have h2 : PyData.depth (.list (bs.map .bool)) ≤ 64 := by
    unfold PyData.depth
    rw [dep_bools]
    decide
  rw [h1, decide_eq_true h2]
  rfl
theorem eqv_same (bs : List Bool) : PyData.eqv (boolsD bs) (boolsD bs) = true := by
  show PyData.eqv (.list (bs.map .bool)) (.list (bs.map .bool)) = true
  unfold PyData.eqv
  exact eqv_bools bs
def spLaw (K : PySem.W.Frag) (T : List (Addr × Str)) : Sp := fun vs H Q _ => ∃ (a : Addr) (ns : List Int), vs = [.ref a] ∧ ns.length ≤ 63 ∧ SqL K H a (ns.map V.int) ∧ Tabs T H ∧ ∀ H', Q (.bl true) H'
theorem seq_ext {K : PySem.W.Frag} {H H1 H2 : Hp} {a p : Addr} {xs : List V} (h : SqL K H a xs) (n : H p = none) (s : Same H H1) (b : ExtB p H1 H2) : SqL K H2 a xs := by
  rcases h with (h | ⟨o, h⟩) | h
  · exact .inl (.inl (b _ _ (ne_of_none h n) (s _ _ h) (fun _ z => nomatch z)))
  · exact .inl (.inr ⟨o, b _ _ (ne_of_none h n) (s _ _ h) (fun _ z => nomatch z)⟩)
  · exact .inr h
section
variable {P : Program} {w : World} {K : PySem.W.Frag} {mg : Str → Option Value} {base : Heap} {T : List (Addr × Str)} {g fD fR fIC : Addr} {gd dD dR dIC : FuncData}
end
end OM

namespace OM
open PySem PySem.Spec PyProof.Rows L2
/-! ### things written out, laid anew -/
def fLit (R : L2.St → Hp → Prop) (d : PyData) : TE := fun σ H Q => R σ H ∧ ∀ v H', Same H H' → Dt (fun b => H b = none) H' v d → Q v H'
def fLits (R : L2.St → Hp → Prop) (ds : List PyData) : TA := fun σ H Q => R σ H ∧ ∀ vs H', Same H H' → DtAll (fun b => H b = none) H' vs ds → Q vs H'
def fItems (R : L2.St → Hp → Prop) (ds : List PyData) : TE := fun σ H Q => R σ H ∧ ∀ p vs H', Same H H' → H p = none → H' p = some (.lst vs) → DtAll (fun b => H b = none) H' vs ds → Q (.ref p) H'
/-- a choice among things written out; the dice in slot 0 -/
def tOne (R : L2.St → Hp → Prop) (ds : List PyData) : TE := fun σ H Q => ∃ d : Addr, σ[0]? = some (some (.ref d)) ∧ Dice H d ∧ R σ H ∧ ∀ v H' e, But d H H' → Dice H' d → e ∈ ds → Dt (fun b => H b = none) H' v e → Q v H'
section
variable {X : Cx} {R : L2.St → Hp → Prop} {e : Expr} {es : List Expr} {j k : Nat} {pos p p2 lp : Pos} {x : Str}
theorem pe_fs : PE X (.Constant (.str x) j pos) (fLit R (.str x)) := PE.imp pe_str fun σ H Q q => q.2 _ H (Same.refl H) (.at (.str x))
theorem pa_fn : PA X [] (fLits R []) := PA.imp pa_nil fun σ H Q q => q.2 _ H (Same.refl H) .nil
theorem pa_fc (S : Stays R) {d : PyData} {ds : List PyData} (h : PE X e (fLit R d)) (r : PA X es (fLits R ds)) (he : starEach (e :: es) X.env = (false, eval e X.env) :: starEach es X.env := by rfl) : PA X (e :: es) (fLits R (d :: ds)) :=
  PA.imp (pa_cons h r he) fun σ H Q q => ⟨q.1, fun v H1 s1 d1 => ⟨S.st _ _ _ s1 q.1, fun vs H2 s2 d2 => q.2 _ H2 (s1.trans s2) (.cons (d1.mv (fun _ z => z) fun b o _ z => s2 b o z) (d2.mv (fun _ z => s1.free z) fun _ _ _ z => z))⟩⟩
theorem pe_ft {ds : List PyData} (h : PA X es (fLits R ds)) (hl : ds.length ≤ 1000 := by decide) : PE X (.Tuple es k pos) (fLit R (.tuple ds)) :=
  PE.imp (pe_tup h) fun σ H Q q => ⟨q.1, fun vs H1 s1 d1 => by
    have l := d1.length
    have : (1000 : Nat) < sizeLine := by decide
    refine ⟨by omega, fun p hp => q.2 _ _ (s1.trans (same_upd hp)) (.tup (s1.free hp) upd_same (by omega) (d1.mv (fun _ z => z) fun b o _ z => same_upd hp b o z))⟩⟩
theorem pe_fl {ds : List PyData} (h : PA X es (fLits R ds)) (hl : ds.length ≤ 1000 := by decide) : PE X (.List es pos) (fItems R ds) :=
  PE.imp (pe_lst h) fun σ H Q q => ⟨q.1, fun vs H1 s1 d1 => by
    have l := d1.length
    have : (1000 : Nat) < sizeLine := by decide
    exact ⟨by omega, fun p hp => q.2 p vs _ (s1.trans (same_upd hp)) (s1.free hp) upd_same (d1.mv (fun _ z => z) fun b o _ z => same_upd hp b o z)⟩⟩
theorem pe_fv (i : Nat) {y : Str} (hR : ∀ σ H, R σ H → σ[i]? = some (some (.str y))) (hN : X.N[i]? = some x := by rfl) (hv : Vis X.env.scope x := by first | exact Or.inl rfl | exact Or.inr (Or.inl rfl) | exact Or.inr (Or.inr rfl)) (hd : (x == ("__debug__" : Str)) = false := by decide)
    (hcd : (x == ("__classdict__" : Str)) = false := by decide) : PE X (.Name x pos) (fLit R (.str y)) := PE.imp (pv i hN hv hd hcd) fun σ H Q q => ⟨_, hR σ H q.1, q.2 _ H (Same.refl H) (.at (.str y))⟩
theorem pe_one5 {f : Addr} {fd : FuncData} {n : Nat} {ds : List PyData} {dn : Str} (G : FnOk X.prog X.w X.K X.mg X.base CX0 n f fd ["_law_dice_here", "_law_items"] (spOneOf X.K)) (hr : Room n X.A) (hg : Gl X "_law_one_of") (gF : X.mg "_law_one_of" = some (.ref f)) (kF : PySem.W.keepIn X.K (.ref f) = true) (bF : Binds X.K fd ["_law_dice_here", "_law_items"] [])
    (hd : PE X (.Name dn p2) (tVar 0)) (h : PE X (.List es lp) (fItems R ds)) (h0 : 0 < ds.length ∧ ds.length ≤ 1000) (h1 : starEach [.Name dn p2, .List es lp] X.env = (false, eval (.Name dn p2) X.env) :: starEach [.List es lp] X.env := by rfl) (h2 : starEach [.List es lp] X.env = (false, eval (.List es lp) X.env) :: starEach [] X.env := by rfl)
    (hpl : (backTo pos (starEach [.List es lp] X.env)).any (·.1) = false := by rfl) : PE X (.Call (.Name "_law_one_of" p) [.Name dn p2, .List es lp] [] pos) (tOne R ds) :=
  PE.imp (pe_call G hr hg gF kF bF .nil pass0 (pa_cons hd (pa_cons h pa_nil h2) h1) (he := h1) (hpl := hpl)) fun σ H Q ⟨d, e0, hD, hR, q⟩ => by
    refine ⟨_, e0, hR, fun pl vs H1 s1 np ep dv => ?_⟩
    have dne : H d ≠ none := hD.ne
    have l := dv.length
    refine ⟨d, pl, vs, rfl, hD.mv s1, SqL.of ep, fun _ z => dne (by rw [← z]; exact np), by omega, by omega, fun H2 i v hv b2 hd2 => ?_⟩
    obtain ⟨e, he, hde⟩ := dv.get hv
    exact q v H2 e (fun b o hb eo => b2 b o hb (s1 b o eo)) hd2 (List.mem_of_getElem? he) (hde.mv (fun _ z => z) fun b o hb eo => b2 b o (fun z => dne (by rw [← z]; exact hb)) eo)
end
/-! ### a drawn statement -/
abbrev sSome : Stmt := top 58
def roomO (r : Nat) : HO := .lst [.int (r : Int)]
def spSomeAt : Nat → Sp
  | 0 => fun _ _ _ _ => False
  | n + 1 => fun vs H Q _ => ∃ (d q : Addr) (r : Nat), vs = [.ref d, .int (n : Int), .ref q] ∧ Dice H d ∧ H q = some (roomO r) ∧ q ≠ d ∧ ∀ v H' e r', But2 d q H H' → Dice H' d → H' q = some (roomO r') → r' ≤ r → rowD (cdOf n) e = true → smlD e = true → (flatS n e).length + 6 * r' ≤ 1 + 6 * r → Dt (fun b => H b = none) H' v e → Q v H'
/-- drawn code: its statements one by one -/
def tCode5 (n : Nat) : TE := fun σ H Q => ∃ (d q : Addr) (r : Nat) (x3 x4 x5 x6 : Option V), σ = [some (.ref d), some (.int ((n : Int) + 1)), some (.ref q), x3, x4, x5, x6] ∧ Dice H d ∧ H q = some (roomO r) ∧ q ≠ d ∧
  ∀ v H' ds r', But2 d q H H' → Dice H' d → H' q = some (roomO r') → r' ≤ r → ds.all (rowD (cdOf n)) = true → smlAll ds = true → (flatN n ds).length + 6 * r' ≤ 3 + 6 * r → Dt (fun b => H b = none) H' v (.tuple ds) → Q v H'
section
variable {P : Program} {w : World} {K : PySem.W.Frag} {mg : Str → Option Value} {base : Heap} {f fR fO : Addr} {fd fdR fdO : FuncData}
abbrev nSome : List Str := ["_law_dice_here", "_law_deep", "_law_room", "_law_way", "_law_cell", "_law_yes", "_law_turn"]
theorem scSo : FnScope nSome ["_law_dice_here", "_law_deep", "_law_room"] (defScope sSome) := ⟨rfl, rfl, rfl, by decide +kernel, rfl, by decide +kernel, by decide +kernel⟩
end
end OM

namespace OM
open PySem PySem.Spec PyProof.Rows L2
/-- the cell drawn, in its slot -/
def RC (y : Str) : L2.St → Hp → Prop := fun σ _ => σ[4]? = some (some (.str y))
theorem rc_st {y : Str} : Stays (RC y) := ⟨fun _ _ _ _ h => h⟩
theorem pe_ex {X : Cx} {e : Expr} {α : Type} {t : α → TE} (h : ∀ c, PE X e (t c)) : PE X e (fun σ H Q => ∃ c, t c σ H Q) := ⟨fun pins s σ H Q I ⟨c, q⟩ => (h c).run pins s σ H Q I q⟩
def strsOf (ws : List Str) : List PyData := ws.map PyData.str
def args5 : List PyData := [.tuple [.str "a"], .tuple [.str "a", .str "b"], .tuple [.str "b"], .tuple []]
def last5 (c : Str) : List PyData := [.tuple [.str "read", .str "a", .str c], .tuple [.str "write", .str c, .str "a"], .tuple [.str "copy", .str "a", .str "b"], .tuple [.str "read", .str "a", .str "x"]]
def rowP (e : PyData) : Bool := match e with
  | .tuple (.str w :: r) => decide (w ≠ "if") && (decide (w ≠ "set") && (decide ((r.length : Int) = lenI w) && (r.all isNameD && (smlD e && (inner2 e).isEmpty))))
  | _ => false
theorem rowP_ok {e : PyData} (h : rowP e = true) (n : Nat) : rowD (cdOf n) e = true ∧ smlD e = true ∧ (flatS n e).length = 1 := by
  unfold rowP at h
  split at h
  · rename_i w r
    simp only [Bool.and_eq_true, decide_eq_true_eq] at h
    obtain ⟨h1, h2, h3, h4, h5, h6⟩ := h
    have row : rowD (cdOf n) (.tuple (.str w :: r)) = true := by
      rw [row_plain h1 h2, h4, decide_eq_true h3]
      rfl
    refine ⟨row, h5, ?_⟩
    rw [flatS_row row, List.isEmpty_iff.mp h6]
    rfl
  · cases h
theorem last_ok : ∀ c ∈ (["x", "y", "z", "w", "v"] : List Str), ∀ e ∈ last5 c, rowP e = true := by decide +kernel
theorem two_ok : ∀ w ∈ (["get", "put"] : List Str), rowP (.tuple [.str w, .str "a"]) = true := by decide +kernel
theorem args_ok : ∀ e ∈ args5, argsD e = true ∧ smlD e = true := by decide +kernel
theorem set_ok {e : PyData} (h : e ∈ args5) (n : Nat) : rowD (cdOf n) (.tuple [.str "set", .str "a", .str "f", e]) = true ∧ smlD (.tuple [.str "set", .str "a", .str "f", e]) = true ∧ (flatS n (.tuple [.str "set", .str "a", .str "f", e])).length = 1 := by
  obtain ⟨a1, a2⟩ := args_ok e h
  have row : rowD (cdOf n) (.tuple [.str "set", .str "a", .str "f", e]) = true := by
    rw [row_set, a1]
    decide +kernel
  refine ⟨row, ?_, ?_⟩
  · rw [sml_tup]
    show (smlD (.str "set") && (smlD (.str "a") && (smlD (.str "f") && (smlD e && true)))) = true
    rw [a2]
    decide +kernel
  · have i0 : (inner2 (.tuple [.str "set", .str "a", .str "f", e])).isEmpty = true := (by decide +kernel : ∀ e ∈ args5, (inner2 (.tuple [.str "set", .str "a", .str "f", e])).isEmpty = true) e h
    rw [flatS_row row, List.isEmpty_iff.mp i0]
    rfl
theorem if_ok {m : Nat} {ys ns : List PyData} (hy : ys.all (rowD (cdOf m)) = true) (hn : ns.all (rowD (cdOf m)) = true) (sy : smlAll ys = true) (sn : smlAll ns = true) :
    rowD (cdOf (m + 1)) (.tuple [.str "if", .str "p", .str "a", .tuple ys, .tuple ns]) = true ∧ smlD (.tuple [.str "if", .str "p", .str "a", .tuple ys, .tuple ns]) = true ∧ (flatS (m + 1) (.tuple [.str "if", .str "p", .str "a", .tuple ys, .tuple ns])).length = 1 + ((flatN m ys).length + (flatN m ns).length) := by
  have cy : cdOf (m + 1) (.tuple ys) = true := (codeD_tup m ys).trans hy
  have cn : cdOf (m + 1) (.tuple ns) = true := (codeD_tup m ns).trans hn
  have row : rowD (cdOf (m + 1)) (.tuple [.str "if", .str "p", .str "a", .tuple ys, .tuple ns]) = true := by
    rw [row_if, cy, cn]
    decide +kernel
  refine ⟨row, ?_, ?_⟩
  · rw [sml_tup]
    show (smlD (.str "if") && (smlD (.str "p") && (smlD (.str "a") && (smlD (.tuple ys) && (smlD (.tuple ns) && true))))) = true
    rw [sml_tup, sml_tup, sy, sn]
    decide +kernel
  · rw [flatS_row row]
    show (PyData.tuple [.str "if", .str "p", .str "a", .tuple ys, .tuple ns] :: [ys, ns].flatMap (flatN m)).length = _
    rw [List.length_cons, List.flatMap_cons, List.flatMap_cons, List.flatMap_nil, List.append_nil, List.length_append]
    omega
theorem dt_str {S : Addr → Prop} {H : Hp} {v : V} {x : Str} (h : Dt S H v (.str x)) : v = .str x := by
  cases h with
  | «at» a => cases a; rfl
section
variable {P : Program} {w : World} {K : PySem.W.Frag} {mg : Str → Option Value} {base : Heap} {f fR fO : Addr} {fd fdR fdO : FuncData}
theorem code_rd {m : Nat} (σ : L2.St) (H : Hp) (Q : VK) (z : tCode5 m σ H Q) : tCB (fun xs H Q => ∃ p ys, xs = [V.ref p] ∧ ((SqL K H p ys ∧ ∀ l, H l = none → Q (.ref l) (upd H l (.tup ys))) ∨ SqT K H p ys ∧ Q (.ref p) H))
    (tCons (tLc (iRng1 (tCons (tCall spRoll [] E0 (tCons (tVar 0) (tCons (tC (.int 4)) tNil))) tNil)) (gName 6) L2.tYes (tCall (spSomeAt (m + 1)) [] E0 (tCons (tVar 0) (tCons (tOp (rI0 fun i j => V.int (i - j)) (tVar 1) (tC (.int 1))) (tCons (tVar 2) tNil)))) [6]) tNil) σ H Q := by
  obtain ⟨d, q, r, x3, x4, x5, x6, rfl, hd, hq, ne, c⟩ := z
  have dn : ∀ {G : Hp}, Dice G d → G d ≠ none := fun {G} h => h.ne
  have free : ∀ {G : Hp} {r' : Nat}, But2 d q H G → Dice G d → G q = some (roomO r') → ∀ b, G b = none → H b = none := fun {G r'} bt hdg hqg b hb => by
    cases y : H b with
    | none => rfl
    | some o =>
      by_cases e1 : b = d
      · subst e1
        exact absurd hb (dn hdg)
      · by_cases e2 : b = q
        · subst e2
          rw [hqg] at hb
          cases hb
        · rw [bt b o e1 e2 y] at hb
          cases hb
  refine ⟨_, rfl, d, 4, rfl, hd, by decide, by decide, fun H1 k k0 k1 b1 hd1 => ⟨k, rfl, by omega, by omega, fun D hD => ?_⟩⟩
  have Dd : D ≠ d := fun z => dn hd1 (by rw [← z]; exact hD)
  have hq1 : H1 q = some (roomO r) := b1 _ _ ne hq
  have Dq : D ≠ q := fun z => by
    rw [z, hq1] at hD
    cases hD
  have sD := same_upd (o := .lst []) hD
  have hD0 : H D = none := free b1.two hd1 hq1 D hD
  refine lc_range (fun i G => But2 d q H G ∧ Dice G d ∧ ∃ r' vs ds, G q = some (roomO r') ∧ r' ≤ r ∧ G D = some (.lst vs) ∧ DtAll (fun b => H b = none ∧ b ≠ D) G vs ds ∧ ds.all (rowD (cdOf m)) = true ∧ smlAll ds = true ∧ ds.length = i ∧ (flatN m ds).length + 6 * r' ≤ i + 6 * r)
    ⟨b1.two.trans (Same.two sD), hd1.mv sD, r, [], [], sD _ _ hq1, Nat.le_refl _, upd_same, .nil, rfl, rfl, rfl, by show 0 + 6 * r ≤ 0 + 6 * r; omega⟩ (fun i G hi h => ?_) (fun G h => ?_)
  · obtain ⟨bt, hdG, r', vs, ds, eq, hr', eD, dall, rows, sm, hl, wt⟩ := h
    have em : ((m : Int) + 1) - 1 = (m : Int) := by omega
    have ev : [V.ref d, .int (((m : Int) + 1) - 1), .ref q] = [V.ref d, .int (m : Int), .ref q] := by rw [em]
    refine ⟨rfl, _, rfl, _, rfl, _, _, rfl, rfl, _, rfl, d, q, r', ev, hdG, eq, ne, fun v G2 e r2 b2 hd2 eq2 h2 row smE wt2 dv => ?_⟩
    have hv := dall.length
    have eD2 := b2 _ _ Dd Dq eD
    have freeG := free bt hdG eq
    refine ⟨vs, eD2, ?_, ?_, ?_, r2, vs ++ [v], ds ++ [e], ?_, by omega, upd_same, ?_, ?_, ?_, ?_, ?_⟩
    · have : (1000 : Nat) < sizeLine := by decide
      omega
    · intro b o h1 h3 eb
      rw [upd_ne (ne_of_none eb hD0)]
      exact b2 b o h1 h3 (bt b o h1 h3 eb)
    · obtain ⟨a1, a2, a3, e3⟩ := hd2
      exact ⟨a1, a2, a3, by rw [upd_ne (Ne.symm Dd)]; exact e3⟩
    · rw [upd_ne (Ne.symm Dq)]
      exact eq2
    · refine DtAll.snoc (dall.strong fun b o hb eo => ⟨hb, ?_⟩) (dv.strong fun b o hb eo => ?_)
      · rw [upd_ne hb.2]
        exact b2 b o (fun z => dn hd (by rw [← z]; exact hb.1)) (fun z => by rw [z, hq] at hb; cases hb.1) eo
      · have hb' : G b = none := hb
        have bD : b ≠ D := fun z => by
          rw [z, eD] at hb'
          cases hb'
        exact ⟨⟨freeG b hb', bD⟩, by rw [upd_ne bD]; exact eo⟩
    · rw [List.all_append, rows]
      show (true && (rowD (cdOf m) e && true)) = true
      rw [row]
      rfl
    · rw [smlAll_app, sm]
      show (true && (smlD e && true)) = true
      rw [smE]
      rfl
    · rw [List.length_append, hl]
      rfl
    · have e9 : flatN m (ds ++ [e]) = flatN m ds ++ flatS m e := by
        unfold flatN
        rw [List.flatMap_append]
        simp
      rw [e9, List.length_append]
      omega
  · obtain ⟨bt, hdG, r', vs, ds, eq, hr', eD, dall, rows, sm, hl, wt⟩ := h
    refine ⟨D, vs, rfl, .inl ⟨SqL.of eD, fun tp htp => ?_⟩⟩
    have st := same_upd (o := .tup vs) htp
    have lv := dall.length
    refine c (.ref tp) _ ds r' (bt.trans (Same.two st)) (hdG.mv st) (st _ _ eq) hr' rows sm (by omega) (.tup (free bt hdG eq tp htp) upd_same (by omega) (dall.strong fun b o hb eo => ⟨hb.1, st _ _ eo⟩))
theorem some_step {n j : Nat} (F : Fun K "_law_some" "_law_some" sSome f fd) (D : DiceF K mg fR fO fdR fdO) (tup : mg "tuple" = none) (rng : mg "range" = none) (gF : mg "_law_some" = some (.ref f)) (bF : Binds K fd ["_law_dice_here", "_law_deep", "_law_room"] [])
    (G : FnOk P w K mg base CX0 (j + 2) f fd ["_law_dice_here", "_law_deep", "_law_room"] (spSomeAt n)) : FnOk P w K mg base CX0 (j + 3) f fd ["_law_dice_here", "_law_deep", "_law_room"] (spSomeAt (n + 1)) := by
  have GR : FnOk P w K mg base CX0 1 fR fdR ["_law_dice_here", "_law_total"] spRoll := ok_roll D.FR D.T
  have GO : FnOk P w K mg base CX0 2 fO fdO ["_law_dice_here", "_law_items"] (spOneOf K) := ok_oneof D.FO D.T D.FR D.gR D.bR
  refine F.ok scSo (fun vs H Q E h => ?_) (fun cdv A outer s H vs Q E hr h => ?_)
  · obtain ⟨d, q, r, rfl, _⟩ := h
    rfl
  · obtain ⟨d, q, r, rfl, hd, hq, ne, c⟩ := h
    refine ⟨_, pss_cons (ps_par (i := 3) (j := 4) rfl scSo.nd rfl rfl (by decide) (by rfl) (by rfl) (pa_cons (pe_call GR (hr.mono (by omega)) (by rfl) D.gR D.FR.kp D.bR .nil pass0 (pa_cons (pv 0) (pa_cons pe_int pa_nil)))
        (pa_cons (pe_one5 (R := fun _ _ => True) (ds := strsOf ["x", "y", "z", "w", "v"]) GO (hr.mono (by omega)) (by rfl) D.gO D.FO.kp D.bO (pv 0) (pe_fl (pa_fc true_st pe_fs (pa_fc true_st pe_fs (pa_fc true_st pe_fs (pa_fc true_st pe_fs (pa_fc true_st pe_fs pa_fn)))))) (by decide)) pa_nil)) (by rfl))
      (pss_cons (ps_if (pt_cmpR op_lt (pv 3) pe_int (nomark _)) (pss_one (ps_ret (pe_tup (pa_cons (pe_one5 (R := fun _ _ => True) (ds := strsOf ["get", "put"]) GO (hr.mono (by omega)) (by rfl) D.gO D.FO.kp D.bO (pv 0) (pe_fl (pa_fc true_st pe_fs (pa_fc true_st pe_fs pa_fn))) (by decide)) (pa_cons pe_str pa_nil))))) pss_nil)
      (pss_cons (ps_if (pt_cmpR op_lt (pv 3) pe_int (nomark _)) (pss_one (ps_ret (pe_tup (pa_cons pe_str (pa_cons pe_str (pa_cons pe_str (pa_cons (pe_one5 (R := fun _ _ => True) (ds := args5) GO (hr.mono (by omega)) (by rfl) D.gO D.FO.kp D.bO (pv 0)
          (pe_fl (pa_fc true_st (pe_ft (pa_fc true_st pe_fs pa_fn)) (pa_fc true_st (pe_ft (pa_fc true_st pe_fs (pa_fc true_st pe_fs pa_fn))) (pa_fc true_st (pe_ft (pa_fc true_st pe_fs pa_fn)) (pa_fc true_st (pe_ft pa_fn) pa_fn))))) (by decide)) pa_nil))))))) pss_nil)
      (pss_cons (ps_if (PW.pt (pw_and (pt_cmpR op_lt (pv 3) pe_int (nomark _)) (pw_and (pt_cmpR op_gt (pv 1) pe_int (nomark _)) (pw_and1 (pt_cmpR op_gt (pe_ix ix_list (pv 2) pe_int (fun _ _ => rfl)) pe_int (nomark _))))))
        (pss_cons (ps_asg (pe_op op_sub (pe_ix ix_list (pv 2) pe_int (fun _ _ => rfl)) pe_int) (pg_sub (pv 2) pe_int L2.set_list))
        (pss_cons (ps_set (i := 5) scSo.nd rfl (Or.inl rfl) (PE.imp (t' := fun σ H Q => ∃ m, n = m + 1 ∧ tCode5 m σ H Q) (pe_callTy call_tuple_of (by rfl) tup (by decide +kernel) (pa_cons (pe_lc (own := [("_law_turn", 6)]) rfl scSo.nd (pi_range1 (by rfl) rng (pa_cons (pe_call GR (hr.mono (by omega)) (by rfl) D.gR D.FR.kp D.bR .nil pass0 (pa_cons (pv 0) (pa_cons pe_int pa_nil))) pa_nil))
            (blkOk_by (N := nSome) (sc := defScope sSome) (by decide +kernel)) (fun _ _ _ _ _ => pg_name (i := 6) scSo.nd rfl (Or.inl rfl)) (fun _ _ _ _ _ => pts_nil) (fun _ _ _ _ _ => pe_call G hr (by rfl) gF F.kp bF .nil pass0 (pa_cons (pv 0) (pa_cons (pe_op op_sub (pv 1) pe_int) (pa_cons (pv 2) pa_nil))))) pa_nil)) ?rd1))
        (pss_one (ps_ret (pe_tup (pa_cons pe_str (pa_cons pe_str (pa_cons pe_str (pa_cons (pv 5) (pa_cons (PE.imp (t' := fun σ H Q => ∃ m, n = m + 1 ∧ tCode5 m σ H Q) (pe_callTy call_tuple_of (by rfl) tup (by decide +kernel) (pa_cons (pe_lc (own := [("_law_turn", 6)]) rfl scSo.nd (pi_range1 (by rfl) rng (pa_cons (pe_call GR (hr.mono (by omega)) (by rfl) D.gR D.FR.kp D.bR .nil pass0 (pa_cons (pv 0) (pa_cons pe_int pa_nil))) pa_nil))
            (blkOk_by (N := nSome) (sc := defScope sSome) (by decide +kernel)) (fun _ _ _ _ _ => pg_name (i := 6) scSo.nd rfl (Or.inl rfl)) (fun _ _ _ _ _ => pts_nil) (fun _ _ _ _ _ => pe_call G hr (by rfl) gF F.kp bF .nil pass0 (pa_cons (pv 0) (pa_cons (pe_op op_sub (pv 1) pe_int) (pa_cons (pv 2) pa_nil))))) pa_nil)) ?rd2) pa_nil)))))))))) pss_nil)
      (pss_one (ps_ret (pe_ex fun c => pe_one5 (ds := last5 c) (R := RC c) GO (hr.mono (by omega)) (by rfl) D.gO D.FO.kp D.bO (pv 0) (pe_fl (pa_fc rc_st (pe_ft (pa_fc rc_st pe_fs (pa_fc rc_st pe_fs (pa_fc rc_st (pe_fv 4 (fun _ _ z => z)) pa_fn))) (by show 3 ≤ 1000; decide)) (pa_fc rc_st (pe_ft (pa_fc rc_st pe_fs (pa_fc rc_st (pe_fv 4 (fun _ _ z => z)) (pa_fc rc_st pe_fs pa_fn))) (by show 3 ≤ 1000; decide))
          (pa_fc rc_st (pe_ft (pa_fc rc_st pe_fs (pa_fc rc_st pe_fs (pa_fc rc_st pe_fs pa_fn)))) (pa_fc rc_st (pe_ft (pa_fc rc_st pe_fs (pa_fc rc_st pe_fs (pa_fc rc_st pe_fs pa_fn)))) pa_fn)))) (by show 4 ≤ 1000; decide)) (by show 0 < 4 ∧ 4 ≤ 1000; decide))))))), ?_⟩
    case rd1 =>
      rintro σ H Q ⟨m, rfl, z⟩
      exact code_rd σ H Q z
    case rd2 =>
      rintro σ H Q ⟨m, rfl, z⟩
      exact code_rd σ H Q z
    have dn : ∀ {G : Hp}, Dice G d → G d ≠ none := fun {G} h => h.ne
    have free : ∀ {G : Hp} {r' : Nat}, But2 d q H G → Dice G d → G q = some (roomO r') → ∀ b, G b = none → H b = none := fun {G r'} bt hdg hqg b hb => by
      cases y : H b with
      | none => rfl
      | some o =>
        by_cases e1 : b = d
        · subst e1
          exact absurd hb (dn hdg)
        · by_cases e2 : b = q
          · subst e2
            rw [hqg] at hb
            cases hb
          · rw [bt b o e1 e2 y] at hb
            cases hb
    have leaf : ∀ {G : Hp} {p9 : Addr} {vs : List V} {ds : List PyData} {r' : Nat}, But2 d q H G → Dice G d → G q = some (roomO r') → r' ≤ r → G p9 = none → vs.length ≤ 1000 → DtAll (fun b => H b = none) (upd G p9 (.tup vs)) vs ds → rowD (cdOf n) (.tuple ds) = true → smlD (.tuple ds) = true → (flatS n (.tuple ds)).length + 6 * r' ≤ 1 + 6 * r → Q (.ref p9) (upd G p9 (.tup vs)) :=
      fun {G p9 vs ds r'} bt hdG hr' h1 hp9 hv dall row sm wt => by
        have s9 := same_upd (o := .tup vs) hp9
        exact c (.ref p9) _ _ r' (bt.trans (Same.two s9)) (hdG.mv s9) (s9 _ _ hr') h1 row sm wt (.tup (free bt hdG hr' p9 hp9) upd_same hv dall)
    refine ⟨_, rfl, d, 12, rfl, hd, by decide, by decide, fun H1 wy w0 w1 b1 hd1 => ?_⟩
    refine ⟨d, rfl, hd1, trivial, fun v1 H2 e1 b2 hd2 he1 dv1 => ⟨_, _, rfl, ?_⟩⟩
    obtain ⟨cell, hcell, rfl⟩ := List.mem_map.mp he1
    obtain rfl := dt_str dv1
    have b1 : But d H H1 := b1
    have t2' : But d H H2 := b1.tr b2
    have t2 : But2 d q H H2 := t2'.two
    have q2 : H2 q = some (roomO r) := t2' _ _ ne hq
    refine ⟨_, rfl, wy, 4, rfl, rfl, _, rfl, ite2 (fun h4 => ?_) (fun h4 => ?_)⟩
    · refine ⟨d, rfl, hd2, trivial, fun v3 H3 e3 b3 hd3 he3 dv3 => ⟨(by show 2 ≤ sizeLine; decide), fun p hp => ?_⟩⟩
      obtain ⟨wd, hw, rfl⟩ := List.mem_map.mp he3
      obtain rfl := dt_str dv3
      obtain ⟨z1, z2, z3⟩ := rowP_ok (two_ok wd hw) n
      exact leaf (r' := r) ((t2'.tr b3).two) hd3 (b3 _ _ ne q2) (Nat.le_refl _) hp (by show 2 ≤ 1000; decide) (.cons (.at (.str _)) (.cons (.at (.str _)) .nil)) z1 z2 (by omega)
    refine ⟨_, rfl, wy, 7, rfl, rfl, _, rfl, ite2 (fun h7 => ?_) (fun h7 => ?_)⟩
    · refine ⟨d, rfl, hd2, trivial, fun v3 H3 e3 b3 hd3 he3 dv3 => ⟨(by show 4 ≤ sizeLine; decide), fun p hp => ?_⟩⟩
      obtain ⟨z1, z2, z3⟩ := set_ok he3 n
      have t3 := (t2'.tr b3).two (b := q)
      have q3 := b3 _ _ ne q2
      have f2 := free t2 hd2 q2
      exact leaf (r' := r) t3 hd3 q3 (Nat.le_refl _) hp (by show 4 ≤ 1000; decide) (.cons (.at (.str _)) (.cons (.at (.str _)) (.cons (.at (.str _)) (.cons (dv3.mv (fun b z => f2 b z) fun b o _ z => same_upd hp b o z) .nil)))) z1 z2 (by omega)
    apply cutP
    · intro rest
      refine ⟨_, rfl, wy, 9, rfl, rfl, _, rfl, ite2 (fun h9 => ⟨_, rfl, n, 0, rfl, rfl, _, rfl, ite2 (fun hn => ⟨_, rfl, q, _, _, _, rfl, rfl, SqL.of q2, rfl, _, _, rfl, rfl, _, rfl, ite2 (fun hl => ?_) (fun _ => rest)⟩) (fun _ => iteF rest)⟩) (fun _ => iteF rest)⟩
      have hr1 : 0 < r := by
        have y : (0 : Int) < (r : Int) := of_decide_eq_true hl
        omega
      have hn1 : 0 < n := by
        have y : (0 : Int) < (n : Int) := of_decide_eq_true hn
        omega
      obtain ⟨m, rfl⟩ : ∃ m, n = m + 1 := ⟨n - 1, by omega⟩
      refine ⟨_, rfl, q, _, _, _, rfl, rfl, SqL.of q2, rfl, _, _, rfl, rfl, _, rfl, q, _, _, 0, rfl, rfl, q2, rfl, ?_⟩
      have e5 : ((r - 1 : Nat) : Int) = (r : Int) - 1 := by omega
      have q5 : (upd H2 q (.lst [V.int ((r : Int) - 1)])) q = some (roomO (r - 1)) := by
        unfold roomO
        rw [e5]
        exact upd_same
      have hd5 : Dice (upd H2 q (.lst [V.int ((r : Int) - 1)])) d := by
        obtain ⟨a1, a2, a3, e⟩ := hd2
        exact ⟨a1, a2, a3, by rw [upd_ne (Ne.symm ne)]; exact e⟩
      have t5 : But2 d q H (upd H2 q (.lst [V.int ((r : Int) - 1)])) := fun b o h1 h2 e => by
        rw [upd_ne h2]
        exact t2 b o h1 h2 e
      refine ⟨m, rfl, d, q, r - 1, _, _, _, _, rfl, hd5, q5, ne, fun yv H6 ys r6 b6 hd6 q6 l6 hy sy wy6 dy => ?_⟩
      refine ⟨_, rfl, m, rfl, d, q, r6, _, _, _, _, rfl, hd6, q6, ne, fun nv H8 ns r8 b8 hd8 q8 l8 hn8 sn wn8 dn8 => ⟨(by show 5 ≤ sizeLine; decide), fun p9 hp9 => ?_⟩⟩
      have s9 := same_upd (o := .tup [.str "if", .str "p", .str "a", yv, nv]) hp9
      obtain ⟨z1, z2, z3⟩ := if_ok hy hn8 sy sn
      have t6 := t5.trans b6
      have f5 := free t5 hd5 q5
      have f6 := free t6 hd6 q6
      have dy' : Dt (fun b => H b = none) (upd H8 p9 (.tup [.str "if", .str "p", .str "a", yv, nv])) yv (.tuple ys) := dy.strong fun b o hb eo => by
        have hH := f5 b hb
        exact ⟨hH, s9 _ _ (b8 b o (fun z => dn hd (by rw [← z]; exact hH)) (fun z => by rw [z, hq] at hH; cases hH) eo)⟩
      have dn' : Dt (fun b => H b = none) (upd H8 p9 (.tup [.str "if", .str "p", .str "a", yv, nv])) nv (.tuple ns) := dn8.strong fun b o hb eo => ⟨f6 b hb, s9 _ _ eo⟩
      exact leaf (r' := r8) (t6.trans b8) hd8 q8 (by omega) hp9 (by show 5 ≤ 1000; decide) (.cons (.at (.str _)) (.cons (.at (.str _)) (.cons (.at (.str _)) (.cons dy' (.cons dn' .nil))))) z1 z2 (by omega)
    refine ⟨cell, d, rfl, hd2, rfl, fun v3 H3 e3 b3 hd3 he3 dv3 => ?_⟩
    obtain ⟨z1, z2, z3⟩ := rowP_ok (last_ok cell hcell e3 he3) n
    have f2 := free t2 hd2 q2
    exact c v3 H3 e3 r (t2'.tr b3).two hd3 (b3 _ _ ne q2) (Nat.le_refl _) z1 z2 (by omega) (dv3.mv (fun b z => f2 b z) fun _ _ _ z => z)
theorem ok_some (F : Fun K "_law_some" "_law_some" sSome f fd) (D : DiceF K mg fR fO fdR fdO) (tup : mg "tuple" = none) (rng : mg "range" = none) (gF : mg "_law_some" = some (.ref f)) (bF : Binds K fd ["_law_dice_here", "_law_deep", "_law_room"] []) :
    ∀ n, FnOk P w K mg base CX0 (n + 2) f fd ["_law_dice_here", "_law_deep", "_law_room"] (spSomeAt n)
  | 0 => ⟨fun _ _ _ _ h => h.elim, fun _ _ _ _ _ _ _ _ _ _ _ _ _ h => h.elim⟩
  | n + 1 => some_step (j := n) F D tup rng gF bF (ok_some F D tup rng gF bF n)
end
end OM

namespace OM
open PySem PySem.Spec PyProof.Rows L2
section
variable {X : Cx} {k : Nat} {C f : Addr} {fd : FuncData} {sp : Sp}
/-- a + b of two objects of an own class -/
theorem op_addI (hs : PySem.W.findIn X.K (.ref C) "__add__" = some (some (.ref f))) (hf : PySem.W.isFn X.K (.ref f) = true) (hc : PySem.W.selfFirst X.K C = true) (F : FnOk X.prog X.w X.K X.mg X.base CX0 k f fd ["self", "other"] sp) (hr : Room k X.A) (hb : Binds X.K fd ["self", "other"] []) :
    OpR X (binaryOp .Add) (fun x y H Q => ∃ (a b dx dy : Addr) (fs gs : List (Str × V)), x = .ref a ∧ y = .ref b ∧ H a = some (.ins C dx fs) ∧ H b = some (.ins C dy gs) ∧ sp [.ref a, .ref b] H (fun v H' => (∃ r, v = .ref r) ∧ Q v H') E0) := by
  intro pins s σ H x y v u Q I rx ry h
  obtain ⟨a, b, dx, dy, fs, gs, rfl, rfl, ea, eb, q⟩ := h
  obtain rfl : v = Value.ref a := rx
  obtain rfl : u = Value.ref b := ry
  obtain ⟨_, O, _⟩ := ins_get I.hok ea
  obtain ⟨_, O2, _⟩ := ins_get I.hok eb
  obtain ⟨od, J, _⟩ := O.look
  obtain ⟨od2, J2, _⟩ := O2.look
  obtain ⟨m, fr⟩ := I.fr
  refine PySem.W.binop_K fr I.ok.mod.kin J J2.type hc hs hf ?_
  have hbt := hb s [.ref a, .ref b] I.kIn rfl
  refine wpAny_call (codeAny_mono (F.run X.A X.stack s H ⟨[.ref a, .ref b], []⟩ [.ref a, .ref b] [.ref a, .ref b] _ E0 hr I.env0 (by simpa using hbt) (.cons rfl (.cons rfl .nil)) q) fun res z' hq => ?_)
  match res, hq with
  | .ok (.ret w), hq =>
    obtain ⟨v, H', I3, rv, ⟨r, er⟩, q3⟩ := I.after hq
    subst er
    obtain rfl : w = Value.ref r := rv
    exact ⟨.ref r, H', I3, rfl, q3⟩
  | .error er, hq => exact hq.elim
end
end OM

namespace OM
open PySem PySem.Spec PyProof.Rows L2
/-- the written empty tuple: a default -/
def Emp (K : PySem.W.Frag) (a : Addr) : Prop := ∃ (o : Obj) (n : Nat), K.lookup a = some o ∧ o.cls = .type "tuple" ∧ o.data = .seq #[] n
theorem Emp.seq {K : PySem.W.Frag} {a : Addr} {H : Hp} (h : Emp K a) : SqT K H a [] := by
  obtain ⟨o, n, h1, h2, h3⟩ := h
  exact .inr ⟨o, #[], n, h1, h2, h3, by decide, .nil⟩
theorem Emp.ty {K : PySem.W.Frag} {a : Addr} {H : Hp} (h : Emp K a) : TyX K H (.ref a) (.type "tuple") := by
  obtain ⟨o, n, h1, h2, h3⟩ := h
  exact .kTuple h1 h2
def spSet0 (K : PySem.W.Frag) : Sp := fun vs H Q _ => ∃ a : Addr, vs = [.ref a] ∧ Emp K a ∧ ∀ H', Same H H' → Q (.bl true) H'
def spKept0 (K : PySem.W.Frag) : Sp := fun vs H Q _ => ∃ a : Addr, vs = [.ref a] ∧ Emp K a ∧ ∀ H', Same H H' → Q (.bl true) H'
def spSI0 (K : PySem.W.Frag) (C cS : Addr) : Sp := fun vs H Q E => ∃ (S : Addr → Prop) (p dx k0 : Addr) (c : V) (dc : PyData), vs = [.ref p, c, .ref k0] ∧ H p = some (.ins C dx []) ∧ Dt S H c dc ∧ Emp K k0 ∧ smlD dc = true ∧ (codeD 3 dc = true → (flatN 3 (itemsD dc)).length ≤ 400) ∧
  (okD dc (.tuple []) = true → ∀ H', But p H H' → H' p = some (.ins C dx [("_code", c), ("_keeps", .ref k0)]) → Q .non H') ∧ (okD dc (.tuple []) = false → OutN E cS H)
section
variable {P : Program} {w : World} {K : PySem.W.Frag} {mg : Str → Option Value} {base : Heap} {f fI fS : Addr} {fd dI dS : FuncData}
theorem ok_isset0 (F : Fun K "is_set" "is_set" sIsSet f fd) (T : TxtN K mg) (TF : TxtF K w mg) (gI : mg "is_name" = some (.ref fI)) (FI : Fun K "is_name" "is_name" sIsName fI dI) (bI : Binds K dI ["value"] []) : FnOk P w K mg base CX0 2 f fd ["value"] (spSet0 K) := by
  have GI : FnOk P w K mg base CX0 1 fI dI ["value"] spName := ok_isname FI T
  refine F.ok scSet (fun vs H Q E h => ?_) (fun cdv A outer s H vs Q E hr h => ?_)
  · obtain ⟨a, rfl, _⟩ := h
    rfl
  · obtain ⟨a, rfl, ea, q⟩ := h
    refine ⟨_, pss_one (ps_ret (pe_and (pe_callB call_isi (by rfl) T.isi (by decide +kernel) (pa_cons (pv 0) (pa_cons (pe_bltn (v := .ty "tuple") (u := .type "tuple") (by rfl) TF.tup (by decide +kernel) rfl) pa_nil)))
      (pe_and (pe_callB (cr_all rfl) (by rfl) T.all (by decide +kernel) (pa_cons (pe_lc (own := [("name", 1)]) rfl scSet.nd (pi_tup (pv 0)) (blkOk_by (N := ["value", "name", "after"]) (sc := defScope sIsSet) (by decide +kernel))
            (fun _ _ _ _ _ => pg_name (i := 1) scSet.nd rfl (Or.inl rfl)) (fun _ _ _ _ _ => pts_nil) (fun _ _ _ _ _ => pe_call GI hr (by rfl) gI FI.kp bI .nil pass0 (pa_cons (pv 1) pa_nil))) pa_nil))
      (pe_one (pe_callB (cr_all rfl) (by rfl) T.all (by decide +kernel) (pa_cons (pe_lc (g := gTup K 2 (gCons (gName 1) (gCons (gName 2) gNil))) (own := [("name", 1), ("after", 2)]) rfl scSet.nd (RZ.pi_zipA (by rfl) TF.zip (pa_cons (pv 0) (pa_cons (pe_slice sl_tupA (pv 0) (po_some pe_int) po_none) pa_nil))) (blkOk_by (N := ["value", "name", "after"]) (sc := defScope sIsSet) (by decide +kernel))
            (fun _ _ _ _ _ => pg_tup rfl (pgs_cons (pg_name (i := 1) scSet.nd rfl (Or.inl rfl)) (pgs_cons (pg_name (i := 2) scSet.nd rfl (Or.inl rfl)) pgs_nil))) (fun _ _ _ _ _ => pts_nil) (fun _ _ _ _ _ => pe_cmpR op_lt_str (pv 1) (pv 2) (nomark _))) pa_nil)))))), ?_⟩
    refine isi_te (x := .ref a) rfl ea.ty (kit_tup (.tuple [])) ⟨_, rfl, iteT ?_⟩
    refine ⟨_, rfl, a, rfl, ⟨[], ea.seq⟩, fun Dl hD => lc_tup (PvM H Dl []) (PvM.zero hD) (fun i H' _ p => ea.seq) (fun i x H3 hi p => by simp at hi) (fun H5 p => ?_)⟩
    refine ⟨Dl, [], rfl, SqL.of p.2, _, rfl, iteT ?_⟩
    refine ⟨_, rfl, _, rfl, 1, rfl, a, [], rfl, ea.seq, fun hw => ?_, fun hn => absurd (And.intro rfl rfl) hn⟩
    refine ⟨a, a, [], [], rfl, .inr ⟨ea.seq, ea.seq, fun D2 hD2 => lc_zipS (Nat.le_refl _) (PvM H5 D2 []) (PvM.zero hD2) (fun i H' p => ⟨ea.seq, ea.seq⟩) (fun i x y T H3 hi _ _ _ => by simp at hi) (fun H6 p6 => ?_)⟩⟩
    exact ⟨D2, [], rfl, SqL.of p6.2, q _ (p.1.trans p6.1)⟩
theorem ok_kept0 (F : Fun K "is_kept" "is_kept" sKept f fd) (T : TxtN K mg) (TF : TxtF K w mg) (gI : mg "is_name" = some (.ref fI)) (FI : Fun K "is_name" "is_name" sIsName fI dI) (bI : Binds K dI ["value"] []) (gS : mg "is_set" = some (.ref fS)) (FS : Fun K "is_set" "is_set" sIsSet fS dS) (bS : Binds K dS ["value"] []) (gM : ∃ t, mg "MAX_KEPT" = some (.int 4 t)) :
    FnOk P w K mg base CX0 3 f fd ["value"] (spKept0 K) := by
  have GS : FnOk P w K mg base CX0 2 fS dS ["value"] (spSet0 K) := ok_isset0 FS T TF gI FI bI
  obtain ⟨t, g4⟩ := gM
  refine F.ok scKp (fun vs H Q E h => ?_) (fun cdv A outer s H vs Q E hr h => ?_)
  · obtain ⟨a, rfl, _⟩ := h
    rfl
  · obtain ⟨a, rfl, ea, q⟩ := h
    refine ⟨_, pss_one (ps_ret (pe_and (pe_call GS hr (by rfl) gS FS.kp bS .nil pass0 (pa_cons (pv 0) pa_nil)) (pe_one (pe_cmpR op_le (pe_callB call_len_seq (by rfl) T.len PySem.boot_len (pa_cons (pv 0) pa_nil)) (pe_glob (v := .int 4) (by rfl) g4 ⟨t, rfl⟩) (nomark _))))), ?_⟩
    exact ⟨_, rfl, a, rfl, ea, fun H1 s1 => ⟨_, rfl, iteT ⟨_, rfl, a, [], rfl, .inr ea.seq, _, _, rfl, rfl, q _ s1⟩⟩⟩
end
section
variable {P : Program} {w : World} {K : PySem.W.Frag} {mg : Str → Option Value} {base : Heap} {f : Addr} {fd : FuncData}
theorem ok_sinit0 {dvs : List V} {C cS fI fIC fB fKp : Addr} {dI dIC dB dKp : FuncData} (F : FunD K "__init__" "Stretch.__init__" (defArgs sSI) (defBody sSI) (defScope sSI) dvs [] f fd) (T : StrT K mg C) (kS : KCls K cS fI "ValueError" []) (gcS : mg "InvalidStretch" = some (.ref cS))
    (GI : FnOk P w K mg base CX0 1 fI dI ["self", "why"] (spI0 K "ValueError")) (bI : Binds K dI ["self", "why"] []) (gIC : mg "is_code" = some (.ref fIC)) (kIC : PySem.W.keepIn K (.ref fIC) = true) (bIC : Binds K dIC ["value"] []) (GIC : FnOk P w K mg base CX0 14 fIC dIC ["value"] spIsCode)
    (gB : mg "is_bounded" = some (.ref fB)) (kB : PySem.W.keepIn K (.ref fB) = true) (bB : Binds K dB ["code"] []) (GB : FnOk P w K mg base CX0 10 fB dB ["code"] spBnd) (gKp : mg "is_kept" = some (.ref fKp)) (kKp : PySem.W.keepIn K (.ref fKp) = true) (bKp : Binds K dKp ["value"] []) (GKp : FnOk P w K mg base CX0 3 fKp dKp ["value"] (spKept0 K)) :
    FnOk P w K mg base (L2.CX P w) 15 f fd ["self", "code", "keeps"] (spSI0 K C cS) := by
  refine F.ok scSI (fun vs H Q E h => ?_) (fun cdv A outer s H vs Q E hr h => ?_)
  · obtain ⟨S, p, dx, k0, c, dc, rfl, _⟩ := h
    rfl
  · obtain ⟨S, p, dx, k0, c, dc, rfl, hp, hc, hk, sc, size, q, e⟩ := h
    refine ⟨_, pss_cons (ps_if (pt_not (pt_val (pe_call GIC hr (by rfl) gIC kIC bIC .nil pass0 (pa_cons (pv 1) pa_nil)))) (pss_one (ps_raise rfl (takes_of rfl rfl rfl rfl) (pmk_B (Classical.choose_spec kS.made).1 GI (hr.mono (by decide)) (by rfl) gcS bI .nil pass0 (pa_cons pe_str pa_nil)))) pss_nil)
      (pss_cons (ps_if (pt_not (pt_val (pe_call GB (hr.mono (by decide)) (by rfl) gB kB bB .nil pass0 (pa_cons (pv 1) pa_nil)))) (pss_one (ps_raise rfl (takes_of rfl rfl rfl rfl) (pmk_B (Classical.choose_spec kS.made).1 GI (hr.mono (by decide)) (by rfl) gcS bI .nil pass0 (pa_cons pe_str pa_nil)))) pss_nil)
      (pss_cons (ps_if (pt_not (pt_val (pe_call GKp (hr.mono (by decide)) (by rfl) gKp kKp bKp .nil pass0 (pa_cons (pv 2) pa_nil)))) (pss_one (ps_raise rfl (takes_of rfl rfl rfl rfl) (pmk_B (Classical.choose_spec kS.made).1 GI (hr.mono (by decide)) (by rfl) gcS bI .nil pass0 (pa_cons pe_str pa_nil)))) pss_nil)
      (pss_cons (ps_fld (pv 0) (pv 1) rfl) (pss_one (ps_fld (pv 0) (pv 2) rfl))))), ?_⟩
    have out : ∀ {H1 : Hp}, Same H H1 → okD dc (.tuple []) = false → OutN E cS H1 := fun s1 z H' s' => e z H' (s1.trans s')
    refine ⟨_, rfl, S, c, dc, rfl, hc, sc, fun H1 s1 => ⟨_, rfl, ?_⟩⟩
    cases h1 : codeD 3 dc with
    | false =>
      have z : okD dc (.tuple []) = false := by
        unfold okD
        rw [h1, Bool.false_and]
      exact iteT (mk0 kS (out s1 z))
    | true =>
      refine iteF ?_
      obtain ⟨ds, rfl, rows⟩ := code_tup h1
      refine ⟨_, rfl, S, c, ds, rfl, hc.mv (fun _ z => z) (fun b o _ z => s1 b o z), rows, size h1, fun H2 s2 => ⟨_, rfl, ?_⟩⟩
      have s12 := s1.trans s2
      cases h2 : bndD ds with
      | false =>
        have z : okD (.tuple ds) (.tuple []) = false := by
          unfold okD itemsD
          rw [h2, Bool.false_and, Bool.and_false]
        exact iteT (mk0 kS (out s12 z))
      | true =>
        refine iteF ⟨_, rfl, k0, rfl, hk, fun H3 s3 => ⟨_, rfl, ?_⟩⟩
        have s13 := s12.trans s3
        have h3 : keptD (.tuple []) = true := by decide +kernel
        have z : okD (.tuple ds) (.tuple []) = true := by
          unfold okD itemsD
          rw [h1, h2, h3]
          rfl
        refine iteF ⟨_, rfl, _, rfl, p, C, dx, [], rfl, s13 _ _ hp, T.cl, T.nc, (by show 0 < 1000; decide), _, rfl, _, rfl, p, C, dx, _, rfl, upd_same, T.cl, T.nk, (by show 1 < 1000; decide), ?_⟩
        refine q z _ (fun b o hb eb => ?_) upd_same
        rw [upd_ne hb, upd_ne hb]
        exact s13 b o eb
end
end OM

namespace OM
open PySem PySem.Spec PyProof.Rows L2
abbrev sStretchOf : Stmt := top 46
abbrev sCodeP : Stmt := inStK 45 1
abbrev sAddM : Stmt := inStK 45 11
/-- what the class Stretch must have -/
structure StrC (K : PySem.W.Frag) (mg : Str → Option Value) (C fS aS : Addr) (dS : FuncData) : Prop where
  T : StrT K mg C
  MS : Mk K C fS
  gSt : mg "Stretch" = some (.ref C)
  bS1 : ∃ ds, Vals [V.ref aS] ds ∧ Binds K dS ["self", "code", "keeps"] ds
  emp : Emp K aS
  ha : PySem.W.findIn K (.ref C) "__class__" = some (some (.builtin "object.__class__"))
  hn : PySem.W.specialIn K (.builtin "object.__class__") "__get__" = some (some (.builtin "getset_descriptor.__get__"))
  htk : PySem.W.takesIn K (.builtin "object.__class__") = some true
  hm : PySem.W.mroIn K C (.type "object") = some true
  kit : PySem.W.kitOne K (.ref C) (.ref C) = some true
def insS (C dx : Addr) (c k : V) : HO := .ins C dx [("_code", c), ("_keeps", k)]
def spOf (C : Addr) : Sp := fun vs H Q _ => ∃ c k : V, vs = [c, k] ∧ ∀ H' x dx, Same H H' → H x = none → H' x = some (insS C dx c k) → Q (.ref x) H'
def spAdd (K : PySem.W.Frag) (C : Addr) : Sp := fun vs H Q _ => ∃ (a b dx dy ca cb : Addr) (ka kb : V) (xs ys : List V), vs = [.ref a, .ref b] ∧ H a = some (insS C dx (.ref ca) ka) ∧ H b = some (insS C dy (.ref cb) kb) ∧ H ca = some (.tup xs) ∧ H cb = some (.tup ys) ∧ xs ≠ [] ∧ ys ≠ [] ∧ xs.length + ys.length ≤ sizeLine ∧
  ∀ H' x dz cz, Same H H' → H x = none → H cz = none → H' x = some (insS C dz (.ref cz) kb) → H' cz = some (.tup (xs ++ ys)) → Q (.ref x) H'
section
variable {P : Program} {w : World} {K : PySem.W.Frag} {mg : Str → Option Value} {base : Heap} {f fS fO C cS aS : Addr} {fd dS dO : FuncData}
theorem scOf : FnScope ["code", "keeps", "made"] ["code", "keeps"] (defScope sStretchOf) := ⟨rfl, rfl, rfl, by decide +kernel, rfl, by decide +kernel, by decide +kernel⟩
theorem ok_of (F : Fun K "stretch_of" "stretch_of" sStretchOf f fd) (R : StrC K mg C fS aS dS) (GS : FnOk P w K mg base (L2.CX P w) 15 fS dS ["self", "code", "keeps"] (spSI0 K C cS)) : FnOk P w K mg base CX0 17 f fd ["code", "keeps"] (spOf C) := by
  obtain ⟨dsv, hv, bS⟩ := R.bS1
  refine F.ok scOf (fun vs H Q E h => ?_) (fun cdv A outer s H vs Q E hr h => ?_)
  · obtain ⟨c, k, rfl, _⟩ := h
    rfl
  · obtain ⟨c, k, rfl, q⟩ := h
    refine ⟨_, pss_cons (ps_set (i := 2) scOf.nd rfl (Or.inl rfl) (pe_make R.MS GS hr (by rfl) R.gSt bS hv (passes_call L2.takes0 (fun _ _ _ _ h => h)) (pa_cons (pe_tup pa_nil) pa_nil)))
      (pss_cons (ps_fld (pv 2) (pv 0) rfl) (pss_cons (ps_fld (pv 2) (pv 1) rfl) (pss_one (ps_ret (pv 2))))), ?_⟩
    refine ⟨(by show 0 ≤ sizeLine; decide), fun pt hpt x dx hx hdx ne => ?_⟩
    have s1 := same_upd (o := .tup []) hpt
    have ndx : upd (upd H pt (.tup [])) dx (.own x) x = none := by
      rw [upd_ne (fun z => ne z.symm)]
      exact hx
    have s2 := (same_upd (o := .own x) hdx).trans (same_upd (o := .ins C dx []) ndx)
    refine ⟨fun _ => True, x, dx, aS, .ref pt, .tuple [], rfl, upd_same, .tup trivial (s2 _ _ upd_same) (by decide) .nil, R.emp, by decide +kernel, fun _ => by decide +kernel, fun _ H2 b2 e2 => ⟨rfl, ?_⟩, fun z => absurd z (by decide +kernel)⟩
    refine ⟨_, rfl, _, rfl, x, C, dx, _, rfl, e2, R.T.cl, R.T.nc, (by show 2 < 1000; decide), _, rfl, _, rfl, x, C, dx, _, rfl, upd_same, R.T.cl, R.T.nk, (by show 2 < 1000; decide), _, rfl, ?_⟩
    refine q _ x dx (fun b o eo => ?_) (s1.free hx) upd_same
    have nb : b ≠ x := ne_of_none eo (s1.free hx)
    rw [upd_ne nb, upd_ne nb]
    exact b2 b o nb (s2 _ _ (s1 _ _ eo))
theorem scAd : FnScope ["self", "other"] ["self", "other"] (defScope sAddM) := ⟨rfl, rfl, rfl, by decide +kernel, rfl, by decide +kernel, by decide +kernel⟩
theorem ok_add (F : Fun K "__add__" "Stretch.__add__" sAddM f fd) (R : StrC K mg C fS aS dS) (isi : mg "isinstance" = none) (gO : mg "stretch_of" = some (.ref fO)) (kO : PySem.W.keepIn K (.ref fO) = true) (bO : Binds K dO ["code", "keeps"] []) (GO : FnOk P w K mg base CX0 17 fO dO ["code", "keeps"] (spOf C)) :
    FnOk P w K mg base CX0 18 f fd ["self", "other"] (spAdd K C) := by
  refine F.ok scAd (fun vs H Q E h => ?_) (fun cdv A outer s H vs Q E hr h => ?_)
  · obtain ⟨a, b, dx, dy, ca, cb, ka, kb, xs, ys, rfl, _⟩ := h
    rfl
  · obtain ⟨a, b, dx, dy, ca, cb, ka, kb, xs, ys, rfl, ea, eb, eca, ecb, nx, ny, sz, q⟩ := h
    refine ⟨_, pss_cons (ps_if (pt_not (pt_val (pe_callB call_isi (by rfl) isi (by decide +kernel) (pa_cons (pv 1) (pa_cons (pe_glob (v := .ref C) (by rfl) R.gSt rfl) pa_nil))))) pss_never pss_nil)
      (pss_one (ps_ret (pe_call GO hr (by rfl) gO kO bO .nil pass0 (pa_cons (pe_op op_catA (pe_fld (pv 0) rfl) (pe_fld (pv 1) rfl)) (pa_cons (pe_fld (pv 1) rfl) pa_nil))))), ?_⟩
    refine ⟨_, rfl, .ref b, .ref C, .ref C, .ref C, true, rfl, .own C, .base (.ins eb R.T.cl R.ha R.hn R.htk R.hm), R.kit, _, rfl, iteF ?_⟩
    refine ⟨_, rfl, a, C, dx, _, _, rfl, ea, R.T.cl, R.T.nc, rfl, _, rfl, b, C, dy, _, _, rfl, eb, R.T.cl, R.T.nc, rfl, ca, cb, xs, ys, rfl, rfl, SqT.of eca, SqT.of ecb, sz, fun e => absurd e nx, fun _ e => absurd e ny, fun _ _ p hp => ?_⟩
    have sp := same_upd (o := .tup (xs ++ ys)) hp
    refine ⟨_, rfl, b, C, dy, _, _, rfl, sp _ _ eb, R.T.cl, R.T.nk, rfl, .ref p, kb, rfl, fun H' x dz s' nx' e' => ?_⟩
    exact q H' x dz p (sp.trans s') (sp.free nx') hp e' (s' _ _ upd_same)
end
end OM

namespace OM
open PySem PySem.Spec PyProof.Rows L2
theorem mul_one (l : Addr) (items : Array Value) (n : Nat) (dd : Option Addr) (sl : Array (Option Value)) (u : Tok) (hne : items.isEmpty = false) :
    Meets (Builtin.«tuple.__mul__» ⟨[.ref l, .int 1 u], []⟩) (fun _ R s => s.heap.get? l = some { cls := .type "tuple", dict := dd, data := .seq items n, slots := sl } ∧ R (.ok (.ret (Value.ref l))) s) :=
  .of_wp fun prog w A R s h => by
    obtain ⟨hp, g, d, tk, os⟩ := s
    obtain ⟨hl, h⟩ := h
    have f1 := AutoSeq1.idx_int
    wp_walk using wpAny_loadPart' hl
    repeat (first
      | exact ⟨_, rfl, h⟩
      | (refine wpAny_ite_true (by rw [hne]; decide) ?_; wp_walk using wpAny_loadPart' hl)
      | (refine wpAny_ite_false (by decide) ?_; wp_walk using wpAny_loadPart' hl))
theorem mul_zero (l : Addr) (items : Array Value) (n : Nat) (dd : Option Addr) (sl : Array (Option Value)) (u : Tok) (hne : items.isEmpty = false) :
    Meets (Builtin.«tuple.__mul__» ⟨[.ref l, .int 0 u], []⟩) (fun _ R s => s.heap.get? l = some { cls := .type "tuple", dict := dd, data := .seq items n, slots := sl } ∧
      R (.ok (.ret (Value.ref s.heap.objs.size))) { s with heap := s.heap.push { cls := Value.type "tuple", data := Data.seq #[] }, toks := s.toks }) :=
  .of_wp fun prog w A R s h => by
    obtain ⟨hp, g, d, tk, os⟩ := s
    obtain ⟨hl, h⟩ := h
    have f1 := AutoSeq1.idx_int
    wp_walk using wpAny_loadPart' hl
    exact ⟨_, rfl, h⟩
/-- a tuple, once or not at all -/
theorem op_rep01 {X : Cx} : OpR X (binaryOp .Mult) (fun x y H Q => ∃ (l : Addr) (xs : List V) (b : Bool), x = .ref l ∧ y = .int (if b = true then 1 else 0) ∧ SqT X.K H l xs ∧ xs ≠ [] ∧ (b = true → Q (.ref l) H) ∧ (b = false → ∀ p, H p = none → Q (.ref p) (upd H p (.tup [])))) := by
  intro pins s σ H x y v u Q I rx ry h
  obtain ⟨l, xs, b, rfl, rfl, hT, hne, q1, q0⟩ := h
  cases rx
  obtain ⟨t, rfl⟩ := ry
  obtain ⟨its, r, ⟨⟨cls, dd, data, sl⟩, ho, hc, n, hd⟩, hs⟩ := I.tuple hT
  simp only at hc hd
  subst hc hd
  have hi : its.toArray.isEmpty = false := by
    cases its with
    | nil =>
      have := r.length
      exact absurd (List.eq_nil_of_length_eq_zero this) hne
    | cons a b => rfl
  cases b with
  | true =>
    refine wpAny_binaryOp_repeat_ref (T := "tuple") (U := "int") (by decide) ⟨_, ho, rfl⟩ (fun s' => typeIs_int s' 1 t) noFill_tuple_mul F.fills_int_mul F.slot_int_rmul repeat_tuple F.slot_int_index.lookup
      (call_meets F.slot_int_rmul (typeIs_int s 1 t) F.entry_int_rmul (F.args_int_rmul_2 _ _) (int_rmul_tuple 1 t l its.toArray n dd sl) ⟨ho, rfl, ⟨_, ho, rfl⟩, call_meets F.slot_tuple_mul ⟨_, ho, rfl⟩ F.entry_tuple_mul (F.args_tuple_mul_2 _ _) (mul_one l its.toArray n dd sl t hi) ⟨ho, ?_⟩⟩)
    exact ⟨.ref l, H, I, rfl, q1 rfl⟩
  | false =>
    refine wpAny_binaryOp_repeat_ref (T := "tuple") (U := "int") (by decide) ⟨_, ho, rfl⟩ (fun s' => typeIs_int s' 0 t) noFill_tuple_mul F.fills_int_mul F.slot_int_rmul repeat_tuple F.slot_int_index.lookup
      (call_meets F.slot_int_rmul (typeIs_int s 0 t) F.entry_int_rmul (F.args_int_rmul_2 _ _) (int_rmul_tuple 0 t l its.toArray n dd sl) ⟨ho, rfl, ⟨_, ho, rfl⟩, call_meets F.slot_tuple_mul ⟨_, ho, rfl⟩ F.entry_tuple_mul (F.args_tuple_mul_2 _ _) (mul_zero l its.toArray n dd sl t hi) ⟨ho, ?_⟩⟩)
    refine ⟨.ref s.heap.objs.size, _, I.laid (t' := s.toks) (o := .tup []) (fun b ob q => Heap.get?_push_of_some _ q) (Nat.le_refl _) ?_, rfl, q0 rfl _ (I.hok.fresh (Nat.le_refl _))⟩
    exact ⟨by decide, [], .nil, IsTup.new _ _⟩
mutual
/-- texts and tuples alone -/
def pureD : PyData → Bool
  | .str _ => true
  | .tuple xs => pureAll xs
  | _ => false
def pureAll : List PyData → Bool
  | [] => true
  | x :: r => pureD x && pureAll r
end
mutual
theorem lay_pure : ∀ d : PyData, pureD d = true → smlD d = true → PyData.canLay0 d = true
  | .str x, _, h => by
    unfold smlD at h
    rw [Bool.and_eq_true] at h
    unfold PyData.canLay0
    exact h.2
  | .tuple xs, h1, h2 => by
    unfold pureD at h1
    rw [sml_tup] at h2
    unfold PyData.canLay0
    exact lay_pureAll xs h1 h2
  | .none, h, _ => by unfold pureD at h; cases h
  | .bool _, h, _ => by unfold pureD at h; cases h
  | .int _, h, _ => by unfold pureD at h; cases h
  | .list _, h, _ => by unfold pureD at h; cases h
  | .dict _, h, _ => by unfold pureD at h; cases h
theorem lay_pureAll : ∀ xs : List PyData, pureAll xs = true → smlAll xs = true → PyData.canLayAll0 xs = true
  | [], _, _ => rfl
  | x :: r, h1, h2 => by
    unfold pureAll at h1
    rw [Bool.and_eq_true] at h1
    rw [smlAll_cons, Bool.and_eq_true] at h2
    show (PyData.canLay0 x && PyData.canLayAll0 r) = true
    rw [lay_pure x h1.1 h2.1, lay_pureAll r h1.2 h2.2]
    rfl
end
section
variable {S : Addr → Prop} {H : Hp} {K : PySem.W.Frag}
mutual
theorem Dt.dp : ∀ {v : V} {d : PyData}, pureD d = true → Dt S H v d → Dp K H v d
  | _, _, p, .at h => by
    cases h with
    | str x => exact .str x
    | _ => unfold pureD at p; cases p
  | _, _, p, .tup s e hl h => .tup (SqT.of e) (DtAll.dp (by unfold pureD at p; exact p) h)
  | _, _, p, .lst s e hl h => by unfold pureD at p; cases p
  | _, _, p, .dic0 s e => by unfold pureD at p; cases p
  | _, _, p, .dic1 s e h => by unfold pureD at p; cases p
theorem DtAll.dp : ∀ {vs : List V} {ds : List PyData}, pureAll ds = true → DtAll S H vs ds → DpAll K H vs ds
  | _, _, _, .nil => .nil
  | _, _, p, .cons h r => by
    unfold pureAll at p
    rw [Bool.and_eq_true] at p
    exact .cons (Dt.dp p.1 h) (DtAll.dp p.2 r)
end
end
end OM

namespace OM
open PySem PySem.Spec PyProof.Rows L2
theorem name_pure {d : PyData} (h : isNameD d = true) : pureD d = true ∧ d.depth = 0 := by
  cases d with
  | str x => exact ⟨by unfold pureD; rfl, rfl⟩
  | _ => cases h
theorem names_pure : ∀ {ds : List PyData}, ds.all isNameD = true → pureAll ds = true ∧ PyData.depthAll ds = 0
  | [], _ => ⟨rfl, rfl⟩
  | d :: r, h => by
    rw [List.all_cons, Bool.and_eq_true] at h
    obtain ⟨a, b⟩ := name_pure h.1
    obtain ⟨c, e⟩ := names_pure h.2
    unfold pureAll
    rw [depthAll_cons, a, b, c, e]
    exact ⟨rfl, rfl⟩
theorem pure_tup {ds : List PyData} (h : pureAll ds = true) : pureD (.tuple ds) = true := by
  unfold pureD
  exact h
theorem zip_all {p : PyData → Prop} {g : PyData → Str → Bool} (hg : ∀ d r, g d r = true → p d) : ∀ {ds : List PyData} {rs : List Str}, ds.length = rs.length → (List.zipWith g ds rs).all id = true → ∀ d ∈ ds, p d
  | [], _, _, _ => fun d h => by cases h
  | _ :: _, [], h, _ => by cases h
  | d :: ds, r :: rs, h, z => by
    rw [List.zipWith_cons_cons, List.all_cons, Bool.and_eq_true] at z
    intro e he
    rcases List.mem_cons.mp he with rfl | he
    · exact hg _ _ z.1
    · exact zip_all hg (by simpa using h) z.2 e he
theorem all_pure {m : Nat} : ∀ {ds : List PyData}, (∀ d ∈ ds, pureD d = true ∧ d.depth ≤ m) → pureAll ds = true ∧ PyData.depthAll ds ≤ m
  | [], _ => ⟨rfl, Nat.zero_le _⟩
  | d :: r, h => by
    obtain ⟨a, b⟩ := h d (by simp)
    obtain ⟨c, e⟩ := all_pure (ds := r) fun x hx => h x (List.mem_cons_of_mem _ hx)
    unfold pureAll
    rw [depthAll_cons, a, c]
    exact ⟨rfl, by omega⟩
/-- code is made of texts and tuples, not deep -/
theorem row_pure : ∀ (n : Nat) (d : PyData), rowD (cdOf n) d = true → pureD d = true ∧ d.depth ≤ 2 * n + 2 := by
  intro n
  induction n with
  | zero =>
    intro d h
    obtain ⟨w, rest, rs, rfl, hf, hlen, fits⟩ := rowD_shape h
    have hp : ∀ x ∈ rest, pureD x = true ∧ x.depth ≤ 1 := zip_all (fun x r hx => by
      unfold fitD at hx
      split at hx
      · cases hx
      · split at hx
        · unfold argsD at hx
          split at hx
          · rw [Bool.and_eq_true] at hx
            obtain ⟨a, b⟩ := names_pure hx.2
            exact ⟨pure_tup a, by rw [dep_tup, b]; exact Nat.le_refl _⟩
          · cases hx
        · obtain ⟨a, b⟩ := name_pure hx
          exact ⟨a, by omega⟩) hlen fits
    obtain ⟨a, b⟩ := all_pure hp
    refine ⟨pure_tup (by unfold pureAll; rw [a]; unfold pureD; rfl), ?_⟩
    rw [dep_tup, depthAll_cons]
    have : (PyData.str w).depth = 0 := rfl
    omega
  | succ m ih =>
    intro d h
    obtain ⟨w, rest, rs, rfl, hf, hlen, fits⟩ := rowD_shape h
    have hp : ∀ x ∈ rest, pureD x = true ∧ x.depth ≤ 2 * m + 3 := zip_all (fun x r hx => by
      unfold fitD at hx
      split at hx
      · obtain ⟨ys, rfl, rows⟩ := code_tup (n := m) (show codeD m x = true from hx)
        obtain ⟨a, b⟩ := all_pure (ds := ys) fun y hy => ih y (List.all_eq_true.mp rows y hy)
        exact ⟨pure_tup a, by rw [dep_tup]; omega⟩
      · split at hx
        · unfold argsD at hx
          split at hx
          · rw [Bool.and_eq_true] at hx
            obtain ⟨a, b⟩ := names_pure hx.2
            exact ⟨pure_tup a, by rw [dep_tup, b]; omega⟩
          · cases hx
        · obtain ⟨a, b⟩ := name_pure hx
          exact ⟨a, by omega⟩) hlen fits
    obtain ⟨a, b⟩ := all_pure hp
    refine ⟨pure_tup (by unfold pureAll; rw [a]; unfold pureD; rfl), ?_⟩
    rw [dep_tup, depthAll_cons]
    have : (PyData.str w).depth = 0 := rfl
    omega
theorem code_pure {ds : List PyData} (h : ds.all (rowD (cdOf 3)) = true) : pureAll ds = true ∧ PyData.depthAll ds ≤ 8 := all_pure fun d hd => row_pure 3 d (List.all_eq_true.mp h d hd)
theorem code_shaped {ds : List PyData} (h : ds.all (rowD (cdOf 3)) = true) (s : smlAll ds = true) : SeqAt.shaped (.tuple ds) = true := by
  obtain ⟨a, b⟩ := code_pure h
  have c := lay_pure (.tuple ds) (pure_tup a) (by rw [sml_tup]; exact s)
  show (PyData.canLay0 (.tuple ds) && decide ((PyData.tuple ds).depth ≤ 64)) = true
  rw [c, decide_eq_true (show (PyData.tuple ds).depth ≤ 64 by rw [dep_tup]; omega)]
  rfl
/-- the drawn code as it changes -/
structure Cd5 (ds : List PyData) (r : Nat) : Prop where
  rows : ds.all (rowD (cdOf 3)) = true
  sml : smlAll ds = true
  len : ds.length ≤ 12
  wt : (flatN 3 ds).length + 6 * r ≤ ds.length + 30
theorem flatS_pos {n : Nat} {d : PyData} (row : rowD (cdOf n) d = true) : 1 ≤ (flatS n d).length := by
  rw [flatS_row row, List.length_cons]
  omega
theorem flatN_app (n : Nat) (a b : List PyData) : flatN n (a ++ b) = flatN n a ++ flatN n b := by
  unfold flatN
  rw [List.flatMap_append]
theorem Cd5.drop {ds : List PyData} {r i : Nat} (h : Cd5 ds r) (hi : i < ds.length) : Cd5 (ds.take i ++ ds.drop (i + 1)) r ∧ (ds.take i ++ ds.drop (i + 1)).length + 1 = ds.length := by
  have e : ds = ds.take i ++ ds[i] :: ds.drop (i + 1) := by
    conv => lhs; rw [← List.take_append_drop i ds, List.drop_eq_getElem_cons hi]
  have hl : (ds.take i ++ ds.drop (i + 1)).length + 1 = ds.length := by
    rw [List.length_append, List.length_take, List.length_drop]
    omega
  have rows := h.rows
  have sml := h.sml
  have wt := h.wt
  rw [e] at rows sml
  rw [List.all_append, List.all_cons, Bool.and_eq_true, Bool.and_eq_true] at rows
  rw [smlAll_app, smlAll_cons, Bool.and_eq_true, Bool.and_eq_true] at sml
  have p := flatS_pos rows.2.1
  have ew : (flatN 3 ds).length = (flatN 3 (ds.take i)).length + ((flatS 3 ds[i]).length + (flatN 3 (ds.drop (i + 1))).length) := by
    conv => lhs; rw [e, flatN_app]
    rw [List.length_append]
    show _ + (flatS 3 ds[i] ++ flatN 3 (ds.drop (i + 1))).length = _
    rw [List.length_append]
  refine ⟨⟨by rw [List.all_append, rows.1, rows.2.2]; rfl, by rw [smlAll_app, sml.1, sml.2.2]; rfl, by have := h.len; omega, ?_⟩, hl⟩
  rw [flatN_app, List.length_append]
  omega
theorem Cd5.more {ds : List PyData} {r r' : Nat} {e : PyData} (h : Cd5 ds r) (hl : ds.length < 12) (row : rowD (cdOf 3) e = true) (sm : smlD e = true) (w : (flatS 3 e).length + 6 * r' ≤ 1 + 6 * r) : Cd5 (ds ++ [e]) r' := by
  have wt := h.wt
  refine ⟨by rw [List.all_append, h.rows, List.all_cons, row]; rfl, by rw [smlAll_app, h.sml, smlAll_cons, sm]; rfl, by rw [List.length_append]; show ds.length + 1 ≤ 12; omega, ?_⟩
  rw [flatN_app, List.length_append, List.length_append]
  show _ + (flatS 3 e ++ []).length + _ ≤ _ + 1 + 30
  rw [List.append_nil]
  omega
theorem Cd5.less {ds : List PyData} {r r' : Nat} (h : Cd5 ds r) (hr : r' ≤ r) : Cd5 ds r' := ⟨h.rows, h.sml, h.len, by have := h.wt; omega⟩
end OM

namespace OM
open PySem PySem.Spec PyProof.Rows L2 LamX
abbrev sRight5 : Stmt := top 59
def lamR : Str := "_law_right" ++ ".<locals>." ++ "<lambda>"
abbrev TR (PT : Addr) : List (Addr × Str) := [(PT, lamR)]
theorem FunC.okC {P : Program} {w : World} {K : PySem.W.Frag} {mg : Str → Option Value} {base : Heap} {x qual : Str} {st : Stmt} {f cc : Addr} {fd : FuncData} {N ps : List Str} {k : Nat} {sp : Sp} (F : FunC K x qual st f fd cc) (S : FnScope N ps (defScope st)) (len : ∀ vs H Q E, sp vs H Q E → vs.length = ps.length)
    (hbody : ∀ (A : Around) (outer : List Env) (s : Shared) (H : Hp) (vs : List V) (Q : VK) (E : XK), Room k (A.deeper (envOfC qual (defScope st) s.heap.objs.size f (.ref cc))) → sp vs H Q E →
      ∃ t, PSs (cxOf CX0 P w K mg base N qual (defScope st) f (.ref cc) A outer s H E).nox (defBody st) t ∧ t { nx := fun _ H' => Q .non H', rt := Q } (start N vs) H) : FnOk P w K mg base CX0 (k + 1) f fd ps sp := by
  obtain ⟨oc, od, kV, doc, pm, an, ct, osl, rfl, lk, hcd⟩ := F.ex
  refine fn_of lk hcd S len fun A outer s H vs Q E hr hsp => ?_
  obtain ⟨t, h, q⟩ := hbody A outer s H vs Q E hr hsp
  exact ⟨t, h.nox, q⟩
structure Right5 (P : Program) (w : World) (K : PySem.W.Frag) (mg : Str → Option Value) (base : Heap) (C fS aS fM fF fPt fA fP pC fO fR fs PT cc : Addr) (c : Nat → Addr) (dS dM dF dPt dA dP dO dR ds : FuncData) : Prop where
  S : StrC K mg C fS aS dS
  bS : Binds K dS ["self", "code", "keeps"] []
  GS : FnOk P w K mg base (L2.CX P w) 15 fS dS ["self", "code", "keeps"] (spSI C (c 1))
  GS0 : FnOk P w K mg base (L2.CX P w) 15 fS dS ["self", "code", "keeps"] (spSI0 K C (c 1))
  gM : mg "_law_met" = some (.ref fM)
  FM : Fun K "_law_met" "_law_met" sMet fM dM
  bM : Binds K dM ["_law_call"] []
  M : MetK mg c
  n01 : PySem.W.exmOne K (.ref (c 1)) (.ref (c 0)) = some false
  n11 : PySem.W.exmOne K (.ref (c 1)) (.ref (c 1)) = some true
  TB : TabB base mg cc PT
  gF : mg "_law_fits" = some (.ref fF)
  kF : PySem.W.keepIn K (.ref fF) = true
  bF : Binds K dF ["_law_code"] []
  GF : FnOk P w K mg base CX0 6 fF dF ["_law_code"] spFits5
  gPt : mg "_law_paths" = some (.ref fPt)
  kPt : PySem.W.keepIn K (.ref fPt) = true
  bPt : Binds K dPt ["_law_code"] []
  GPt : FnOk P w K mg base CX0 5 fPt dPt ["_law_code"] (spPathsAt 4)
  fndA : PySem.W.findIn K (.ref C) "__add__" = some (some (.ref fA))
  isA : PySem.W.isFn K (.ref fA) = true
  sfA : PySem.W.selfFirst K C = true
  bA : Binds K dA ["self", "other"] []
  GA : FnOk P w K mg base CX0 18 fA dA ["self", "other"] (spAdd K C)
  pC : PropOf K C "code" pC fP
  bP : Binds K dP ["self"] []
  GP : FnOk P w K mg base CX0 1 fP dP ["self"] (getSp C "_code")
  gO : mg "_law_one_of" = some (.ref fO)
  kO : PySem.W.keepIn K (.ref fO) = true
  bO : Binds K dO ["_law_dice_here", "_law_items"] []
  GO : FnOk P w K mg base CX0 2 fO dO ["_law_dice_here", "_law_items"] (spOneOf K)
  gR : mg "_law_roll" = some (.ref fR)
  kR : PySem.W.keepIn K (.ref fR) = true
  bR : Binds K dR ["_law_dice_here", "_law_total"] []
  GR : FnOk P w K mg base CX0 1 fR dR ["_law_dice_here", "_law_total"] spRoll
  gs : mg "_law_some" = some (.ref fs)
  ks : PySem.W.keepIn K (.ref fs) = true
  bs : Binds K ds ["_law_dice_here", "_law_deep", "_law_room"] []
  Gs : FnOk P w K mg base CX0 6 fs ds ["_law_dice_here", "_law_deep", "_law_room"] (spSomeAt 4)
  len : mg "len" = none
  tup : mg "tuple" = none
  rng : mg "range" = none
  int : mg "int" = none
def spRight5 (T : List (Addr × Str)) : Sp := fun vs H Q _ => ∃ d : Addr, vs = [.ref d] ∧ Dice H d ∧ Tabs T H ∧ ∀ H', ExtB d H H' → Dice H' d → Tabs T H' → Q (.bl true) H'
theorem scR5 : FnScope ["_law_dice_here", "_law_room", "_law_turn", "_law_told", "_law_at", "_law_code", "_law_made", "_law_path"] ["_law_dice_here"] (defScope sRight5) := ⟨rfl, rfl, rfl, by decide +kernel, rfl, by decide +kernel, by decide +kernel⟩
end OM

namespace OM
open PySem PySem.Spec PyProof.Rows L2 LamX
mutual
theorem eqv_pure : ∀ d : PyData, pureD d = true → PyData.eqv d d = true
  | .str x, _ => by unfold PyData.eqv; simp
  | .tuple xs, h => by
    unfold pureD at h
    unfold PyData.eqv
    exact eqv_pureAll xs h
  | .none, h => by unfold pureD at h; cases h
  | .bool _, h => by unfold pureD at h; cases h
  | .int _, h => by unfold pureD at h; cases h
  | .list _, h => by unfold pureD at h; cases h
  | .dict _, h => by unfold pureD at h; cases h
theorem eqv_pureAll : ∀ xs : List PyData, pureAll xs = true → PyData.eqvAll xs xs = true
  | [], _ => by unfold PyData.eqvAll; rfl
  | x :: r, h => by
    unfold pureAll at h
    rw [Bool.and_eq_true] at h
    unfold PyData.eqvAll
    rw [eqv_pure x h.1, eqv_pureAll r h.2]
    rfl
end
/-- the paths with many letters, so far -/
def PvL (H : Hp) (D : Addr) (L : List T3) (i : Nat) (H' : Hp) : Prop := Same H H' ∧ ∃ acc : List V, H' D = some (.lst acc) ∧ acc.length ≤ i ∧ (acc.isEmpty = true ↔ ∀ p ∈ L.take i, p.2.1 ≤ 6)
theorem PvL.zero {H : Hp} {D : Addr} {L : List T3} (hD : H D = none) : PvL H D L 0 (upd H D (.lst [])) := ⟨same_upd hD, [], upd_same, Nat.le_refl _, by simp⟩
theorem PvL.yes {H H3 : Hp} {D : Addr} {L : List T3} {i : Nat} {t : T3} (ht : L[i]? = some t) (ok : t.2.1 ≤ 6) (p : PvL H D L i H3) : PvL H D L (i + 1) H3 := by
  obtain ⟨sm, acc, e, l, z⟩ := p
  refine ⟨sm, acc, e, by omega, ?_⟩
  rw [List.take_add_one, ht, z]
  constructor
  · intro h p hp
    rcases List.mem_append.mp hp with hp | hp
    · exact h p hp
    · have : p = t := by simpa using hp
      rw [this]
      exact ok
  · exact fun h p hp => h p (List.mem_append_left _ hp)
theorem PvL.no {H H3 : Hp} {D : Addr} {L : List T3} {i : Nat} {t : T3} {y : V} (hD : H D = none) (hl : L.length < sizeLine) (ht : L[i]? = some t) (ok : ¬ t.2.1 ≤ 6) (p : PvL H D L i H3) : ∃ acc, H3 D = some (.lst acc) ∧ acc.length < sizeLine ∧ PvL H D L (i + 1) (upd H3 D (.lst (acc ++ [y]))) := by
  obtain ⟨sm, acc, e, l, z⟩ := p
  have hi : i < L.length := (List.getElem?_eq_some_iff.mp ht).1
  refine ⟨acc, e, by omega, same_put hD sm, acc ++ [y], upd_same, by rw [List.length_append]; show acc.length + 1 ≤ _; omega, ?_⟩
  rw [List.take_add_one, ht]
  constructor
  · intro h
    cases acc <;> cases h
  · intro h
    exact absurd (h t (List.mem_append_right _ (by simp))) ok
/-- all but d, q and the tables stay -/
def ExtQ (d q : Addr) (H H' : Hp) : Prop := ∀ b o, b ≠ d → b ≠ q → H b = some o → (∀ ps, o ≠ .tbl ps) → H' b = some o
theorem ExtQ.tr {d q : Addr} {H H1 H2 : Hp} (a : ExtQ d q H H1) (b : ExtQ d q H1 H2) : ExtQ d q H H2 := fun c o n m h z => b c o n m (a c o n m h z) z
theorem ExtQ.two {d q : Addr} {H H1 : Hp} (a : But2 d q H H1) : ExtQ d q H H1 := fun c o n m h _ => a c o n m h
theorem ExtQ.ext {d q : Addr} {H H1 : Hp} (a : ExtN H H1) : ExtQ d q H H1 := fun c o _ _ h z => a c o h z
theorem ExtQ.same {d q : Addr} {H H1 : Hp} (a : Same H H1) : ExtQ d q H H1 := fun c o _ _ h _ => a c o h
mutual
/-- data outlive what changes elsewhere -/
theorem Dt.extQ {S : Addr → Prop} {d q : Addr} {H H' : Hp} (e : ExtQ d q H H') (ap : ∀ b, S b → b ≠ d ∧ b ≠ q) : ∀ {v : V} {x : PyData}, Dt S H v x → Dt S H' v x
  | _, _, .at h => .at h
  | _, _, .lst s y hl h => .lst s (e _ _ (ap _ s).1 (ap _ s).2 y (fun _ z => nomatch z)) hl (DtAll.extQ e ap h)
  | _, _, .tup s y hl h => .tup s (e _ _ (ap _ s).1 (ap _ s).2 y (fun _ z => nomatch z)) hl (DtAll.extQ e ap h)
  | _, _, .dic0 s y => .dic0 s (e _ _ (ap _ s).1 (ap _ s).2 y (fun _ z => nomatch z))
  | _, _, .dic1 s y h => .dic1 s (e _ _ (ap _ s).1 (ap _ s).2 y (fun _ z => nomatch z)) h
theorem DtAll.extQ {S : Addr → Prop} {d q : Addr} {H H' : Hp} (e : ExtQ d q H H') (ap : ∀ b, S b → b ≠ d ∧ b ≠ q) : ∀ {vs : List V} {xs : List PyData}, DtAll S H vs xs → DtAll S H' vs xs
  | _, _, .nil => .nil
  | _, _, .cons h r => .cons (Dt.extQ e ap h) (DtAll.extQ e ap r)
end
theorem tabs_two {T : List (Addr × Str)} {d q : Addr} {r : Nat} {H H1 : Hp} (t : Tabs T H) (hd : Dice H d) (hq : H q = some (roomO r)) (b : But2 d q H H1) : Tabs T H1 := fun p hp => by
  obtain ⟨l, m, c, ed⟩ := hd
  obtain ⟨ps, h1, h2, h3⟩ := t p hp
  have nd : p.1 ≠ d := fun z => by
    rw [z, ed] at h1
    cases h1
  have nq : p.1 ≠ q := fun z => by
    rw [z, hq] at h1
    cases h1
  refine ⟨ps, b _ _ nd nq h1, h2, fun pos cv hc => ?_⟩
  obtain ⟨c', e1, e2⟩ := h3 pos cv hc
  refine ⟨c', e1, b _ _ (fun z => ?_) (fun z => ?_) e2⟩
  · rw [z, ed] at e2
    have e3 := Option.some.inj e2
    unfold CodeO at e3
    cases e3
  · rw [z, hq] at e2
    have e3 := Option.some.inj e2
    unfold CodeO roomO at e3
    cases e3
theorem ok_bnd {ds : List PyData} {k : PyData} (rows : ds.all (rowD (cdOf 3)) = true) (hk : keptD k = true) : okD (.tuple ds) k = bndD ds := by
  unfold okD itemsD
  rw [hk, (codeD_tup 3 ds).trans rows, Bool.true_and, Bool.and_true]
theorem kept_a : keptD (.tuple [.str "a"]) = true := by decide +kernel
theorem kept_0 : keptD (.tuple []) = true := by decide +kernel
theorem cells_small {ds : List PyData} (h : (flatN 3 ds).length ≤ 200) : (cellsN 3 ds).length ≤ 4000 := by
  have := flat_names (flatN 3 ds)
  unfold cellsN
  omega
theorem bnd_many {ds : List PyData} {L : List T3} (mx : MxN 3 ds L) (h : ¬ ∀ p ∈ L, p.2.1 ≤ 6) : bndD ds = false := by
  have : ¬ mostN 3 "letter" ds ≤ 6 := fun z => h fun p hp => Nat.le_trans (mx.2.1.1 p hp) z
  unfold bndD
  rw [decide_eq_false this, Bool.false_and, Bool.and_false, Bool.and_false]
theorem Cd5.twice {ds : List PyData} {r : Nat} (h : Cd5 ds r) : (ds ++ ds).all (rowD (cdOf 3)) = true ∧ smlAll (ds ++ ds) = true ∧ (flatN 3 (ds ++ ds)).length ≤ 84 := by
  have wt := h.wt
  have len := h.len
  refine ⟨by rw [List.all_append, h.rows]; rfl, by rw [smlAll_app, h.sml]; rfl, ?_⟩
  rw [flatN_app, List.length_append]
  omega
theorem DtAll.twice {S : Addr → Prop} {H : Hp} : ∀ {vs : List V} {ds : List PyData} {ws : List V} {es : List PyData}, DtAll S H vs ds → DtAll S H ws es → DtAll S H (vs ++ ws) (ds ++ es)
  | _, _, _, _, .nil, h => h
  | _, _, _, _, .cons a r, h => .cons a (DtAll.twice r h)
end OM

namespace OM
open PySem PySem.Spec PyProof.Rows L2 LamX
section
variable {K : PySem.W.Frag}
def lens6 : List V := [.int 2, .int 4, .int 6, .int 8, .int 10, .int 12]
theorem lens_ok {i : Nat} {v : V} (h : lens6[i]? = some v) : ∃ k : Nat, v = .int (k : Int) ∧ 1 ≤ k ∧ k ≤ 12 := by
  have : v ∈ lens6 := List.mem_of_getElem? h
  unfold lens6 at this
  simp only [List.mem_cons, List.not_mem_nil, or_false] at this
  rcases this with rfl | rfl | rfl | rfl | rfl | rfl
  · exact ⟨2, rfl, by decide, by decide⟩
  · exact ⟨4, rfl, by decide, by decide⟩
  · exact ⟨6, rfl, by decide, by decide⟩
  · exact ⟨8, rfl, by decide, by decide⟩
  · exact ⟨10, rfl, by decide, by decide⟩
  · exact ⟨12, rfl, by decide, by decide⟩
/-- the first code, drawn -/
theorem draw5 {d q : Addr} {x2 x3 x4 x5 x6 x7 : Option V} (H : Hp) (Q : VK) (hd : Dice H d) (hq : H q = some (roomO 5)) (ne : q ≠ d)
    (c : ∀ v H' ds r', But2 d q H H' → Dice H' d → H' q = some (roomO r') → Cd5 ds r' → 1 ≤ ds.length → Dt (fun b => H b = none) H' v (.tuple ds) → Q v H') :
    tCB (fun xs H Q => ∃ p ys, xs = [V.ref p] ∧ ((SqL K H p ys ∧ ∀ l, H l = none → Q (.ref l) (upd H l (.tup ys))) ∨ SqT K H p ys ∧ Q (.ref p) H))
      (tCons (tLc (iRng1 (tCons (tCall (spOneOf K) [] E0 (tCons (tVar 0) (tCons (tLst (tCons (tC (.int 2)) (tCons (tC (.int 4)) (tCons (tC (.int 6)) (tCons (tC (.int 8)) (tCons (tC (.int 10)) (tCons (tC (.int 12)) tNil))))))) tNil))) tNil)) (gName 2) L2.tYes
        (tCall (spSomeAt 4) [] E0 (tCons (tVar 0) (tCons (tC (.int 3)) (tCons (tVar 1) tNil)))) [2]) tNil) [some (.ref d), some (.ref q), x2, x3, x4, x5, x6, x7] H Q := by
  have dn : ∀ {G : Hp}, Dice G d → G d ≠ none := fun {G} h => h.ne
  have free : ∀ {G : Hp} {r' : Nat}, But2 d q H G → Dice G d → G q = some (roomO r') → ∀ b, G b = none → H b = none := fun {G r'} bt hdg hqg b hb => by
    cases y : H b with
    | none => rfl
    | some o =>
      by_cases e1 : b = d
      · subst e1
        exact absurd hb (dn hdg)
      · by_cases e2 : b = q
        · subst e2
          rw [hqg] at hb
          cases hb
        · rw [bt b o e1 e2 y] at hb
          cases hb
  refine ⟨_, rfl, (by show 6 ≤ sizeLine; decide), fun pl hpl => ?_⟩
  have spl := same_upd (o := .lst lens6) hpl
  refine ⟨d, pl, lens6, rfl, hd.mv spl, SqL.of upd_same, fun _ z => dn hd (by rw [← z]; exact hpl), by decide, by decide, fun H1 i v hv b1' hd1 => ?_⟩
  obtain ⟨k, rfl, k0, k1⟩ := lens_ok hv
  have b1 : But2 d q H H1 := fun b o h1 h2 e => b1' b o h1 (spl b o e)
  refine ⟨k, rfl, by omega, by omega, fun D hD => ?_⟩
  have Dd : D ≠ d := fun z => dn hd1 (by rw [← z]; exact hD)
  have hq1 : H1 q = some (roomO 5) := b1' _ _ ne (spl _ _ hq)
  have Dq : D ≠ q := fun z => by
    rw [z, hq1] at hD
    cases hD
  have sD := same_upd (o := .lst []) hD
  have hD0 : H D = none := free b1 hd1 hq1 D hD
  refine lc_range (fun i G => But2 d q H G ∧ Dice G d ∧ ∃ r' vs ds, G q = some (roomO r') ∧ r' ≤ 5 ∧ G D = some (.lst vs) ∧ DtAll (fun b => H b = none ∧ b ≠ D) G vs ds ∧ ds.all (rowD (cdOf 3)) = true ∧ smlAll ds = true ∧ ds.length = i ∧ (flatN 3 ds).length + 6 * r' ≤ i + 30)
    ⟨b1.trans (Same.two sD), hd1.mv sD, 5, [], [], sD _ _ hq1, Nat.le_refl _, upd_same, .nil, rfl, rfl, rfl, by show 0 + 6 * 5 ≤ 0 + 30; omega⟩ (fun i G hi h => ?_) (fun G h => ?_)
  · obtain ⟨bt, hdG, r', vs, ds, eq, hr', eD, dall, rows, sm, hl, wt⟩ := h
    refine ⟨rfl, _, rfl, _, rfl, d, q, r', rfl, hdG, eq, ne, fun v G2 e r2 b2 hd2 eq2 h2 row smE wt2 dv => ?_⟩
    have hv := dall.length
    have eD2 := b2 _ _ Dd Dq eD
    have freeG := free bt hdG eq
    refine ⟨vs, eD2, ?_, ?_, ?_, r2, vs ++ [v], ds ++ [e], ?_, by omega, upd_same, ?_, ?_, ?_, ?_, ?_⟩
    · have : (1000 : Nat) < sizeLine := by decide
      omega
    · intro b o h1 h3 eb
      rw [upd_ne (ne_of_none eb hD0)]
      exact b2 b o h1 h3 (bt b o h1 h3 eb)
    · obtain ⟨a1, a2, a3, e3⟩ := hd2
      exact ⟨a1, a2, a3, by rw [upd_ne (Ne.symm Dd)]; exact e3⟩
    · rw [upd_ne (Ne.symm Dq)]
      exact eq2
    · refine DtAll.snoc (dall.strong fun b o hb eo => ⟨hb, ?_⟩) (dv.strong fun b o hb eo => ?_)
      · rw [upd_ne hb.2]
        exact b2 b o (fun z => dn hd (by rw [← z]; exact hb.1)) (fun z => by rw [z, hq] at hb; cases hb.1) eo
      · have hb' : G b = none := hb
        have bD : b ≠ D := fun z => by
          rw [z, eD] at hb'
          cases hb'
        exact ⟨⟨freeG b hb', bD⟩, by rw [upd_ne bD]; exact eo⟩
    · rw [List.all_append, rows]
      show (true && (rowD (cdOf 3) e && true)) = true
      rw [row]
      rfl
    · rw [smlAll_app, sm]
      show (true && (smlD e && true)) = true
      rw [smE]
      rfl
    · rw [List.length_append, hl]
      rfl
    · have e9 : flatN 3 (ds ++ [e]) = flatN 3 ds ++ flatS 3 e := by
        unfold flatN
        rw [List.flatMap_append]
        simp
      have wt3 : (flatS 3 e).length + 6 * r2 ≤ 1 + 6 * r' := wt2
      rw [e9, List.length_append]
      omega
  · obtain ⟨bt, hdG, r', vs, ds, eq, hr', eD, dall, rows, sm, hl, wt⟩ := h
    refine ⟨D, vs, rfl, .inl ⟨SqL.of eD, fun tp htp => ?_⟩⟩
    have st := same_upd (o := .tup vs) htp
    have lv := dall.length
    have hk : ds.length = k := by
      rw [hl]
      exact Int.toNat_natCast k
    refine c (.ref tp) _ ds r' (bt.trans (Same.two st)) (hdG.mv st) (st _ _ eq) ⟨rows, sm, by omega, by rw [hk]; rw [← hl, hk] at wt; omega⟩ (by omega) (.tup (free bt hdG eq tp htp) upd_same (by omega) (dall.strong fun b o hb eo => ⟨hb.1, st _ _ eo⟩))
def tDraw5 : TE := fun σ H Q => ∃ (d q : Addr) (x2 x3 x4 x5 x6 x7 : Option V), σ = [some (.ref d), some (.ref q), x2, x3, x4, x5, x6, x7] ∧ Dice H d ∧ H q = some (roomO 5) ∧ q ≠ d ∧
  ∀ v H' ds r', But2 d q H H' → Dice H' d → H' q = some (roomO r') → Cd5 ds r' → 1 ≤ ds.length → Dt (fun b => H b = none) H' v (.tuple ds) → Q v H'
end
end OM

namespace OM
open PySem PySem.Spec PyProof.Rows L2 LamX
/-- between two turns of the loop -/
def St5 (T : List (Addr × Str)) (d p1 : Addr) (H : Hp) (σ : L2.St) (G : Hp) : Prop := ∃ (x2 x3 x4 x6 x7 : Option V) (v : V) (ds : List PyData) (r : Nat), σ = [some (.ref d), some (.ref p1), x2, x3, x4, some v, x6, x7] ∧ ExtB d H G ∧ Dice G d ∧ Tabs T G ∧ G p1 = some (roomO r) ∧ Cd5 ds r ∧ 1 ≤ ds.length ∧ Dt (fun b => b ≠ d ∧ b ≠ p1) G v (.tuple ds)
theorem Dt.tup_ofS {S : Addr → Prop} {H : Hp} {v : V} {ds : List PyData} (h : Dt S H v (.tuple ds)) : ∃ a xs, v = .ref a ∧ S a ∧ H a = some (.tup xs) ∧ xs.length ≤ 1000 ∧ DtAll S H xs ds := by
  cases h with
  | «at» a => cases a
  | @tup a xs _ s e hl h => exact ⟨a, xs, rfl, s, e, hl, h⟩
theorem iteF2 {c : Bool} (h : c = false) {p q : Prop} (x : q) : if c = true then p else q := by
  subst h
  exact iteF x
theorem cutS {A : Prop} {P R : Hp → Option V → Prop} (f : (∀ G x, P G x → R G x) → A) (b : ∀ G x, P G x → R G x) : A := f b
section
variable {P : Program} {w : World} {K : PySem.W.Frag} {mg : Str → Option Value} {base : Heap} {C fS aS fM fF fPt fA fP pC fO fR fs PT cc f : Addr} {c : Nat → Addr} {dS dM dF dPt dA dP dO dR ds fd : FuncData}
theorem ok_right5 {T : List (Addr × Str)} (hmT : (PT, lamR) ∈ T) (huT : ∀ p ∈ T, p.1 = PT → p.2 = lamR) (F : FunC K "_law_right" "_law_right" sRight5 f fd cc) (R : Right5 P w K mg base C fS aS fM fF fPt fA fP pC fO fR fs PT cc c dS dM dF dPt dA dP dO dR ds) : FnOk P w K mg base CX0 23 f fd ["_law_dice_here"] (spRight5 T) := by
  obtain ⟨oM, odM, kvM, docM, pmM, anM, cdM, ctM, oslM, rfl, lkM, hcM⟩ := R.FM.ex
  obtain ⟨dsv, hv, bS1⟩ := R.S.bS1
  refine F.okC scR5 (fun vs H Q E h => ?_) (fun A outer s H vs Q E hr h => ?_)
  · obtain ⟨d, rfl, _⟩ := h
    rfl
  obtain ⟨d, rfl, hd, hT, q⟩ := h
  have hu : (A.deeper (envOfC "_law_right" (defScope sRight5) s.heap.objs.size f (.ref cc))).units < cLine := by
    have := hr.un
    omega
  have hu2 : (A.deeper (envOfC "_law_right" (defScope sRight5) s.heap.objs.size f (.ref cc))).units + 64 < cLine := by
    have := hr.un
    omega
  refine ⟨_, pss_cons (ps_set (i := 1) scR5.nd rfl (Or.inr rfl) (pe_lst (pa_cons pe_int pa_nil)))
      (pss_cons (ps_set (i := 5) scR5.nd rfl (Or.inr rfl) (PE.imp (t' := tDraw5) (pe_callTy call_tuple_of (by rfl) R.tup (by decide +kernel) (pa_cons (pe_lc (own := [("_law_turn", 2)]) rfl scR5.nd (pi_range1 (by rfl) R.rng (pa_cons (pe_call R.GO (hr.mono (by omega)) (by rfl) R.gO R.kO R.bO .nil pass0 (pa_cons (pv 0) (pa_cons (pe_lst (pa_cons pe_int (pa_cons pe_int (pa_cons pe_int (pa_cons pe_int (pa_cons pe_int (pa_cons pe_int pa_nil))))))) pa_nil))) pa_nil))
          (blkOk_by (N := ["_law_dice_here", "_law_room", "_law_turn", "_law_told", "_law_at", "_law_code", "_law_made", "_law_path"]) (sc := defScope sRight5) (by decide +kernel)) (fun _ _ _ _ _ => pg_name (i := 2) scR5.nd rfl (Or.inl rfl)) (fun _ _ _ _ _ => pts_nil) (fun _ _ _ _ _ => (pe_call R.Gs (hr.mono (by omega)) (by rfl) R.gs R.ks R.bs .nil pass0 (pa_cons (pv 0) (pa_cons pe_int (pa_cons (pv 1) pa_nil)))))) pa_nil)) ?rd))
      (pss_cons (ps_for PassesOwn.never rfl (pi_range1 (by rfl) R.rng (pa_cons pe_int pa_nil)) (pg_name (i := 2) scR5.nd rfl (Or.inl rfl))
        (pss_cons (ps_set (i := 3) scR5.nd rfl (Or.inl rfl) (pe_lamcall (T := T) (k := 20) (by rfl) R.gM R.FM.kp lkM hcM R.bM scMe rfl (Or.inl rfl) (met_gives R.M R.n01 R.n11) R.TB rfl hmT huT hr (lamS_by (by show lamSB (defScope sRight5) _ = true; decide +kernel)) rfl (fun _ _ _ _ _ => rfl)
          (fun A outer s H E f c' hr2 => pe_make R.S.MS R.GS (hr2.mono (by omega)) (by rfl) R.S.gSt R.bS .nil (passes_call (takes_of rfl rfl rfl rfl) (fun _ _ _ _ h => h)) (pa_cons (pv 5) (pa_cons (pe_tup (pa_cons pe_str pa_nil)) pa_nil)))))
        (pss_cons (ps_if (pt_cmpR op_ne (pv 3) (pe_ifExp (pt_val (pe_call R.GF (hr.mono (by omega)) (by rfl) R.gF R.kF R.bF .nil pass0 (pa_cons (pv 5) pa_nil))) pe_str pe_str) (nomark _)) (pss_one (ps_ret pe_bl)) pss_nil)
        (pss_cons (ps_if (PW.pt (pw_and (pt_cmpR op_eq (pv 3) pe_str (nomark _)) (pw_and1 (pt_cmpR (op_neL0 hu) (pe_lc (own := [("_law_path", 7)]) rfl scR5.nd (pi_list (pe_call R.GPt (hr.mono (by omega)) (by rfl) R.gPt R.kPt R.bPt .nil pass0 (pa_cons (pe_op op_catA (pv 5) (pv 5)) pa_nil)))
            (blkOk_by (N := ["_law_dice_here", "_law_room", "_law_turn", "_law_told", "_law_at", "_law_code", "_law_made", "_law_path"]) (sc := defScope sRight5) (by decide +kernel)) (fun _ _ _ _ _ => pg_name (i := 7) scR5.nd rfl (Or.inl rfl)) (fun _ _ _ _ _ => pts_one (pt_cmpR op_gt (pe_ix (r := rIxT K) ix_tup (pv 7) pe_int (fun _ _ => rfl)) pe_int (nomark _))) (fun _ _ _ _ _ => pv 7)) (pe_lst pa_nil) (by rfl)))))
          (pss_cons (ps_set (i := 6) scR5.nd rfl (Or.inr rfl) (pe_make R.S.MS R.GS (hr.mono (by omega)) (by rfl) R.S.gSt R.bS .nil (passes_call L2.takes0 (fun _ _ _ _ h => h)) (pa_cons (pv 5) (pa_cons (pe_tup (pa_cons pe_str pa_nil)) pa_nil))))
          (pss_one (ps_if (PW.pt (pw_or (pt_cmpR (op_neD hu2) (pe_prop (E := E0) (pe_op (op_addI R.fndA R.isA R.sfA R.GA (hr.mono (by omega)) R.bA) (pv 6) (pv 6)) R.S.T.cl R.pC R.GP (hr.mono (by omega)) R.bP .nil pass0 (by rfl)) (pe_op op_catA (pv 5) (pv 5)) (nomark _)) (pw_or1 (pt_cmpR op_ne (pe_lamcall (T := T) (k := 20) (by rfl) R.gM R.FM.kp lkM hcM R.bM scMe rfl (Or.inl rfl) (met_gives R.M R.n01 R.n11) R.TB rfl hmT huT hr (lamS_by (by show lamSB (defScope sRight5) _ = true; decide +kernel)) rfl (fun _ _ _ _ _ => rfl)
          (fun A outer s H E f c' hr2 => pe_make R.S.MS R.GS0 (hr2.mono (by omega)) (by rfl) R.S.gSt bS1 hv (passes_call (takes_of rfl rfl rfl rfl) (fun _ _ _ _ h => h)) (pa_cons (pe_prop (E := E0) (pe_op (op_addI R.fndA R.isA R.sfA R.GA (hr2.mono (by omega)) R.bA) (pv 6) (pv 6)) R.S.T.cl R.pC R.GP (hr2.mono (by omega)) R.bP .nil pass0 (by rfl)) pa_nil))) pe_str (nomark _))))) (pss_one (ps_ret pe_bl)) pss_nil))) pss_nil)
        (pss_cons (ps_set (i := 4) scR5.nd rfl (Or.inl rfl) (pe_call R.GR (hr.mono (by omega)) (by rfl) R.gR R.kR R.bR .nil pass0 (pa_cons (pv 0) (pa_cons (pe_callB call_len_seq (by rfl) R.len PySem.boot_len (pa_cons (pv 5) pa_nil)) pa_nil))))
        (pss_cons (ps_set (i := 5) scR5.nd rfl (Or.inr rfl) (pe_op op_catA (pe_op op_catA (pe_slice sl_tupA (pv 5) po_none (po_some (pv 4))) (pe_slice sl_tupA (pv 5) (po_some (pe_op op_add (pv 4) pe_int)) po_none)) (pe_op op_rep01 (pe_tup (pa_cons (pe_call R.Gs (hr.mono (by omega)) (by rfl) R.gs R.ks R.bs .nil pass0 (pa_cons (pv 0) (pa_cons pe_int (pa_cons (pv 1) pa_nil)))) pa_nil)) (pe_callTy call_int1 (by rfl) R.int (by decide +kernel) (pa_cons (pe_cmpR op_eq (pe_call R.GR (hr.mono (by omega)) (by rfl) R.gR R.kR R.bR .nil pass0 (pa_cons (pv 0) (pa_cons pe_int pa_nil))) pe_int (nomark _)) pa_nil)))))
        (pss_one (ps_if (pt_cmpR (op_eqT0 hu) (pv 5) (pe_tup pa_nil) (by rfl)) (pss_one (ps_ret pe_bl)) pss_nil))))))))
      (pss_one (ps_ret pe_bl)))), ?_⟩
  case rd =>
    rintro σ H Q ⟨d, q, x2, x3, x4, x5, x6, x7, rfl, z1, z2, z3, z4⟩
    exact draw5 H Q z1 z2 z3 z4
  refine ⟨(by show 1 ≤ sizeLine; decide), fun p1 hp1 => ?_⟩
  have s1 := same_upd (o := .lst [.int 5]) hp1
  have dn : H d ≠ none := hd.ne
  have ne1 : p1 ≠ d := fun z => dn (by rw [← z]; exact hp1)
  refine ⟨d, p1, _, _, _, _, _, _, rfl, hd.mv s1, (show upd H p1 (.lst [.int 5]) p1 = some (roomO 5) from upd_same), ne1, fun cv H1 ds r b1 hd1 hq1 cd hl dv => ?_⟩
  have ap : ∀ b, upd H p1 (.lst [.int 5]) b = none → b ≠ d ∧ b ≠ p1 := fun b hb => ⟨fun z => dn (by
      rw [upd_ne (fun y => ne1 (y.symm.trans z))] at hb
      rw [← z]
      exact hb), fun z => by
      rw [z, upd_same] at hb
      cases hb⟩
  have eb1 : ExtB d H H1 := fun b o hb eo _ => b1 b o hb (fun z => by
      rw [z, hp1] at eo
      cases eo) (s1 b o eo)
  refine ⟨12, rfl, by decide, by decide, ?_⟩
  refine ⟨fun i m' σ G => m' = 12 - i ∧ i ≤ 12 ∧ St5 T d p1 H σ G, ⟨_, rfl, Nat.zero_le _, _, _, _, _, _, cv, ds, r, rfl, eb1, hd1, tabs_two (hT.ext s1) (hd.mv s1) upd_same b1, hq1, cd, hl, dv.mv (fun b z => ap b z) (fun _ _ _ z => z)⟩, ?_⟩
  rintro i m' σ G ⟨rfl, hi, x2, x3, x4, x6, x7, v, ds, r, rfl, eG, dG, tG, qG, cG, lG, vG⟩
  rcases Nat.lt_or_ge i 12 with hlt | hge
  · refine .inr ⟨hlt, fun σ' G' => St5 T d p1 H σ' G', fun σ' G' h => ⟨12 - (i + 1), by omega, rfl, hlt, h⟩, ?_⟩
    rintro x G' ⟨rfl, rfl⟩
    have len := cG.len
    have wt := cG.wt
    have fl : (flatN 3 ds).length ≤ 42 := by omega
    refine ⟨tG, fun G1 e1 T1 => metRest (bndD ds) (fun G2 s2 => ?_) (fun E' Q' y n => ?_)⟩
    · generalize htv : V.str (if bndD ds = true then "fine" else "stretch") = tv
      obtain ⟨ca, xs, rfl, sca, eca, lxs, dxs⟩ := vG.tup_ofS
      have T2 := T1.ext s2
      have e12 : ExtN G' G2 := e1.trans (ExtN.of s2)
      have v2 := vG.ext e12
      have nx : xs ≠ [] := fun z => by
        rw [← dxs.length, z] at lG
        exact absurd lG (by decide)
      have h1 : scal tv (.str "fine") = true := by rw [← htv]; rfl
      apply cutS (P := fun G _ => ExtN G2 G ∧ Tabs T G)
      · intro go2
        apply cutS (P := fun G _ => Same G2 G)
        · intro go1
          generalize x6 = y6
          refine ⟨_, rfl, _, rfl, (fun b => b ≠ d ∧ b ≠ p1), _, ds, rfl, v2, cG.rows, by omega, cells_small (by omega), fun G3 s3 => ⟨_, rfl, ?_⟩⟩
          cases hb : bndD ds with
          | true =>
            have k : (!decide (tv = V.str "fine")) = false := by rw [← htv, hb]; decide +kernel
            exact iteT ⟨h1, _, rfl, iteF2 k (go1 G3 y6 s3)⟩
          | false =>
            have k : (!decide (tv = V.str "stretch")) = false := by rw [← htv, hb]; decide +kernel
            have h2 : scal tv (.str "stretch") = true := by rw [← htv]; rfl
            exact iteF ⟨h2, _, rfl, iteF2 k (go1 G3 y6 s3)⟩
        · rintro G3 y6 s3
          refine ⟨_, rfl, h1, _, rfl, ite2 (fun hf => ?_) (fun _ => iteF (go2 G3 y6 ⟨ExtN.of s3, T2.ext s3⟩))⟩
          have hb : bndD ds = true := by
            cases hb : bndD ds with
            | true => rfl
            | false =>
              rw [hb] at htv
              rw [← htv] at hf
              exact absurd hf (by decide +kernel)
          have T3 := T2.ext s3
          have e13 : ExtN G' G3 := e12.trans (ExtN.of s3)
          have e3 : G3 ca = some (.tup xs) := e13 _ _ eca (fun _ z => nomatch z)
          have dxs3 := DtAll.ext e13 dxs
          have lx := dxs.length
          have line : (8200000 : Nat) < sizeLine := by decide
          refine ⟨_, rfl, _, rfl, ca, ca, xs, xs, rfl, rfl, SqT.of e3, SqT.of e3, by omega, fun z => absurd z nx, fun _ z => absurd z nx, fun _ _ tp htp => ?_⟩
          have s4 := same_upd (o := .tup (xs ++ xs)) htp
          have dd : Dt (fun _ => True) (upd G3 tp (.tup (xs ++ xs))) (.ref tp) (.tuple (ds ++ ds)) := .tup trivial upd_same (by rw [List.length_append]; omega) ((dxs3.twice dxs3).mv (fun _ _ => trivial) (fun b o _ z => s4 b o z))
          obtain ⟨tw1, tw2, tw3⟩ := cG.twice
          refine ⟨fun _ => True, .ref tp, ds ++ ds, rfl, dd, tw1, Nat.le_trans tw3 (by decide), fun J pj L bs sJ nj nd mx tL ej => ?_⟩
          have fL := mx.few nd (Nat.le_trans tw3 (by decide))
          refine ⟨pj, rfl, ⟨_, SqL.of ej⟩, fun Dl hD => lc_list (PvL J Dl L) (PvL.zero hD) (fun i H' _ p => SqL.of (p.1 _ _ ej)) (fun i x H5 hx p5 => ?_) (fun H7 p7 => ?_)⟩
          · rw [List.getElem?_map] at hx
            obtain ⟨c, hc, rfl⟩ := Option.map_eq_some_iff.mp hx
            have li : i < L.length := by
              rw [tL.1]
              exact (List.getElem?_eq_some_iff.mp hc).1
            obtain ⟨t, ht⟩ : ∃ t, L[i]? = some t := ⟨_, List.getElem?_eq_getElem li⟩
            have ec : H5 c = some (tup3 t) := p5.1 _ _ (tL.2 i t c ht hc)
            refine ⟨rfl, _, rfl, c, _, 1, _, rfl, rfl, SqT.of ec, rfl, _, _, rfl, rfl, _, rfl, ite2 (fun k2 => ⟨_, rfl, p5.no hD (by omega) ht fun z => ?_⟩) (fun k2 => p5.yes ht ?_)⟩
            · have y : (6 : Int) < ((t.2.1 : Nat) : Int) := of_decide_eq_true k2
              omega
            · have y : ¬ (6 : Int) < ((t.2.1 : Nat) : Int) := fun y => k2 (decide_eq_true y)
              omega
          · obtain ⟨s7, acc, e7, _, z7⟩ := p7
            rw [List.length_map, ← tL.1, List.take_length] at z7
            refine ⟨(by show 0 ≤ sizeLine; decide), fun p9 h9 => ⟨Dl, p9, acc, rfl, rfl, SqL.of (same_upd h9 _ _ e7), SqL.of upd_same, _, rfl, ?_⟩⟩
            have s9 : Same G3 (upd H7 p9 (.lst [])) := ((s4.trans sJ).trans s7).trans (same_upd h9)
            refine ite2 (fun k9 => ?_) (fun _ => go2 _ y6 ⟨ExtN.of (s3.trans s9), T3.ext s9⟩)
            have many : bndD (ds ++ ds) = false := bnd_many mx fun z => by
              have := z7.mpr z
              rw [this] at k9
              cases k9
            revert s9
            generalize upd H7 p9 (.lst []) = G9
            intro s9
            have T9 := T3.ext s9
            have e19 : ExtN G' G9 := e13.trans (ExtN.of s9)
            have v9 := vG.ext e19
            refine ⟨_, rfl, (by show 1 ≤ sizeLine; decide), fun tq htq x dx hx hdx ne => ?_⟩
            have ndx : upd (upd G9 tq (.tup [.str "a"])) dx (.own x) x = none := by
              rw [upd_ne (fun z => ne z.symm)]
              exact hx
            have sq := same_upd (o := .tup [.str "a"]) htq
            have s5 : Same (upd G9 tq (.tup [.str "a"])) (upd (upd (upd G9 tq (.tup [.str "a"])) dx (.own x)) x (.ins C dx [])) := (same_upd hdx).trans (same_upd ndx)
            refine ⟨fun _ => True, x, dx, _, _, .tuple ds, .tuple [.str "a"], rfl, upd_same, v9.mv (fun _ _ => trivial) (fun b o _ z => s5 b o (sq b o z)), .tup trivial (s5 _ _ upd_same) (by show 1 ≤ 1000; decide) (.cons (.at (.str _)) .nil), (by rw [sml_tup]; exact cG.sml), (by decide +kernel), fun _ => Nat.le_trans fl (by decide), fun z H8 b8 e8 => ⟨rfl, ?_⟩, fun z => by
              rw [ok_bnd cG.rows kept_a, hb] at z
              cases z⟩
            have s8 : Same G9 H8 := fun b o e => b8 b o (ne_of_none (sq b o e) hx) (s5 b o (sq b o e))
            have e18 : ExtN G' H8 := e19.trans (ExtN.of s8)
            have T8 := T9.ext s8
            have lxx : (xs ++ xs).length ≤ 1000 := by
              rw [List.length_append]
              omega
            have c8 : H8 ca = some (.tup xs) := e18 _ _ eca (fun _ z => nomatch z)
            have d8 := DtAll.ext e18 dxs
            refine ⟨_, rfl, _, rfl, x, x, dx, dx, _, _, rfl, rfl, e8, e8, x, x, dx, dx, ca, ca, _, _, xs, xs, rfl, e8, e8, c8, c8, nx, nx, by omega, fun H9 m dz cz s9' _ _ em ecz => ⟨⟨m, rfl⟩, m, dz, _, rfl, em, m, dz, _, _, rfl, em, rfl, ?_⟩⟩
            refine ⟨_, rfl, _, rfl, ca, ca, xs, xs, rfl, rfl, SqT.of (s9' _ _ c8), SqT.of (s9' _ _ c8), by omega, fun z => absurd z nx, fun _ z => absurd z nx, fun _ _ cp hcp => ?_⟩
            have scp := same_upd (o := .tup (xs ++ xs)) hcp
            have s89 := s9'.trans scp
            have dt9 := (d8.twice d8).mv (S' := fun _ => True) (H' := upd H9 cp (.tup (xs ++ xs))) (fun _ _ => trivial) (fun b o _ z => s89 b o z)
            have pz := code_pure tw1
            refine ⟨.tuple (ds ++ ds), .tuple (ds ++ ds), Dt.dp (pure_tup pz.1) (.tup (S := fun _ => True) trivial (scp _ _ ecz) lxx dt9), Dt.dp (pure_tup pz.1) (.tup (S := fun _ => True) trivial upd_same lxx dt9), code_shaped tw1 tw2, code_shaped tw1 tw2, _, rfl, ?_⟩
            refine iteF2 (by rw [eqv_pure _ (pure_tup pz.1)]; rfl) ?_
            have T10 := T8.ext s89
            refine ⟨T10, fun G11 e11 T11 => metRest false (fun G12 s12 => ⟨rfl, _, rfl, iteF2 (by decide +kernel) (go2 G12 (some (.ref x)) ⟨?_, T11.ext s12⟩)⟩) (fun E' Q' y n => ?_)⟩
            · exact (ExtN.of (((s3.trans s9).trans s8).trans s89)).trans (e11.trans (ExtN.of s12))
            · have em11 : G11 x = _ := e11 _ _ (s89 _ _ e8) (fun _ z => nomatch z)
              have c11 : G11 ca = some (.tup xs) := e11 _ _ (s89 _ _ c8) (fun _ z => nomatch z)
              have d11 := DtAll.ext ((e18.trans (ExtN.of s89)).trans e11) dxs
              refine ⟨_, rfl, _, rfl, x, x, dx, dx, _, _, rfl, rfl, em11, em11, x, x, dx, dx, ca, ca, _, _, xs, xs, rfl, em11, em11, c11, c11, nx, nx, by omega, fun J2 m2 dz2 cz2 sJ2 _ _ em2 ecz2 => ⟨⟨m2, rfl⟩, m2, dz2, _, rfl, em2, m2, dz2, _, _, rfl, em2, rfl, ?_⟩⟩
              intro x2' dx2 hx2 hdx2 ne2
              have ndx2 : upd J2 dx2 (.own x2') x2' = none := by
                rw [upd_ne (fun z => ne2 z.symm)]
                exact hx2
              have sJ3 : Same J2 (upd (upd J2 dx2 (.own x2')) x2' (.ins C dx2 [])) := (same_upd hdx2).trans (same_upd ndx2)
              have nok : okD (.tuple (ds ++ ds)) (.tuple []) = false := by rw [ok_bnd tw1 kept_0, many]
              refine ⟨fun _ => True, x2', dx2, aS, _, .tuple (ds ++ ds), rfl, upd_same, .tup trivial (sJ3 _ _ ecz2) lxx ((d11.twice d11).mv (fun _ _ => trivial) (fun b o _ z => sJ3 b o (sJ2 b o z))), R.S.emp, (by rw [sml_tup]; exact tw2), fun _ => Nat.le_trans tw3 (by decide), fun z => ?_, fun z H6 s6 => n rfl H6 ((sJ2.trans sJ3).trans s6)⟩
              rw [nok] at z
              cases z
      · rintro G y6 ⟨e2, tGG⟩
        have eGG : ExtN G' G := e12.trans e2
        have ecG : G ca = some (.tup xs) := eGG _ _ eca (fun _ z => nomatch z)
        have dxG := DtAll.ext eGG dxs
        have dGG := dG.ext eGG
        have qGG : G p1 = some (roomO r) := eGG _ _ qG (fun _ z => nomatch z)
        have bGG := eG.tr (ExtB.ext eGG)
        have lx := dxs.length
        have line : (8200000 : Nat) < sizeLine := by decide
        refine ⟨_, rfl, _, rfl, ca, xs, rfl, .inr (SqT.of ecG), d, (xs.length : Int), rfl, dGG, by omega, by omega, fun J1 k k0 k1 b1 hd1 => ?_⟩
        obtain ⟨n, rfl⟩ : ∃ n : Nat, k = (n : Int) := ⟨k.toNat, by omega⟩
        have hn : n < xs.length := by omega
        have bJ1 := bGG.tr (ExtB.but b1)
        have tJ1 := tabs_but tGG dGG b1
        have qJ1 := b1 _ _ ne1 qGG
        have dx1 : DtAll (fun b => b ≠ d ∧ b ≠ p1) J1 xs ds := dxG.mv (fun _ z => z) (fun b o sb z => b1 b o sb.1 z)
        have ec1 := b1 _ _ sca.1 ecG
        apply cutR (P := fun J c => ∃ (xs' : List V) (ds' : List PyData) (r' : Nat), J c = some (.tup xs') ∧ c ≠ d ∧ c ≠ p1 ∧ ExtB d H J ∧ Dice J d ∧ Tabs T J ∧ J p1 = some (roomO r') ∧ Cd5 ds' r' ∧ xs'.length ≤ 1000 ∧ DtAll (fun b => b ≠ d ∧ b ≠ p1) J xs' ds')
        · intro go
          have nz : ∀ {A : Hp}, Dice A d → A p1 ≠ none → ∀ {b : Addr}, A b = none → b ≠ d ∧ b ≠ p1 := fun {A} h1 h2 {b} hb => ⟨fun z => h1.ne (by rw [← z]; exact hb), fun z => h2 (by rw [← z]; exact hb)⟩
          have n1 : J1 p1 ≠ none := by
            rw [qJ1]
            exact fun z => nomatch z
          refine ⟨_, rfl, _, rfl, (n : Int), rfl, sl_one ec1 fun c1 H4 s4 h4 e4 => ⟨_, rfl, _, rfl, _, _, rfl, rfl, _, rfl, ?_⟩⟩
          refine sl_two (K := K) (s4 _ _ ec1) ?_
          intro c2 H5 s5 h5 e5
          rw [cut_take xs (by omega)] at e4
          rw [show ((n : Int) + 1) = ((n + 1 : Nat) : Int) by omega, cut_drop xs (by omega)] at e5
          have lsum : (xs.take n).length + (xs.drop (n + 1)).length ≤ xs.length := by
            rw [List.length_take, List.length_drop]
            omega
          refine cat_one (K := K) (s5 _ _ e4) e5 (by omega) fun c3 H6 s6 h6 e6 => ?_
          have s16 := (s4.trans s5).trans s6
          have m1 : c1 ≠ d ∧ c1 ≠ p1 := h4.elim (fun z => z ▸ sca) fun z => nz hd1 n1 z
          have m2 : c2 ≠ d ∧ c2 ≠ p1 := h5.elim (fun z => z ▸ sca) fun z => nz hd1 n1 (s4.free z)
          have m3 : c3 ≠ d ∧ c3 ≠ p1 := h6.elim (fun z => z ▸ m1) fun z => z.elim (fun z => z ▸ m2) fun z => nz hd1 n1 (s4.free (s5.free z))
          obtain ⟨cut, lcut⟩ := cG.drop (i := n) (by omega)
          have dcut : DtAll (fun b => b ≠ d ∧ b ≠ p1) H6 (xs.take n ++ xs.drop (n + 1)) (ds.take n ++ ds.drop (n + 1)) := ((dta_take n dx1).app (dta_drop (n + 1) dx1)).mv (fun _ z => z) (fun b o _ z => s16 b o z)
          have lxcut := dcut.length
          refine ⟨_, rfl, _, rfl, d, p1, r, rfl, hd1.mv s16, s16 _ _ qJ1, ne1, fun v H7 e r7 b7 hd7 q7 h7 row sm w7 dv => ⟨(by show 1 ≤ sizeLine; decide), fun tu htu => ?_⟩⟩
          have stu := same_upd (o := .tup [v]) htu
          refine ⟨_, rfl, d, 3, rfl, hd7.mv stu, by decide, by decide, fun H9 k9 _ _ b9 hd9 => ⟨rfl, .inr ⟨_, rfl, ?_⟩⟩⟩
          have n7 : H7 p1 ≠ none := by
            rw [q7]
            exact fun z => nomatch z
          have mu := nz hd7 n7 htu
          have f9 : ∀ b o, b ≠ d → b ≠ p1 → H6 b = some o → H9 b = some o := fun b o z1 z2 z => b9 b o z1 (stu b o (b7 b o z1 z2 z))
          have q9 : H9 p1 = some (roomO r7) := b9 _ _ ne1 (stu _ _ q7)
          have t9 : Tabs T H9 := tabs_but ((tabs_two (tJ1.ext s16) (hd1.mv s16) (s16 _ _ qJ1) b7).ext stu) (hd7.mv stu) b9
          have d9 : DtAll (fun b => b ≠ d ∧ b ≠ p1) H9 (xs.take n ++ xs.drop (n + 1)) (ds.take n ++ ds.drop (n + 1)) := dcut.mv (fun _ z => z) (fun b o sb z => f9 b o sb.1 sb.2 z)
          have e9 : ExtB d H H9 := fun b o hb eo nt => by
            have z6 := s16 b o (bJ1 b o hb eo nt)
            exact f9 b o hb (fun z => by
              rw [z, hp1] at eo
              cases eo) z6
          have v9 : Dt (fun b => b ≠ d ∧ b ≠ p1) H9 v e := dv.mv (fun b z => nz (hd1.mv s16) (by
              rw [s16 _ _ qJ1]
              exact fun y => nomatch y) z) (fun b o hb z => by
              have sb := nz (hd1.mv s16) (show H6 p1 ≠ none by
                rw [s16 _ _ qJ1]
                exact fun y => nomatch y) hb
              exact b9 b o sb.1 (stu b o z))
          have wt7 : (flatS 3 e).length + 6 * r7 ≤ 1 + 6 * r := w7
          refine ⟨tu, [v], _, rfl, rfl, SqT.of (b9 _ _ mu.1 upd_same), (fun z => nomatch z), fun hb => ?_, fun hb p9 hp9 => ?_⟩
          · refine cat_one (K := K) (f9 _ _ m3.1 m3.2 e6) (b9 _ _ mu.1 upd_same) (by
              rw [List.length_append]
              show _ + 1 ≤ _
              omega) fun c J s h ec => go J c ⟨_, _, r7, ec, ?_, ?_, fun b o z1 z2 z3 => s b o (e9 b o z1 z2 z3), hd9.mv s, t9.ext s, s _ _ q9, cut.more (by omega) row sm wt7, ?_, ?_⟩
            · exact (h.elim (fun z => z ▸ m3) fun z => z.elim (fun z => z ▸ mu) fun z => nz hd9 (by rw [q9]; exact fun y => nomatch y) z).1
            · exact (h.elim (fun z => z ▸ m3) fun z => z.elim (fun z => z ▸ mu) fun z => nz hd9 (by rw [q9]; exact fun y => nomatch y) z).2
            · rw [List.length_append, List.length_append]
              show _ + _ + 1 ≤ _
              omega
            · exact (d9.app (.cons v9 .nil)).mv (fun _ z => z) (fun b o _ z => s b o z)
          · have sp9 := same_upd (o := .tup []) hp9
            have m9 := nz hd9 (by rw [q9]; exact fun y => nomatch y) hp9
            refine cat_one (K := K) (sp9 _ _ (f9 _ _ m3.1 m3.2 e6)) upd_same (by
              rw [List.length_append]
              show _ + 0 ≤ _
              omega) fun c J s h ec => go J c ⟨_, ds.take n ++ ds.drop (n + 1), r7, ec, ?_, ?_, fun b o z1 z2 z3 => s b o (sp9 b o (e9 b o z1 z2 z3)), (hd9.mv sp9).mv s, (t9.ext sp9).ext s, s _ _ (sp9 _ _ q9), cut.less h7, ?_, ?_⟩
            · exact (h.elim (fun z => z ▸ m3) fun z => z.elim (fun z => z ▸ m9) fun z => nz hd9 (by rw [q9]; exact fun y => nomatch y) (sp9.free z)).1
            · exact (h.elim (fun z => z ▸ m3) fun z => z.elim (fun z => z ▸ m9) fun z => nz hd9 (by rw [q9]; exact fun y => nomatch y) (sp9.free z)).2
            · rw [List.append_nil, List.length_append]
              omega
            · rw [List.append_nil]
              exact d9.mv (fun _ z => z) (fun b o _ z => s b o (sp9 b o z))
        · rintro J c ⟨xs', ds', r', ec, nd, np, eJ, dJ, tJ, qJ, cJ, lJ, vJ⟩
          have lv := vJ.length
          refine ⟨_, rfl, (by show 0 ≤ sizeLine; decide), fun p0 hp0 => ⟨c, p0, xs', rfl, rfl, SqT.of (same_upd hp0 _ _ ec), SqT.of upd_same, _, rfl, ?_⟩⟩
          have s0 := same_upd (o := .tup []) hp0
          have e0 : ExtB d H (upd J p0 (.tup [])) := fun b o z1 z2 z3 => s0 b o (eJ b o z1 z2 z3)
          refine ite2 (fun _ => q _ e0 (dJ.mv s0) (tJ.ext s0)) (fun hz => ?_)
          refine ⟨_, _, _, _, _, .ref c, ds', r', rfl, e0, dJ.mv s0, tJ.ext s0, s0 _ _ qJ, cJ, ?_, .tup ⟨nd, np⟩ (s0 _ _ ec) lJ (vJ.mv (fun _ z => z) (fun b o _ z => s0 b o z))⟩
          cases xs' with
          | nil => exact absurd rfl hz
          | cons _ _ =>
            rw [← lv]
            show 1 ≤ _ + 1
            omega
    · refine ⟨_, rfl, (by show 1 ≤ sizeLine; decide), fun tp htp x dx hx hdx ne => ?_⟩
      have ndx : upd (upd G1 tp (.tup [.str "a"])) dx (.own x) x = none := by
        rw [upd_ne (fun z => ne z.symm)]
        exact hx
      have s3 := same_upd (o := .tup [.str "a"]) htp
      have s5 : Same (upd G1 tp (.tup [.str "a"])) (upd (upd (upd G1 tp (.tup [.str "a"])) dx (.own x)) x (.ins C dx [])) := (same_upd hdx).trans (same_upd ndx)
      refine ⟨fun _ => True, x, dx, _, _, .tuple ds, .tuple [.str "a"], rfl, upd_same, (vG.ext e1).mv (fun _ _ => trivial) (fun b o _ z => s5 b o (s3 b o z)), .tup trivial (s5 _ _ upd_same) (by show 1 ≤ 1000; decide) (.cons (.at (.str _)) .nil), (by rw [sml_tup]; exact cG.sml), (by decide +kernel), fun _ => Nat.le_trans fl (by decide), fun z H6 b6 e6 => ⟨rfl, y (by rw [← ok_bnd cG.rows kept_a]; exact z) _ _ (fun b o e => b6 b o (ne_of_none (s3 b o e) hx) (s5 b o (s3 b o e)))⟩, fun z H6 s6 => n (by rw [← ok_bnd cG.rows kept_a]; exact z) H6 ((s3.trans s5).trans s6)⟩
  · obtain rfl : i = 12 := by omega
    exact .inl ⟨Nat.le_refl _, q G eG dG tG⟩
end
end OM

namespace OM
open PySem PySem.Spec PyProof.Rows L2 LamX
theorem dta_rep {S : Addr → Prop} {H : Hp} {vs : List V} {ds : List PyData} (h : DtAll S H vs ds) : ∀ n : Nat, DtAll S H (List.replicate n vs).flatten (List.replicate n ds).flatten
  | 0 => .nil
  | n + 1 => by
    rw [List.replicate_succ, List.replicate_succ, List.flatten_cons, List.flatten_cons]
    exact h.twice (dta_rep h n)
/-- what stays as all but tables stay -/
structure StaysN (R : L2.St → Hp → Prop) : Prop where
  st : ∀ σ H H', ExtN H H' → R σ H → R σ H'
theorem StaysN.s {R : L2.St → Hp → Prop} (h : StaysN R) : Stays R := ⟨fun σ H H' s r => h.st σ H H' (ExtN.of s) r⟩
theorem rv_stN {i : Nat} {d : PyData} : StaysN (RV i d) := ⟨fun _ _ _ s ⟨v, e, h⟩ => ⟨v, e, h.ext s⟩⟩
def PdB (d : PyData) (b : Bool) : Prop := smlD d = true ∧ (codeD 3 d = true → (flatN 3 (itemsD d)).length ≤ 400) ∧ okD d (.tuple []) = b
/-- Stretch(e), of one of many data -/
def tMk5 {α : Type} (R : α → L2.St → Hp → Prop) (g : α → PyData) (cS : Addr) (E : XK) : TE := fun σ H Q => ∃ c b, PdB (g c) b ∧ R c σ H ∧ (b = true → ∀ H5 v, Same H H5 → Q v H5) ∧ (b = false → OutN E cS H)
def tMet5 {α : Type} (T : List (Addr × Str)) (R : α → L2.St → Hp → Prop) (g : α → PyData) : TE := fun σ H Q => Tabs T H ∧ ∃ c b, PdB (g c) b ∧ R c σ H ∧ ∀ H', ExtN H H' → Tabs T H' → Q (.str (if b = true then "fine" else "stretch")) H'
section
variable {X : Cx} {R : L2.St → Hp → Prop} {a b e : Expr} {pos p : Pos} {x : Str}
theorem pe_rp5 {ds : List PyData} {n : Nat} (h : PE X a (tLit R (.tuple ds))) (hb : PE X b (tC (.int (n : Int)))) (h0 : ds ≠ []) (h1 : 2 ≤ n) (h2 : n ≤ 1000) (h4 : (List.replicate n ds).flatten.length ≤ 1000) : PE X (.BinOp a .Mult b pos) (tLit R (.tuple (List.replicate n ds).flatten)) :=
  PE.imp (pe_op op_repT h hb) fun σ H Q q => ⟨q.1, fun v H1 s1 d1 => by
    obtain ⟨l, xs, rfl, el, lx, dx⟩ := d1.tup_of
    refine ⟨l, n, xs, rfl, rfl, SqT.of el, fun z => h0 ?_, by omega, by omega, lx, fun p hp => ?_⟩
    · have := dx.length
      rw [z] at this
      exact List.length_eq_zero_iff.mp this.symm
    · have s2 := same_upd (o := .tup (List.replicate (n : Int).toNat xs).flatten) hp
      have dn := dta_rep dx n
      refine q.2 _ _ (s1.trans s2) (.tup trivial upd_same ?_ (dn.mv (fun _ z => z) fun b o _ z => s2 b o z))
      rw [← dn.length] at h4
      exact h4⟩
theorem pe_ct5 (S : Stays R) {xs ys : List PyData} (ha : PE X a (tLit R (.tuple xs))) (hb : PE X b (tLit R (.tuple ys))) (hl : ∀ σ H, R σ H → xs.length + ys.length ≤ 1000) : PE X (.BinOp a .Add b pos) (tLit R (.tuple (xs ++ ys))) :=
  PE.imp (pe_op op_catA ha hb) fun σ H Q q => ⟨q.1, fun v H1 s1 d1 => ⟨S.st _ _ _ s1 q.1, fun u H2 s2 d2 => by
    obtain ⟨l, ls, rfl, el, lx, dx⟩ := d1.tup_of
    obtain ⟨m, ms, rfl, em, ly, dy⟩ := d2.tup_of
    have := hl _ _ q.1
    have l1 := dx.length
    have l2 := dy.length
    have line : (8200000 : Nat) < sizeLine := by decide
    refine cat_one (K := X.K) (s2 _ _ el) em (by omega) fun c H3 s3 _ ec => q.2 _ _ ((s1.trans s2).trans s3) (.tup trivial ec (by rw [List.length_append]; omega) (((dx.mv (fun _ z => z) fun b o _ z => s2 b o z).twice dy).mv (fun _ z => z) fun b o _ z => s3 b o z))⟩⟩
theorem pe_sl5 {ds : List PyData} {p2 : Pos} (h : PE X a (tLit R (.tuple ds))) (hb : PE X b (tC (.int 1))) (h0 : ∀ σ H, R σ H → 1 ≤ ds.length) : PE X (.Subscript a (.Slice none (some b) none p2) pos) (tLit R (.tuple (ds.take 1))) :=
  PE.imp (pe_slice sl_tupA h po_none (po_some hb)) fun σ H Q q => ⟨q.1, fun v H1 s1 d1 => ⟨1, rfl, by
    obtain ⟨l, ls, rfl, el, lx, dx⟩ := d1.tup_of
    have := h0 _ _ q.1
    have l1 := dx.length
    refine sl_one (K := X.K) el fun c H3 s3 _ ec => q.2 _ _ (s1.trans s3) ?_
    rw [show (some (1 : Int)) = some ((1 : Nat) : Int) from rfl, cut_take ls (by omega)] at ec
    exact .tup trivial ec (by rw [List.length_take]; omega) ((dta_take 1 dx).mv (fun _ z => z) fun b o _ z => s3 b o z)⟩⟩
theorem pe_lp (i : Nat) {d : PyData} (hR : ∀ σ H, R σ H → RV i d σ H) (hN : X.N[i]? = some x := by rfl) (hv : Vis X.env.scope x := by first | exact Or.inl rfl | exact Or.inr (Or.inl rfl) | exact Or.inr (Or.inr rfl)) (hd : (x == ("__debug__" : Str)) = false := by decide)
    (hcd : (x == ("__classdict__" : Str)) = false := by decide) : PE X (.Name x pos) (tLit R d) := PE.imp (pv i hN hv hd hcd) fun σ H Q q => by
  obtain ⟨v, e, h⟩ := hR _ _ q.1
  exact ⟨v, e, q.2 v H (Same.refl H) h⟩
theorem pe_mk5 {α : Type} {R : α → L2.St → Hp → Prop} {g : α → PyData} {C fS aS cS : Addr} {dS : FuncData} {dsv : List Value} {E : XK} (MS : Mk X.K C fS) (G : FnOk X.prog X.w X.K X.mg X.base (L2.CX X.prog X.w) 15 fS dS ["self", "code", "keeps"] (spSI0 X.K C cS)) (hr : Room 16 X.A) (hg : Gl X "Stretch") (gSt : X.mg "Stretch" = some (.ref C))
    (bS : Binds X.K dS ["self", "code", "keeps"] dsv) (hv : Vals [V.ref aS] dsv) (emp : Emp X.K aS) (hx : Passes (L2.CX X.prog X.w) X E) (h : ∀ c, PE X e (tLit (R c) (g c))) (he : starEach [e] X.env = (false, eval e X.env) :: starEach [] X.env := by rfl) (hpl : (backTo pos (starEach [] X.env)).any (·.1) = false := by rfl) :
    PE X (.Call (.Name "Stretch" p) [e] [] pos) (tMk5 R g cS E) := ⟨fun pins s σ H Q I ⟨c, b, pd, r, y, n⟩ => (pe_make MS G hr hg gSt bS hv hx (pa_cons (h c) pa_nil he) (he := he) (hpl := hpl)).run pins s σ H Q I ⟨r, fun v H1 s1 d1 x dx hx hdx ne => by
    have ndx : upd H1 dx (.own x) x = none := by
      rw [upd_ne (fun z => ne z.symm)]
      exact hx
    have s2 : Same H1 (upd (upd H1 dx (.own x)) x (.ins C dx [])) := (same_upd hdx).trans (same_upd ndx)
    refine ⟨fun _ => True, x, dx, aS, v, g c, rfl, upd_same, d1.mv (fun _ z => z) (fun b o _ z => s2 b o z), emp, pd.1, pd.2.1, fun z H6 b6 _ => ⟨rfl, y (by rw [← pd.2.2]; exact z) _ _ fun b o e => b6 b o (ne_of_none (s1 b o e) hx) (s2 b o (s1 b o e))⟩, fun z H6 s6 => n (by rw [← pd.2.2]; exact z) H6 ((s1.trans s2).trans s6)⟩⟩⟩
theorem met5 {α : Type} {T : List (Addr × Str)} {R : α → L2.St → Hp → Prop} {g : α → PyData} {cS : Addr} (S : ∀ c, StaysN (R c)) (h : PE X e (tLam T (TTmet cS) fun E => tMk5 R g cS E)) : PE X e (tMet5 T R g) :=
  PE.imp h fun σ H Q ⟨t, c, b, pd, r, q⟩ => ⟨t, fun H1 e1 T1 => metRest b (fun H5 s5 => q _ (e1.trans (ExtN.of s5)) (T1.ext s5)) fun E' Q' y n => ⟨c, b, pd, (S c).st _ _ _ e1 r, y, n⟩⟩
end
end OM

namespace OM
open PySem PySem.Spec PyProof.Rows L2 LamX
def pdB (d : PyData) (b : Bool) : Bool := smlD d && ((!codeD 3 d || decide ((flatN 3 (itemsD d)).length ≤ 400)) && decide (okD d (.tuple []) = b))
theorem pdB_ok {d : PyData} {b : Bool} (h : pdB d b = true) : PdB d b := by
  unfold pdB at h
  simp only [Bool.and_eq_true, Bool.or_eq_true, Bool.not_eq_true', decide_eq_true_eq] at h
  obtain ⟨h1, h2, h3⟩ := h
  refine ⟨h1, fun z => ?_, h3⟩
  rcases h2 with h2 | h2
  · rw [z] at h2
    cases h2
  · exact h2
def putD : PyData := .tuple [.str "put", .str "a"]
def six5 : List PyData := (List.replicate 6 [putD]).flatten
def grow5 : List PyData := (List.replicate 6 [PyData.tuple [.str "set", .str "a", .str "f", .tuple [.str "a", .str "a"]]]).flatten
def test5 : PyData := .tuple [.str "if", .str "p", .str "a", .tuple [], .tuple []]
def three5 : List PyData := (List.replicate 3 [test5]).flatten
def copy5 : List PyData := (List.replicate 24 [PyData.tuple [.str "copy", .str "a", .str "b"]]).flatten
def cell5 (c : Str) : PyData := .tuple [.str "read", .str "a", .str c]
def names4 : List Str := ["v", "w", "x", "y"]
def cells5 : List PyData := names4.map cell5
def four5 : List (List PyData) := [six5, grow5, three5, copy5]
theorem four_ok : (four5.all fun ds => pdB (.tuple ds) true && (pdB (.tuple (ds ++ ds.take 1)) false && (decide (1 ≤ ds.length) && decide (ds.length ≤ 24)))) = true := by decide +kernel
theorem four_at {ds : List PyData} (h : ds ∈ four5) : PdB (.tuple ds) true ∧ PdB (.tuple (ds ++ ds.take 1)) false ∧ 1 ≤ ds.length ∧ ds.length ≤ 24 := by
  have := List.all_eq_true.mp four_ok ds h
  simp only [Bool.and_eq_true, decide_eq_true_eq] at this
  exact ⟨pdB_ok this.1, pdB_ok this.2.1, this.2.2.1, this.2.2.2⟩
theorem c1_ok : PdB (.tuple cells5) true := pdB_ok (by decide +kernel)
theorem c2_ok : PdB (.tuple (cells5 ++ [.tuple [.str "write", .str "z", .str "a"]])) false := pdB_ok (by decide +kernel)
theorem c3_ok : PdB (.tuple ([.tuple [.str "if", .str "p", .str "a", .tuple six5, .tuple six5]] ++ grow5)) true := pdB_ok (by decide +kernel)
theorem c4_ok : PdB (.tuple [.tuple [.str "if", .str "p", .str "a", .tuple six5, .tuple []], putD]) false := pdB_ok (by decide +kernel)
/-! helpers -/
theorem RV.mk {i : Nat} {d : PyData} {σ : L2.St} {H : Hp} {v : V} (e : σ[i]? = some (some v)) (h : Dt (fun _ => True) H v d) : RV i d σ H := ⟨v, e, h⟩
mutual
/-- data of texts and tuples outlive the change of a list -/
theorem Dt.upl {S : Addr → Prop} {H : Hp} {pt : Addr} {acc : List V} {o : HO} (e : H pt = some (.lst acc)) : ∀ {v : V} {d : PyData}, pureD d = true → Dt S H v d → Dt S (upd H pt o) v d
  | _, _, _, .at h => .at h
  | _, _, p, .tup (a := a) s y hl h => .tup s (by
      rw [upd_ne (fun z => by
        rw [z, e] at y
        cases y)]
      exact y) hl (DtAll.upl e (by unfold pureD at p; exact p) h)
  | _, _, p, .lst s y hl h => by unfold pureD at p; cases p
  | _, _, p, .dic0 s y => by unfold pureD at p; cases p
  | _, _, p, .dic1 s y h => by unfold pureD at p; cases p
theorem DtAll.upl {S : Addr → Prop} {H : Hp} {pt : Addr} {acc : List V} {o : HO} (e : H pt = some (.lst acc)) : ∀ {vs : List V} {ds : List PyData}, pureAll ds = true → DtAll S H vs ds → DtAll S (upd H pt o) vs ds
  | _, _, _, .nil => .nil
  | _, _, p, .cons h r => by
    unfold pureAll at p
    rw [Bool.and_eq_true] at p
    exact .cons (Dt.upl e p.1 h) (DtAll.upl e p.2 r)
end
theorem RV.upl {i : Nat} {d : PyData} {σ : L2.St} {H : Hp} {pt : Addr} {acc : List V} {o : HO} (e : H pt = some (.lst acc)) (p : pureD d = true) (h : RV i d σ H) : RV i d σ (upd H pt o) := by
  obtain ⟨v, h1, h2⟩ := h
  exact ⟨v, h1, h2.upl e p⟩
theorem four_pure : (four5.all fun ds => pureD (.tuple ds)) = true := by decide +kernel
theorem tabs_upl {T : List (Addr × Str)} {H : Hp} {pt : Addr} {acc : List V} {o : HO} (t : Tabs T H) (e : H pt = some (.lst acc)) : Tabs T (upd H pt o) := fun p hp => by
  obtain ⟨ps, h1, h2, h3⟩ := t p hp
  refine ⟨ps, by
    rw [upd_ne (fun z => by
      rw [z, e] at h1
      cases h1)]
    exact h1, h2, fun pos cv hc => ?_⟩
  obtain ⟨c', e1, e2⟩ := h3 pos cv hc
  refine ⟨c', e1, ?_⟩
  rw [upd_ne (fun z => by
    rw [z, e] at e2
    have e3 := Option.some.inj e2
    unfold CodeO at e3
    cases e3)]
  exact e2
theorem dpa_strs {K : PySem.W.Frag} {H : Hp} : ∀ l : List Str, DpAll K H (l.map V.str) (l.map PyData.str)
  | [] => .nil
  | _ :: r => .cons (.str _) (dpa_strs r)
theorem dpa_ints {K : PySem.W.Frag} {H : Hp} : ∀ l : List Int, DpAll K H (l.map V.int) (l.map PyData.int)
  | [] => .nil
  | _ :: r => .cons (.int _) (dpa_ints r)
def wB (b : Bool) : Str := if b = true then "fine" else "stretch"
def told5 (i : Nat) : List Str := (List.replicate i [wB true, wB false]).flatten
theorem told_sh : SeqAt.shaped (.list ((told5 6).map PyData.str)) = true := by decide +kernel
theorem told_eq : PyData.eqv (.list ((told5 6).map PyData.str)) (.list ((told5 6).map PyData.str)) = true := by decide +kernel
def bounds5 : List Int := [4, 4, 6, 6, 24, 3]
theorem bnds_sh : SeqAt.shaped (.list (bounds5.map PyData.int)) = true := by decide +kernel
theorem bnds_eq : PyData.eqv (.list (bounds5.map PyData.int)) (.list (bounds5.map PyData.int)) = true := by decide +kernel
theorem told_len : ∀ i : Nat, (told5 i).length = 2 * i
  | 0 => rfl
  | i + 1 => by
    have := told_len i
    unfold told5 at this ⊢
    rw [List.replicate_succ, List.flatten_cons, List.length_append, this]
    show 2 + 2 * i = 2 * (i + 1)
    omega
theorem told_succ (i : Nat) : told5 (i + 1) = (told5 i ++ [wB true]) ++ [wB false] := by
  unfold told5
  rw [List.replicate_succ', List.flatten_append, List.append_assoc]
  rfl
theorem told_end : ((((told5 4 ++ [wB true]) ++ [wB false]) ++ [wB true]) ++ [wB false]) = told5 6 := rfl
/-- the cells' rows so far -/
def PvK (H : Hp) (D : Addr) (i : Nat) (H' : Hp) : Prop := Same H H' ∧ ∃ acc : List V, H' D = some (.lst acc) ∧ DtAll (fun b => b ≠ D) H' acc (cells5.take i)
/-! end of helpers -/
abbrev sLaw5 : Stmt := top 60
def lamL : Str := "law" ++ ".<locals>." ++ "<lambda>"
abbrev nLaw5 : List Str := ["_law_script", "_law_at", "_law_dice_here", "_law_test", "_law_told", "_law_cell", "_law_bounds", "_law_six", "_law_grow", "_law_cells_here", "_law_code"]
theorem scL5 : FnScope nLaw5 ["_law_script"] (defScope sLaw5) := ⟨rfl, rfl, rfl, by decide +kernel, rfl, by decide +kernel, by decide +kernel⟩
structure Law5 (P : Program) (w : World) (K : PySem.W.Frag) (mg : Str → Option Value) (base : Heap) (T : List (Addr × Str)) (C fS aS fM fD fR PT cc : Addr) (c : Nat → Addr) (dS dM dD dR : FuncData) : Prop where
  S : StrC K mg C fS aS dS
  GS0 : FnOk P w K mg base (L2.CX P w) 15 fS dS ["self", "code", "keeps"] (spSI0 K C (c 1))
  gM : mg "_law_met" = some (.ref fM)
  FM : Fun K "_law_met" "_law_met" sMet fM dM
  bM : Binds K dM ["_law_call"] []
  M : MetK mg c
  n01 : PySem.W.exmOne K (.ref (c 1)) (.ref (c 0)) = some false
  n11 : PySem.W.exmOne K (.ref (c 1)) (.ref (c 1)) = some true
  TB : TabB base mg cc PT
  hmT : (PT, lamL) ∈ T
  huT : ∀ p ∈ T, p.1 = PT → p.2 = lamL
  gD : mg "_law_dice" = some (.ref fD)
  kD : PySem.W.keepIn K (.ref fD) = true
  bD : Binds K dD ["_law_script", "_law_at"] []
  GD : FnOk P w K mg base CX0 1 fD dD ["_law_script", "_law_at"] (spDice K)
  gR : mg "_law_right" = some (.ref fR)
  kR : PySem.W.keepIn K (.ref fR) = true
  bR : Binds K dR ["_law_dice_here"] []
  GR : FnOk P w K mg base CX0 23 fR dR ["_law_dice_here"] (spRight5 T)
  mC : ∃ t, mg "MAX_CELLS" = some (.int 4 t)
  mK : ∃ t, mg "MAX_KEPT" = some (.int 4 t)
  mL : ∃ t, mg "MAX_LETTERS_SENT" = some (.int 6 t)
  mS : ∃ t, mg "MAX_SETS" = some (.int 6 t)
  mA : ∃ t, mg "MAX_STATEMENTS" = some (.int 24 t)
  mT : ∃ t, mg "MAX_TESTS" = some (.int 3 t)
  max : mg "max" = none
  min : mg "min" = none
  len : mg "len" = none
  rng : mg "range" = none
  tup : mg "tuple" = none
/-- what the law has written down, in its slots -/
def RL5 : L2.St → Hp → Prop := fun σ H => RV 3 test5 σ H ∧ RV 7 (.tuple six5) σ H ∧ RV 8 (.tuple grow5) σ H ∧ RV 9 (.tuple cells5) σ H
theorem rl_stN : StaysN RL5 := ⟨fun σ H H' s h => ⟨rv_stN.st _ _ _ s h.1, rv_stN.st _ _ _ s h.2.1, rv_stN.st _ _ _ s h.2.2.1, rv_stN.st _ _ _ s h.2.2.2⟩⟩
def RC5 (ds : List PyData) : L2.St → Hp → Prop := fun σ H => RV 10 (.tuple ds) σ H ∧ 1 ≤ ds.length ∧ ds.length ≤ 24
theorem rc_stN (ds : List PyData) : StaysN (RC5 ds) := ⟨fun σ H H' s h => ⟨rv_stN.st _ _ _ s h.1, h.2⟩⟩
theorem rl_upl {σ : L2.St} {H : Hp} {pt : Addr} {acc : List V} {o : HO} (e : H pt = some (.lst acc)) (h : RL5 σ H) : RL5 σ (upd H pt o) :=
  ⟨h.1.upl e (by decide +kernel), h.2.1.upl e (by decide +kernel), h.2.2.1.upl e (by decide +kernel), h.2.2.2.upl e (by decide +kernel)⟩
/-- the slots, the tables, and the list of what was told so far -/
def SL5 (T : List (Addr × Str)) (pt : Addr) (k : List Str) (σ : L2.St) (H : Hp) : Prop := RL5 σ H ∧ Tabs T H ∧ H pt = some (.lst (k.map V.str))
theorem SL5.put {T : List (Addr × Str)} {pt : Addr} {k : List Str} {σ : L2.St} {H H1 : Hp} (b : Bool) (h : SL5 T pt k σ H) (e : ExtN H H1) (t : Tabs T H1) : SL5 T pt (k ++ [wB b]) σ (upd H1 pt (.lst (k.map V.str ++ [V.str (if b = true then "fine" else "stretch")]))) := by
  have e1 := e _ _ h.2.2 (fun _ z => nomatch z)
  refine ⟨rl_upl e1 (rl_stN.st _ _ _ e h.1), tabs_upl t e1, ?_⟩
  rw [upd_same, List.map_append]
  rfl
section
variable {P : Program} {w : World} {K : PySem.W.Frag} {mg : Str → Option Value} {base : Heap} {T : List (Addr × Str)} {C fS aS fM fD fR PT cc f : Addr} {c : Nat → Addr} {dS dM dD dR fd : FuncData}
def spLaw5 (K : PySem.W.Frag) (T : List (Addr × Str)) : Sp := fun vs H Q _ => ∃ (a : Addr) (ns : List Int), vs = [.ref a] ∧ ns.length ≤ 63 ∧ SqL K H a (ns.map V.int) ∧ Tabs T H ∧ ∀ H', Q (.bl true) H'
theorem ok_law5 (F : FunC K "law" "law" sLaw5 f fd cc) (L : Law5 P w K mg base T C fS aS fM fD fR PT cc c dS dM dD dR) : FnOk P w K mg base CX0 24 f fd ["_law_script"] (spLaw5 K T) := by
  obtain ⟨oM, odM, kvM, docM, pmM, anM, cdM, ctM, oslM, rfl, lkM, hcM⟩ := L.FM.ex
  obtain ⟨dsv, hv, bS1⟩ := L.S.bS1
  obtain ⟨tC, mC⟩ := L.mC
  obtain ⟨tK, mK⟩ := L.mK
  obtain ⟨tL, mL⟩ := L.mL
  obtain ⟨tS, mS⟩ := L.mS
  obtain ⟨tA, mA⟩ := L.mA
  obtain ⟨tT, mT⟩ := L.mT
  refine F.okC scL5 (fun vs H Q E h => ?_) (fun A outer s H vs Q E hr h => ?_)
  · obtain ⟨a, ns, rfl, _⟩ := h
    rfl
  obtain ⟨a, ns, rfl, hn, hS, hT, q⟩ := h
  have hu2 : (A.deeper (envOfC "law" (defScope sLaw5) s.heap.objs.size f (.ref cc))).units + 64 < cLine := by
    have := hr.un
    omega
  refine ⟨_, pss_cons (ps_for PassesOwn.never rfl (pi_range1 (by rfl) L.rng (pa_cons (pe_callB (call_max2 rfl) (by rfl) L.max (by decide +kernel) (pa_cons pe_int (pa_cons (pe_callB (call_min2 rfl) (by rfl) L.min (by decide +kernel) (pa_cons pe_int
          (pa_cons (pe_callB call_len_seq (by rfl) L.len PySem.boot_len (pa_cons (pv 0) pa_nil)) pa_nil))) pa_nil))) pa_nil)) (pg_name (i := 1) scL5.nd rfl (Or.inl rfl))
        (pss_cons (ps_set (i := 2) scL5.nd rfl (Or.inl rfl) (pe_call L.GD (hr.mono (by omega)) (by rfl) L.gD L.kD L.bD .nil pass0 (pa_cons (pv 0) (pa_cons (pv 1) pa_nil))))
        (pss_one (ps_if (PW.pt (pw_or (pt_not (pt_val (pe_call L.GR hr (by rfl) L.gR L.kR L.bR .nil pass0 (pa_cons (pv 2) pa_nil)))) (pw_or1 (pt_not (pt_val (pe_call L.GR hr (by rfl) L.gR L.kR L.bR .nil pass0 (pa_cons (pv 2) pa_nil))))))) (pss_one (ps_ret pe_bl)) pss_nil))))
    (pss_cons (ps_asg (pe_lt (R := fun _ _ => True) (ds := [.tuple six5, .tuple grow5, test5]) (pa_lc true_st (pe_rp5 (n := 6) (ds := [putD]) (pe_lt (pa_lc true_st (pe_lt (pa_lc true_st pe_ls (pa_lc true_st pe_ls pa_ln))) pa_ln)) pe_int (fun z => nomatch z) (by decide) (by decide) (by decide +kernel))
        (pa_lc true_st (pe_rp5 (n := 6) (ds := [PyData.tuple [.str "set", .str "a", .str "f", .tuple [.str "a", .str "a"]]]) (pe_lt (pa_lc true_st (pe_lt (pa_lc true_st pe_ls (pa_lc true_st pe_ls (pa_lc true_st pe_ls (pa_lc true_st (pe_lt (pa_lc true_st pe_ls (pa_lc true_st pe_ls pa_ln))) pa_ln))))) pa_ln)) pe_int (fun z => nomatch z) (by decide) (by decide) (by decide +kernel))
        (pa_lc true_st (pe_lt (pa_lc true_st pe_ls (pa_lc true_st pe_ls (pa_lc true_st pe_ls (pa_lc true_st (pe_lt pa_ln) (pa_lc true_st (pe_lt pa_ln) pa_ln)))))) pa_ln))))
        (pg_tup rfl (pgs_cons (pg_name (i := 7) scL5.nd rfl (Or.inr rfl)) (pgs_cons (pg_name (i := 8) scL5.nd rfl (Or.inr rfl)) (pgs_cons (pg_name (i := 3) scL5.nd rfl (Or.inl rfl)) pgs_nil)))))
    (pss_cons (ps_asg (pe_tup (pa_cons (pe_callTy call_tuple_of (by rfl) L.tup (by decide +kernel) (pa_cons (pe_lc (own := [("_law_cell", 5)]) rfl scL5.nd (pi_list (pe_lst (pa_cons pe_str (pa_cons pe_str (pa_cons pe_str (pa_cons pe_str pa_nil)))))) (blkOk_by (N := nLaw5) (sc := defScope sLaw5) (by decide +kernel))
          (fun _ _ _ _ _ => pg_name (i := 5) scL5.nd rfl (Or.inl rfl)) (fun _ _ _ _ _ => pts_nil) (fun _ _ _ _ _ => pe_tup (pa_cons pe_str (pa_cons pe_str (pa_cons (pv 5) pa_nil))))) pa_nil)) (pa_cons (pe_lst pa_nil) pa_nil)))
        (pg_tup rfl (pgs_cons (pg_name (i := 9) scL5.nd rfl (Or.inr rfl)) (pgs_cons (pg_name (i := 4) scL5.nd rfl (Or.inl rfl)) pgs_nil))))
    (pss_cons (ps_for PassesOwn.never rfl (pi_tup (pe_lt (R := RL5) (ds := four5.map PyData.tuple) (pa_lc rl_stN.s (pe_lp 7 (fun _ _ h => h.2.1)) (pa_lc rl_stN.s (pe_lp 8 (fun _ _ h => h.2.2.1)) (pa_lc rl_stN.s (pe_rp5 (n := 3) (ds := [test5]) (pe_lt (pa_lc rl_stN.s (pe_lp 3 (fun _ _ h => h.1)) pa_ln)) pe_int (fun z => nomatch z) (by decide) (by decide) (by decide +kernel))
          (pa_lc rl_stN.s (pe_rp5 (n := 24) (ds := [PyData.tuple [.str "copy", .str "a", .str "b"]]) (pe_lt (pa_lc rl_stN.s (pe_lt (pa_lc rl_stN.s pe_ls (pa_lc rl_stN.s pe_ls (pa_lc rl_stN.s pe_ls pa_ln)))) pa_ln)) pe_int (fun z => nomatch z) (by decide) (by decide) (by decide +kernel)) pa_ln)))))) (pg_name (i := 10) scL5.nd rfl (Or.inr rfl))
        (pss_cons (ps_expr (pe_bm PySem.F.plainAttrs_list PySem.F.slot_list_append PySem.F.type_list_append mt_append (pv 4) (pa_cons (met5 (R := RC5) (g := fun ds => .tuple ds) (rc_stN) (pe_lamcall (T := T) (k := 20) (by rfl) L.gM L.FM.kp lkM hcM L.bM scMe rfl (Or.inl rfl) (met_gives L.M L.n01 L.n11) L.TB rfl L.hmT L.huT (hr.mono (by omega)) (lamS_by (by show lamSB (defScope sLaw5) _ = true; decide +kernel)) rfl (fun _ _ _ _ _ => rfl)
          (fun A outer s H E f c' hr2 => pe_mk5 L.S.MS L.GS0 (hr2.mono (by omega)) (by rfl) L.S.gSt bS1 hv L.S.emp (passes_call (takes_of rfl rfl rfl rfl) (fun _ _ _ _ h => h)) (fun c => (pe_lp 10 (fun _ _ h => h.1)))))) pa_nil)))
        (pss_one (ps_expr (pe_bm PySem.F.plainAttrs_list PySem.F.slot_list_append PySem.F.type_list_append mt_append (pv 4) (pa_cons (met5 (R := RC5) (g := fun ds => .tuple (ds ++ ds.take 1)) (rc_stN) (pe_lamcall (T := T) (k := 20) (by rfl) L.gM L.FM.kp lkM hcM L.bM scMe rfl (Or.inl rfl) (met_gives L.M L.n01 L.n11) L.TB rfl L.hmT L.huT (hr.mono (by omega)) (lamS_by (by show lamSB (defScope sLaw5) _ = true; decide +kernel)) rfl (fun _ _ _ _ _ => rfl)
          (fun A outer s H E f c' hr2 => pe_mk5 L.S.MS L.GS0 (hr2.mono (by omega)) (by rfl) L.S.gSt bS1 hv L.S.emp (passes_call (takes_of rfl rfl rfl rfl) (fun _ _ _ _ h => h)) (fun c => (pe_ct5 (rc_stN c).s (pe_lp 10 (fun _ _ h => h.1)) (pe_sl5 (pe_lp 10 (fun _ _ h => h.1)) pe_int (fun _ _ h => h.2.1)) (fun _ _ h => by
            have := h.2.2
            rw [List.length_take]
            omega)))))) pa_nil))))))
    (pss_cons (ps_expr (pe_bm PySem.F.plainAttrs_list PySem.F.slot_list_append PySem.F.type_list_append mt_append (pv 4) (pa_cons (met5 (R := fun _ : Unit => RL5) (g := fun _ => .tuple cells5) (fun _ => rl_stN) (pe_lamcall (T := T) (k := 20) (by rfl) L.gM L.FM.kp lkM hcM L.bM scMe rfl (Or.inl rfl) (met_gives L.M L.n01 L.n11) L.TB rfl L.hmT L.huT (hr.mono (by omega)) (lamS_by (by show lamSB (defScope sLaw5) _ = true; decide +kernel)) rfl (fun _ _ _ _ _ => rfl)
          (fun A outer s H E f c' hr2 => pe_mk5 L.S.MS L.GS0 (hr2.mono (by omega)) (by rfl) L.S.gSt bS1 hv L.S.emp (passes_call (takes_of rfl rfl rfl rfl) (fun _ _ _ _ h => h)) (fun c => (pe_lp 9 (fun _ _ h => h.2.2.2)))))) pa_nil)))
    (pss_cons (ps_expr (pe_bm PySem.F.plainAttrs_list PySem.F.slot_list_append PySem.F.type_list_append mt_append (pv 4) (pa_cons (met5 (R := fun _ : Unit => RL5) (g := fun _ => .tuple (cells5 ++ [.tuple [.str "write", .str "z", .str "a"]])) (fun _ => rl_stN) (pe_lamcall (T := T) (k := 20) (by rfl) L.gM L.FM.kp lkM hcM L.bM scMe rfl (Or.inl rfl) (met_gives L.M L.n01 L.n11) L.TB rfl L.hmT L.huT (hr.mono (by omega)) (lamS_by (by show lamSB (defScope sLaw5) _ = true; decide +kernel)) rfl (fun _ _ _ _ _ => rfl)
          (fun A outer s H E f c' hr2 => pe_mk5 L.S.MS L.GS0 (hr2.mono (by omega)) (by rfl) L.S.gSt bS1 hv L.S.emp (passes_call (takes_of rfl rfl rfl rfl) (fun _ _ _ _ h => h)) (fun c => (pe_ct5 rl_stN.s (pe_lp 9 (fun _ _ h => h.2.2.2)) (pe_lt (pa_lc rl_stN.s (pe_lt (pa_lc rl_stN.s pe_ls (pa_lc rl_stN.s pe_ls (pa_lc rl_stN.s pe_ls pa_ln)))) pa_ln)) (fun _ _ _ => by decide)))))) pa_nil)))
    (pss_cons (ps_expr (pe_bm PySem.F.plainAttrs_list PySem.F.slot_list_append PySem.F.type_list_append mt_append (pv 4) (pa_cons (met5 (R := fun _ : Unit => RL5) (g := fun _ => .tuple ([.tuple [.str "if", .str "p", .str "a", .tuple six5, .tuple six5]] ++ grow5)) (fun _ => rl_stN) (pe_lamcall (T := T) (k := 20) (by rfl) L.gM L.FM.kp lkM hcM L.bM scMe rfl (Or.inl rfl) (met_gives L.M L.n01 L.n11) L.TB rfl L.hmT L.huT (hr.mono (by omega)) (lamS_by (by show lamSB (defScope sLaw5) _ = true; decide +kernel)) rfl (fun _ _ _ _ _ => rfl)
          (fun A outer s H E f c' hr2 => pe_mk5 L.S.MS L.GS0 (hr2.mono (by omega)) (by rfl) L.S.gSt bS1 hv L.S.emp (passes_call (takes_of rfl rfl rfl rfl) (fun _ _ _ _ h => h)) (fun c => (pe_ct5 rl_stN.s (pe_lt (pa_lc rl_stN.s (pe_lt (pa_lc rl_stN.s pe_ls (pa_lc rl_stN.s pe_ls (pa_lc rl_stN.s pe_ls (pa_lc rl_stN.s (pe_lp 7 (fun _ _ h => h.2.1)) (pa_lc rl_stN.s (pe_lp 7 (fun _ _ h => h.2.1)) pa_ln)))))) pa_ln)) (pe_lp 8 (fun _ _ h => h.2.2.1)) (fun _ _ _ => by decide)))))) pa_nil)))
    (pss_cons (ps_expr (pe_bm PySem.F.plainAttrs_list PySem.F.slot_list_append PySem.F.type_list_append mt_append (pv 4) (pa_cons (met5 (R := fun _ : Unit => RL5) (g := fun _ => .tuple [.tuple [.str "if", .str "p", .str "a", .tuple six5, .tuple []], putD]) (fun _ => rl_stN) (pe_lamcall (T := T) (k := 20) (by rfl) L.gM L.FM.kp lkM hcM L.bM scMe rfl (Or.inl rfl) (met_gives L.M L.n01 L.n11) L.TB rfl L.hmT L.huT (hr.mono (by omega)) (lamS_by (by show lamSB (defScope sLaw5) _ = true; decide +kernel)) rfl (fun _ _ _ _ _ => rfl)
          (fun A outer s H E f c' hr2 => pe_mk5 L.S.MS L.GS0 (hr2.mono (by omega)) (by rfl) L.S.gSt bS1 hv L.S.emp (passes_call (takes_of rfl rfl rfl rfl) (fun _ _ _ _ h => h)) (fun c => (pe_lt (pa_lc rl_stN.s (pe_lt (pa_lc rl_stN.s pe_ls (pa_lc rl_stN.s pe_ls (pa_lc rl_stN.s pe_ls (pa_lc rl_stN.s (pe_lp 7 (fun _ _ h => h.2.1)) (pa_lc rl_stN.s (pe_lt pa_ln) pa_ln)))))) (pa_lc rl_stN.s (pe_lt (pa_lc rl_stN.s pe_ls (pa_lc rl_stN.s pe_ls pa_ln))) pa_ln))))))) pa_nil)))
    (pss_cons (ps_set (i := 6) scL5.nd rfl (Or.inl rfl) (pe_lst (pa_cons (pe_glob (v := .int 4) (by rfl) mC ⟨tC, rfl⟩) (pa_cons (pe_glob (v := .int 4) (by rfl) mK ⟨tK, rfl⟩) (pa_cons (pe_glob (v := .int 6) (by rfl) mL ⟨tL, rfl⟩) (pa_cons (pe_glob (v := .int 6) (by rfl) mS ⟨tS, rfl⟩) (pa_cons (pe_glob (v := .int 24) (by rfl) mA ⟨tA, rfl⟩) (pa_cons (pe_glob (v := .int 3) (by rfl) mT ⟨tT, rfl⟩) pa_nil))))))))
    (pss_one (ps_ret (pe_and (pe_cmpR (op_eqD hu2) (pv 4) (pe_op op_rep (pe_lst (pa_cons pe_str (pa_cons pe_str pa_nil))) pe_int) (nomark _)) (pe_one (pe_cmpR (op_eqD hu2) (pv 6) (pe_lst (pa_cons pe_int (pa_cons pe_int (pa_cons pe_int (pa_cons pe_int (pa_cons pe_int (pa_cons pe_int pa_nil))))))) (nomark _)))))))))))))), ?_⟩
  refine ⟨_, rfl, a, _, rfl, .inl hS, 6, _, rfl, 1, _, rfl, _, rfl, ?_⟩
  have hj : 1 ≤ (if (if (((ns.map V.int).length : Nat) : Int) < 6 then (((ns.map V.int).length : Nat) : Int) else 6) > 1 then (if (((ns.map V.int).length : Nat) : Int) < 6 then (((ns.map V.int).length : Nat) : Int) else 6) else 1) ∧
      (if (if (((ns.map V.int).length : Nat) : Int) < 6 then (((ns.map V.int).length : Nat) : Int) else 6) > 1 then (if (((ns.map V.int).length : Nat) : Int) < 6 then (((ns.map V.int).length : Nat) : Int) else 6) else 1) ≤ 6 := by
    split <;> split <;> omega
  revert hj
  generalize (if (if (((ns.map V.int).length : Nat) : Int) < 6 then (((ns.map V.int).length : Nat) : Int) else 6) > 1 then (if (((ns.map V.int).length : Nat) : Int) < 6 then (((ns.map V.int).length : Nat) : Int) else 6) else 1) = jn
  intro hj
  refine ⟨by omega, by omega, fun i m σ H => m = jn.toNat - i ∧ i ≤ jn.toNat ∧ (∃ x1 x2, σ = [some (.ref a), x1, x2, none, none, none, none, none, none, none, none]) ∧ SqL K H a (ns.map V.int) ∧ Tabs T H, ⟨_, rfl, Nat.zero_le _, ⟨_, _, rfl⟩, hS, hT⟩, ?_⟩
  rintro i m σ H ⟨rfl, hi, ⟨x1, x2, rfl⟩, hS, hT⟩
  rcases Nat.lt_or_ge i jn.toNat with hlt | hge
  · refine .inr ⟨hlt, fun σ' H' => (∃ x1 x2, σ' = [some (.ref a), x1, x2, none, none, none, none, none, none, none, none]) ∧ SqL K H' a (ns.map V.int) ∧ Tabs T H', fun σ' H' h => ⟨jn.toNat - (i + 1), by omega, rfl, hlt, h.1, h.2⟩, ?_⟩
    rintro x H' ⟨rfl, rfl⟩
    refine ⟨_, rfl, _, rfl, a, ns, 0 + i, rfl, hS, fun H1 p s1 n1 d1 => ?_⟩
    refine ⟨_, rfl, p, rfl, d1, hT.ext s1, fun H2 b2 d2 t2 => ⟨true, rfl, iteF ⟨_, rfl, p, rfl, d2, t2, fun H3 b3 d3 t3 => ⟨true, rfl, ⟨⟨_, _, rfl⟩, seq_ext hS n1 s1 (b2.tr b3), t3⟩⟩⟩⟩⟩
  · refine .inl ⟨hge, ?_⟩
    refine ⟨trivial, fun v1 H1 s1 d1 => ?_⟩
    obtain ⟨l1, ls, rfl, el1, _, dl1⟩ := d1.tup_of
    cases dl1 with
    | @cons u1 _ _ _ d6 dl1 =>
    cases dl1 with
    | @cons u2 _ _ _ dg dl1 =>
    cases dl1 with
    | @cons u3 _ _ _ dtst dl1 =>
    cases dl1
    refine ⟨l1, [u1, u2, u3], rfl, SqT.of el1, rfl, _, _, rfl, _, _, rfl, _, _, rfl, rfl, ?_⟩
    have r6 := d6
    refine ⟨(by show 4 ≤ sizeLine; decide), fun pl hpl => ⟨pl, rfl, ⟨_, SqL.of upd_same⟩, fun D hD => lc_list (PvK _ D) ⟨same_upd hD, [], upd_same, .nil⟩ (fun i H' _ p => SqL.of (p.1 _ _ upd_same)) (fun i x H3 hx p => ?_) (fun H5 p5 => ?_)⟩⟩
    · obtain ⟨sm, acc, ed, dacc⟩ := p
      have hx' : (names4.map V.str)[i]? = some x := hx
      rw [List.getElem?_map] at hx'
      obtain ⟨c0, hc0, rfl⟩ := Option.map_eq_some_iff.mp hx'
      have li : i < 4 := (List.getElem?_eq_some_iff.mp hc0).1
      refine ⟨rfl, _, rfl, (by show 3 ≤ sizeLine; decide), fun tq htq => ?_⟩
      have sq := same_upd (o := .tup [.str "read", .str "a", .str c0]) htq
      have tD : tq ≠ D := fun z => by
        rw [z, ed] at htq
        cases htq
      have la := dacc.length
      have line : (100 : Nat) < sizeLine := by decide
      have t4 : (cells5.take i).length ≤ 4 := by
        rw [List.length_take]
        exact Nat.le_trans (Nat.min_le_right _ _) (by decide)
      refine ⟨acc, sq _ _ ed, by omega, fun b o e => ?_, acc ++ [.ref tq], upd_same, ?_⟩
      · rw [upd_ne (ne_of_none e hD)]
        exact sq _ _ (sm b o e)
      · rw [List.take_add_one, show cells5[i]? = some (cell5 c0) by unfold cells5; rw [List.getElem?_map, hc0]; rfl]
        refine DtAll.twice (dacc.mv (fun _ z => z) fun b o hb z => by
          rw [upd_ne hb]
          exact sq _ _ z) (.cons (.tup tD (by rw [upd_ne tD]; exact upd_same) (by show 3 ≤ 1000; decide) (.cons (.at (.str _)) (.cons (.at (.str _)) (.cons (.at (.str _)) .nil)))) .nil)
    obtain ⟨sm5, acc5, e5, d5⟩ := p5
    have d5' : DtAll (fun b => b ≠ D) H5 acc5 cells5 := d5
    have la5 := d5'.length
    refine ⟨D, acc5, rfl, .inl ⟨SqL.of e5, fun tp htp => ⟨(by show 0 ≤ sizeLine; decide), fun pt hpt => ⟨(by show 2 ≤ sizeLine; decide), fun p3 hp3 => ⟨p3, [.ref tp, .ref pt], rfl, SqT.of upd_same, rfl, _, _, rfl, _, _, rfl, rfl, ?_⟩⟩⟩⟩⟩
    have c4 : acc5.length ≤ 1000 := by
      rw [la5]
      decide
    have sA : Same H1 H5 := (same_upd hpl).trans sm5
    have sB := same_upd (o := .tup acc5) htp
    have sC := same_upd (o := .lst []) hpt
    have sD := same_upd (o := .tup [.ref tp, .ref pt]) hp3
    have sBD := (sB.trans sC).trans sD
    have sAD := sA.trans sBD
    have et : Dt (fun _ => True) (upd (upd (upd H5 tp (.tup acc5)) pt (.lst [])) p3 (.tup [.ref tp, .ref pt])) (.ref tp) (.tuple cells5) := .tup trivial (sD _ _ (sC _ _ upd_same)) c4 (d5'.mv (fun _ _ => trivial) (fun b o _ z => sBD b o z))
    have ept : upd (upd (upd H5 tp (.tup acc5)) pt (.lst [])) p3 (.tup [.ref tp, .ref pt]) pt = some (.lst ((told5 0).map V.str)) := sD _ _ upd_same
    have tT8 := ((hT.ext s1).ext sAD)
    have k6 := d6.mv (S' := fun _ => True) (fun _ z => z) (fun b o _ z => sAD b o z)
    have kg := dg.mv (S' := fun _ => True) (fun _ z => z) (fun b o _ z => sAD b o z)
    have kt := dtst.mv (S' := fun _ => True) (fun _ z => z) (fun b o _ z => sAD b o z)
    revert et ept tT8 k6 kg kt
    generalize (upd (upd (upd H5 tp (.tup acc5)) pt (.lst [])) p3 (.tup [.ref tp, .ref pt])) = H8
    intro et ept tT8 k6 kg kt
    have line : (100 : Nat) < sizeLine := by decide
    refine ⟨⟨.mk rfl kt, .mk rfl k6, .mk rfl kg, .mk rfl et⟩, fun v9 H9 s9 d9 => ?_⟩
    obtain ⟨l9, xs, rfl, el9, _, dx9⟩ := d9.tup_of
    refine ⟨l9, rfl, ⟨xs, SqT.of el9⟩, for_tup (fun i σ H => (∃ x1 x2 x5 x6 x10, σ = [some (.ref a), x1, x2, some u3, some (.ref pt), x5, x6, some u1, some u2, some (.ref tp), x10]) ∧ SL5 T pt (told5 i) σ H ∧ H l9 = some (.tup xs) ∧ DtAll (fun _ => True) H xs (four5.map PyData.tuple))
      ⟨⟨_, _, _, _, _, rfl⟩, ⟨⟨.mk rfl (kt.mv (fun _ z => z) fun b o _ z => s9 b o z), .mk rfl (k6.mv (fun _ z => z) fun b o _ z => s9 b o z), .mk rfl (kg.mv (fun _ z => z) fun b o _ z => s9 b o z), .mk rfl (et.mv (fun _ z => z) fun b o _ z => s9 b o z)⟩, tT8.ext s9, s9 _ _ ept⟩, el9, dx9⟩ (fun i σ H _ h => SqT.of h.2.2.1) (fun i x σ H hx h => ?_) (fun σ H h => ?_)⟩
    · obtain ⟨⟨x1, x2, x5, x6, x10, rfl⟩, sl, el, dx⟩ := h
      obtain ⟨dd, hdd, hdx⟩ := dx.get hx
      rw [List.getElem?_map] at hdd
      obtain ⟨ds, hds, rfl⟩ := Option.map_eq_some_iff.mp hdd
      have mem := List.mem_of_getElem? hds
      have li : i < 4 := (List.getElem?_eq_some_iff.mp hds).1
      have pur : pureD (.tuple ds) = true := List.all_eq_true.mp four_pure ds mem
      obtain ⟨f1, f2, f3, f4⟩ := four_at mem
      have tl := told_len i
      refine ⟨_, rfl, .inl ⟨rfl, _, SqL.of sl.2.2⟩, sl.2.1, ds, true, f1, ⟨.mk rfl hdx, f3, f4⟩, fun G1 e1 T1 => ⟨pt, _, _, rfl, rfl, e1 _ _ sl.2.2 (fun _ z => nomatch z), by rw [List.length_map]; omega, ?_⟩⟩
      have ep1 := e1 _ _ sl.2.2 (fun _ z => nomatch z)
      have slA : SL5 T pt (told5 i ++ [wB true]) [some (.ref a), x1, x2, some u3, some (.ref pt), x5, x6, some u1, some u2, some (.ref tp), some x] (upd G1 pt (.lst ((told5 i).map V.str ++ [V.str (if true = true then "fine" else "stretch")]))) := SL5.put true (σ := [some (.ref a), x1, x2, some u3, some (.ref pt), x5, x6, some u1, some u2, some (.ref tp), some x]) ⟨sl.1, sl.2⟩ e1 T1
      have hd1 : Dt (fun _ => True) (upd G1 pt (.lst ((told5 i).map V.str ++ [V.str (if true = true then "fine" else "stretch")]))) x (.tuple ds) := (hdx.ext e1).upl ep1 pur
      have nl : l9 ≠ pt := fun z => by
        have := sl.2.2
        rw [← z, el] at this
        cases this
      have el1 : upd G1 pt (.lst ((told5 i).map V.str ++ [V.str (if true = true then "fine" else "stretch")])) l9 = some (.tup xs) := by
        rw [upd_ne nl]
        exact e1 _ _ el (fun _ z => nomatch z)
      have dx1 : DtAll (fun _ => True) (upd G1 pt (.lst ((told5 i).map V.str ++ [V.str (if true = true then "fine" else "stretch")]))) xs (four5.map PyData.tuple) := (DtAll.ext e1 dx).upl ep1 (by decide +kernel)
      revert slA hd1 el1 dx1
      generalize (upd G1 pt (.lst ((told5 i).map V.str ++ [V.str (if true = true then "fine" else "stretch")]))) = G2
      intro slA hd1 el1 dx1
      refine ⟨_, rfl, .inl ⟨rfl, _, SqL.of slA.2.2⟩, slA.2.1, ds, false, f2, ⟨.mk rfl hd1, f3, f4⟩, fun G3 e3 T3 => ⟨pt, _, _, rfl, rfl, e3 _ _ slA.2.2 (fun _ z => nomatch z), by rw [List.length_map, List.length_append]; show (told5 i).length + 1 < _; omega, ?_⟩⟩
      have ep3 := e3 _ _ slA.2.2 (fun _ z => nomatch z)
      refine ⟨⟨_, _, _, _, _, rfl⟩, ?_, ?_, (DtAll.ext e3 dx1).upl ep3 (by decide +kernel)⟩
      · rw [told_succ]
        exact slA.put false e3 T3
      · rw [upd_ne nl]
        exact e3 _ _ el1 (fun _ z => nomatch z)
    · obtain ⟨⟨x1, x2, x5, x6, x10, rfl⟩, sl, el, dx⟩ := h
      have lx : xs.length = 4 := dx9.length
      rw [lx] at sl
      refine ⟨_, rfl, .inl ⟨rfl, _, SqL.of sl.2.2⟩, sl.2.1, (), true, c1_ok, sl.1, fun G1 e1 T1 => ⟨pt, _, _, rfl, rfl, e1 _ _ sl.2.2 (fun _ z => nomatch z), by
        show 8 < sizeLine
        omega, ?_⟩⟩
      have s1' := sl.put true e1 T1
      revert s1'
      generalize (upd G1 pt (.lst ((told5 4).map V.str ++ [V.str (if true = true then "fine" else "stretch")]))) = G2
      intro s1'
      refine ⟨_, rfl, .inl ⟨rfl, _, SqL.of s1'.2.2⟩, s1'.2.1, (), false, c2_ok, s1'.1, fun G3 e3 T3 => ⟨pt, _, _, rfl, rfl, e3 _ _ s1'.2.2 (fun _ z => nomatch z), by
        show 9 < sizeLine
        omega, ?_⟩⟩
      have s2' := s1'.put false e3 T3
      revert s2'
      generalize (upd G3 pt (.lst ((told5 4 ++ [wB true]).map V.str ++ [V.str (if false = true then "fine" else "stretch")]))) = G4
      intro s2'
      refine ⟨_, rfl, .inl ⟨rfl, _, SqL.of s2'.2.2⟩, s2'.2.1, (), true, c3_ok, s2'.1, fun G5 e5 T5 => ⟨pt, _, _, rfl, rfl, e5 _ _ s2'.2.2 (fun _ z => nomatch z), by
        show 10 < sizeLine
        omega, ?_⟩⟩
      have s3' := s2'.put true e5 T5
      revert s3'
      generalize (upd G5 pt (.lst (((told5 4 ++ [wB true]) ++ [wB false]).map V.str ++ [V.str (if true = true then "fine" else "stretch")]))) = G6
      intro s3'
      refine ⟨_, rfl, .inl ⟨rfl, _, SqL.of s3'.2.2⟩, s3'.2.1, (), false, c4_ok, s3'.1, fun G7 e7 T7 => ⟨pt, _, _, rfl, rfl, e7 _ _ s3'.2.2 (fun _ z => nomatch z), by
        show 11 < sizeLine
        omega, ?_⟩⟩
      have s4' := s3'.put false e7 T7
      revert s4'
      generalize (upd G7 pt (.lst ((((told5 4 ++ [wB true]) ++ [wB false]) ++ [wB true]).map V.str ++ [V.str (if false = true then "fine" else "stretch")]))) = G8
      intro s4'
      rw [told_end] at s4'
      refine ⟨(by show 6 ≤ sizeLine; decide), fun pb hpb => ?_⟩
      have sb := same_upd (o := .lst (bounds5.map V.int)) hpb
      refine ⟨_, rfl, (by show 2 ≤ sizeLine; decide), fun pf hpf => ⟨pf, 6, _, rfl, rfl, upd_same, by decide, by decide, by show 12 ≤ _; omega, fun pr hpr => ?_⟩⟩
      have sf := same_upd (o := .lst [V.str "fine", V.str "stretch"]) hpf
      have sr := same_upd (o := .lst ((told5 6).map V.str)) hpr
      refine ⟨_, _, .lst (SqL.of (sr _ _ (sf _ _ (sb _ _ s4'.2.2)))) (dpa_strs _), .lst (SqL.of upd_same) (dpa_strs (told5 6)), told_sh, told_sh, _, rfl, ?_⟩
      rw [told_eq]
      refine iteT ⟨_, rfl, (by show 6 ≤ sizeLine; decide), fun pc hpc => ?_⟩
      have sc := same_upd (o := .lst (bounds5.map V.int)) hpc
      refine ⟨_, _, .lst (SqL.of (sc _ _ (sr _ _ (sf _ _ (show (upd G8 pb (.lst (bounds5.map V.int))) pb = _ from upd_same))))) (dpa_ints _), .lst (SqL.of upd_same) (dpa_ints bounds5), bnds_sh, bnds_sh, ?_⟩
      rw [bnds_eq]
      exact q _
end
end OM

namespace OM
open PySem PySem.Spec PyProof.Rows L2 LamX
/-- the script as it is held, and the empty table; nothing else is tracked -/
def ScrT (K : PySem.W.Frag) (a PT : Addr) (H : Hp) : Prop := ∀ b u, H b = some u → (b = a ∧ K.lookup a = none ∧ ∃ ob xs, u = HO.frz ob (.lst xs)) ∨ (b = PT ∧ u = HO.tbl #[])
theorem run_tab {P : Program} {w : World} {K : PySem.W.Frag} {mg mb : Str → Option Value} {n : Nat} {fa a cc PT : Addr} {gd : FuncData} {x : Str} {sp : Sp} {z : Shared} {vs : List Value} {H : Hp} (Kz : K.In z.heap) (ng : z.heap.Ns mainGlobals mg) (nb : z.heap.Ns builtinsNs mb)
    (bb : ∀ y : Str, y ≠ "__name__" → mb y = bootBuiltins y) (lim : z.heap.NoLimit) (sm : ∃ mm, z.heap.Ns sysModules mm) (hg : z.gens = #[]) (ha : z.heap.get? a = some { cls := .type "list", data := .seq vs.toArray }) (hr : Room n callerA)
    (hb : ∃ (bm : Addr) (ob : Obj), mg "__builtins__" = some (.ref bm) ∧ bm ≠ builtinsNs ∧ z.heap.get? bm = some ob ∧ ob.cls = .type "module" ∧ ob.dict = some builtinsNs ∧ ob.data = .plain)
    (hP : z.heap.get? PT = some { cls := .none, data := .fields #[] }) (nP : K.lookup PT = none) (hC : PySem.W.CodeHd z.heap cc PT)
    (F : ∀ base : Heap, K.In base → base.Ns mainGlobals mg → (∃ o, base.get? sysModules = some o) → TabB base mg cc PT → GFn P w K mg base n fa gd [x] sp) (hbind : ∀ (s : Shared) (u : Value), BindsTo s gd ⟨[u], []⟩ [(x, u)])
    (hS : ScrT K a PT H) (hok : HOk P w H z.heap) (tP : H PT = some (.tbl #[])) (hsp : sp [.ref a] H (fun v _ => v = .bl true) E0) :
    codeAny (model P w) callerA (.call (.ref fa) ⟨[.ref a], []⟩) (fun r z' => r = .ok (.ret (.bool true)) ∧ OldK z.heap z'.heap ∧ z'.os = z.os ∧ AllBare z'.gens) z := by
  -- what is no list of things and no empty table is not tracked
  have kept : ∀ {b : Addr} {o : Obj}, z.heap.get? b = some o → (∀ its k, o.data ≠ .seq its k) → o.data ≠ .fields #[] → (hidT z.heap H).get? b = some o := fun {b o} e h1 h2 => hidT_get e (by
    cases y : H b with
    | none => rfl
    | some u =>
      exfalso
      rcases hS _ _ y with ⟨rfl, _⟩ | ⟨rfl, _⟩
      · rw [ha] at e
        cases e
        exact h1 _ _ rfl
      · rw [hP] at e
        cases e
        exact h2 rfl)
  have toB : ∀ {b : Addr} {m : Str → Option Value}, z.heap.Ns b m → (hidT z.heap H).Ns b m := by
    rintro b m ⟨o, es, ep, e, d, r⟩
    refine ⟨o, es, ep, kept e (fun its k y => ?_) (fun y => ?_), d, r⟩
    · rw [d] at y
      cases y
    · rw [d] at y
      cases y
  have Kb : K.In (hidT z.heap H) := fun b o e => hidT_get (Kz b o e) (by
    cases y : H b with
    | none => rfl
    | some u =>
      exfalso
      rcases hS _ _ y with ⟨rfl, z0, _⟩ | ⟨rfl, _⟩
      · rw [z0] at e
        cases e
      · rw [nP] at e
        cases e)
  have M : Mod K mg (hidT z.heap H) := ⟨Kb, toB ng, ⟨mb, toB nb, bb⟩, by
    obtain ⟨mc, h1, h2⟩ := lim
    exact ⟨mc, toB h1, h2⟩⟩
  have hs : ∃ o, (hidT z.heap H).get? sysModules = some o := by
    obtain ⟨mm, y⟩ := sm
    obtain ⟨o, _, _, e, _⟩ := toB y
    exact ⟨o, e⟩
  have nG : mainGlobals ≠ PT := fun y => by
    obtain ⟨o, es, ep, e, hd, _⟩ := ng
    rw [y, hP] at e
    cases e
    cases hd
  have TB : TabB (hidT z.heap H) mg cc PT := by
    refine ⟨?_, ?_, nG⟩
    · obtain ⟨o, us, file, tf, flags, tg, inF, text, tt, e1, r1, r2, r3, r⟩ := hC
      refine ⟨o, us, file, tf, flags, tg, inF, text, tt, kept e1 (fun its k y => ?_) (fun y => ?_), r1, r2, r3, r⟩
      · rw [r2] at y
        cases y
      · rw [r2] at y
        cases y
        simp at r3
    · obtain ⟨bm, ob, b1, b2, b3, b4, b5, b6⟩ := hb
      refine ⟨bm, ob, b1, b2, fun y => ?_, fun y => ?_, kept b3 (fun its k y => ?_) (fun y => ?_), b4, b5, b6⟩
      · obtain ⟨o, es, ep, e, hd, _⟩ := ng
        rw [y, e] at b3
        cases b3
        rw [hd] at b6
        cases b6
      · rw [y, hP] at b3
        cases b3
        cases b6
      · rw [b6] at y
        cases y
      · rw [b6] at y
        cases y
  have e0 : Env0 P w K mg (hidT z.heap H) callerA [] z H := ⟨rfl, M, fun b o e => of_hidT e, Nat.le_of_eq (hidT_size _ _), trivial, (fun b hb => by cases (show b ∈ ([] : List Addr) from hb)), hok, .of_eq hg⟩
  refine codeAny_mono ((F _ Kb (toB ng) hs TB).go callerA [] z H ⟨[.ref a], []⟩ [.ref a] [.ref a] _ _ rfl hr e0 (hbind z (.ref a)) (.cons rfl .nil) hsp) fun res z' y => ?_
  match res, y with
  | .error e, y => exact y.elim
  | .ok (.ret u), y =>
    obtain ⟨v, H', os, bare, un, hok', r', y'⟩ := y
    subst y'
    obtain rfl : u = Value.bool true := r'
    obtain ⟨more, tm⟩ := un.tbls PT #[] tP
    have gm : z'.heap.get? PT = some { cls := .none, data := .fields (#[] ++ more) } := hok' PT _ tm
    have stay : ∀ b o, b ≠ PT → z.heap.get? b = some o → z'.heap.get? b = some o := fun b o ne e => by
      cases y : H b with
      | none => exact un.keep b o e y (fun k => by cases (show b ∈ ([] : List Addr) from k)) (fun k => by cases (show b ∈ ([] : List Addr) from k))
      | some u =>
        rcases hS _ _ y with ⟨rfl, _, ob, xs, rfl⟩ | ⟨rfl, _⟩
        · have h1 := (hok b _ y).1
          have h2 := (hok' b _ (un.frzs b ob _ y)).1
          rw [e] at h1
          cases h1
          exact h2
        · exact absurd rfl ne
    refine ⟨rfl, ⟨fun b o e => ?_, fun b o e => ?_⟩, os, bare⟩
    · by_cases ne : b = PT
      · subst ne
        rw [hP] at e
        cases e
        exact .inr (.inl ⟨(hC.tab hP).isCodeTable, rfl, #[], more, rfl, gm⟩)
      · exact .inl (stay b o ne e)
    · by_cases ne : b = PT
      · subst ne
        exact ⟨_, gm⟩
      · exact ⟨o, stay b o ne e⟩
theorem walkT {l : PySem.W.OpenLaw} {n k : Nat} {q : Program} {loose : List Str} {XP : (Str → Option Value) → Heap → Prop} {YP : World → Heap → Prop} {d d' : DefRec} {K : Params → PySem.W.Frag} {sp : PySem.W.Frag → Addr → Sp} {x mk : Str} {tabs : World → Addr × Addr} (hn : l.most = some n) (hn2 : n ≤ sizeLine)
    (hdf : d.params.defaults = []) (hi : importsNone q = true) (hr : Room k callerA) (hY : ∀ (w : World) (h : Heap), YP w h → (K w.params).In h)
    (hrec : (recsOf q).find? (fun e => e.name == mk) = some d') (ht : ∀ w : World, PySem.W.tabIn (K w.params) mk = some (tabs w) ∧ (K w.params).lookup (tabs w).2 = none)
    (F : ∀ (w : World) (mg : Str → Option Value) (fa : Addr) (h : Heap), (K w.params).In h → h.Ns mainGlobals mg → mg d.name = some (.ref fa) → ∃ gd : FuncData, (∀ (s : Shared) (u : Value), BindsTo s gd ⟨[u], []⟩ [(x, u)]) ∧
      ∀ base : Heap, (K w.params).In base → base.Ns mainGlobals mg → (∃ o, base.get? sysModules = some o) → TabB base mg (tabs w).1 (tabs w).2 → GFn l.prog w (K w.params) mg base k fa gd [x] (sp (K w.params) (tabs w).2))
    (hsp : ∀ (K : PySem.W.Frag) (H : Hp) (a PT : Addr) (ns : List Int), ns.length ≤ n → SqL K H a (ns.map V.int) → H PT = some (.tbl #[]) → sp K PT [.ref a] H (fun v _ => v = .bl true) E0) : PySem.W.WalkO q loose XP YP l.row.toRowW d [] (fun f vs => PySem.call f vs) := by
  refine Att.attach_call hn hdf fun w s₀ z mg mb fa o pm cd doc a vs ns G Y ho hd hcd hmg hobj hints hlen hg => ?_
  have Kz := hY w _ Y
  obtain ⟨gd, hb, hF⟩ := F w mg fa _ Kz G.T.g hmg
  obtain ⟨t1, t2⟩ := ht w
  obtain ⟨hC, hP⟩ := PySem.W.tab_of (c := (tabs w).1) (P := (tabs w).2) G.T Kz hrec t1
  have sm : ∃ mm, z.heap.Ns sysModules mm := by
    obtain ⟨mm, h1, _⟩ := (G.T.seer hi).mods
    exact ⟨mm, h1⟩
  have rv := vals_ints hints
  have hl : (ns.map V.int).length ≤ sizeLine := by
    rw [List.length_map]
    omega
  have na : a ≠ (tabs w).2 := fun y => by
    rw [← y, hobj] at hP
    have e : Data.seq vs.toArray _ = Data.fields #[] := congrArg Obj.data (Option.some.inj hP)
    cases e
  cases hk : (K w.params).lookup a with
  | some o1 =>
    have e := Kz a o1 hk
    rw [hobj] at e
    cases e
    exact run_tab (H := fun b => if b = (tabs w).2 then some (.tbl #[]) else none) Kz G.T.g G.T.b G.T.builtins G.T.nolimit sm hg hobj hr G.T.bmain hP t2 hC hF hb (fun b u y => by
        by_cases hb : b = (tabs w).2
        · have y1 := (if_pos hb).symm.trans y
          exact .inr ⟨hb, (Option.some.inj y1).symm⟩
        · have y1 := (if_neg hb).symm.trans y
          cases y1) (fun b u y => by
        by_cases hb : b = (tabs w).2
        · have y1 := (if_pos hb).symm.trans y
          cases y1
          rw [hb]
          exact hP
        · have y1 := (if_neg hb).symm.trans y
          cases y1) (if_pos rfl)
      (hsp _ _ a _ ns hlen (.inr ⟨_, vs.toArray, _, hk, rfl, rfl, rfl, by rw [List.size_toArray, ← rv.length]; exact hl, by simpa using rv⟩) (if_pos rfl))
  | none =>
    refine run_tab (H := fun b => if b = (tabs w).2 then some (.tbl #[]) else if b = a then some (.frz { cls := .type "list", data := .seq vs.toArray } (.lst (ns.map V.int))) else none) Kz G.T.g G.T.b G.T.builtins G.T.nolimit sm hg hobj hr G.T.bmain hP t2 hC hF hb (fun b u y => ?_) (fun b u y => ?_) (if_pos rfl)
      (hsp _ _ a _ ns hlen (.inl (.inr ⟨{ cls := .type "list", data := .seq vs.toArray }, (if_neg na).trans (if_pos rfl)⟩)) (if_pos rfl))
    · by_cases hb : b = (tabs w).2
      · have y1 := (if_pos hb).symm.trans y
        exact .inr ⟨hb, (Option.some.inj y1).symm⟩
      · have y1 := (if_neg hb).symm.trans y
        by_cases hc : b = a
        · have y2 := (if_pos hc).symm.trans y1
          exact .inl ⟨hc, hk, _, _, (Option.some.inj y2).symm⟩
        · have y2 := (if_neg hc).symm.trans y1
          cases y2
    · by_cases hb : b = (tabs w).2
      · have y1 := (if_pos hb).symm.trans y
        cases y1
        rw [hb]
        exact hP
      · have y1 := (if_neg hb).symm.trans y
        by_cases hc : b = a
        · have y2 := (if_pos hc).symm.trans y1
          cases y2
          rw [hc]
          exact ⟨hobj, hl, vs, _, rv, hobj⟩
        · have y2 := (if_neg hc).symm.trans y1
          cases y2
end OM

namespace OM
open PySem PySem.Spec PyProof.Rows L2 LamX
def HasFn (K : PySem.W.Frag) (x qual : Str) (st : Stmt) (f : Addr) : Prop := ∃ fd, Fun K x qual st f fd
def HasFnC (K : PySem.W.Frag) (x qual : Str) (st : Stmt) (f cc : Addr) : Prop := ∃ fd, FunC K x qual st f fd cc
def HasM (K : PySem.W.Frag) (f : Addr) : Prop := ∃ fd, FunD K "__init__" "MoveError.__init__" (defArgs sMI) (defBody sMI) (defScope sMI) [.str ""] [] f fd
def HasN (K : PySem.W.Frag) (f : Addr) : Prop := ∃ fd, FunD K "is_nested_code" "is_nested_code" (defArgs sNested) (defBody sNested) (defScope sNested) [.bl false] [] f fd
def HasS (K : PySem.W.Frag) (f a : Addr) : Prop := ∃ fd, FunD K "__init__" "Stretch.__init__" (defArgs sSI) (defBody sSI) (defScope sSI) [.ref a] [] f fd
/-- names that the text does not bind -/
def freeN : List Str := ["isinstance", "str", "len", "all", "tuple", "zip", "list", "sorted", "sum", "max", "min", "set", "repr", "range", "int", "abs", "ValueError"]
def freeB (K : PySem.W.Frag) : Bool := freeN.all fun x => decide (PySem.W.nsIn K mainGlobals x = some none)
theorem free_of {K : PySem.W.Frag} {h : Heap} {mg : Str → Option Value} (X : K.In h) (G : h.Ns mainGlobals mg) (b : freeB K = true) (x : Str) (hx : x ∈ freeN) : mg x = none :=
  PySem.W.mg_none_of X G (of_decide_eq_true (List.all_eq_true.mp b x hx))
/-- a written tuple of texts -/
def strV : Value → Option Str
  | .str x _ => some x
  | _ => none
def tupB (K : PySem.W.Frag) (a : Addr) (xs : List Str) : Bool := match K.lookup a with
  | some ⟨.type c, _, .seq its _, _⟩ => decide (c = "tuple") && (decide (its.toList.map strV = xs.map some) && decide (xs.length ≤ 100))
  | _ => false
theorem vals_strs : ∀ {us : List Value} {xs : List Str}, us.map strV = xs.map some → Vals (xs.map V.str) us
  | [], [], _ => .nil
  | [], _ :: _, h => by cases h
  | _ :: _, [], h => by cases h
  | u :: us, x :: xs, h => by
    rw [List.map_cons, List.map_cons] at h
    injection h with h1 h2
    refine .cons ?_ (vals_strs h2)
    unfold strV at h1
    split at h1
    · rename_i y t
      cases h1
      exact ⟨t, rfl⟩
    · cases h1
theorem tupB_ok {K : PySem.W.Frag} {a : Addr} {xs : List Str} (h : tupB K a xs = true) (H : Hp) : SqT K H a (xs.map V.str) := by
  unfold tupB at h
  split at h
  · rename_i c od its n sl hk
    rw [Bool.and_eq_true, Bool.and_eq_true] at h
    obtain ⟨h1, h2, h3⟩ := h
    have e := of_decide_eq_true h1
    subst e
    have e2 := of_decide_eq_true h2
    have e3 := of_decide_eq_true h3
    refine .inr ⟨_, its, n, hk, rfl, rfl, ?_, vals_strs e2⟩
    have l := congrArg List.length e2
    rw [List.length_map, List.length_map, Array.length_toList] at l
    rw [l]
    exact Nat.le_trans e3 (by decide)
  · cases h
def names7 : List Str := ["read", "write", "set", "copy", "get", "put", "if"]
def names8 : List Str := ["read", "write", "set", "copy", "get", "put", "if", "show"]
/-- FORMS, as it is written -/
def keysB (K : PySem.W.Frag) (d : Addr) : Bool := match K.lookup d with
  | some ⟨_, _, .dict es _, _⟩ => es.toList.all fun e => match e.key with
    | .str x _ => (formOf x).isSome || decide (x = "show")
    | _ => false
  | _ => false
def formsB (K : PySem.W.Frag) (d : Addr) : Bool := names7.all fun z => match PySem.W.nsIn K d z with
  | some (some (.ref a)) => tupB K a ((formOf z).getD [])
  | _ => false
def showB (K : PySem.W.Frag) (d : Addr) : Bool := match PySem.W.nsIn K d "show" with
  | some (some _) => true
  | _ => false
theorem showB_ok {K : PySem.W.Frag} {d : Addr} (h : showB K d = true) : ∃ u, PySem.W.nsIn K d "show" = some (some u) := by
  unfold showB at h
  split at h
  · rename_i u e
    exact ⟨u, e⟩
  · cases h
theorem keysB_ok {K : PySem.W.Frag} {d : Addr} (h : keysB K d = true) {z : Str} (hz : formOf z = none) (hs : z ≠ "show") : PySem.W.nsIn K d z = some none := by
  unfold keysB at h
  split at h
  · rename_i oc od es n sl hk
    have ha := List.all_eq_true.mp h
    unfold PySem.W.nsIn
    rw [hk]
    have f : es.toList.find? (·.key.isStr z) = none := List.find?_eq_none.mpr fun e he y => by
      have := ha e he
      split at this
      · rename_i x t hx
        rw [hx] at y
        have e2 : x = z := by simpa [Value.isStr] using y
        rw [e2, hz, decide_eq_false hs] at this
        cases this
      · cases this
    have g : es.toList.any (·.refKey) = false := by
      rw [Bool.eq_false_iff]
      intro y
      obtain ⟨e, he, q⟩ := List.any_eq_true.mp y
      have := ha e he
      split at this
      · rename_i x t hx
        unfold DictEntry.refKey at q
        rw [hx] at q
        cases q
      · cases this
    show (match es.toList.find? (·.key.isStr z) with
      | some e => some (some e.val)
      | none => if es.toList.any (·.refKey) then none else some none) = some none
    rw [f, g]
    rfl
  · cases h
theorem form_names {z : Str} {rs : List Str} (h : formOf z = some rs) : z ∈ names7 := by
  unfold formOf at h
  unfold names7
  repeat' split at h
  all_goals first
    | cases h; done
    | (subst_vars; decide)
theorem formsB_ok {K : PySem.W.Frag} {d : Addr} (h : formsB K d = true) {z : Str} {rs : List Str} (hz : formOf z = some rs) : ∃ a, PySem.W.nsIn K d z = some (some (.ref a)) ∧ ∀ H, SqT K H a (rs.map V.str) := by
  have := List.all_eq_true.mp h z (form_names hz)
  split at this
  · rename_i a ha
    rw [hz] at this
    exact ⟨a, ha, fun H => tupB_ok this H⟩
  · cases this
def exmB (K : PySem.W.Frag) (a b : Addr) (r : Bool) : Bool := decide (PySem.W.exmOne K (.ref a) (.ref b) = some r)
/-- the class Stretch -/
def strB (K : PySem.W.Frag) (C f : Addr) : Bool := PySem.W.plainGet K C Str.empty && (PySem.W.hasDictIn K C && (PySem.W.plainOver K C && (decide (PySem.W.findIn K (.ref C) "__setattr__" = some (some (.builtin "object.__setattr__"))) && (decide (PySem.W.findIn K (.ref C) "_code" = some none) && (decide (PySem.W.findIn K (.ref C) "_keeps" = some none) &&
  (PySem.W.makesIn K C && (decide (PySem.W.findIn K (.ref C) "__init__" = some (some (.ref f))) && (PySem.W.isFn K (.ref f) && PySem.W.keepIn K (.ref C)))))))))
theorem strB_ok {K : PySem.W.Frag} {mg : Str → Option Value} {C f : Addr} (h : strB K C f = true) : StrT K mg C ∧ Mk K C f := by
  unfold strB at h
  simp only [Bool.and_eq_true, decide_eq_true_eq] at h
  obtain ⟨h1, h2, h3, h4, h5, h6, h7, h8, h9, h10⟩ := h
  exact ⟨⟨⟨h1, h2, h3, h4⟩, h5, h6⟩, ⟨h7, h8, h9, h10⟩⟩
/-- the rest that is asked of the class Stretch -/
def strC (K : PySem.W.Frag) (C : Addr) : Bool := decide (PySem.W.findIn K (.ref C) "__class__" = some (some (.builtin "object.__class__"))) && (decide (PySem.W.specialIn K (.builtin "object.__class__") "__get__" = some (some (.builtin "getset_descriptor.__get__"))) &&
  (decide (PySem.W.takesIn K (.builtin "object.__class__") = some true) && (decide (PySem.W.mroIn K C (.type "object") = some true) && decide (PySem.W.kitOne K (.ref C) (.ref C) = some true))))
theorem prop_mk {K : PySem.W.Frag} {C p g : Addr} {f : Str} {od : Option Addr} {vs : Array Value} {sl : Array (Option Value)} {rest : List Value} (h1 : PySem.W.findIn K (.ref C) f = some (some (.ref p))) (l : K.lookup p = some ⟨.type "property", od, .fields vs, sl⟩) (hv : vs.toList = .ref g :: rest)
    (h2 : decide (PySem.W.specialIn K (.ref p) "__get__" = some (some (.builtin "property.__get__"))) = true) (h3 : decide (PySem.W.takesIn K (.ref p) = some true) = true) : PropOf K C f p g :=
  ⟨h1, of_decide_eq_true h2, of_decide_eq_true h3, rest, by
    unfold PySem.W.recIn
    rw [l]
    simp [hv]⟩
theorem emp_mk {K : PySem.W.Frag} {a : Addr} {od : Option Addr} {n : Nat} {sl : Array (Option Value)} (l : K.lookup a = some ⟨.type "tuple", od, .seq #[] n, sl⟩) : Emp K a := ⟨_, n, l, rfl, rfl⟩
/-- what stands behind the top -/
structure Top5 (K : PySem.W.Frag) (w : World) (c g : Nat → Addr) (f0 fS aS C fA pC fP cr cl dF aW : Addr) : Prop where
  c0 : PySem.W.nsIn K mainGlobals "InvalidValue" = some (some (.ref (c 0)))
  c1 : PySem.W.nsIn K mainGlobals "InvalidStretch" = some (some (.ref (c 1)))
  c2 : PySem.W.nsIn K mainGlobals "InvalidProgram" = some (some (.ref (c 2)))
  c3 : PySem.W.nsIn K mainGlobals "InvalidOperation" = some (some (.ref (c 3)))
  c4 : PySem.W.nsIn K mainGlobals "ParseError" = some (some (.ref (c 4)))
  c5 : PySem.W.nsIn K mainGlobals "UnknownName" = some (some (.ref (c 5)))
  c6 : PySem.W.nsIn K mainGlobals "Unanswered" = some (some (.ref (c 6)))
  c7 : PySem.W.nsIn K mainGlobals "InvalidNumber" = some (some (.ref (c 7)))
  c8 : PySem.W.nsIn K mainGlobals "TooMany" = some (some (.ref (c 8)))
  c9 : PySem.W.nsIn K mainGlobals "NothingToUndo" = some (some (.ref (c 9)))
  c10 : PySem.W.nsIn K mainGlobals "Refused" = some (some (.ref (c 10)))
  iMAX_LETTERS : ∃ t, PySem.W.nsIn K mainGlobals "MAX_LETTERS" = some (some (.int 8 t))
  iMAX_REGISTERS : ∃ t, PySem.W.nsIn K mainGlobals "MAX_REGISTERS" = some (some (.int 2 t))
  iMAX_DEPTH : ∃ t, PySem.W.nsIn K mainGlobals "MAX_DEPTH" = some (some (.int 3 t))
  iMAX_KEPT : ∃ t, PySem.W.nsIn K mainGlobals "MAX_KEPT" = some (some (.int 4 t))
  iMAX_STATEMENTS : ∃ t, PySem.W.nsIn K mainGlobals "MAX_STATEMENTS" = some (some (.int 24 t))
  iMAX_CELLS : ∃ t, PySem.W.nsIn K mainGlobals "MAX_CELLS" = some (some (.int 4 t))
  iMAX_LETTERS_SENT : ∃ t, PySem.W.nsIn K mainGlobals "MAX_LETTERS_SENT" = some (some (.int 6 t))
  iMAX_SETS : ∃ t, PySem.W.nsIn K mainGlobals "MAX_SETS" = some (some (.int 6 t))
  iMAX_TESTS : ∃ t, PySem.W.nsIn K mainGlobals "MAX_TESTS" = some (some (.int 3 t))
  lets : ∃ t, PySem.W.nsIn K mainGlobals "LETTERS" = some (some (.str alphabet t))
  words : PySem.W.nsIn K mainGlobals "WORDS" = some (some (.ref aW))
  wordsT : tupB K aW words6 = true
  forms : PySem.W.nsIn K mainGlobals "FORMS" = some (some (.ref dF))
  formsD : He.dicW K dF = some (He.keysIn w.params names8)
  formsS : showB K dF = true
  formsK : keysB K dF = true
  formsV : formsB K dF = true
  stretch : PySem.W.nsIn K mainGlobals "Stretch" = some (some (.ref C))
  inS : PySem.W.findIn K (.ref C) "__init__" = some (some (.ref fS))
  k1 : KCls K (c 1) f0 "ValueError" []
  m0 : HasM K f0
  mS : HasS K fS aS
  emp : Emp K aS
  strOk : strB K C fS = true
  strCk : strC K C = true
  addE : PySem.W.findIn K (.ref C) "__add__" = some (some (.ref fA))
  addF : HasFn K "__add__" "Stretch.__add__" sAddM fA
  addK : PySem.W.isFn K (.ref fA) = true
  selfK : PySem.W.selfFirst K C = true
  propE : PySem.W.findIn K (.ref C) "code" = some (some (.ref pC))
  propP : PropOf K C "code" pC fP
  propF : HasFn K "code" "Stretch.code" sCodeP fP
  bV : PySem.W.findCls K (.type "ValueError") (.type "type") "__init__" = some (.val (.builtin "ValueError.__init__"))
  e01 : exmB K (c 1) (c 0) false = true
  e11 : exmB K (c 1) (c 1) true = true
  nn : freeB K = true
  n26 : PySem.W.nsIn K mainGlobals "is_nested_code" = some (some (.ref (g 26)))
  h26 : HasN K (g 26)
  n21 : PySem.W.nsIn K mainGlobals "is_name" = some (some (.ref (g 21)))
  h21 : HasFn K "is_name" "is_name" (top 21) (g 21)
  n22 : PySem.W.nsIn K mainGlobals "is_set" = some (some (.ref (g 22)))
  h22 : HasFn K "is_set" "is_set" (top 22) (g 22)
  n27 : PySem.W.nsIn K mainGlobals "_is_statement" = some (some (.ref (g 27)))
  h27 : HasFn K "_is_statement" "_is_statement" (top 27) (g 27)
  n28 : PySem.W.nsIn K mainGlobals "_fits" = some (some (.ref (g 28)))
  h28 : HasFn K "_fits" "_fits" (top 28) (g 28)
  n29 : PySem.W.nsIn K mainGlobals "flattened" = some (some (.ref (g 29)))
  h29 : HasFn K "flattened" "flattened" (top 29) (g 29)
  n30 : PySem.W.nsIn K mainGlobals "codes_in" = some (some (.ref (g 30)))
  h30 : HasFn K "codes_in" "codes_in" (top 30) (g 30)
  n31 : PySem.W.nsIn K mainGlobals "names_in" = some (some (.ref (g 31)))
  h31 : HasFn K "names_in" "names_in" (top 31) (g 31)
  n32 : PySem.W.nsIn K mainGlobals "_names_of" = some (some (.ref (g 32)))
  h32 : HasFn K "_names_of" "_names_of" (top 32) (g 32)
  n33 : PySem.W.nsIn K mainGlobals "most_on_path" = some (some (.ref (g 33)))
  h33 : HasFn K "most_on_path" "most_on_path" (top 33) (g 33)
  n34 : PySem.W.nsIn K mainGlobals "_most_at" = some (some (.ref (g 34)))
  h34 : HasFn K "_most_at" "_most_at" (top 34) (g 34)
  n35 : PySem.W.nsIn K mainGlobals "_path_kind" = some (some (.ref (g 35)))
  h35 : HasFn K "_path_kind" "_path_kind" (top 35) (g 35)
  n44 : PySem.W.nsIn K mainGlobals "is_code" = some (some (.ref (g 44)))
  h44 : HasFn K "is_code" "is_code" (top 44) (g 44)
  n46 : PySem.W.nsIn K mainGlobals "stretch_of" = some (some (.ref (g 46)))
  h46 : HasFn K "stretch_of" "stretch_of" (top 46) (g 46)
  n47 : PySem.W.nsIn K mainGlobals "is_bounded" = some (some (.ref (g 47)))
  h47 : HasFn K "is_bounded" "is_bounded" (top 47) (g 47)
  n48 : PySem.W.nsIn K mainGlobals "is_kept" = some (some (.ref (g 48)))
  h48 : HasFn K "is_kept" "is_kept" (top 48) (g 48)
  n50 : PySem.W.nsIn K mainGlobals "_law_dice" = some (some (.ref (g 50)))
  h50 : HasFn K "_law_dice" "_law_dice" (top 50) (g 50)
  n51 : PySem.W.nsIn K mainGlobals "_law_roll" = some (some (.ref (g 51)))
  h51 : HasFn K "_law_roll" "_law_roll" (top 51) (g 51)
  n52 : PySem.W.nsIn K mainGlobals "_law_one_of" = some (some (.ref (g 52)))
  h52 : HasFn K "_law_one_of" "_law_one_of" (top 52) (g 52)
  n53 : PySem.W.nsIn K mainGlobals "_law_met" = some (some (.ref (g 53)))
  h53 : HasFn K "_law_met" "_law_met" (top 53) (g 53)
  n54 : PySem.W.nsIn K mainGlobals "_law_size" = some (some (.ref (g 54)))
  h54 : HasFn K "_law_size" "_law_size" (top 54) (g 54)
  n55 : PySem.W.nsIn K mainGlobals "_law_cells" = some (some (.ref (g 55)))
  h55 : HasFn K "_law_cells" "_law_cells" (top 55) (g 55)
  n56 : PySem.W.nsIn K mainGlobals "_law_paths" = some (some (.ref (g 56)))
  h56 : HasFn K "_law_paths" "_law_paths" (top 56) (g 56)
  n57 : PySem.W.nsIn K mainGlobals "_law_fits" = some (some (.ref (g 57)))
  h57 : HasFn K "_law_fits" "_law_fits" (top 57) (g 57)
  n58 : PySem.W.nsIn K mainGlobals "_law_some" = some (some (.ref (g 58)))
  h58 : HasFn K "_law_some" "_law_some" (top 58) (g 58)
  n59 : PySem.W.nsIn K mainGlobals "_law_right" = some (some (.ref (g 59)))
  h59 : HasFnC K "_law_right" "_law_right" (top 59) (g 59) cr
  n60 : PySem.W.nsIn K mainGlobals "law" = some (some (.ref (g 60)))
  h60 : HasFnC K "law" "law" (top 60) (g 60) cl
theorem all_mk5 {l : PySem.W.OpenLaw} {w : World} {K : PySem.W.Frag} {h : Heap} {mg : Str → Option Value} {fa : Addr} {c g : Nat → Addr} {f0 fS aS C fA pC fP cr cl dF aW PR PL : Addr} (X : K.In h) (G : h.Ns mainGlobals mg) (hfa : mg "law" = some (.ref fa)) (T : Top5 K w c g f0 fS aS C fA pC fP cr cl dF aW) (ne : PR ≠ PL) :
    ∃ gd : FuncData, (∀ (s : Shared) (u : Value), BindsTo s gd ⟨[u], []⟩ [("_law_script", u)]) ∧ ∀ base : Heap, K.In base → base.Ns mainGlobals mg → TabB base mg cr PR → TabB base mg cl PL → FnOk l.prog w K mg base CX0 24 fa gd ["_law_script"] (spLaw5 K [(PR, lamR), (PL, lamL)]) := by
  have gl : ∀ {x : Str} {u : Value}, PySem.W.nsIn K mainGlobals x = some (some u) → mg x = some u := fun e => PySem.W.mg_of X G e
  obtain rfl : g 60 = fa := by
    have e := hfa.symm.trans (gl T.n60)
    cases e
    rfl
  have no : ∀ x, x ∈ freeN → mg x = none := free_of X G T.nn
  obtain ⟨e21, E21⟩ := T.h21
  have r21 := E21.binds (ps := ["value"]) fun _ _ _ _ _ _ us hl => match us, hl with | [_], _ => rfl
  obtain ⟨e22, E22⟩ := T.h22
  have r22 := E22.binds (ps := ["value"]) fun _ _ _ _ _ _ us hl => match us, hl with | [_], _ => rfl
  obtain ⟨e27, E27⟩ := T.h27
  have r27 := E27.binds (ps := ["value", "depth", "shows"]) fun _ _ _ _ _ _ us hl => match us, hl with | [_, _, _], _ => rfl
  obtain ⟨e28, E28⟩ := T.h28
  have r28 := E28.binds (ps := ["part", "role", "depth", "shows"]) fun _ _ _ _ _ _ us hl => match us, hl with | [_, _, _, _], _ => rfl
  obtain ⟨e29, E29⟩ := T.h29
  have r29 := E29.binds (ps := ["code"]) fun _ _ _ _ _ _ us hl => match us, hl with | [_], _ => rfl
  obtain ⟨e30, E30⟩ := T.h30
  have r30 := E30.binds (ps := ["statement"]) fun _ _ _ _ _ _ us hl => match us, hl with | [_], _ => rfl
  obtain ⟨e31, E31⟩ := T.h31
  have r31 := E31.binds (ps := ["code", "role"]) fun _ _ _ _ _ _ us hl => match us, hl with | [_, _], _ => rfl
  obtain ⟨e32, E32⟩ := T.h32
  have r32 := E32.binds (ps := ["statement", "role"]) fun _ _ _ _ _ _ us hl => match us, hl with | [_, _], _ => rfl
  obtain ⟨e33, E33⟩ := T.h33
  have r33 := E33.binds (ps := ["code", "kind"]) fun _ _ _ _ _ _ us hl => match us, hl with | [_, _], _ => rfl
  obtain ⟨e34, E34⟩ := T.h34
  have r34 := E34.binds (ps := ["statement", "kind"]) fun _ _ _ _ _ _ us hl => match us, hl with | [_, _], _ => rfl
  obtain ⟨e35, E35⟩ := T.h35
  have r35 := E35.binds (ps := ["statement"]) fun _ _ _ _ _ _ us hl => match us, hl with | [_], _ => rfl
  obtain ⟨e44, E44⟩ := T.h44
  have r44 := E44.binds (ps := ["value"]) fun _ _ _ _ _ _ us hl => match us, hl with | [_], _ => rfl
  obtain ⟨e46, E46⟩ := T.h46
  have r46 := E46.binds (ps := ["code", "keeps"]) fun _ _ _ _ _ _ us hl => match us, hl with | [_, _], _ => rfl
  obtain ⟨e47, E47⟩ := T.h47
  have r47 := E47.binds (ps := ["code"]) fun _ _ _ _ _ _ us hl => match us, hl with | [_], _ => rfl
  obtain ⟨e48, E48⟩ := T.h48
  have r48 := E48.binds (ps := ["value"]) fun _ _ _ _ _ _ us hl => match us, hl with | [_], _ => rfl
  obtain ⟨e50, E50⟩ := T.h50
  have r50 := E50.binds (ps := ["_law_script", "_law_at"]) fun _ _ _ _ _ _ us hl => match us, hl with | [_, _], _ => rfl
  obtain ⟨e51, E51⟩ := T.h51
  have r51 := E51.binds (ps := ["_law_dice_here", "_law_total"]) fun _ _ _ _ _ _ us hl => match us, hl with | [_, _], _ => rfl
  obtain ⟨e52, E52⟩ := T.h52
  have r52 := E52.binds (ps := ["_law_dice_here", "_law_items"]) fun _ _ _ _ _ _ us hl => match us, hl with | [_, _], _ => rfl
  obtain ⟨e53, E53⟩ := T.h53
  have r53 := E53.binds (ps := ["_law_call"]) fun _ _ _ _ _ _ us hl => match us, hl with | [_], _ => rfl
  obtain ⟨e54, E54⟩ := T.h54
  have r54 := E54.binds (ps := ["_law_code"]) fun _ _ _ _ _ _ us hl => match us, hl with | [_], _ => rfl
  obtain ⟨e55, E55⟩ := T.h55
  have r55 := E55.binds (ps := ["_law_code"]) fun _ _ _ _ _ _ us hl => match us, hl with | [_], _ => rfl
  obtain ⟨e56, E56⟩ := T.h56
  have r56 := E56.binds (ps := ["_law_code"]) fun _ _ _ _ _ _ us hl => match us, hl with | [_], _ => rfl
  obtain ⟨e57, E57⟩ := T.h57
  have r57 := E57.binds (ps := ["_law_code"]) fun _ _ _ _ _ _ us hl => match us, hl with | [_], _ => rfl
  obtain ⟨e58, E58⟩ := T.h58
  have r58 := E58.binds (ps := ["_law_dice_here", "_law_deep", "_law_room"]) fun _ _ _ _ _ _ us hl => match us, hl with | [_, _, _], _ => rfl
  obtain ⟨e59, E59⟩ := T.h59
  have r59 := E59.fn.binds (ps := ["_law_dice_here"]) fun _ _ _ _ _ _ us hl => match us, hl with | [_], _ => rfl
  obtain ⟨e60, E60⟩ := T.h60
  have r60 := E60.fn.binds (ps := ["_law_script"]) fun _ _ _ _ _ _ us hl => match us, hl with | [_], _ => rfl
  obtain ⟨e26, E26⟩ := T.h26
  have r26 : Binds K e26 ["value", "depth", "shows"] [] := by
    obtain ⟨ds, hv, hb⟩ := E26.binds1 (ps := ["value", "depth", "shows"]) 3 1 (by simp) rfl fun T kV doc pm an cdv ct us its h1 h2 => match us, its, h1, h2 with
      | [_, _, _], [_], _, _ => ⟨_, rfl, rfl⟩
    cases hv
    exact hb
  have r26d : ∃ ds, Vals [V.bl false] ds ∧ Binds K e26 ["value", "depth", "shows"] ds := E26.binds1 (ps := ["value", "depth", "shows"]) 2 0 (by simp) rfl fun T kV doc pm an cdv ct us its h1 h2 => match us, its, h1, h2 with
    | [_, _], [_], _, _ => ⟨_, rfl, rfl⟩
  obtain ⟨d0, F0⟩ := T.m0
  obtain ⟨dS, FS⟩ := T.mS
  obtain ⟨dA, FA⟩ := T.addF
  have rA := FA.binds (ps := ["self", "other"]) fun _ _ _ _ _ _ us hl => match us, hl with | [_, _], _ => rfl
  obtain ⟨dP, FP⟩ := T.propF
  have rP := FP.binds (ps := ["self"]) fun _ _ _ _ _ _ us hl => match us, hl with | [_], _ => rfl
  have b0 : Binds K d0 ["self", "why"] [] := by
    obtain ⟨ds, hv, hb⟩ := F0.binds1 (ps := ["self", "why"]) 2 1 (by simp) rfl fun T kV doc pm an cdv ct us its h1 h2 => match us, its, h1, h2 with
      | [_, _], [_], _, _ => ⟨_, rfl, rfl⟩
    cases hv
    exact hb
  have bS : Binds K dS ["self", "code", "keeps"] [] := by
    obtain ⟨ds, hv, hb⟩ := FS.binds1 (ps := ["self", "code", "keeps"]) 3 1 (by simp) rfl fun T kV doc pm an cdv ct us its h1 h2 => match us, its, h1, h2 with
      | [_, _, _], [_], _, _ => ⟨_, rfl, rfl⟩
    cases hv
    exact hb
  have bS1 : ∃ ds, Vals [V.ref aS] ds ∧ Binds K dS ["self", "code", "keeps"] ds := FS.binds1 (ps := ["self", "code", "keeps"]) 2 0 (by simp) rfl fun T kV doc pm an cdv ct us its h1 h2 => match us, its, h1, h2 with
    | [_, _], [_], _, _ => ⟨_, rfl, rfl⟩
  have gi : ∀ {x : Str} {i : Int}, (∃ t, PySem.W.nsIn K mainGlobals x = some (some (.int i t))) → ∃ t, mg x = some (.int i t) := fun ⟨t, e⟩ => ⟨t, gl e⟩
  have TD : TxtD mg := ⟨no _ (by decide), no _ (by decide), no _ (by decide)⟩
  have TN : TxtN K mg := ⟨no _ (by decide), no _ (by decide), no _ (by decide), no _ (by decide), gi T.iMAX_LETTERS, by
    obtain ⟨t, e⟩ := T.lets
    exact ⟨t, gl e⟩, ⟨aW, gl T.words, fun H => tupB_ok T.wordsT H⟩⟩
  have TF : TxtF K w mg := by
    obtain ⟨es, n, kd⟩ := He.dicW_ok T.formsD
    exact ⟨no _ (by decide), no _ (by decide), gi T.iMAX_REGISTERS, ⟨dF, es, n, gl T.forms, kd, fun z hz hs => keysB_ok T.formsK hz hs, showB_ok T.formsS, fun z rs hz => formsB_ok T.formsV hz⟩⟩
  have TS : TxtS mg := ⟨no _ (by decide), no _ (by decide), no _ (by decide), no _ (by decide), no _ (by decide)⟩
  have TB : TxtB mg := ⟨gi T.iMAX_STATEMENTS, gi T.iMAX_CELLS, gi T.iMAX_LETTERS_SENT, gi T.iMAX_SETS, gi T.iMAX_TESTS⟩
  have CF : CodeF K mg (g 26) (g 27) (g 28) (g 21) e26 e27 e28 e21 := ⟨E26, E27, E28, E21, gl T.n26, gl T.n27, gl T.n28, gl T.n21, r26, r26d, r27, r28, r21, TN⟩
  have DF : DiceF K mg (g 51) (g 52) e51 e52 := ⟨E51, E52, gl T.n51, gl T.n52, r51, r52, TD⟩
  have FF : FlatF K mg (g 29) (g 30) (g 32) e29 e30 e32 := ⟨E29, E30, E32, gl T.n29, gl T.n30, gl T.n32, r29, r30, r32⟩
  have MF : MostF K mg (g 33) (g 34) (g 35) e33 e34 e35 := ⟨E33, E34, E35, gl T.n33, gl T.n34, gl T.n35, r33, r34, r35⟩
  have MM : MetK mg c := ⟨gl T.c0, gl T.c1, gl T.c2, gl T.c3, gl T.c4, gl T.c5, gl T.c6, gl T.c7, gl T.c8, gl T.c9, gl T.c10⟩
  obtain ⟨ST, MS⟩ := strB_ok (mg := mg) T.strOk
  have sc := T.strCk
  unfold strC at sc
  simp only [Bool.and_eq_true, decide_eq_true_eq] at sc
  obtain ⟨s1, s2, s3, s4, s5⟩ := sc
  have SC : StrC K mg C fS aS dS := ⟨ST, MS, gl T.stretch, bS1, T.emp, s1, s2, s3, s4, s5⟩
  refine ⟨e60, fun s u => ?_, fun base KB GB TR TL => ?_⟩
  · obtain ⟨oc, od, kV, doc, pm, an, ct, osl, rfl, lk, hcd⟩ := E60.ex
    exact .of_eq rfl
  · have GIC : FnOk l.prog w K mg base CX0 14 (g 44) e44 ["value"] spIsCode := ok_iscode E44 CF TF (gi T.iMAX_DEPTH)
    have GI0 : FnOk l.prog w K mg base CX0 1 f0 d0 ["self", "why"] (spI0 K "ValueError") := ok_iM F0 ⟨no _ (by decide), T.bV⟩
    have GB' : FnOk l.prog w K mg base CX0 10 (g 47) e47 ["code"] spBnd := ok_bounded E47 TF TS TB FF MF (gl T.n31) E31 r31
    have GK : FnOk l.prog w K mg base CX0 3 (g 48) e48 ["value"] spKept := ok_kept E48 TN TF (gl T.n21) E21 r21 (gl T.n22) E22 r22 (gi T.iMAX_KEPT)
    have GK0 : FnOk l.prog w K mg base CX0 3 (g 48) e48 ["value"] (spKept0 K) := ok_kept0 E48 TN TF (gl T.n21) E21 r21 (gl T.n22) E22 r22 (gi T.iMAX_KEPT)
    have GS : FnOk l.prog w K mg base (L2.CX l.prog w) 15 fS dS ["self", "code", "keeps"] (spSI C (c 1)) := ok_sinit FS ST T.k1 (gl T.c1) GI0 b0 (gl T.n44) E44.kp r44 GIC (gl T.n47) E47.kp r47 GB' (gl T.n48) E48.kp r48 GK
    have GS0 : FnOk l.prog w K mg base (L2.CX l.prog w) 15 fS dS ["self", "code", "keeps"] (spSI0 K C (c 1)) := ok_sinit0 FS ST T.k1 (gl T.c1) GI0 b0 (gl T.n44) E44.kp r44 GIC (gl T.n47) E47.kp r47 GB' (gl T.n48) E48.kp r48 GK0
    have GO : FnOk l.prog w K mg base CX0 17 (g 46) e46 ["code", "keeps"] (spOf C) := ok_of E46 SC GS0
    have GA : FnOk l.prog w K mg base CX0 18 fA dA ["self", "other"] (spAdd K C) := ok_add FA SC (no _ (by decide)) (gl T.n46) E46.kp r46 GO
    have GP : FnOk l.prog w K mg base CX0 1 fP dP ["self"] (getSp C "_code") := by
      obtain ⟨oc, od, kV, doc, pm, an, cdv, ct, osl, rfl, lk, hcd⟩ := FP.ex
      exact fn_getter (N := ["self"]) lk hcd ⟨rfl, rfl, rfl, by decide +kernel, rfl, by decide +kernel, by decide +kernel⟩ rfl rfl ST.cl ST.nc
    have GPt : FnOk l.prog w K mg base CX0 5 (g 56) e56 ["_law_code"] (spPathsAt 4) := ok_paths E56 (no _ (by decide)) (no _ (by decide)) (gl T.n56) r56 4
    have GSz : FnOk l.prog w K mg base CX0 5 (g 54) e54 ["_law_code"] (spSizeAt 4) := ok_size E54 (no _ (by decide)) (gl T.n54) r54 4
    have GCe : FnOk l.prog w K mg base CX0 5 (g 55) e55 ["_law_code"] (spCellsAt 4) := ok_cells E55 (gl T.n55) r55 4
    have RF : Right5 l.prog w K mg base C fS aS (g 53) (g 57) (g 56) fA fP pC (g 52) (g 51) (g 58) PR cr c dS e53 e57 e56 dA dP e52 e51 e58 := {
      S := SC
      bS := bS
      GS := GS
      GS0 := GS0
      gM := gl T.n53
      FM := E53
      bM := r53
      M := MM
      n01 := of_decide_eq_true T.e01
      n11 := of_decide_eq_true T.e11
      TB := TR
      gF := gl T.n57
      kF := E57.kp
      bF := r57
      GF := ok_fits5 E57 (no _ (by decide)) (no _ (by decide)) (gl T.n54) E54.kp r54 GSz (gl T.n55) E55.kp r55 GCe (gl T.n56) E56.kp r56 GPt
      gPt := gl T.n56
      kPt := E56.kp
      bPt := r56
      GPt := GPt
      fndA := T.addE
      isA := T.addK
      sfA := T.selfK
      bA := rA
      GA := GA
      pC := T.propP
      bP := rP
      GP := GP
      gO := gl T.n52
      kO := E52.kp
      bO := r52
      GO := ok_oneof E52 TD E51 (gl T.n51) r51
      gR := gl T.n51
      kR := E51.kp
      bR := r51
      GR := ok_roll E51 TD
      gs := gl T.n58
      ks := E58.kp
      bs := r58
      Gs := ok_some E58 DF (no _ (by decide)) (no _ (by decide)) (gl T.n58) r58 4
      len := no _ (by decide)
      tup := no _ (by decide)
      rng := no _ (by decide)
      int := no _ (by decide) }
    have GR : FnOk l.prog w K mg base CX0 23 (g 59) e59 ["_law_dice_here"] (spRight5 [(PR, lamR), (PL, lamL)]) := ok_right5 (List.mem_cons_self ..) (fun p hp e => by
      rcases List.mem_cons.mp hp with rfl | hp
      · rfl
      · rcases List.mem_cons.mp hp with rfl | hp
        · exact absurd e.symm ne
        · cases hp) E59 RF
    exact ok_law5 E60 {
      S := SC
      GS0 := GS0
      gM := gl T.n53
      FM := E53
      bM := r53
      M := MM
      n01 := of_decide_eq_true T.e01
      n11 := of_decide_eq_true T.e11
      TB := TL
      hmT := List.mem_cons_of_mem _ (List.mem_cons_self ..)
      huT := fun p hp e => by
        rcases List.mem_cons.mp hp with rfl | hp
        · exact absurd e ne
        · rcases List.mem_cons.mp hp with rfl | hp
          · rfl
          · cases hp
      gD := gl T.n50
      kD := E50.kp
      bD := r50
      GD := ok_dice E50 TD
      gR := gl T.n59
      kR := E59.fn.kp
      bR := r59
      GR := GR
      mC := gi T.iMAX_CELLS
      mK := gi T.iMAX_KEPT
      mL := gi T.iMAX_LETTERS_SENT
      mS := gi T.iMAX_SETS
      mA := gi T.iMAX_STATEMENTS
      mT := gi T.iMAX_TESTS
      max := no _ (by decide)
      min := no _ (by decide)
      len := no _ (by decide)
      rng := no _ (by decide)
      tup := no _ (by decide) }
end OM

namespace OM
open PySem PySem.Spec PyProof.Rows L2 LamX
theorem fn_mk3 {K : PySem.W.Frag} {x qual : Str} {st : Stmt} {f : Addr} {oc : Value} {od an : Option Addr} {osl : Array (Option Value)} {kV doc pm cdv ct : Value}
    (l : K.lookup f = some ⟨oc, od, .func (PySem.W.fnOf x qual (defArgs st) (defBody st) (defScope st) .none kV doc pm an cdv ct), osl⟩) (c : PySem.W.codeIn K cdv qual = true) (k : PySem.W.keepIn K (.ref f) = true) : HasFn K x qual st f := ⟨_, fun_mk l c k⟩
theorem fc_mk3 {K : PySem.W.Frag} {x qual : Str} {st : Stmt} {f cc : Addr} {oc : Value} {od an : Option Addr} {osl : Array (Option Value)} {kV doc pm ct : Value}
    (l : K.lookup f = some ⟨oc, od, .func (PySem.W.fnOf x qual (defArgs st) (defBody st) (defScope st) .none kV doc pm an (.ref cc) ct), osl⟩) (c : PySem.W.codeIn K (.ref cc) qual = true) (k : PySem.W.keepIn K (.ref f) = true) : HasFnC K x qual st f cc := ⟨_, ⟨⟨_, _, _, _, _, _, _, _, rfl, l, c⟩, k⟩⟩
theorem m_mk3 {K : PySem.W.Frag} {f T : Addr} {oc tc : Value} {od an td : Option Addr} {osl tsl : Array (Option Value)} {kV doc pm cdv ct : Value} {tk : Tok} {n : Nat}
    (l : K.lookup f = some ⟨oc, od, .func (PySem.W.fnOf "__init__" "MoveError.__init__" (defArgs sMI) (defBody sMI) (defScope sMI) (.ref T) kV doc pm an cdv ct), osl⟩) (c : PySem.W.codeIn K cdv "MoveError.__init__" = true)
    (k : PySem.W.keepIn K (.ref f) = true) (lt : K.lookup T = some ⟨tc, td, .seq #[.str "" tk] n, tsl⟩) : HasM K f :=
  ⟨_, ⟨⟨_, _, _, _, _, _, _, _, _, _, rfl, l, c, .inr ⟨fun z => (nomatch z), T, _, [.str "" tk], n, rfl, lt, rfl, .cons ⟨tk, rfl⟩ .nil⟩, .inl rfl⟩, k⟩⟩
theorem n_mk3 {K : PySem.W.Frag} {f T : Addr} {oc tc : Value} {od an td : Option Addr} {osl tsl : Array (Option Value)} {kV doc pm cdv ct : Value} {n : Nat}
    (l : K.lookup f = some ⟨oc, od, .func (PySem.W.fnOf "is_nested_code" "is_nested_code" (defArgs sNested) (defBody sNested) (defScope sNested) (.ref T) kV doc pm an cdv ct), osl⟩) (c : PySem.W.codeIn K cdv "is_nested_code" = true)
    (k : PySem.W.keepIn K (.ref f) = true) (lt : K.lookup T = some ⟨tc, td, .seq #[.bool false] n, tsl⟩) : HasN K f :=
  ⟨_, ⟨⟨_, _, _, _, _, _, _, _, _, _, rfl, l, c, .inr ⟨fun z => (nomatch z), T, _, [.bool false], n, rfl, lt, rfl, .cons rfl .nil⟩, .inl rfl⟩, k⟩⟩
theorem s_mk5 {K : PySem.W.Frag} {f T a : Addr} {oc tc : Value} {od an td : Option Addr} {osl tsl : Array (Option Value)} {kV doc pm cdv ct : Value} {n : Nat}
    (l : K.lookup f = some ⟨oc, od, .func (PySem.W.fnOf "__init__" "Stretch.__init__" (defArgs sSI) (defBody sSI) (defScope sSI) (.ref T) kV doc pm an cdv ct), osl⟩) (c : PySem.W.codeIn K cdv "Stretch.__init__" = true)
    (k : PySem.W.keepIn K (.ref f) = true) (lt : K.lookup T = some ⟨tc, td, .seq #[.ref a] n, tsl⟩) : HasS K f a :=
  ⟨_, ⟨⟨_, _, _, _, _, _, _, _, _, _, rfl, l, c, .inr ⟨fun z => (nomatch z), T, _, [.ref a], n, rfl, lt, rfl, .cons rfl .nil⟩, .inl rfl⟩, k⟩⟩
section
variable {K : PySem.W.Frag} {C fI : Addr} {B nI iI : String} {tail : List Value} {nq q : Str} {N : Addr} {bs bm : List Value} {sn : List Str} {sub : List Value} {ab : Bool} {col : Option Bool} {dd : Option Addr} {k0 k1 k2 k3 k5 : Option Value} {x y : Str}
theorem kc_mk3 (Y : BaseX B nI iI tail) (lk : K.lookup C = some (excClassObj nq q C N bs bm true sn sub ab col dd k0 k1 k2 k3 k5 nI)) (rt : refsT tail bm = true) (sa : PySem.W.findIn K (.ref C) "__setattr__" = some (some (.builtin "object.__setattr__")))
    (ex : PySem.W.subIn K (.ref C) (.type "BaseException") = some true) (ty : PySem.W.typeIn K (.ref C) = some (.type "type")) (kp : PySem.W.keepIn K (.ref C) = true) (ic : PySem.W.findIn K (.ref C) "__init__" = some (some (.ref fI)))
    (ti : PySem.W.typeIn K (.ref fI) = some (.type "function")) (hb : tail.contains (.type B) = true) : KCls K C fI B [] :=
  ⟨⟨tail, ⟨⟨⟨_, _, _, _, _, _, _, _, _, _, _, _, _, _, _, _, _, _, Y, lk, rt⟩, sa, ex, ty, kp⟩, ic, ti⟩, hb⟩, fun _ h => (nomatch h)⟩
end
theorem hd_mk {K : PySem.W.Frag} {c P : Addr} {o2 : Value} {d2 : Option Addr} {vs : Array Value} {s2 : Array (Option Value)} (h4 : K.lookup c = some ⟨o2, d2, .fields vs, s2⟩) (_h5 : vs[11]? = some (.ref P)) (h : PySem.W.codeHdIn K c P = true) : PySem.W.codeHdIn K c P = true := h
/-- the end with two tables -/
theorem walk5 {l : PySem.W.OpenLaw} {q : Program} {loose : List Str} {XP : (Str → Option Value) → Heap → Prop} {YP : World → Heap → Prop} {d : DefRec} {K : Params → PySem.W.Frag} {ts : List Addr} (hn : l.most = some 63) (hdf : d.params.defaults = []) (hd : d.name = "law")
    (hY : ∀ (w : World) (h : Heap), YP w h → (K w.params).In h) (hTs : ∀ (w : World) (h : Heap), YP w h → ∀ P ∈ ts, h.get? P = some (PySem.W.tabObj #[]))
    (T : ∀ w : World, ∃ c g f0 fS aS C fA pC fP cr cl dF aW PR PL, PR ∈ ts ∧ PL ∈ ts ∧ PR ≠ PL ∧ (K w.params).lookup PR = none ∧ (K w.params).lookup PL = none ∧ PySem.W.codeHdIn (K w.params) cr PR = true ∧ PySem.W.codeHdIn (K w.params) cl PL = true ∧ Top5 (K w.params) w c g f0 fS aS C fA pC fP cr cl dF aW) : PySem.W.WalkO q loose XP YP l.row.toRowW d [] (fun f vs => PySem.call f vs) := by
  refine walk_ofTs (n := 63) (k := 24) (x := "_law_script") (CX := fun _ => CX0) hn (by decide) hdf ⟨rfl, by decide, by decide⟩ hY (fun w mg fa h Y KX G hmg => ?_) (fun w H s e s' h => ?_)
  · obtain ⟨c, g, f0, fS, aS, C, fA, pC, fP, cr, cl, dF, aW, PR, PL, m1, m2, ne, l1, l2, k1, k2, t⟩ := T w
    rw [hd] at hmg
    obtain ⟨gd, hb, hF⟩ := all_mk5 (l := l) KX G hmg t ne
    refine ⟨gd, [(cr, PR), (cl, PL)], spLaw5 (K w.params) [(PR, lamR), (PL, lamL)], fun p hp => ?_, fun p hp => ?_, fun p hp => ?_, hb, fun H a ns hl _ hP hS => ⟨a, ns, rfl, hl, hS, fun p hp => ?_, fun _ => rfl⟩, fun base KB GB TBs => hF base KB GB (TBs _ (List.mem_cons_self ..)) (TBs _ (List.mem_cons_of_mem _ (List.mem_cons_self ..)))⟩
    · rcases List.mem_cons.mp hp with rfl | hp
      · exact hTs w h Y _ m1
      · rcases List.mem_cons.mp hp with rfl | hp
        · exact hTs w h Y _ m2
        · cases hp
    · rcases List.mem_cons.mp hp with rfl | hp
      · exact l1
      · rcases List.mem_cons.mp hp with rfl | hp
        · exact l2
        · cases hp
    · rcases List.mem_cons.mp hp with rfl | hp
      · exact PySem.W.codeHd_of_K KX k1
      · rcases List.mem_cons.mp hp with rfl | hp
        · exact PySem.W.codeHd_of_K KX k2
        · cases hp
    · rcases List.mem_cons.mp hp with rfl | hp
      · exact TabS.nil (hP _ (List.mem_cons_self ..))
      · rcases List.mem_cons.mp hp with rfl | hp
        · exact TabS.nil (hP _ (List.mem_cons_of_mem _ (List.mem_cons_self ..)))
        · cases hp
  · exact h.elim
theorem top_mk5 {K : PySem.W.Frag} {w : World} {c0 c1 c2 c3 c4 c5 c6 c7 c8 c9 c10 g21 g22 g26 g27 g28 g29 g30 g31 g32 g33 g34 g35 g44 g46 g47 g48 g50 g51 g52 g53 g54 g55 g56 g57 g58 g59 g60 f0 fS aS C fA pC fP cr cl dF aW : Addr} {t_iMAX_LETTERS t_iMAX_REGISTERS t_iMAX_DEPTH t_iMAX_KEPT t_iMAX_STATEMENTS t_iMAX_CELLS t_iMAX_LETTERS_SENT t_iMAX_SETS t_iMAX_TESTS t_lets : Tok}
    (a_c0 : PySem.W.nsIn K mainGlobals "InvalidValue" = some (some (.ref c0)))
    (a_c1 : PySem.W.nsIn K mainGlobals "InvalidStretch" = some (some (.ref c1)))
    (a_c2 : PySem.W.nsIn K mainGlobals "InvalidProgram" = some (some (.ref c2)))
    (a_c3 : PySem.W.nsIn K mainGlobals "InvalidOperation" = some (some (.ref c3)))
    (a_c4 : PySem.W.nsIn K mainGlobals "ParseError" = some (some (.ref c4)))
    (a_c5 : PySem.W.nsIn K mainGlobals "UnknownName" = some (some (.ref c5)))
    (a_c6 : PySem.W.nsIn K mainGlobals "Unanswered" = some (some (.ref c6)))
    (a_c7 : PySem.W.nsIn K mainGlobals "InvalidNumber" = some (some (.ref c7)))
    (a_c8 : PySem.W.nsIn K mainGlobals "TooMany" = some (some (.ref c8)))
    (a_c9 : PySem.W.nsIn K mainGlobals "NothingToUndo" = some (some (.ref c9)))
    (a_c10 : PySem.W.nsIn K mainGlobals "Refused" = some (some (.ref c10)))
    (a_iMAX_LETTERS : PySem.W.nsIn K mainGlobals "MAX_LETTERS" = some (some (.int 8 t_iMAX_LETTERS)))
    (a_iMAX_REGISTERS : PySem.W.nsIn K mainGlobals "MAX_REGISTERS" = some (some (.int 2 t_iMAX_REGISTERS)))
    (a_iMAX_DEPTH : PySem.W.nsIn K mainGlobals "MAX_DEPTH" = some (some (.int 3 t_iMAX_DEPTH)))
    (a_iMAX_KEPT : PySem.W.nsIn K mainGlobals "MAX_KEPT" = some (some (.int 4 t_iMAX_KEPT)))
    (a_iMAX_STATEMENTS : PySem.W.nsIn K mainGlobals "MAX_STATEMENTS" = some (some (.int 24 t_iMAX_STATEMENTS)))
    (a_iMAX_CELLS : PySem.W.nsIn K mainGlobals "MAX_CELLS" = some (some (.int 4 t_iMAX_CELLS)))
    (a_iMAX_LETTERS_SENT : PySem.W.nsIn K mainGlobals "MAX_LETTERS_SENT" = some (some (.int 6 t_iMAX_LETTERS_SENT)))
    (a_iMAX_SETS : PySem.W.nsIn K mainGlobals "MAX_SETS" = some (some (.int 6 t_iMAX_SETS)))
    (a_iMAX_TESTS : PySem.W.nsIn K mainGlobals "MAX_TESTS" = some (some (.int 3 t_iMAX_TESTS)))
    (a_lets : PySem.W.nsIn K mainGlobals "LETTERS" = some (some (.str alphabet t_lets)))
    (a_words : PySem.W.nsIn K mainGlobals "WORDS" = some (some (.ref aW)))
    (a_wordsT : tupB K aW words6 = true)
    (a_forms : PySem.W.nsIn K mainGlobals "FORMS" = some (some (.ref dF)))
    (a_formsD : He.dicW K dF = some (He.keysIn w.params names8))
    (a_formsS : showB K dF = true)
    (a_formsK : keysB K dF = true)
    (a_formsV : formsB K dF = true)
    (a_stretch : PySem.W.nsIn K mainGlobals "Stretch" = some (some (.ref C)))
    (a_inS : PySem.W.findIn K (.ref C) "__init__" = some (some (.ref fS)))
    (a_k1 : KCls K c1 f0 "ValueError" [])
    (a_m0 : HasM K f0)
    (a_mS : HasS K fS aS)
    (a_emp : Emp K aS)
    (a_strOk : strB K C fS = true)
    (a_strCk : strC K C = true)
    (a_addE : PySem.W.findIn K (.ref C) "__add__" = some (some (.ref fA)))
    (a_addF : HasFn K "__add__" "Stretch.__add__" sAddM fA)
    (a_addK : PySem.W.isFn K (.ref fA) = true)
    (a_selfK : PySem.W.selfFirst K C = true)
    (a_propE : PySem.W.findIn K (.ref C) "code" = some (some (.ref pC)))
    (a_propP : PropOf K C "code" pC fP)
    (a_propF : HasFn K "code" "Stretch.code" sCodeP fP)
    (a_bV : PySem.W.findCls K (.type "ValueError") (.type "type") "__init__" = some (.val (.builtin "ValueError.__init__")))
    (a_e01 : exmB K c1 c0 false = true)
    (a_e11 : exmB K c1 c1 true = true)
    (a_nn : freeB K = true)
    (a_n26 : PySem.W.nsIn K mainGlobals "is_nested_code" = some (some (.ref g26)))
    (a_h26 : HasN K g26)
    (a_n21 : PySem.W.nsIn K mainGlobals "is_name" = some (some (.ref g21)))
    (a_h21 : HasFn K "is_name" "is_name" (top 21) g21)
    (a_n22 : PySem.W.nsIn K mainGlobals "is_set" = some (some (.ref g22)))
    (a_h22 : HasFn K "is_set" "is_set" (top 22) g22)
    (a_n27 : PySem.W.nsIn K mainGlobals "_is_statement" = some (some (.ref g27)))
    (a_h27 : HasFn K "_is_statement" "_is_statement" (top 27) g27)
    (a_n28 : PySem.W.nsIn K mainGlobals "_fits" = some (some (.ref g28)))
    (a_h28 : HasFn K "_fits" "_fits" (top 28) g28)
    (a_n29 : PySem.W.nsIn K mainGlobals "flattened" = some (some (.ref g29)))
    (a_h29 : HasFn K "flattened" "flattened" (top 29) g29)
    (a_n30 : PySem.W.nsIn K mainGlobals "codes_in" = some (some (.ref g30)))
    (a_h30 : HasFn K "codes_in" "codes_in" (top 30) g30)
    (a_n31 : PySem.W.nsIn K mainGlobals "names_in" = some (some (.ref g31)))
    (a_h31 : HasFn K "names_in" "names_in" (top 31) g31)
    (a_n32 : PySem.W.nsIn K mainGlobals "_names_of" = some (some (.ref g32)))
    (a_h32 : HasFn K "_names_of" "_names_of" (top 32) g32)
    (a_n33 : PySem.W.nsIn K mainGlobals "most_on_path" = some (some (.ref g33)))
    (a_h33 : HasFn K "most_on_path" "most_on_path" (top 33) g33)
    (a_n34 : PySem.W.nsIn K mainGlobals "_most_at" = some (some (.ref g34)))
    (a_h34 : HasFn K "_most_at" "_most_at" (top 34) g34)
    (a_n35 : PySem.W.nsIn K mainGlobals "_path_kind" = some (some (.ref g35)))
    (a_h35 : HasFn K "_path_kind" "_path_kind" (top 35) g35)
    (a_n44 : PySem.W.nsIn K mainGlobals "is_code" = some (some (.ref g44)))
    (a_h44 : HasFn K "is_code" "is_code" (top 44) g44)
    (a_n46 : PySem.W.nsIn K mainGlobals "stretch_of" = some (some (.ref g46)))
    (a_h46 : HasFn K "stretch_of" "stretch_of" (top 46) g46)
    (a_n47 : PySem.W.nsIn K mainGlobals "is_bounded" = some (some (.ref g47)))
    (a_h47 : HasFn K "is_bounded" "is_bounded" (top 47) g47)
    (a_n48 : PySem.W.nsIn K mainGlobals "is_kept" = some (some (.ref g48)))
    (a_h48 : HasFn K "is_kept" "is_kept" (top 48) g48)
    (a_n50 : PySem.W.nsIn K mainGlobals "_law_dice" = some (some (.ref g50)))
    (a_h50 : HasFn K "_law_dice" "_law_dice" (top 50) g50)
    (a_n51 : PySem.W.nsIn K mainGlobals "_law_roll" = some (some (.ref g51)))
    (a_h51 : HasFn K "_law_roll" "_law_roll" (top 51) g51)
    (a_n52 : PySem.W.nsIn K mainGlobals "_law_one_of" = some (some (.ref g52)))
    (a_h52 : HasFn K "_law_one_of" "_law_one_of" (top 52) g52)
    (a_n53 : PySem.W.nsIn K mainGlobals "_law_met" = some (some (.ref g53)))
    (a_h53 : HasFn K "_law_met" "_law_met" (top 53) g53)
    (a_n54 : PySem.W.nsIn K mainGlobals "_law_size" = some (some (.ref g54)))
    (a_h54 : HasFn K "_law_size" "_law_size" (top 54) g54)
    (a_n55 : PySem.W.nsIn K mainGlobals "_law_cells" = some (some (.ref g55)))
    (a_h55 : HasFn K "_law_cells" "_law_cells" (top 55) g55)
    (a_n56 : PySem.W.nsIn K mainGlobals "_law_paths" = some (some (.ref g56)))
    (a_h56 : HasFn K "_law_paths" "_law_paths" (top 56) g56)
    (a_n57 : PySem.W.nsIn K mainGlobals "_law_fits" = some (some (.ref g57)))
    (a_h57 : HasFn K "_law_fits" "_law_fits" (top 57) g57)
    (a_n58 : PySem.W.nsIn K mainGlobals "_law_some" = some (some (.ref g58)))
    (a_h58 : HasFn K "_law_some" "_law_some" (top 58) g58)
    (a_n59 : PySem.W.nsIn K mainGlobals "_law_right" = some (some (.ref g59)))
    (a_h59 : HasFnC K "_law_right" "_law_right" (top 59) g59 cr)
    (a_n60 : PySem.W.nsIn K mainGlobals "law" = some (some (.ref g60)))
    (a_h60 : HasFnC K "law" "law" (top 60) g60 cl) :
    Top5 K w (fun i => [c0, c1, c2, c3, c4, c5, c6, c7, c8, c9, c10].getD i 0) (fun i => [0, 0, 0, 0, 0, 0, 0, 0, 0, 0, 0, 0, 0, 0, 0, 0, 0, 0, 0, 0, 0, g21, g22, 0, 0, 0, g26, g27, g28, g29, g30, g31, g32, g33, g34, g35, 0, 0, 0, 0, 0, 0, 0, 0, g44, 0, g46, g47, g48, 0, g50, g51, g52, g53, g54, g55, g56, g57, g58, g59, g60].getD i 0) f0 fS aS C fA pC fP cr cl dF aW where
  c0 := a_c0
  c1 := a_c1
  c2 := a_c2
  c3 := a_c3
  c4 := a_c4
  c5 := a_c5
  c6 := a_c6
  c7 := a_c7
  c8 := a_c8
  c9 := a_c9
  c10 := a_c10
  iMAX_LETTERS := ⟨_, a_iMAX_LETTERS⟩
  iMAX_REGISTERS := ⟨_, a_iMAX_REGISTERS⟩
  iMAX_DEPTH := ⟨_, a_iMAX_DEPTH⟩
  iMAX_KEPT := ⟨_, a_iMAX_KEPT⟩
  iMAX_STATEMENTS := ⟨_, a_iMAX_STATEMENTS⟩
  iMAX_CELLS := ⟨_, a_iMAX_CELLS⟩
  iMAX_LETTERS_SENT := ⟨_, a_iMAX_LETTERS_SENT⟩
  iMAX_SETS := ⟨_, a_iMAX_SETS⟩
  iMAX_TESTS := ⟨_, a_iMAX_TESTS⟩
  lets := ⟨_, a_lets⟩
  words := a_words
  wordsT := a_wordsT
  forms := a_forms
  formsD := a_formsD
  formsS := a_formsS
  formsK := a_formsK
  formsV := a_formsV
  stretch := a_stretch
  inS := a_inS
  k1 := a_k1
  m0 := a_m0
  mS := a_mS
  emp := a_emp
  strOk := a_strOk
  strCk := a_strCk
  addE := a_addE
  addF := a_addF
  addK := a_addK
  selfK := a_selfK
  propE := a_propE
  propP := a_propP
  propF := a_propF
  bV := a_bV
  e01 := a_e01
  e11 := a_e11
  nn := a_nn
  n26 := a_n26
  h26 := a_h26
  n21 := a_n21
  h21 := a_h21
  n22 := a_n22
  h22 := a_h22
  n27 := a_n27
  h27 := a_h27
  n28 := a_n28
  h28 := a_h28
  n29 := a_n29
  h29 := a_h29
  n30 := a_n30
  h30 := a_h30
  n31 := a_n31
  h31 := a_h31
  n32 := a_n32
  h32 := a_h32
  n33 := a_n33
  h33 := a_h33
  n34 := a_n34
  h34 := a_h34
  n35 := a_n35
  h35 := a_h35
  n44 := a_n44
  h44 := a_h44
  n46 := a_n46
  h46 := a_h46
  n47 := a_n47
  h47 := a_h47
  n48 := a_n48
  h48 := a_h48
  n50 := a_n50
  h50 := a_h50
  n51 := a_n51
  h51 := a_h51
  n52 := a_n52
  h52 := a_h52
  n53 := a_n53
  h53 := a_h53
  n54 := a_n54
  h54 := a_h54
  n55 := a_n55
  h55 := a_h55
  n56 := a_n56
  h56 := a_h56
  n57 := a_n57
  h57 := a_h57
  n58 := a_n58
  h58 := a_h58
  n59 := a_n59
  h59 := a_h59
  n60 := a_n60
  h60 := a_h60
end OM

open PySem PySem.W PyProof.Rows OM in
set_option maxRecDepth 100000 in
set_option maxHeartbeats 0 in
theorem PySem.Challenge.cw_orderlymoves_k05_whole_bounds_on_every_p_holds : PySem.Challenge.rw_orderlymoves_k05_whole_bounds_on_every_p.Holds := by
  w_on; o_law; k_head; (case hw => w_witness2)
  k_fill
  refine OM.walk5 (l := PySem.Challenge.rw_orderlymoves_k05_whole_bounds_on_every_p) rfl rfl rfl (fun w h Y => PySem.W.km_in_of Y) (fun w h Y => PySem.W.km_tabs_of Y) ?T
  case T =>
    intro w
    refine' ⟨_, _, _, _, _, _, _, _, _, _, _, _, _, _, _, ?m1, ?m2, ?ne, ?l1, ?l2, ?k1, ?k2, OM.top_mk5 ?a_c0 ?a_c1 ?a_c2 ?a_c3 ?a_c4 ?a_c5 ?a_c6 ?a_c7 ?a_c8 ?a_c9 ?a_c10 ?a_iMAX_LETTERS ?a_iMAX_REGISTERS ?a_iMAX_DEPTH ?a_iMAX_KEPT ?a_iMAX_STATEMENTS ?a_iMAX_CELLS ?a_iMAX_LETTERS_SENT ?a_iMAX_SETS ?a_iMAX_TESTS ?a_lets ?a_words ?a_wordsT ?a_forms ?a_formsD ?a_formsS ?a_formsK ?a_formsV ?a_stretch ?a_inS ?a_k1 ?a_m0 ?a_mS ?a_emp ?a_strOk ?a_strCk ?a_addE ?a_addF ?a_addK ?a_selfK ?a_propE ?a_propP ?a_propF ?a_bV ?a_e01 ?a_e11 ?a_nn ?a_n26 ?a_h26 ?a_n21 ?a_h21 ?a_n22 ?a_h22 ?a_n27 ?a_h27 ?a_n28 ?a_h28 ?a_n29 ?a_h29 ?a_n30 ?a_h30 ?a_n31 ?a_h31 ?a_n32 ?a_h32 ?a_n33 ?a_h33 ?a_n34 ?a_h34 ?a_n35 ?a_h35 ?a_n44 ?a_h44 ?a_n46 ?a_h46 ?a_n47 ?a_h47 ?a_n48 ?a_h48 ?a_n50 ?a_h50 ?a_n51 ?a_h51 ?a_n52 ?a_h52 ?a_n53 ?a_h53 ?a_n54 ?a_h54 ?a_n55 ?a_h55 ?a_n56 ?a_h56 ?a_n57 ?a_h57 ?a_n58 ?a_h58 ?a_n59 ?a_h59 ?a_n60 ?a_h60⟩
    (case a_c0 => (k_is))
    (case a_c1 => (k_is))
    (case a_c2 => (k_is))
    (case a_c3 => (k_is))
    (case a_c4 => (k_is))
    (case a_c5 => (k_is))
    (case a_c6 => (k_is))
    (case a_c7 => (k_is))
    (case a_c8 => (k_is))
    (case a_c9 => (k_is))
    (case a_c10 => (k_is))
    (case a_iMAX_LETTERS => (k_is))
    (case a_iMAX_REGISTERS => (k_is))
    (case a_iMAX_DEPTH => (k_is))
    (case a_iMAX_KEPT => (k_is))
    (case a_iMAX_STATEMENTS => (k_is))
    (case a_iMAX_CELLS => (k_is))
    (case a_iMAX_LETTERS_SENT => (k_is))
    (case a_iMAX_SETS => (k_is))
    (case a_iMAX_TESTS => (k_is))
    (case a_lets => (k_is))
    (case a_words => (k_is))
    (case a_wordsT => (kernel_rfl))
    (case a_forms => (k_is))
    (case a_formsD => (kernel_rfl))
    (case a_formsS => (kernel_rfl))
    (case a_formsK => (kernel_rfl))
    (case a_formsV => (kernel_rfl))
    (case a_stretch => (k_is))
    (case a_inS => (k_is))
    (case a_k1 => (apply OM.kc_mk3 OM.base_VE; k_is; kernel_rfl; k_is; k_is; k_is; k_is; k_is; k_is; decide +kernel))
    (case a_m0 => (apply OM.m_mk3; k_is; k_is; k_is; k_is))
    (case a_mS => (apply OM.s_mk5; k_is; k_is; k_is; k_is))
    (case a_emp => (apply OM.emp_mk; k_is))
    (case a_strOk => (kernel_rfl))
    (case a_strCk => (kernel_rfl))
    (case a_addE => (k_is))
    (case a_addF => (apply OM.fn_mk3; k_is; k_is; k_is))
    (case a_addK => (kernel_rfl))
    (case a_selfK => (kernel_rfl))
    (case a_propE => (k_is))
    (case a_propP => (apply OM.prop_mk; k_is; k_is; rfl; kernel_rfl; kernel_rfl))
    (case a_propF => (apply OM.fn_mk3; k_is; k_is; k_is))
    (case a_bV => (k_is))
    (case a_e01 => (kernel_rfl))
    (case a_e11 => (kernel_rfl))
    (case a_nn => (kernel_rfl))
    (case a_n26 => (k_is))
    (case a_h26 => (apply OM.n_mk3; k_is; k_is; k_is; k_is))
    (case a_n21 => (k_is))
    (case a_h21 => (apply OM.fn_mk3; k_is; k_is; k_is))
    (case a_n22 => (k_is))
    (case a_h22 => (apply OM.fn_mk3; k_is; k_is; k_is))
    (case a_n27 => (k_is))
    (case a_h27 => (apply OM.fn_mk3; k_is; k_is; k_is))
    (case a_n28 => (k_is))
    (case a_h28 => (apply OM.fn_mk3; k_is; k_is; k_is))
    (case a_n29 => (k_is))
    (case a_h29 => (apply OM.fn_mk3; k_is; k_is; k_is))
    (case a_n30 => (k_is))
    (case a_h30 => (apply OM.fn_mk3; k_is; k_is; k_is))
    (case a_n31 => (k_is))
    (case a_h31 => (apply OM.fn_mk3; k_is; k_is; k_is))
    (case a_n32 => (k_is))
    (case a_h32 => (apply OM.fn_mk3; k_is; k_is; k_is))
    (case a_n33 => (k_is))
    (case a_h33 => (apply OM.fn_mk3; k_is; k_is; k_is))
    (case a_n34 => (k_is))
    (case a_h34 => (apply OM.fn_mk3; k_is; k_is; k_is))
    (case a_n35 => (k_is))
    (case a_h35 => (apply OM.fn_mk3; k_is; k_is; k_is))
    (case a_n44 => (k_is))
    (case a_h44 => (apply OM.fn_mk3; k_is; k_is; k_is))
    (case a_n46 => (k_is))
    (case a_h46 => (apply OM.fn_mk3; k_is; k_is; k_is))
    (case a_n47 => (k_is))
    (case a_h47 => (apply OM.fn_mk3; k_is; k_is; k_is))
    (case a_n48 => (k_is))
    (case a_h48 => (apply OM.fn_mk3; k_is; k_is; k_is))
    (case a_n50 => (k_is))
    (case a_h50 => (apply OM.fn_mk3; k_is; k_is; k_is))
    (case a_n51 => (k_is))
    (case a_h51 => (apply OM.fn_mk3; k_is; k_is; k_is))
    (case a_n52 => (k_is))
    (case a_h52 => (apply OM.fn_mk3; k_is; k_is; k_is))
    (case a_n53 => (k_is))
    (case a_h53 => (apply OM.fn_mk3; k_is; k_is; k_is))
    (case a_n54 => (k_is))
    (case a_h54 => (apply OM.fn_mk3; k_is; k_is; k_is))
    (case a_n55 => (k_is))
    (case a_h55 => (apply OM.fn_mk3; k_is; k_is; k_is))
    (case a_n56 => (k_is))
    (case a_h56 => (apply OM.fn_mk3; k_is; k_is; k_is))
    (case a_n57 => (k_is))
    (case a_h57 => (apply OM.fn_mk3; k_is; k_is; k_is))
    (case a_n58 => (k_is))
    (case a_h58 => (apply OM.fn_mk3; k_is; k_is; k_is))
    (case a_n59 => (k_is))
    (case a_h59 => (apply OM.fc_mk3; k_is; k_is; k_is))
    (case a_n60 => (k_is))
    (case a_h60 => (apply OM.fc_mk3; k_is; k_is; k_is))
    (case k1 => (apply OM.hd_mk; k_is; rfl; kernel_rfl))
    (case k2 => (apply OM.hd_mk; k_is; rfl; kernel_rfl))
    (case m1 => (decide +kernel))
    (case m2 => (decide +kernel))
    (case ne => (decide))
    (case l1 => (kernel_rfl))
    (case l2 => (kernel_rfl))
