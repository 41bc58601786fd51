import PyProof.Rows.All
import Wide.All
import OpenK.AllK
import Wide.FinOn
import PyProof.ListMulRight
import KE.KOpsOwn
import KE.KCallOwn
import HandS.ForMost
import HandS.ForExc
import HandS.SlotsOwn
import HandS.Flow
import HandS.IsInst
import PyProof.Rows.StrBool
import HandS.More
import HandS.Small
import HandS.FStr
import HandS.Wide
import HandS.WideMore
import HandS.Gcd
import HandS.ExcInit
import HandS.ExcField
import HandS.Style
import HandS.Evl
import HandS.RaiseMore
import HandS.WideBits
import HandS.Zip
import HandS.Head0
import HandS.Head1
import HandS.Head2
import HandS.HeadEnd
import HandS.HeadHook1
import HandS.HeadHook2
import HandS.HeadHook3
import HandS.HeadHook4
import HandS.Text
import KE.IntTextLaws
import KE.DataFind
import HandS.ExcIs
import KE.KExcIs
import HandS.Lambda
import HandS.HeadWalk
import HandS.Head3
import HandS.NestedK
import KE.BitLaws
import HandS.ExcValue
import HandS.MakeKwOnly
import KE.DataEq
import HandS.DictComp
import PyProof.TypeOfCall
import PyProof.IsRules
import PyProof.ReprRoads
import HandS.EndTab
import HandS.SortInts
import HandS.SetKeys
import HandS.Iter
import HandS.Walk
import HandS.WordsDict
import HandS.Comp
import HandS.TryMany
import HandS.DeepEq
import PyProof.NeKinds
import KE.DataCmp
import HandS.SetFor
import KE.KEqNest
import KE.KMathG
import HandS.TryOnly
import HandS.Conv
import KE.KDictZip
import PySem.Challenge.RW_overfloors_k10_points_and_forms
set_option Elab.async false
set_option linter.all false
set_option exponentiation.threshold 20000
set_option maxRecDepth 100000
set_option maxHeartbeats 0
namespace Of
section
open PySem PySem.Spec PyProof.Rows
section
open Builtin
theorem int_add_inst (a : Int) (t : Tok) (x C dx : Addr) :
    Meets (Builtin.«int.__add__» ⟨[.int a t, .ref x], []⟩) (fun _ R s => s.heap.get? x = some (PySem.W.instObj C dx) ∧ R (.ok (.ret Value.notImplemented)) s) :=
  .of_wp fun prog w A R s h => by obtain ⟨hp, g, d, tk, os⟩ := s; obtain ⟨hl, h⟩ := h; wp_walk; exact ⟨_, rfl, h⟩
theorem int_sub_inst (a : Int) (t : Tok) (x C dx : Addr) :
    Meets (Builtin.«int.__sub__» ⟨[.int a t, .ref x], []⟩) (fun _ R s => s.heap.get? x = some (PySem.W.instObj C dx) ∧ R (.ok (.ret Value.notImplemented)) s) :=
  .of_wp fun prog w A R s h => by obtain ⟨hp, g, d, tk, os⟩ := s; obtain ⟨hl, h⟩ := h; wp_walk; exact ⟨_, rfl, h⟩
theorem int_mul_inst (a : Int) (t : Tok) (x C dx : Addr) :
    Meets (Builtin.«int.__mul__» ⟨[.int a t, .ref x], []⟩) (fun _ R s => s.heap.get? x = some (PySem.W.instObj C dx) ∧ R (.ok (.ret Value.notImplemented)) s) :=
  .of_wp fun prog w A R s h => by obtain ⟨hp, g, d, tk, os⟩ := s; obtain ⟨hl, h⟩ := h; wp_walk; exact ⟨_, rfl, h⟩
theorem int_mod_inst (a : Int) (t : Tok) (x C dx : Addr) :
    Meets (Builtin.«int.__mod__» ⟨[.int a t, .ref x], []⟩) (fun _ R s => s.heap.get? x = some (PySem.W.instObj C dx) ∧ R (.ok (.ret Value.notImplemented)) s) :=
  .of_wp fun prog w A R s h => by obtain ⟨hp, g, d, tk, os⟩ := s; obtain ⟨hl, h⟩ := h; wp_walk; exact ⟨_, rfl, h⟩
theorem int_floordiv_inst (a : Int) (t : Tok) (x C dx : Addr) :
    Meets (Builtin.«int.__floordiv__» ⟨[.int a t, .ref x], []⟩) (fun _ R s => s.heap.get? x = some (PySem.W.instObj C dx) ∧ R (.ok (.ret Value.notImplemented)) s) :=
  .of_wp fun prog w A R s h => by obtain ⟨hp, g, d, tk, os⟩ := s; obtain ⟨hl, h⟩ := h; wp_walk; exact ⟨_, rfl, h⟩
theorem int_eq_inst (a : Int) (t : Tok) (x C dx : Addr) :
    Meets (Builtin.«int.__eq__» ⟨[.int a t, .ref x], []⟩) (fun _ R s => s.heap.get? x = some (PySem.W.instObj C dx) ∧ R (.ok (.ret Value.notImplemented)) s) :=
  .of_wp fun prog w A R s h => by obtain ⟨hp, g, d, tk, os⟩ := s; obtain ⟨hl, h⟩ := h; wp_walk; exact ⟨_, rfl, h⟩
theorem int_lt_inst (a : Int) (t : Tok) (x C dx : Addr) :
    Meets (Builtin.«int.__lt__» ⟨[.int a t, .ref x], []⟩) (fun _ R s => s.heap.get? x = some (PySem.W.instObj C dx) ∧ R (.ok (.ret Value.notImplemented)) s) :=
  .of_wp fun prog w A R s h => by obtain ⟨hp, g, d, tk, os⟩ := s; obtain ⟨hl, h⟩ := h; wp_walk; exact ⟨_, rfl, h⟩
theorem int_le_inst (a : Int) (t : Tok) (x C dx : Addr) :
    Meets (Builtin.«int.__le__» ⟨[.int a t, .ref x], []⟩) (fun _ R s => s.heap.get? x = some (PySem.W.instObj C dx) ∧ R (.ok (.ret Value.notImplemented)) s) :=
  .of_wp fun prog w A R s h => by obtain ⟨hp, g, d, tk, os⟩ := s; obtain ⟨hl, h⟩ := h; wp_walk; exact ⟨_, rfl, h⟩
theorem int_gt_inst (a : Int) (t : Tok) (x C dx : Addr) :
    Meets (Builtin.«int.__gt__» ⟨[.int a t, .ref x], []⟩) (fun _ R s => s.heap.get? x = some (PySem.W.instObj C dx) ∧ R (.ok (.ret Value.notImplemented)) s) :=
  .of_wp fun prog w A R s h => by obtain ⟨hp, g, d, tk, os⟩ := s; obtain ⟨hl, h⟩ := h; wp_walk; exact ⟨_, rfl, h⟩
theorem int_ge_inst (a : Int) (t : Tok) (x C dx : Addr) :
    Meets (Builtin.«int.__ge__» ⟨[.int a t, .ref x], []⟩) (fun _ R s => s.heap.get? x = some (PySem.W.instObj C dx) ∧ R (.ok (.ret Value.notImplemented)) s) :=
  .of_wp fun prog w A R s h => by obtain ⟨hp, g, d, tk, os⟩ := s; obtain ⟨hl, h⟩ := h; wp_walk; exact ⟨_, rfl, h⟩
end
section
variable {prog : Program} {w : World} {A : Around} {E : Value → Shared → Prop} {s : Shared} {K : PySem.W.Frag} {x C f g : Addr} {dx : Addr} {od : Option Obj}
theorem rbin_K {op : Operator} {i : Int} {t : Tok} {id : String} {B : Builtin} {Q : Value → Shared → Prop} (X : K.In s.heap) (I : PySem.W.InstAt s.heap x (PySem.W.instObj C dx) C od) (hc : PySem.W.selfFirst K C = true)
    (hs : PySem.W.findIn K (.ref C) (PySem.dunder op.info.2) = some (some (.ref g))) (hr : PySem.W.findIn K (.ref C) (dunderR op.info.2) = some (some (.ref f))) (hf : PySem.W.isFn K (.ref f) = true) (hsub : PySem.W.subIn K (.ref C) (.type "int") = some false)
    (fills : fillsNumberSlot (.type "int") op.info.2 = pure true) (slot : Slot "int" (PySem.dunder op.info.2) id) (entry : entryFor table id = some B) (args : argsOk id ⟨[.int i t, .ref x], []⟩)
    (g0 : Meets (B ⟨[.int i t, .ref x], []⟩) (fun _ R s => s.heap.get? x = some (PySem.W.instObj C dx) ∧ R (.ok (.ret Value.notImplemented)) s))
    (h : wpAny (model prog w) A (call (.ref f) [.ref x, .int i t]) (PySem.W.CmpBack Q) E s) : wpAny (model prog w) A (binaryOp op (.int i t) (.ref x)) Q E s := by
  obtain ⟨cd, rest, hcd, hm⟩ := PySem.W.ksp_first hc
  rcases hi : op.info with ⟨sym, nm'⟩
  rw [hi] at hs hr fills slot
  dsimp only at hs hr fills slot
  have one := PySem.W.ksp_try X I hr hf h
  have dec : ∀ {Q' : Option Value → Shared → Prop}, Q' none s → wpAny (model prog w) A (tryMethod (.int i t) (PySem.dunder nm') (.ref x)) Q' E s := fun {Q'} q =>
    wpAny_tryMethod_declines (typeIs_int s i t) slot (call_meets slot (typeIs_int s i t) entry args g0 ⟨I.at_, rfl, q⟩)
  obtain ⟨hh, gg, d, tt, os⟩ := s
  have L1 : PySem.W.Looks (model prog w) hh (typeOf (.ref x)) (.ref C) := I.type
  have L2 : PySem.W.Looks (model prog w) hh (typeOf (.int i t)) (.type "int") := PySem.W.Looks.of_pure rfl
  have L3 : PySem.W.Looks (model prog w) hh (fillsNumberSlot (.ref C) nm') true := PySem.W.fills_K X hcd hm hs
  have L4 : PySem.W.Looks (model prog w) hh (fillsNumberSlot (.type "int") nm') true := PySem.W.Looks.of_pure fills
  have L5 : PySem.W.Looks (model prog w) hh (isSubtype (.ref C) (.type "int")) false := PySem.W.looks_subIn X hsub
  have L7 : PySem.W.Looks (model prog w) hh (numberSlotInPython (.type "int") nm') false := PySem.W.Looks.of_pure rfl
  have hne : (Value.type "int" == Value.ref C) = false := Bool.eq_false_iff.mpr fun q => by cases beq_iff_eq.mp q
  simp only [binaryOp, hi]
  refine wpAny_holding (wpAny_bind ?_)
  unfold binaryOp1
  refine wpAny_bind (L2.at (wpAny_bind (L1.at (wpAny_bind (L4.at ?_)))))
  simp only [hne, Bool.false_eq_true, if_false]
  ksp_lk
  refine dec ?_
  ksp_lk
  refine wpAny_mono one (fun r s' hr' => ?_) fun _ _ e => e
  obtain ⟨v, rfl, hq⟩ := hr'
  ksp_lk
  exact hq
end
end
section
open PySem PySem.Spec PyProof.Rows
section
variable {prog : Program} {w : World} {A : Around} {E : Value → Shared → Prop} {s : Shared} {K : PySem.W.Frag} {x C f g : Addr} {dx : Addr} {od : Option Obj}
theorem typeOf_int_ne {i : Int} {t : Tok} : (Value.type "int" != Value.ref C) = true := by
  rw [bne_iff_ne]; exact fun z => by cases z
/-- i op x with the reflected comparison of x's class -/
theorem rcmp_K {op : CmpOp} {i : Int} {t : Tok} {id : String} {B : Builtin} {Q : Value → Shared → Prop} (hu : A.units < cLine) (X : K.In s.heap) (I : PySem.W.InstAt s.heap x (PySem.W.instObj C dx) C od)
    (hr : PySem.W.findIn K (.ref C) (cmpInfo op).2.2 = some (some (.ref f))) (hf : PySem.W.isFn K (.ref f) = true) (hsub : PySem.W.subIn K (.ref C) (.type "int") = some false)
    (slot : Slot "int" (cmpInfo op).2.1 id) (entry : entryFor table id = some B) (args : argsOk id ⟨[.int i t, .ref x], []⟩)
    (g0 : Meets (B ⟨[.int i t, .ref x], []⟩) (fun _ R s => s.heap.get? x = some (PySem.W.instObj C dx) ∧ R (.ok (.ret Value.notImplemented)) s))
    (h : wpAny (model prog w) A (call (.ref f) [.ref x, .int i t]) (PySem.W.CmpBack Q) E s) : wpAny (model prog w) A (richCompare op (.int i t) (.ref x)) Q E s := by
  have one : wpAny (model prog w) A (tryCompare (.ref x) (cmpInfo op).2.2 (.int i t)) (fun r s' => ∃ v, r = some v ∧ Q v s') E s := by
    unfold tryCompare
    refine wpAny_bind (PySem.W.ifBound_K X I hr hf (wpAny_mono h (fun v s' hv => ?_) fun _ _ e => e))
    cases v <;> first | exact hv.elim | exact wpAny_pure ⟨_, rfl, hv⟩
  have dec : ∀ {Q' : Option Value → Shared → Prop}, Q' none s → wpAny (model prog w) A (tryCompare (.int i t) (cmpInfo op).2.1 (.ref x)) Q' E s := fun {Q'} q =>
    wpAny_tryCompare_declines (typeIs_int s i t) slot (call_meets slot (typeIs_int s i t) entry args g0 ⟨I.at_, rfl, q⟩)
  have L2 : PySem.W.Looks (model prog w) s.heap (typeOf (.int i t)) (.type "int") := PySem.W.Looks.of_pure rfl
  unfold richCompare
  have e1 : oneThing? op (.int i t) (.ref x) = none := by cases op <;> rfl
  simp only [e1]
  refine wpAny_holding (wpAny_bind (wpAny_cRoomFor hu ?_))
  refine wpAny_bind (L2.here (wpAny_bind (I.type.here ?_)))
  rw [if_pos (typeOf_int_ne (i := i) (t := t))]
  refine wpAny_bind ((PySem.W.looks_subIn X hsub).here ?_)
  simp only [Bool.false_eq_true, if_false]
  refine wpAny_bind (dec ?_)
  simp only [Bool.not_false, if_true]
  refine wpAny_bind (wpAny_mono one (fun r s' z => ?_) fun _ _ e => e)
  obtain ⟨v, rfl, hq⟩ := z
  exact wpAny_pure hq
/-- object.__ne__ by the own == -/
theorem ne_try {b : Value} {Q : Value → Shared → Prop} (hu : A.units + 1 < cLine) (X : K.In s.heap) (I : PySem.W.InstAt s.heap x (PySem.W.instObj C dx) C od)
    (hn : PySem.W.findIn K (.ref C) "__ne__" = some (some (.builtin "object.__ne__"))) (he : PySem.W.findIn K (.ref C) "__eq__" = some (some (.ref f))) (hf : PySem.W.isFn K (.ref f) = true) (hm : PySem.W.mroIn K C (.type "object") = some true)
    (h : wpAny (model prog w) A.in1 (call (.ref f) [.ref x, b]) (fun v s' => ∃ k, v = .bool k ∧ Q (.bool (!k)) s') E s) :
    wpAny (model prog w) A (tryCompare (.ref x) "__ne__" b) (fun r s' => ∃ v, r = some v ∧ Q v s') E s := by
  have NE := F.cmp_object.ne
  have sub : PySem.W.Looks (model prog w) s.heap (isInstance (.ref x) (.type "object")) true := I.type.andThen (PySem.W.looks_mroIn X hm)
  have body : wpAny (model prog w) A.in1 (Builtin.«object.__ne__» ⟨[.ref x, b], []⟩) (fun fin s' => match fin with | .done f => wants (fun v s' => ∃ k, v = .bool k ∧ Q (.bool k) s') E (.ok f) s' | .again c' => c'.quiet = true ∧ codeAny (model prog w) A c' (wants (fun v s' => ∃ k, v = .bool k ∧ Q (.bool k) s') E) s') (fun e s' => wants (fun v s' => ∃ k, v = .bool k ∧ Q (.bool k) s') E (.error e) s') s := by
    unfold Builtin.«object.__ne__»
    refine wpAny_bind (m := slotArgs "__ne__" 1 _) (wpAny_pure ?_)
    refine wpAny_bind (wpAny_cRoomFor hu ?_)
    refine wpAny_bind (m := callSpecialIfBound? (.ref x) (Str.ofString "__eq__") [b]) (PySem.W.ifBound_K X I he hf (wpAny_mono h (fun v s' hv => ?_) fun _ _ e => e))
    obtain ⟨k, rfl, hq⟩ := hv
    refine wpAny_bind (m := truthy (.bool k)) (wpAny_truthy_bool ?_)
    exact wpAny_pure ⟨!k, rfl, hq⟩
  have cal : wpAny (model prog w) A (call (.builtin "object.__ne__") [.ref x, b]) (fun v s' => ∃ k, v = .bool k ∧ Q (.bool k) s') E s :=
    wpAny_call (codeAny_call_builtin NE.plain F.cmpEntry_ne (PySem.W.check_slot F.cmpKind_ne F.cmpSplit_ne sub (F.cmpArgs_ne _ _) body))
  unfold tryCompare
  simp only [callSpecialIfBound?, bindSpecialIfBound?]
  refine wpAny_bind (wpAny_holding (wpAny_bind (wpAny_bind (wpAny_bind (I.type.here ((PySem.W.looks_findIn X hn).here ?_))))))
  have fin : wpAny (model prog w) A (call (.builtin "object.__ne__") ([.ref x] ++ [b]) >>= fun v => pure (some v)) (fun r s' => wpAny (model prog w) A (match r with
    | some .notImplemented | none => pure none
    | some v => pure (some v)) (fun r s' => ∃ v, r = some v ∧ Q v s') E s') E s := wpAny_bind (wpAny_mono cal (fun v s' hv => by
      obtain ⟨k, rfl, hq⟩ := hv
      exact wpAny_pure (wpAny_pure ⟨_, rfl, hq⟩)) fun _ _ e => e)
  simp only [NE.bind]
  refine wpAny_bind (wpAny_askSetting (wpAny_ite ?_))
  split
  · exact wpAny_bind (wpAny_pure (wpAny_pure fin))
  · exact wpAny_tryCatch (wpAny_bind (wpAny_pure (wpAny_pure fin)))
/-- x != b by the own == -/
theorem ne_K {b tb : Value} {Q : Value → Shared → Prop} (hu : A.units + 1 < cLine) (X : K.In s.heap) (I : PySem.W.InstAt s.heap x (PySem.W.instObj C dx) C od) (hb : PySem.W.Looks (model prog w) s.heap (typeOf b) tb) (hnf : PySem.W.notFirst K C tb = true)
    (hn : PySem.W.findIn K (.ref C) "__ne__" = some (some (.builtin "object.__ne__"))) (he : PySem.W.findIn K (.ref C) "__eq__" = some (some (.ref f))) (hf : PySem.W.isFn K (.ref f) = true) (hm : PySem.W.mroIn K C (.type "object") = some true)
    (h : wpAny (model prog w) A.in1 (call (.ref f) [.ref x, b]) (fun v s' => ∃ k, v = .bool k ∧ Q (.bool (!k)) s') E s) :
    wpAny (model prog w) A (richCompare .NotEq (.ref x) b) Q E s := by
  have one := ne_try (K := K) hu X I hn he hf hm h
  unfold richCompare
  simp only [oneThing_ref]
  refine wpAny_holding (wpAny_bind (wpAny_cRoomFor (Nat.lt_of_succ_lt hu) ?_))
  refine wpAny_bind (I.type.here (wpAny_bind (hb.here ?_)))
  rw [cmpInfo_NotEq]
  dsimp only
  split
  · rename_i q
    have e : PySem.W.subIn K tb (.ref C) = some false := by
      rcases Bool.or_eq_true_iff.mp hnf with e | e
      · rw [beq_iff_eq.mp e] at q; simp at q
      · exact beq_iff_eq.mp e
    refine wpAny_bind ((PySem.W.looks_subIn X e).here ?_)
    simp only [Bool.false_eq_true, if_false]
    refine wpAny_bind (wpAny_mono one (fun r s' z => ?_) fun _ _ e => e)
    obtain ⟨v, rfl, hq⟩ := z
    exact wpAny_pure hq
  · refine wpAny_bind (wpAny_pure ?_)
    simp only [Bool.false_eq_true, if_false]
    refine wpAny_bind (wpAny_mono one (fun r s' z => ?_) fun _ _ e => e)
    obtain ⟨v, rfl, hq⟩ := z
    exact wpAny_pure hq
/-- abs(x) by the own __abs__ -/
theorem abs_K {Q : Value → Shared → Prop} (X : K.In s.heap) (I : PySem.W.InstAt s.heap x (PySem.W.instObj C dx) C od) (hs : PySem.W.findIn K (.ref C) "__abs__" = some (some (.ref f))) (hf : PySem.W.isFn K (.ref f) = true)
    (h : wpAny (model prog w) A.in1 (call (.ref f) [.ref x]) Q E s) : wpAny (model prog w) A (call (.builtin "abs") [.ref x]) Q E s := by
  refine PySem.Calls.call_function_entry kind_abs plain_abs entry_abs (args_abs _) ?_
  unfold Builtin.«abs»
  refine wpAny_bind (m := oneArg "abs" _) (wpAny_pure ?_)
  refine wpAny_bind (m := callSpecial? (.ref x) (Str.ofString "__abs__")) (PySem.W.special_fn X I hs (beq_iff_eq.mp hf) (wpAny_mono h (fun v s' hv => ?_) fun _ _ e => e))
  exact wpAny_pure ⟨_, rfl, hv⟩
end
end
section
open PySem PySem.Spec PyProof.Rows L2
section
variable {prog : Program} {w : World} {A : Around} {E : Value → Shared → Prop} {s : Shared} {K : PySem.W.Frag} {x C f g : Addr} {dx : Addr} {od : Option Obj}
theorem boolnew_K {Q : Value → Shared → Prop} (X : K.In s.heap) (I : PySem.W.InstAt s.heap x (PySem.W.instObj C dx) C od) (hs : PySem.W.findIn K (.ref C) "__bool__" = some (some (.ref f))) (hf : PySem.W.isFn K (.ref f) = true)
    (h : wpAny (model prog w) A.in1.in1 (call (.ref f) [.ref x]) (PySem.W.BoolBack fun b s' => Q (.bool b) s') E s) : wpAny (model prog w) A (call (.type "bool") [.ref x]) Q E s := by
  refine callType_codes (T := "bool") (Bi := Builtin.«object.__init__») (Q₁ := fun r s₁ => ∃ b, r = .bool b ∧ Q r s₁) PySem.F.called_bool (PySem.F.typeCall_bool_1 _) PySem.F.entry_object_init ?_ ?_
  · refine codeAny_of_tree ?_
    show wpAny _ A.in1.in1 (do checkBuiltinCall "bool.__new__" ⟨[.type "bool", .ref x], []⟩; again (.builtin "bool.__new__" ⟨[.type "bool", .ref x], []⟩)) _ _ s
    refine wpAny_bind (wpAny_of_eq (PySem.F.newCall_bool_1 _) (wpAny_pure ⟨plainId_quiet (by decide +kernel) _, codeAny_builtin PySem.F.entry_bool_new ?_⟩))
    rw [Around.under_plainId (by decide +kernel) _]
    unfold Builtin.«bool.__new__»
    have f1 := F.conv_sub_bool
    have tr : ∀ {Q' : Bool → Shared → Prop}, (∀ b s', Q (.bool b) s' → Q' b s') → wpAny (model prog w) A.in1.in1 (truthy (.ref x)) Q' E s := fun {Q'} k => by
      unfold truthy
      refine wpAny_bind (m := callSpecial? (.ref x) (Str.ofString "__bool__")) (PySem.W.special_fn X I hs (beq_iff_eq.mp hf) (wpAny_mono h (fun r s' hr => ?_) fun _ _ y => y))
      cases r <;> first | exact hr.elim | skip
      exact wpAny_pure (k _ _ hr)
    repeat (any_goals (first | assumption | (with_reducible refine tr ?_; intro b s' q) | wp_step))
    all_goals first | exact ⟨_, rfl, q⟩ | exact ⟨_, rfl, _, rfl, q⟩ | skip
  · rintro obj s₁ ⟨b, rfl, hq⟩
    exact ⟨rfl, PySem.F.args_object_init_2 _ _, object_init_meets PySem.F.called_bool.init.lookup PySem.F.called_bool.made (by decide) prog w A.in1 _ s₁ ⟨rfl, rfl, hq⟩⟩
end
section
variable {X : Cx} {CX : CXT} {pins : List (Addr × Obj)} {σ : L2.St} {H : Hp} {s : Shared} {C C' f g : Addr} {n : Nat} {sp : Sp} {E : XK}
theorem ins_inst (I : Inv X pins σ H s) {a dx : Addr} {fs : List (Str × V)} (h : H a = some (.ins C dx fs)) : ∃ od, PySem.W.InstAt s.heap a (PySem.W.instObj C dx) C (some od) := by
  obtain ⟨mA, O, _⟩ := ins_get I.hok h
  obtain ⟨od, J, _⟩ := O.look
  exact ⟨od, J⟩
theorem cb_of {Q : VK} {v : Value} {s' : Shared} (h : EP X pins σ Q v s') : PySem.W.CmpBack (EP X pins σ Q) v s' := by
  obtain ⟨z, H', I', rz, q⟩ := h
  exact SlX.cmpback rz ⟨z, H', I', rz, q⟩
/-- what an operator asks: the promise of the class's def, of the instance and the other value -/
def rO (C : Addr) (sp : Sp) (E : XK) (ok : V → Hp → Prop) : R2 := fun x y H Q => ∃ a dx fs, x = .ref a ∧ H a = some (.ins C dx fs) ∧ ok y H ∧ sp [.ref a, y] H Q E
/-- reflected: the instance on the right -/
def rOr (C : Addr) (sp : Sp) (E : XK) : R2 := fun x y H Q => ∃ a dx fs i, x = .int i ∧ y = .ref a ∧ H a = some (.ins C dx fs) ∧ sp [.ref a, .int i] H Q E
def isIns (C : Addr) : V → Hp → Prop := fun y H => ∃ b dy gs, y = .ref b ∧ H b = some (.ins C dy gs)
def isInt : V → Hp → Prop := fun y _ => ∃ i, y = .int i
theorem op_bin2 {op : Operator} (hc : PySem.W.selfFirst X.K C = true) (hs : PySem.W.findIn X.K (.ref C) (PySem.dunder op.info.2) = some (some (.ref f))) (hf : PySem.W.isFn X.K (.ref f) = true) (F : FnR X.prog X.w X.K X.mg X.base CX n f sp) (hr : Room n X.A)
    (hx : Passes CX X E) : OpR X (binaryOp op) (rO C sp E (isIns C)) := by
  intro pins s σ H x y v u Q I rx ry h
  obtain ⟨a, dx, fs, rfl, ha, ⟨b, dy, gs, rfl, hb⟩, q⟩ := h
  cases (show v = Value.ref a from rx)
  cases (show u = Value.ref b from ry)
  obtain ⟨od, J⟩ := ins_inst I ha
  obtain ⟨od', J'⟩ := ins_inst I hb
  obtain ⟨m, hF⟩ := I.fr
  exact PySem.W.binop_K hF I.ok.mod.kin J J'.type hc hs hf (thn (wpAny_call (run_fnR (us := [.ref a, .ref b]) (vs := [.ref a, .ref b]) F hr hx I (.cons rfl (.cons rfl .nil)) q)) fun _ _ z => cb_of z)
theorem op_binI {op : Operator} {fo ro rc : Option Value} (hc : PySem.W.selfFirst X.K C = true) (hs : PySem.W.findIn X.K (.ref C) (PySem.dunder op.info.2) = some (some (.ref f))) (hf : PySem.W.isFn X.K (.ref f) = true)
    (hrc : PySem.W.findIn X.K (.ref C) (dunderR op.info.2) = some rc) (hp : rc = none ∨ ∃ g : Addr, rc = some (.ref g)) (h1 : PySem.W.findIn X.K (.type "int") (PySem.dunder op.info.2) = some fo) (h2 : PySem.W.findIn X.K (.type "int") (dunderR op.info.2) = some ro)
    (hsub : PySem.W.subIn X.K (.type "int") (.ref C) = some false) (F : FnR X.prog X.w X.K X.mg X.base CX n f sp) (hr : Room n X.A) (hx : Passes CX X E) : OpR X (binaryOp op) (rO C sp E isInt) := by
  intro pins s σ H x y v u Q I rx ry h
  obtain ⟨a, dx, fs, rfl, ha, ⟨i, rfl⟩, q⟩ := h
  cases (show v = Value.ref a from rx)
  obtain ⟨t, rfl⟩ := ry
  obtain ⟨od, J⟩ := ins_inst I ha
  obtain ⟨m, hF⟩ := I.fr
  exact PySem.W.ksp_binT (T := "int") hF I.ok.mod.kin J rfl hc hs hf hrc hp h1 h2 hsub (thn (wpAny_call (run_fnR (us := [.ref a, .int i t]) (vs := [.ref a, .int i]) F hr hx I (.cons rfl (.cons ⟨t, rfl⟩ .nil)) q)) fun _ _ z => cb_of z)
theorem op_rbin {op : Operator} {id : String} {B : Builtin} (hc : PySem.W.selfFirst X.K C = true) (hs : PySem.W.findIn X.K (.ref C) (PySem.dunder op.info.2) = some (some (.ref g))) (hrf : PySem.W.findIn X.K (.ref C) (dunderR op.info.2) = some (some (.ref f)))
    (hf : PySem.W.isFn X.K (.ref f) = true) (hsub : PySem.W.subIn X.K (.ref C) (.type "int") = some false)
    (fills : fillsNumberSlot (.type "int") op.info.2 = pure true) (slot : Slot "int" (PySem.dunder op.info.2) id) (entry : entryFor table id = some B) (args : ∀ a b : Value, argsOk id ⟨[a, b], []⟩)
    (g0 : ∀ i t x C dx, Meets (B ⟨[.int i t, .ref x], []⟩) (fun _ R s => s.heap.get? x = some (PySem.W.instObj C dx) ∧ R (.ok (.ret Value.notImplemented)) s))
    (F : FnR X.prog X.w X.K X.mg X.base CX n f sp) (hr : Room n X.A) (hx : Passes CX X E) : OpR X (binaryOp op) (rOr C sp E) := by
  intro pins s σ H x y v u Q I rx ry h
  obtain ⟨a, dx, fs, i, rfl, rfl, ha, q⟩ := h
  cases (show u = Value.ref a from ry)
  obtain ⟨t, rfl⟩ := rx
  obtain ⟨od, J⟩ := ins_inst I ha
  exact rbin_K I.kIn J hc hs hrf hf hsub fills slot entry (args _ _) (g0 i t a C dx) (thn (wpAny_call (run_fnR (us := [.ref a, .int i t]) (vs := [.ref a, .int i]) F hr hx I (.cons rfl (.cons ⟨t, rfl⟩ .nil)) q)) fun _ _ z => cb_of z)
/-- the type of the other value of a comparison, told by the abstract heap -/
inductive TyC (X : Cx) (H : Hp) : V → Value → Prop where
  | of {y : V} {t : Value} (h : TyX X.K H y t) : TyC X H y t
theorem ty_look {y : V} {t u : Value} (I : Inv X pins σ H s) (ry : RelV y u) (h : TyX X.K H y t) : PySem.W.Looks (model X.prog X.w) s.heap (typeOf u) t := by
  have ld : ∀ {a : Addr} {o : Obj} {c : Value}, s.heap.get? a = some o → o.cls = c → PySem.W.Looks (model X.prog X.w) s.heap (typeOf (.ref a)) c := fun {a o c} e z => by
    subst z
    exact (PySem.W.Looks.ld (part := none) e).andThen .now
  cases h with
  | base b =>
    cases b with
    | non => cases (show u = Value.none from ry); exact PySem.W.Looks.of_pure rfl
    | bl y => cases (show u = Value.bool y from ry); exact PySem.W.Looks.of_pure rfl
    | int i => obtain ⟨t, q⟩ := (show ∃ t, u = Value.int i t from ry); cases q; exact PySem.W.Looks.of_pure rfl
    | str y => obtain ⟨t, q⟩ := (show ∃ t, u = Value.str y t from ry); cases q; exact PySem.W.Looks.of_pure rfl
    | flt y => obtain ⟨t, q⟩ := (show ∃ t, u = Value.float y t from ry); cases q; exact PySem.W.Looks.of_pure rfl
    | @lst a xs ea =>
      cases (show u = Value.ref a from ry)
      obtain ⟨_, _, n, _, h1⟩ := (show ObjOk X.prog X.w H s.heap a (.lst xs) from I.hok a _ ea)
      exact ld h1 rfl
    | @frz a ob xs ea =>
      cases (show u = Value.ref a from ry)
      obtain ⟨_, _, _, n, _, h1⟩ := (show ObjOk X.prog X.w H s.heap a (.frz ob (.lst xs)) from I.hok a _ ea)
      exact ld h1 rfl
    | @tup a xs ea =>
      cases (show u = Value.ref a from ry)
      obtain ⟨_, _, _, o, h1, h2, _⟩ := (show ObjOk X.prog X.w H s.heap a (.tup xs) from I.hok a _ ea)
      exact ld h1 h2
    | @dK a kvs ea =>
      cases (show u = Value.ref a from ry)
      obtain ⟨_, _, vs, _, o, es, ep, h1, h2, _⟩ := (show ObjOk X.prog X.w H s.heap a (.dK kvs) from I.hok a _ ea)
      exact ld h1 h2.1
    | @dT a kvs ea =>
      cases (show u = Value.ref a from ry)
      obtain ⟨_, _, xs, _, o, es, ep, h1, h2, _⟩ := (show ObjOk X.prog X.w H s.heap a (.dT kvs) from I.hok a _ ea)
      exact ld h1 h2.1
    | @ins a C dx fs ea cl ha hn htk hm =>
      cases (show u = Value.ref a from ry)
      obtain ⟨od, J⟩ := ins_inst I ea
      exact J.type
  | byt y => obtain ⟨t, q⟩ := (show ∃ t, u = Value.bytes y t from ry); cases q; exact PySem.W.Looks.of_pure rfl
  | @set a S n ea =>
    cases (show u = Value.ref a from ry)
    obtain ⟨o, _, _, _, e, ex, _⟩ := I.hok a _ ea
    exact ld e ex.1
  | @kList a o e c => cases (show u = Value.ref a from ry); exact ld (I.kIn a o e) c
  | @kTuple a o e c => cases (show u = Value.ref a from ry); exact ld (I.kIn a o e) c
  | @kDict a o e c => cases (show u = Value.ref a from ry); exact ld (I.kIn a o e) c
  | @fTuple a ob xs ea =>
    cases (show u = Value.ref a from ry)
    obtain ⟨_, _, _, _, o, h1, h2, _⟩ := (show ObjOk X.prog X.w H s.heap a (.frz ob (.tup xs)) from I.hok a _ ea)
    exact ld h1 h2
  | @fDict a ob kvs ea =>
    cases (show u = Value.ref a from ry)
    obtain ⟨_, _, _, vs, _, o, es, ep, h1, h2, _⟩ := (show ObjOk X.prog X.w H s.heap a (.frz ob (.dK kvs)) from I.hok a _ ea)
    exact ld h1 h2.1
/-- the other value of a comparison: of a type that does not come first -/
def isAny (K : PySem.W.Frag) (C : Addr) : V → Hp → Prop := fun y H => ∃ t, TyX K H y t ∧ PySem.W.notFirst K C t = true
theorem op_cmp {op : CmpOp} (hop : ∀ a b, compareOp op a b = richCompare op a b) (hs : PySem.W.findIn X.K (.ref C) (cmpInfo op).2.1 = some (some (.ref f))) (hf : PySem.W.isFn X.K (.ref f) = true) (F : FnR X.prog X.w X.K X.mg X.base CX n f sp)
    (hr : Room n X.A) (hx : Passes CX X E) : OpR X (compareOp op) (rO C sp E (isAny X.K C)) := by
  intro pins s σ H x y v u Q I rx ry h
  obtain ⟨a, dx, fs, rfl, ha, ⟨t, ht, hn⟩, q⟩ := h
  cases (show v = Value.ref a from rx)
  obtain ⟨od, J⟩ := ins_inst I ha
  obtain ⟨m, hF⟩ := I.fr
  rw [hop]
  exact PySem.W.cmp_K hr.units0 hF I.ok.mod.kin J (ty_look I ry ht) hn hs hf (thn (wpAny_call (run_fnR (us := [.ref a, u]) (vs := [.ref a, y]) F hr hx I (.cons rfl (.cons ry .nil)) q)) fun _ _ z => cb_of z)
theorem op_rcmp {op : CmpOp} {id : String} {B : Builtin} (hop : ∀ a b, compareOp op a b = richCompare op a b) (hs : PySem.W.findIn X.K (.ref C) (cmpInfo op).2.2 = some (some (.ref f))) (hf : PySem.W.isFn X.K (.ref f) = true)
    (hsub : PySem.W.subIn X.K (.ref C) (.type "int") = some false) (slot : Slot "int" (cmpInfo op).2.1 id) (entry : entryFor table id = some B) (args : ∀ a b : Value, argsOk id ⟨[a, b], []⟩)
    (g0 : ∀ i t x C dx, Meets (B ⟨[.int i t, .ref x], []⟩) (fun _ R s => s.heap.get? x = some (PySem.W.instObj C dx) ∧ R (.ok (.ret Value.notImplemented)) s))
    (F : FnR X.prog X.w X.K X.mg X.base CX n f sp) (hr : Room n X.A) (hx : Passes CX X E) : OpR X (compareOp op) (rOr C sp E) := by
  intro pins s σ H x y v u Q I rx ry h
  obtain ⟨a, dx, fs, i, rfl, rfl, ha, q⟩ := h
  cases (show u = Value.ref a from ry)
  obtain ⟨t, rfl⟩ := rx
  obtain ⟨od, J⟩ := ins_inst I ha
  rw [hop]
  exact rcmp_K hr.units0 I.kIn J hs hf hsub slot entry (args _ _) (g0 i t a C dx) (thn (wpAny_call (run_fnR (us := [.ref a, .int i t]) (vs := [.ref a, .int i]) F hr hx I (.cons rfl (.cons ⟨t, rfl⟩ .nil)) q)) fun _ _ z => cb_of z)
/-- the callee runs one C level deeper -/
theorem run_fnR1 {Q : VK} {us : List Value} {vs : List V} {A : Around} (F : FnR X.prog X.w X.K X.mg X.base CX n f sp) (hr : Room n A) (e0 : Env0 X.prog X.w X.K X.mg X.base A X.stack s H) (hx : Passes CX X E) (I : Inv X pins σ H s) (r : Vals vs us) (h : sp vs H Q E) :
    wpAny (model X.prog X.w) A (call (.ref f) us) (EP X pins σ Q) X.xe s := wpAny_call (SlX.run_at F hr e0 hx I r h)
/-- what comes back is a bool -/
def kB (Q : VK) : VK := fun v H => ∃ b, v = .bl b ∧ Q (.bl b) H
def kNB (Q : VK) : VK := fun v H => ∃ b, v = .bl b ∧ Q (.bl (!b)) H
def rNO (C : Addr) (sp : Sp) (E : XK) (ok : V → Hp → Prop) : R2 := fun x y H Q => ∃ a dx fs, x = .ref a ∧ H a = some (.ins C dx fs) ∧ ok y H ∧ sp [.ref a, y] H (kNB Q) E
theorem op_ne1 (hn : PySem.W.findIn X.K (.ref C) "__ne__" = some (some (.builtin "object.__ne__"))) (hm : PySem.W.mroIn X.K C (.type "object") = some true) (hs : PySem.W.findIn X.K (.ref C) "__eq__" = some (some (.ref f))) (hf : PySem.W.isFn X.K (.ref f) = true)
    (F : FnR X.prog X.w X.K X.mg X.base CX n f sp) (hr : Room (n + 1) X.A) (hx : Passes CX X E) : OpR X (compareOp .NotEq) (rNO C sp E (isAny X.K C)) := by
  intro pins s σ H x y v u Q I rx ry h
  obtain ⟨a, dx, fs, rfl, ha, ⟨t, ht, hnf⟩, q⟩ := h
  cases (show v = Value.ref a from rx)
  obtain ⟨od, J⟩ := ins_inst I ha
  show wpAny _ _ (richCompare .NotEq _ _) _ _ _
  refine ne_K (by have := hr.units; omega) I.kIn J (ty_look I ry ht) hnf hn hs hf hm (thn (run_fnR1 (us := [.ref a, u]) (vs := [.ref a, y]) F hr.in1 I.env0.in1 hx I (.cons rfl (.cons ry .nil)) q) fun v s' z => ?_)
  obtain ⟨z, H', I', rz, b, ez, q'⟩ := z
  subst ez
  cases rz
  exact ⟨b, rfl, .bl (!b), H', I', rfl, q'⟩
def rU1 (C : Addr) (sp : Sp) (E : XK) : V → Hp → VK → Prop := fun x H Q => ∃ a dx fs, x = .ref a ∧ H a = some (.ins C dx fs) ∧ sp [.ref a] H Q E
theorem un_negO (hs : PySem.W.findIn X.K (.ref C) "__neg__" = some (some (.ref f))) (hf : PySem.W.isFn X.K (.ref f) = true) (F : FnR X.prog X.w X.K X.mg X.base CX n f sp) (hr : Room n X.A) (hx : Passes CX X E) : UnR X (unaryOp .USub) (rU1 C sp E) := by
  intro pins s σ H x v Q I rx h
  obtain ⟨a, dx, fs, rfl, ha, q⟩ := h
  cases (show v = Value.ref a from rx)
  obtain ⟨od, J⟩ := ins_inst I ha
  obtain ⟨m, hF⟩ := I.fr
  exact PySem.W.ksp_neg hF I.ok.mod.kin J hs hf (wpAny_call (run_fnR (us := [.ref a]) (vs := [.ref a]) F hr hx I (.cons rfl .nil) q))
theorem un_invO (hs : PySem.W.findIn X.K (.ref C) "__invert__" = some (some (.ref f))) (hf : PySem.W.isFn X.K (.ref f) = true) (F : FnR X.prog X.w X.K X.mg X.base CX n f sp) (hr : Room n X.A) (hx : Passes CX X E) : UnR X (unaryOp .Invert) (rU1 C sp E) := by
  intro pins s σ H x v Q I rx h
  obtain ⟨a, dx, fs, rfl, ha, q⟩ := h
  cases (show v = Value.ref a from rx)
  obtain ⟨od, J⟩ := ins_inst I ha
  obtain ⟨m, hF⟩ := I.fr
  exact PySem.W.ksp_inv hF I.ok.mod.kin J hs hf (wpAny_call (run_fnR (us := [.ref a]) (vs := [.ref a]) F hr hx I (.cons rfl .nil) q))
/-- a call of a built-in with one instance -/
def rC1 (C : Addr) (sp : Sp) (E : XK) (k : VK → VK) : List V → Hp → VK → Prop := fun xs H Q => ∃ a dx fs, xs = [.ref a] ∧ H a = some (.ins C dx fs) ∧ sp [.ref a] H (k Q) E
def kS (Q : VK) : VK := fun v H => ∃ z, v = .str z ∧ Q (.str z) H
theorem call_absO (hs : PySem.W.findIn X.K (.ref C) "__abs__" = some (some (.ref f))) (hf : PySem.W.isFn X.K (.ref f) = true) (F : FnR X.prog X.w X.K X.mg X.base CX n f sp) (hr : Room (n + 1) X.A) (hx : Passes CX X E) : CallR X (.builtin "abs") (rC1 C sp E id) := by
  intro pins s σ H xs us Q I r h
  obtain ⟨a, dx, fs, rfl, ha, q⟩ := h
  obtain ⟨u, rfl, ru⟩ := vals1 r
  cases (show u = Value.ref a from ru)
  obtain ⟨od, J⟩ := ins_inst I ha
  exact abs_K I.kIn J hs hf (run_fnR1 (us := [.ref a]) (vs := [.ref a]) F hr.in1 I.env0.in1 hx I (.cons rfl .nil) q)
theorem call_boolO (hs : PySem.W.findIn X.K (.ref C) "__bool__" = some (some (.ref f))) (hf : PySem.W.isFn X.K (.ref f) = true) (F : FnR X.prog X.w X.K X.mg X.base CX n f sp) (hr : Room (n + 2) X.A) (hx : Passes CX X E) : CallR X (.type "bool") (rC1 C sp E kB) := by
  intro pins s σ H xs us Q I r h
  obtain ⟨a, dx, fs, rfl, ha, q⟩ := h
  obtain ⟨u, rfl, ru⟩ := vals1 r
  cases (show u = Value.ref a from ru)
  obtain ⟨od, J⟩ := ins_inst I ha
  refine boolnew_K I.kIn J hs hf (thn (run_fnR1 (us := [.ref a]) (vs := [.ref a]) F (show Room n X.A.in1.in1 from (Room.in1 (k := n + 1) hr).in1) I.env0.in1.in1 hx I (.cons rfl .nil) q) fun v s' z => ?_)
  obtain ⟨z, H', I', rz, b, ez, q'⟩ := z
  subst ez
  cases rz
  exact ⟨.bl b, H', I', rfl, q'⟩
theorem call_strO (hs : PySem.W.findIn X.K (.ref C) "__str__" = some (some (.ref f))) (hf : PySem.W.isFn X.K (.ref f) = true) (F : FnR X.prog X.w X.K X.mg X.base CX n f sp) (hr : Room (n + 2) X.A) (hx : Passes CX X E) : CallR X (.type "str") (rC1 C sp E kS) := by
  intro pins s σ H xs us Q I r h
  obtain ⟨a, dx, fs, rfl, ha, q⟩ := h
  obtain ⟨u, rfl, ru⟩ := vals1 r
  cases (show u = Value.ref a from ru)
  obtain ⟨od, J⟩ := ins_inst I ha
  have hr2 : Room n X.A.in1.in1 := (Room.in1 (k := n + 1) hr).in1
  refine PySem.W.kso_call hr2.units0 I.kIn J hs hf (thn (run_fnR1 (us := [.ref a]) (vs := [.ref a]) F hr2 I.env0.in1.in1 hx I (.cons rfl .nil) q) fun v s' z => ?_)
  obtain ⟨z, H', I', rz, b, ez, q'⟩ := z
  subst ez
  obtain ⟨t, rfl⟩ := (show ∃ t, v = Value.str b t from rz)
  exact ⟨.str b, H', I', ⟨t, rfl⟩, q'⟩
/-- truth by the own __bool__ -/
theorem tru_O (hs : PySem.W.findIn X.K (.ref C) "__bool__" = some (some (.ref f))) (hf : PySem.W.isFn X.K (.ref f) = true) (F : FnR X.prog X.w X.K X.mg X.base CX n f sp) (hr : Room n X.A) (hx : Passes CX X E) :
    TruR X (fun x H Q => ∃ a dx fs, x = .ref a ∧ H a = some (.ins C dx fs) ∧ sp [.ref a] H (fun v H' => ∃ b, v = .bl b ∧ Q b H') E) := by
  intro pins s σ H x v Q I rx h
  obtain ⟨a, dx, fs, rfl, ha, q⟩ := h
  cases (show v = Value.ref a from rx)
  obtain ⟨od, J⟩ := ins_inst I ha
  obtain ⟨m, hF⟩ := I.fr
  refine PySem.W.truthy_K hF I.ok.mod.kin J hs hf (thn (wpAny_call (run_fnR (us := [.ref a]) (vs := [.ref a]) F hr hx I (.cons rfl .nil) q)) fun v s' z => ?_)
  obtain ⟨z, H', I', rz, b, ez, q'⟩ := z
  subst ez
  cases rz
  exact ⟨H', I', q'⟩
end
end
section
open PySem PySem.Spec PyProof.Rows L2
def Ex (H H' : Hp) : Prop := ∀ a o, H a = some o → H' a = some o
def Stab : HO → Prop
  | .dK _ => False
  | _ => True
/-- all but dicts stands as it was -/
def Le (H H' : Hp) : Prop := ∀ a o, H a = some o → Stab o → H' a = some o
theorem Ex.refl (H : Hp) : Ex H H := fun _ _ h => h
theorem Ex.trans {H H1 H2 : Hp} (a : Ex H H1) (b : Ex H1 H2) : Ex H H2 := fun x o h => b x o (a x o h)
theorem Ex.le {H H' : Hp} (e : Ex H H') : Le H H' := fun a o h _ => e a o h
theorem Le.refl (H : Hp) : Le H H := fun _ _ h _ => h
theorem Le.trans {H H1 H2 : Hp} (a : Le H H1) (b : Le H1 H2) : Le H H2 := fun x o h s => b x o (a x o h s) s
theorem Ex.new {H : Hp} {p : Addr} {o : HO} (h : H p = none) : Ex H (upd H p o) := fun a u e => by
  rw [upd_ne (ne_of_none e h)]
  exact e
theorem Ex.new2 {H : Hp} {p q : Addr} {o u : HO} (h : H p = none) (h' : H q = none) : Ex H (upd (upd H p o) q u) := fun a v e => by
  rw [upd_ne (ne_of_none e h'), upd_ne (ne_of_none e h)]
  exact e
theorem Le.dict {H : Hp} {p : Addr} {kvs : List (Key × V)} {o : HO} (h : H p = some (.dK kvs)) : Le H (upd H p o) := fun a u e s => by
  have : a ≠ p := fun z => by subst z; rw [h] at e; cases e; exact s
  rw [upd_ne this]
  exact e
structure Cl (P : Program) (w : World) (K : PySem.W.Frag) (mg : Str → Option Value) (base : Heap) (k : Nat) (x : Str) (sp : Sp) : Prop where
  ex : ∃ (f : Addr) (fd : FuncData) (ps : List Str), FnOk P w K mg base (L2.CX P w) k f fd ps sp ∧ mg x = some (.ref f) ∧ PySem.W.keepIn K (.ref f) = true ∧ Binds K fd ps []
structure Cm (P : Program) (w : World) (K : PySem.W.Frag) (mg : Str → Option Value) (base : Heap) (k : Nat) (C : Addr) (m : Str) (f : Addr) (sp : Sp) : Prop where
  ex : ∃ (fd : FuncData) (ps : List Str), FnOk P w K mg base (L2.CX P w) k f fd ps sp ∧ Binds K fd ps []
  me : Meth K C m f
section
variable {P : Program} {w : World} {K : PySem.W.Frag} {mg : Str → Option Value} {base : Heap} {k j : Nat} {x m : Str} {C f : Addr} {sp sp' : Sp}
theorem Cm.fnr (c : Cm P w K mg base k C m f sp) : FnR P w K mg base (L2.CX P w) k f sp := by
  obtain ⟨fd, ps, F, b⟩ := c.ex
  have q := F.raw (dvs := []) b .nil
  intro A outer s H us vs Q E hr e0 r hs
  exact q A outer s H us vs Q E hr e0 r (by show sp (vs ++ []) H Q E; rw [List.append_nil]; exact hs)
theorem Cm.fn (c : Cm P w K mg base k C m f sp) : PySem.W.isFn K (.ref f) = true := c.me.fn
theorem Cm.at_ (c : Cm P w K mg base k C m f sp) : PySem.W.findIn K (.ref C) m = some (some (.ref f)) := c.me.at_
theorem Cl.imp (c : Cl P w K mg base k x sp) (h : ∀ vs H Q E, sp' vs H Q E → sp vs H Q E) : Cl P w K mg base k x sp' := by
  obtain ⟨f, fd, ps, F, r⟩ := c.ex
  exact ⟨f, fd, ps, F.imp h, r⟩
theorem Cm.imp (c : Cm P w K mg base k C m f sp) (h : ∀ vs H Q E, sp' vs H Q E → sp vs H Q E) : Cm P w K mg base k C m f sp' := by
  obtain ⟨fd, ps, F, r⟩ := c.ex
  exact ⟨⟨fd, ps, F.imp h, r⟩, c.me⟩
end
section
variable {X : Cx} {k j : Nat} {x m : Str} {C f : Addr} {sp : Sp} {E : XK} {e o : Expr} {es : List Expr} {t : TA} {ta : TE} {p pos apos : Pos}
def tC1 (sp : Sp) (E : XK) (t : TA) : TE := fun σ H Q => t σ H fun vs H1 => sp vs H1 Q E
def tM1 (C : Addr) (m : Str) (sp : Sp) (E : XK) (ta : TE) (t : TA) : TE := fun σ H Q => ta σ H fun x H1 => ∃ a dx fs, x = .ref a ∧ H1 a = some (.ins C dx fs) ∧ fs.lookup m = none ∧ t σ H1 fun vs H2 => sp (.ref a :: vs) H2 Q E
theorem pe_cl (c : Cl X.prog X.w X.K X.mg X.base k x sp) (hr : Room j X.A) (hk : k ≤ j) (hg : Gl X x) (hx : Passes (L2.CX X.prog X.w) X E) (ha : PA X (e :: es) t) (hdb : (x == ("__debug__" : Str)) = false := by decide)
    (he : starEach (e :: es) X.env = (false, eval e X.env) :: starEach es X.env := by rfl) (hpl : (backTo pos (starEach es X.env)).any (·.1) = false := by rfl) : PE X (.Call (.Name x p) (e :: es) [] pos) (tC1 sp E t) := by
  obtain ⟨f, fd, ps, F, hm, hkp, hb⟩ := c.ex
  have q := pe_call (p := p) (pos := pos) F (hr.mono hk) hg hm hkp hb .nil hx ha hdb he hpl
  refine ⟨fun pins s σ H Q I h => q.run pins s σ H Q I ?_⟩
  show t σ H fun vs H1 => sp (vs ++ []) H1 Q E
  simp only [List.append_nil]
  exact h
theorem pe_cm {pl : Sem Bool} (cl : Cls X.K C) (c : Cm X.prog X.w X.K X.mg X.base k C m f sp) (hr : Room j X.A) (hk : k ≤ j) (hx : Passes (L2.CX X.prog X.w) X E) (he : PE X o ta) (ha : PA X (e :: es) t)
    (hst : starEach (e :: es) X.env = (false, eval e X.env) :: starEach es X.env := by rfl) (hpl : (backTo pos (starEach es X.env)).any (·.1) = false := by rfl)
    (ht : eval (.Call (.Attribute o m apos) (e :: es) [] pos) X.env = (do
      let ov ← eval o X.env
      standAt apos.atName
      let (f, first) ← holding [ov] (getMethod ov m pl)
      callWith pos f first (backTo pos (starEach (e :: es) X.env)) (backToKw pos (keywordEach [] X.env))) := by rfl) :
    PE X (.Call (.Attribute o m apos) (e :: es) [] pos) (tM1 C m sp E ta t) := by
  obtain ⟨fd, ps, F, b⟩ := c.ex
  have q := pe_meth (pos := pos) (apos := apos) he cl c.me F (hr.mono hk) b .nil hx ha hst hpl ht
  refine ⟨fun pins s σ H Q I h => q.run pins s σ H Q I ?_⟩
  show ta σ H fun x H1 => ∃ a dx fs, x = .ref a ∧ H1 a = some (.ins C dx fs) ∧ fs.lookup m = none ∧ t σ H1 fun vs H2 => sp (x :: (vs ++ [])) H2 Q E
  simp only [List.append_nil]
  have e : (fun (x : V) (H1 : Hp) => ∃ a dx fs, x = .ref a ∧ H1 a = some (.ins C dx fs) ∧ fs.lookup m = none ∧ t σ H1 fun vs H2 => sp (x :: vs) H2 Q E) = (fun (x : V) (H1 : Hp) => ∃ a dx fs, x = .ref a ∧ H1 a = some (.ins C dx fs) ∧ fs.lookup m = none ∧ t σ H1 fun vs H2 => sp (.ref a :: vs) H2 Q E) := by
    funext x H1
    apply propext
    constructor
    · rintro ⟨a, dx, fs, rfl, r⟩; exact ⟨a, dx, fs, rfl, r⟩
    · rintro ⟨a, dx, fs, rfl, r⟩; exact ⟨a, dx, fs, rfl, r⟩
  rw [e]
  exact h
theorem pe_cm0 {pl : Sem Bool} (cl : Cls X.K C) (c : Cm X.prog X.w X.K X.mg X.base k C m f sp) (hr : Room j X.A) (hk : k ≤ j) (hx : Passes (L2.CX X.prog X.w) X E) (he : PE X o ta)
    (ht : eval (.Call (.Attribute o m apos) [] [] pos) X.env = (do
      let ov ← eval o X.env
      standAt apos.atName
      let (f, first) ← holding [ov] (getMethod ov m pl)
      callWith pos f first (backTo pos (starEach [] X.env)) (backToKw pos (keywordEach [] X.env))) := by rfl) :
    PE X (.Call (.Attribute o m apos) [] [] pos) (tM1 C m sp E ta tNil) := by
  obtain ⟨fd, ps, F, b⟩ := c.ex
  have q := pe_meth0 (pos := pos) (apos := apos) he cl c.me F (hr.mono hk) b .nil hx ht
  refine ⟨fun pins s σ H Q I h => q.run pins s σ H Q I ?_⟩
  show ta σ H fun x H1 => ∃ a dx fs, x = .ref a ∧ H1 a = some (.ins C dx fs) ∧ fs.lookup m = none ∧ sp (x :: ([] ++ [])) H1 Q E
  have e : (fun (x : V) (H1 : Hp) => ∃ a dx fs, x = .ref a ∧ H1 a = some (.ins C dx fs) ∧ fs.lookup m = none ∧ sp (x :: ([] ++ [])) H1 Q E) = (fun (x : V) (H1 : Hp) => ∃ a dx fs, x = .ref a ∧ H1 a = some (.ins C dx fs) ∧ fs.lookup m = none ∧ sp (.ref a :: []) H1 Q E) := by
    funext x H1
    apply propext
    constructor
    · rintro ⟨a, dx, fs, rfl, r⟩; exact ⟨a, dx, fs, rfl, r⟩
    · rintro ⟨a, dx, fs, rfl, r⟩; exact ⟨a, dx, fs, rfl, r⟩
  rw [e]
  exact h
/-- C(e, ..), __init__'s promise given the fresh instance; dvs fill up the defaults -/
structure Ck (P : Program) (w : World) (K : PySem.W.Frag) (mg : Str → Option Value) (base : Heap) (k : Nat) (x : Str) (C : Addr) (dvs : List V) (sp : Sp) : Prop where
  ex : ∃ (f : Addr) (fd : FuncData) (ps : List Str) (ds : List Value), FnOk P w K mg base (L2.CX P w) k f fd ps sp ∧ Mk K C f ∧ mg x = some (.ref C) ∧ Binds K fd ps ds ∧ Vals dvs ds
def tK1 (C : Addr) (sp : Sp) (dvs : List V) (E : XK) (t : TA) : TE := tMake C sp dvs E t
theorem pe_ck {dvs : List V} (c : Ck X.prog X.w X.K X.mg X.base k x C dvs sp) (hr : Room j X.A) (hk : k + 1 ≤ j) (hg : Gl X x) (hx : Passes (L2.CX X.prog X.w) X E) (ha : PA X (e :: es) t) (hdb : (x == ("__debug__" : Str)) = false := by decide)
    (he : starEach (e :: es) X.env = (false, eval e X.env) :: starEach es X.env := by rfl) (hpl : (backTo pos (starEach es X.env)).any (·.1) = false := by rfl) : PE X (.Call (.Name x p) (e :: es) [] pos) (tK1 C sp dvs E t) := by
  obtain ⟨f, fd, ps, ds, F, M, hm, hb, hv⟩ := c.ex
  exact pe_make M F (hr.mono hk) hg hm hb hv hx ha hdb he hpl
end
/-- in a def's body what a callee raises goes on -/
theorem psE {P : Program} {w : World} {K : PySem.W.Frag} {mg : Str → Option Value} {base : Heap} {N : List Str} {q : Str} {sc : Scope} {f : Addr} {cdv : Value} {A : Around} {outer : List Env} {s : Shared} {H : Hp} {E : XK} :
    Passes (L2.CX P w) (cxOf (L2.CX P w) P w K mg base N q sc f cdv A outer s H E) E := passes_call (W := fun cls d _ H => E cls d H) (takes_of rfl rfl rfl rfl) fun _ _ _ _ h => h
theorem tkE {P : Program} {w : World} {K : PySem.W.Frag} {mg : Str → Option Value} {base : Heap} {N : List Str} {q : Str} {sc : Scope} {f : Addr} {cdv : Value} {A : Around} {outer : List Env} {s : Shared} {H : Hp} {E : XK} :
    Takes (cxOf (L2.CX P w) P w K mg base N q sc f cdv A outer s H E) (fun cls d _ H => E cls d H) := takes_of rfl rfl rfl rfl
section
variable {K : PySem.W.Frag} {σ : L2.St} {H : Hp} {Q : VK} {QT : Bool → Hp → Prop} {QA : List V → Hp → Prop} {D : Ends} {ta tb te : TE} {t u : TT} {tr : TA} {v x y : V} {i : Nat} {r : R2} {ts us ws : TS} {g : TG} {b : Bool}
theorem r_var (h : σ[i]? = some (some v)) (k : Q v H) : tVar i σ H Q := ⟨v, h, k⟩
theorem r_c (k : Q v H) : tC v σ H Q := k
theorem r_op (k : ta σ H fun x H1 => tb σ H1 fun y H2 => r x y H2 Q) : tOp r ta tb σ H Q := k
theorem r_un {ru : V → Hp → VK → Prop} (k : ta σ H fun x H1 => ru x H1 Q) : tUn ru ta σ H Q := k
theorem r_I0 {g : Int → Int → V} {a c : Int} (k : Q (g a c) H) : rI0 g (.int a) (.int c) H Q := ⟨a, c, rfl, rfl, k⟩
theorem r_I {C : Int → Int → Prop} {g : Int → Int → V} {a c : Int} (hc : C a c) (k : Q (g a c) H) : rI C g (.int a) (.int c) H Q := ⟨a, c, rfl, rfl, hc, k⟩
theorem r_U {g : Int → V} {a : Int} (k : Q (g a) H) : rU g (.int a) H Q := ⟨a, rfl, k⟩
theorem r_eqI {a c : Int} (k : Q (.bl (decide (a = c))) H) : rEq (.int a) (.int c) H Q := ⟨rfl, by rw [show decide (V.int a = V.int c) = decide (a = c) from by rw [Bool.eq_iff_iff]; simp]; exact k⟩
theorem r_neI {a c : Int} (k : Q (.bl (!decide (a = c))) H) : rNe (.int a) (.int c) H Q := ⟨rfl, by rw [show decide (V.int a = V.int c) = decide (a = c) from by rw [Bool.eq_iff_iff]; simp]; exact k⟩
theorem r_eqS {a c : Str} (k : Q (.bl (decide (a = c))) H) : rEq (.str a) (.str c) H Q := ⟨rfl, by rw [show decide (V.str a = V.str c) = decide (a = c) from by rw [Bool.eq_iff_iff]; simp]; exact k⟩
theorem r_neS {a c : Str} (k : Q (.bl (!decide (a = c))) H) : rNe (.str a) (.str c) H Q := ⟨rfl, by rw [show decide (V.str a = V.str c) = decide (a = c) from by rw [Bool.eq_iff_iff]; simp]; exact k⟩
theorem r_test (k : te σ H fun x H' => ∃ b, x = .bl b ∧ QT b H') : tTest te σ H QT := k
theorem r_B (k : te σ H fun x H' => ∃ b, x = .bl b ∧ QT b H') : tB te σ H QT := k
theorem r_bl (k : QT b H) : ∃ b', V.bl b = .bl b' ∧ QT b' H := ⟨b, rfl, k⟩
theorem r_and (k : t σ H fun c H1 => if c = true then u σ H1 QT else QT false H1) : tAnd t u σ H QT := k
theorem r_or (k : t σ H fun c H1 => if c = true then QT true H1 else u σ H1 QT) : tOr t u σ H QT := k
theorem r_not (k : t σ H fun c H1 => QT (!c) H1) : tNot t σ H QT := k
theorem r_andV (k : ta σ H fun x H1 => ∃ c, x = .bl c ∧ if c = true then tb σ H1 Q else Q (.bl false) H1) : tAndV ta tb σ H Q := k
theorem r_orV (k : ta σ H fun x H1 => ∃ c, x = .bl c ∧ if c = true then Q (.bl true) H1 else tb σ H1 Q) : tOrV ta tb σ H Q := k
theorem r_notV (k : ta σ H fun x H1 => ∃ c, x = .bl c ∧ Q (.bl (!c)) H1) : tNotV ta σ H Q := k
theorem r_ifE (k : t σ H fun c H1 => if c = true then ta σ H1 Q else tb σ H1 Q) : tIf t ta tb σ H Q := k
theorem r_seq (k : ts { D with nx := us D } σ H) : tSeq ts us D σ H := k
theorem r_next (k : D.nx σ H) : tNext D σ H := k
theorem r_break (k : D.bk σ H) : tBreak D σ H := k
theorem r_cont (k : D.ct σ H) : tCont D σ H := k
theorem r_asg (k : te σ H fun x H1 => g x σ H1 D.nx) : tAsg te g D σ H := k
theorem r_name {QS : L2.St → Hp → Prop} (k : QS (σ.set i (some v)) H) : gName i v σ H QS := k
theorem r_ifS (k : t σ H fun b H1 => if b = true then ts D σ H1 else us D σ H1) : tIfS t ts us D σ H := k
theorem r_ret (k : te σ H D.rt) : tRet te D σ H := k
theorem r_retN (k : D.rt .non H) : tRetN D σ H := k
theorem r_drop (k : te σ H fun _ H1 => D.nx σ H1) : tDrop te D σ H := k
theorem r_nil (k : QA [] H) : tNil σ H QA := k
theorem r_cons (k : ta σ H fun x H1 => tr σ H1 fun xs H2 => QA (x :: xs) H2) : tCons ta tr σ H QA := k
theorem r_c1 {sp : Sp} {E : XK} (k : tr σ H fun vs H1 => sp vs H1 Q E) : tC1 sp E tr σ H Q := k
theorem r_cb {rc : List V → Hp → VK → Prop} (k : tr σ H fun vs H1 => rc vs H1 Q) : tCB rc tr σ H Q := k
def LaidT (xs : List V) (H : Hp) (Q : VK) : Prop := xs.length ≤ sizeLine ∧ ∀ p, H p = none → Q (.ref p) (upd H p (.tup xs))
def LaidL (xs : List V) (H : Hp) (Q : VK) : Prop := xs.length ≤ sizeLine ∧ ∀ p, H p = none → Q (.ref p) (upd H p (.lst xs))
theorem r_tup (k : tr σ H fun xs H1 => LaidT xs H1 Q) : tTup tr σ H Q := k
theorem r_lst (k : tr σ H fun xs H1 => LaidL xs H1 Q) : tLst tr σ H Q := k
/-- an object laid: known from then on by what stands at it -/
theorem r_laidT {xs : List V} (hz : xs.length ≤ 1000) (k : ∀ p H', Ex H H' → H p = none → H' p = some (.tup xs) → Q (.ref p) H') : LaidT xs H Q :=
  ⟨Nat.le_trans hz (by decide), fun p hp => k p _ (Ex.new hp) hp upd_same⟩
theorem r_laidL {xs : List V} (hz : xs.length ≤ 1000) (k : ∀ p H', Ex H H' → H p = none → H' p = some (.lst xs) → Q (.ref p) H') : LaidL xs H Q :=
  ⟨Nat.le_trans hz (by decide), fun p hp => k p _ (Ex.new hp) hp upd_same⟩
theorem r_par {i j : Nat} (k : tr σ H fun vs H1 => ∃ v w, vs = [v, w] ∧ D.nx ((σ.set i (some v)).set j (some w)) H1) : tPar i j tr D σ H := k
theorem r_par2 {QS : L2.St → Hp → Prop} {i j : Nat} {v w : V} (k : QS ((σ.set i (some v)).set j (some w)) H) : ∃ v' w', [v, w] = [v', w'] ∧ QS ((σ.set i (some v')).set j (some w')) H := ⟨v, w, rfl, k⟩
theorem r_par3 {i j l : Nat} (k : tr σ H fun vs H1 => ∃ v w z, vs = [v, w, z] ∧ D.nx (((σ.set i (some v)).set j (some w)).set l (some z)) H1) : tPar3 i j l tr D σ H := k
theorem r_par33 {QS : L2.St → Hp → Prop} {i j l : Nat} {v w z : V} (k : QS (((σ.set i (some v)).set j (some w)).set l (some z)) H) : ∃ v' w' z', [v, w, z] = [v', w', z'] ∧ QS (((σ.set i (some v')).set j (some w')).set l (some z')) H := ⟨v, w, z, rfl, k⟩
theorem r_gTup {QS : L2.St → Hp → Prop} {K : PySem.W.Frag} {n : Nat} {gs : TGs} {a : Addr} {xs : List V} (h : H a = some (.tup xs)) (hn : xs.length = n) (k : gs xs σ H QS) : gTup K n gs (.ref a) σ H QS := ⟨a, xs, rfl, SqT.of h, hn, k⟩
theorem r_gCons {QS : L2.St → Hp → Prop} {g : TG} {gs : TGs} {v : V} {vs : List V} (k : g v σ H fun σ' H' => gs vs σ' H' QS) : gCons g gs (v :: vs) σ H QS := ⟨v, vs, rfl, k⟩
theorem r_gNil {QS : L2.St → Hp → Prop} (k : QS σ H) : gNil [] σ H QS := ⟨rfl, k⟩
theorem r_ix {ri : R2} (k : ta σ H fun x H1 => tb σ H1 fun y H2 => ri x y H2 Q) : tOp ri ta tb σ H Q := k
theorem r_ixT {p : Addr} {xs : List V} {i : Int} {v : V} (h : H p = some (.tup xs)) (e : atI xs i = some v) (k : Q v H) : rIxT K (.ref p) (.int i) H Q := ⟨p, xs, i, v, rfl, rfl, SqT.of h, e, k⟩
theorem r_ixL {p : Addr} {xs : List V} {i : Int} {v : V} (h : H p = some (.lst xs)) (e : atI xs i = some v) (k : Q v H) : rIxL K (.ref p) (.int i) H Q := ⟨p, xs, i, v, rfl, rfl, SqL.of h, e, k⟩
theorem iteT {A B : Prop} (h : A) : if true = true then A else B := by rw [if_pos rfl]; exact h
theorem iteF {A B : Prop} (h : B) : if false = true then A else B := by rw [if_neg Bool.false_ne_true]; exact h
theorem iteD {p A B : Prop} [Decidable p] (h : p) (k : A) : if decide p = true then A else B := by rw [decide_eq_true h]; exact iteT k
theorem iteDn {p A B : Prop} [Decidable p] (h : ¬ p) (k : B) : if decide p = true then A else B := by rw [decide_eq_false h]; exact iteF k
theorem iteN {p A B : Prop} [Decidable p] (h : p) (k : B) : if (!decide p) = true then A else B := by rw [decide_eq_true h]; exact iteF k
theorem iteNn {p A B : Prop} [Decidable p] (h : ¬ p) (k : A) : if (!decide p) = true then A else B := by rw [decide_eq_false h]; exact iteT k
theorem iteNT {A B : Prop} (h : B) : if (!true) = true then A else B := iteF h
theorem iteNF {A B : Prop} (h : A) : if (!false) = true then A else B := iteT h
theorem ite2 {p A B : Prop} [Decidable p] (h1 : p → A) (h2 : ¬ p → B) : if decide p = true then A else B := by
  by_cases h : p
  · exact iteD h (h1 h)
  · exact iteDn h (h2 h)
theorem ite2n {p A B : Prop} [Decidable p] (h1 : ¬ p → A) (h2 : p → B) : if (!decide p) = true then A else B := by
  by_cases h : p
  · exact iteN h (h2 h)
  · exact iteNn h (h1 h)
/-- int(i), int(b), max, abs, of ints -/
theorem r_int1 {a : Int} (k : Q (.int a) H) : (∃ i, [V.int a] = [.int i] ∧ Q (.int i) H) ∨ ∃ b, [V.int a] = [.bl b] ∧ Q (.int (if b then 1 else 0)) H := .inl ⟨a, rfl, k⟩
theorem r_intB {b : Bool} (k : Q (.int (if b then 1 else 0)) H) : (∃ i, [V.bl b] = [.int i] ∧ Q (.int i) H) ∨ ∃ b', [V.bl b] = [.bl b'] ∧ Q (.int (if b' then 1 else 0)) H := .inr ⟨b, rfl, k⟩
theorem r_bool1 {a : Int} (k : Q (.bl (a != 0)) H) : (∃ i, [V.int a] = [.int i] ∧ Q (.bl (i != 0)) H) ∨ ∃ b, [V.int a] = [.bl b] ∧ Q (.bl b) H := .inl ⟨a, rfl, k⟩
theorem r_boolB {b : Bool} (k : Q (.bl b) H) : (∃ i, [V.bl b] = [.int i] ∧ Q (.bl (i != 0)) H) ∨ ∃ b', [V.bl b] = [.bl b'] ∧ Q (.bl b') H := .inr ⟨b, rfl, k⟩
theorem r_abs1 {a : Int} (k : Q (.int (a.natAbs : Int)) H) : ∃ i, [V.int a] = [.int i] ∧ Q (.int (if i < 0 then -i else i)) H := ⟨a, rfl, by
  have e : (if a < 0 then -a else a) = (a.natAbs : Int) := by split <;> omega
  rw [e]; exact k⟩
theorem r_gcd {a c : Int} (k : Q (.int (Int.gcd a c : Int)) H) : rGcd [.int a, .int c] H Q := ⟨a, c, rfl, k⟩
theorem r_isi {x c : V} {t u : Value} {b : Bool} (hc : ClsV c u) (ht : TyX K H x t) (e : PySem.W.kitOne K t u = some b) (k : Q (.bl b) H) : rIsi K [x, c] H Q := ⟨x, c, t, u, b, rfl, hc, ht, e, k⟩
theorem r_truI {a : Int} (k : QT (decide (a ≠ 0)) H) : ∃ b, TruV K (.int a) H b ∧ QT b H := ⟨a != 0, rfl, by
  have e : (a != 0) = decide (a ≠ 0) := by rw [Bool.eq_iff_iff]; simp
  rw [e]; exact k⟩
theorem r_truB {b' : Bool} (k : QT b' H) : ∃ b, TruV K (.bl b') H b ∧ QT b H := ⟨b', rfl, k⟩
end
end
section
open PySem PySem.Spec PyProof.Rows L2
theorem d_add : PySem.dunder Operator.Add.info.2 = ("__add__" : Str) := by decide +kernel
theorem d_sub : PySem.dunder Operator.Sub.info.2 = ("__sub__" : Str) := by decide +kernel
theorem d_mul : PySem.dunder Operator.Mult.info.2 = ("__mul__" : Str) := by decide +kernel
theorem d_floordiv : PySem.dunder Operator.FloorDiv.info.2 = ("__floordiv__" : Str) := by decide +kernel
theorem d_mod : PySem.dunder Operator.Mod.info.2 = ("__mod__" : Str) := by decide +kernel
theorem d_pow : PySem.dunder Operator.Pow.info.2 = ("__pow__" : Str) := by decide +kernel
theorem d_and : PySem.dunder Operator.BitAnd.info.2 = ("__and__" : Str) := by decide +kernel
theorem dr_add : dunderR Operator.Add.info.2 = ("__radd__" : Str) := by decide +kernel
theorem dr_sub : dunderR Operator.Sub.info.2 = ("__rsub__" : Str) := by decide +kernel
theorem dr_mul : dunderR Operator.Mult.info.2 = ("__rmul__" : Str) := by decide +kernel
theorem dr_floordiv : dunderR Operator.FloorDiv.info.2 = ("__rfloordiv__" : Str) := by decide +kernel
theorem dr_mod : dunderR Operator.Mod.info.2 = ("__rmod__" : Str) := by decide +kernel
theorem dr_pow : dunderR Operator.Pow.info.2 = ("__rpow__" : Str) := by decide +kernel
section
variable {K : PySem.W.Frag}
theorem fi_add : PySem.W.findIn K (.type "int") "__add__" = some (some (.builtin "int.__add__")) := by show PySem.fastLookup "int" _ = _; kernel_rfl
theorem fi_sub : PySem.W.findIn K (.type "int") "__sub__" = some (some (.builtin "int.__sub__")) := by show PySem.fastLookup "int" _ = _; kernel_rfl
theorem fi_mul : PySem.W.findIn K (.type "int") "__mul__" = some (some (.builtin "int.__mul__")) := by show PySem.fastLookup "int" _ = _; kernel_rfl
theorem fi_floordiv : PySem.W.findIn K (.type "int") "__floordiv__" = some (some (.builtin "int.__floordiv__")) := by show PySem.fastLookup "int" _ = _; kernel_rfl
theorem fi_mod : PySem.W.findIn K (.type "int") "__mod__" = some (some (.builtin "int.__mod__")) := by show PySem.fastLookup "int" _ = _; kernel_rfl
theorem fi_pow : PySem.W.findIn K (.type "int") "__pow__" = some (some (.builtin "int.__pow__")) := by show PySem.fastLookup "int" _ = _; kernel_rfl
theorem fir_add : PySem.W.findIn K (.type "int") "__radd__" = some (some (.builtin "int.__radd__")) := by show PySem.fastLookup "int" _ = _; kernel_rfl
theorem fir_sub : PySem.W.findIn K (.type "int") "__rsub__" = some (some (.builtin "int.__rsub__")) := by show PySem.fastLookup "int" _ = _; kernel_rfl
theorem fir_mul : PySem.W.findIn K (.type "int") "__rmul__" = some (some (.builtin "int.__rmul__")) := by show PySem.fastLookup "int" _ = _; kernel_rfl
theorem fir_floordiv : PySem.W.findIn K (.type "int") "__rfloordiv__" = some (some (.builtin "int.__rfloordiv__")) := by show PySem.fastLookup "int" _ = _; kernel_rfl
theorem fir_mod : PySem.W.findIn K (.type "int") "__rmod__" = some (some (.builtin "int.__rmod__")) := by show PySem.fastLookup "int" _ = _; kernel_rfl
theorem fir_pow : PySem.W.findIn K (.type "int") "__rpow__" = some (some (.builtin "int.__rpow__")) := by show PySem.fastLookup "int" _ = _; kernel_rfl
end
/-- no built-in type has an own class above it -/
theorem sub_ty {K : PySem.W.Frag} {C : Addr} {T : String} {l : List Value} (e : PySem.fastBuiltinMro T = some l) (h : l.all (fun v => match v with | .type _ => true | _ => false) = true) : PySem.W.subIn K (.type T) (.ref C) = some false := by
  show (PySem.fastBuiltinMro T).map (·.contains (.ref C)) = some false
  rw [e]
  show some (l.contains (.ref C)) = some false
  congr 1
  rw [← Bool.not_eq_true, List.contains_iff_mem]
  intro hm
  have := List.all_eq_true.mp h _ hm
  cases this
theorem sub_int {K : PySem.W.Frag} {C : Addr} : PySem.W.subIn K (.type "int") (.ref C) = some false := sub_ty (l := [.type "int", .type "object"]) (by decide +kernel) rfl
theorem sub_str {K : PySem.W.Frag} {C : Addr} : PySem.W.subIn K (.type "str") (.ref C) = some false := sub_ty (l := [.type "str", .type "object"]) (by decide +kernel) rfl
theorem sub_bool {K : PySem.W.Frag} {C : Addr} : PySem.W.subIn K (.type "bool") (.ref C) = some false := sub_ty (l := [.type "bool", .type "int", .type "object"]) (by decide +kernel) rfl
theorem sub_none {K : PySem.W.Frag} {C : Addr} : PySem.W.subIn K (.type "NoneType") (.ref C) = some false := sub_ty (l := [.type "NoneType", .type "object"]) (by decide +kernel) rfl
theorem sub_tuple {K : PySem.W.Frag} {C : Addr} : PySem.W.subIn K (.type "tuple") (.ref C) = some false := sub_ty (l := [.type "tuple", .type "object"]) (by decide +kernel) rfl
theorem sub_list {K : PySem.W.Frag} {C : Addr} : PySem.W.subIn K (.type "list") (.ref C) = some false := sub_ty (l := [.type "list", .type "object"]) (by decide +kernel) rfl
theorem nf_of {K : PySem.W.Frag} {C : Addr} {t : Value} (h : PySem.W.subIn K t (.ref C) = some false) : PySem.W.notFirst K C t = true := by
  unfold PySem.W.notFirst
  rw [h]
  simp
theorem nf_self {K : PySem.W.Frag} {C : Addr} : PySem.W.notFirst K C (.ref C) = true := by
  unfold PySem.W.notFirst
  simp
/-- what the written part says of a plain own class -/
structure ClsO (K : PySem.W.Frag) (C : Addr) : Prop where
  cl : Cls K C
  sf : PySem.W.selfFirst K C = true
  ni : PySem.W.subIn K (.ref C) (.type "int") = some false
  ne : PySem.W.findIn K (.ref C) "__ne__" = some (some (.builtin "object.__ne__"))
  ca : PySem.W.findIn K (.ref C) "__class__" = some (some (.builtin "object.__class__"))
  cn : PySem.W.specialIn K (.builtin "object.__class__") "__get__" = some (some (.builtin "getset_descriptor.__get__"))
  ct : PySem.W.takesIn K (.builtin "object.__class__") = some true
  mo : PySem.W.mroIn K C (.type "object") = some true
  nrpow : PySem.W.findIn K (.ref C) "__rpow__" = some none
theorem ClsO.ty {K : PySem.W.Frag} {C a dx : Addr} {fs : List (Str × V)} {H : Hp} (k : ClsO K C) (h : H a = some (.ins C dx fs)) : TyX K H (.ref a) (.ref C) := .base (.ins h k.cl k.ca k.cn k.ct k.mo)
section
variable {X : Cx} {k j : Nat} {m m' : Str} {C f g : Addr} {sp sp' : Sp} {E : XK} {op : Operator}
theorem op2 (d : PySem.dunder op.info.2 = m) (kc : ClsO X.K C) (c : Cm X.prog X.w X.K X.mg X.base k C m f sp) (hr : Room j X.A) (hk : k ≤ j) (hx : Passes (L2.CX X.prog X.w) X E) : OpR X (binaryOp op) (rO C sp E (isIns C)) :=
  op_bin2 kc.sf (by rw [d]; exact c.at_) c.fn c.fnr (hr.mono hk) hx
theorem opI {rc fo ro : Option Value} (d : PySem.dunder op.info.2 = m) (dr : dunderR op.info.2 = m') (kc : ClsO X.K C) (c : Cm X.prog X.w X.K X.mg X.base k C m f sp) (hp : (∃ g : Addr, PySem.W.findIn X.K (.ref C) m' = some (some (.ref g))) ∨ PySem.W.findIn X.K (.ref C) m' = some none)
    (h1 : PySem.W.findIn X.K (.type "int") m = some fo) (h2 : PySem.W.findIn X.K (.type "int") m' = some ro) (hr : Room j X.A) (hk : k ≤ j) (hx : Passes (L2.CX X.prog X.w) X E) : OpR X (binaryOp op) (rO C sp E isInt) := by
  rcases hp with ⟨g, hp⟩ | hp
  · exact op_binI kc.sf (by rw [d]; exact c.at_) c.fn (rc := some (.ref g)) (by rw [dr]; exact hp) (.inr ⟨g, rfl⟩) (by rw [d]; exact h1) (by rw [dr]; exact h2) sub_int c.fnr (hr.mono hk) hx
  · exact op_binI kc.sf (by rw [d]; exact c.at_) c.fn (rc := none) (by rw [dr]; exact hp) (.inl rfl) (by rw [d]; exact h1) (by rw [dr]; exact h2) sub_int c.fnr (hr.mono hk) hx
theorem opR_add (kc : ClsO X.K C) (hs : PySem.W.findIn X.K (.ref C) "__add__" = some (some (.ref g))) (c : Cm X.prog X.w X.K X.mg X.base k C "__radd__" f sp) (hr : Room j X.A) (hk : k ≤ j) (hx : Passes (L2.CX X.prog X.w) X E) : OpR X (binaryOp .Add) (rOr C sp E) :=
  op_rbin kc.sf (by rw [d_add]; exact hs) (by rw [dr_add]; exact c.at_) c.fn kc.ni PySem.F.fills_int_add (by rw [d_add]; exact PySem.F.slot_int_add) PySem.F.entry_int_add (fun _ _ => PySem.F.args_int_add_2 _ _) int_add_inst c.fnr (hr.mono hk) hx
theorem opR_sub (kc : ClsO X.K C) (hs : PySem.W.findIn X.K (.ref C) "__sub__" = some (some (.ref g))) (c : Cm X.prog X.w X.K X.mg X.base k C "__rsub__" f sp) (hr : Room j X.A) (hk : k ≤ j) (hx : Passes (L2.CX X.prog X.w) X E) : OpR X (binaryOp .Sub) (rOr C sp E) :=
  op_rbin kc.sf (by rw [d_sub]; exact hs) (by rw [dr_sub]; exact c.at_) c.fn kc.ni PySem.F.fills_int_sub (by rw [d_sub]; exact PySem.F.slot_int_sub) PySem.F.entry_int_sub (fun _ _ => PySem.F.args_int_sub_2 _ _) int_sub_inst c.fnr (hr.mono hk) hx
theorem opR_mul (kc : ClsO X.K C) (hs : PySem.W.findIn X.K (.ref C) "__mul__" = some (some (.ref g))) (c : Cm X.prog X.w X.K X.mg X.base k C "__rmul__" f sp) (hr : Room j X.A) (hk : k ≤ j) (hx : Passes (L2.CX X.prog X.w) X E) : OpR X (binaryOp .Mult) (rOr C sp E) :=
  op_rbin kc.sf (by rw [d_mul]; exact hs) (by rw [dr_mul]; exact c.at_) c.fn kc.ni PySem.F.fills_int_mul (by rw [d_mul]; exact PySem.F.slot_int_mul) PySem.F.entry_int_mul (fun _ _ => PySem.F.args_int_mul_2 _ _) int_mul_inst c.fnr (hr.mono hk) hx
theorem opR_mod (kc : ClsO X.K C) (hs : PySem.W.findIn X.K (.ref C) "__mod__" = some (some (.ref g))) (c : Cm X.prog X.w X.K X.mg X.base k C "__rmod__" f sp) (hr : Room j X.A) (hk : k ≤ j) (hx : Passes (L2.CX X.prog X.w) X E) : OpR X (binaryOp .Mod) (rOr C sp E) :=
  op_rbin kc.sf (by rw [d_mod]; exact hs) (by rw [dr_mod]; exact c.at_) c.fn kc.ni PySem.F.fills_int_mod (by rw [d_mod]; exact PySem.F.slot_int_mod) PySem.F.entry_int_mod (fun _ _ => PySem.F.args_int_mod_2 _ _) int_mod_inst c.fnr (hr.mono hk) hx
theorem opR_floordiv (kc : ClsO X.K C) (hs : PySem.W.findIn X.K (.ref C) "__floordiv__" = some (some (.ref g))) (c : Cm X.prog X.w X.K X.mg X.base k C "__rfloordiv__" f sp) (hr : Room j X.A) (hk : k ≤ j) (hx : Passes (L2.CX X.prog X.w) X E) : OpR X (binaryOp .FloorDiv) (rOr C sp E) :=
  op_rbin kc.sf (by rw [d_floordiv]; exact hs) (by rw [dr_floordiv]; exact c.at_) c.fn kc.ni PySem.F.fills_int_floordiv (by rw [d_floordiv]; exact PySem.F.slot_int_floordiv) PySem.F.entry_int_floordiv (fun _ _ => PySem.F.args_int_floordiv_2 _ _) int_floordiv_inst c.fnr (hr.mono hk) hx
theorem opC_eq (c : Cm X.prog X.w X.K X.mg X.base k C "__eq__" f sp) (hr : Room j X.A) (hk : k ≤ j) (hx : Passes (L2.CX X.prog X.w) X E) : OpR X (compareOp .Eq) (rO C sp E (isAny X.K C)) := op_cmp (fun _ _ => rfl) c.at_ c.fn c.fnr (hr.mono hk) hx
theorem opC_lt (c : Cm X.prog X.w X.K X.mg X.base k C "__lt__" f sp) (hr : Room j X.A) (hk : k ≤ j) (hx : Passes (L2.CX X.prog X.w) X E) : OpR X (compareOp .Lt) (rO C sp E (isAny X.K C)) := op_cmp (fun _ _ => rfl) c.at_ c.fn c.fnr (hr.mono hk) hx
theorem opC_le (c : Cm X.prog X.w X.K X.mg X.base k C "__le__" f sp) (hr : Room j X.A) (hk : k ≤ j) (hx : Passes (L2.CX X.prog X.w) X E) : OpR X (compareOp .LtE) (rO C sp E (isAny X.K C)) := op_cmp (fun _ _ => rfl) c.at_ c.fn c.fnr (hr.mono hk) hx
theorem opC_gt (c : Cm X.prog X.w X.K X.mg X.base k C "__gt__" f sp) (hr : Room j X.A) (hk : k ≤ j) (hx : Passes (L2.CX X.prog X.w) X E) : OpR X (compareOp .Gt) (rO C sp E (isAny X.K C)) := op_cmp (fun _ _ => rfl) c.at_ c.fn c.fnr (hr.mono hk) hx
theorem opC_ge (c : Cm X.prog X.w X.K X.mg X.base k C "__ge__" f sp) (hr : Room j X.A) (hk : k ≤ j) (hx : Passes (L2.CX X.prog X.w) X E) : OpR X (compareOp .GtE) (rO C sp E (isAny X.K C)) := op_cmp (fun _ _ => rfl) c.at_ c.fn c.fnr (hr.mono hk) hx
theorem opNe (kc : ClsO X.K C) (c : Cm X.prog X.w X.K X.mg X.base k C "__eq__" f sp) (hr : Room j X.A) (hk : k + 1 ≤ j) (hx : Passes (L2.CX X.prog X.w) X E) : OpR X (compareOp .NotEq) (rNO C sp E (isAny X.K C)) := op_ne1 kc.ne kc.mo c.at_ c.fn c.fnr (hr.mono hk) hx
theorem opRC_eq (kc : ClsO X.K C) (c : Cm X.prog X.w X.K X.mg X.base k C "__eq__" f sp) (hr : Room j X.A) (hk : k ≤ j) (hx : Passes (L2.CX X.prog X.w) X E) : OpR X (compareOp .Eq) (rOr C sp E) := op_rcmp (fun _ _ => rfl) c.at_ c.fn kc.ni PySem.F.slot_int_eq PySem.F.entry_int_eq (fun _ _ => PySem.F.args_int_eq_2 _ _) int_eq_inst c.fnr (hr.mono hk) hx
theorem opRC_lt (kc : ClsO X.K C) (c : Cm X.prog X.w X.K X.mg X.base k C "__gt__" f sp) (hr : Room j X.A) (hk : k ≤ j) (hx : Passes (L2.CX X.prog X.w) X E) : OpR X (compareOp .Lt) (rOr C sp E) := op_rcmp (fun _ _ => rfl) c.at_ c.fn kc.ni PySem.F.slot_int_lt PySem.F.entry_int_lt (fun _ _ => PySem.F.args_int_lt_2 _ _) int_lt_inst c.fnr (hr.mono hk) hx
theorem opRC_le (kc : ClsO X.K C) (c : Cm X.prog X.w X.K X.mg X.base k C "__ge__" f sp) (hr : Room j X.A) (hk : k ≤ j) (hx : Passes (L2.CX X.prog X.w) X E) : OpR X (compareOp .LtE) (rOr C sp E) := op_rcmp (fun _ _ => rfl) c.at_ c.fn kc.ni PySem.F.slot_int_le PySem.F.entry_int_le (fun _ _ => PySem.F.args_int_le_2 _ _) int_le_inst c.fnr (hr.mono hk) hx
theorem opRC_gt (kc : ClsO X.K C) (c : Cm X.prog X.w X.K X.mg X.base k C "__lt__" f sp) (hr : Room j X.A) (hk : k ≤ j) (hx : Passes (L2.CX X.prog X.w) X E) : OpR X (compareOp .Gt) (rOr C sp E) := op_rcmp (fun _ _ => rfl) c.at_ c.fn kc.ni PySem.F.slot_int_gt PySem.F.entry_int_gt (fun _ _ => PySem.F.args_int_gt_2 _ _) int_gt_inst c.fnr (hr.mono hk) hx
theorem opRC_ge (kc : ClsO X.K C) (c : Cm X.prog X.w X.K X.mg X.base k C "__le__" f sp) (hr : Room j X.A) (hk : k ≤ j) (hx : Passes (L2.CX X.prog X.w) X E) : OpR X (compareOp .GtE) (rOr C sp E) := op_rcmp (fun _ _ => rfl) c.at_ c.fn kc.ni PySem.F.slot_int_ge PySem.F.entry_int_ge (fun _ _ => PySem.F.args_int_ge_2 _ _) int_ge_inst c.fnr (hr.mono hk) hx
/-- a test by a value's truth, told by a rule -/
def tTr (r : V → Hp → (Bool → Hp → Prop) → Prop) (ta : TE) : TT := fun σ H Q => ta σ H fun x H' => r x H' Q
theorem pt_tr {a : Expr} {ta : TE} {r : V → Hp → (Bool → Hp → Prop) → Prop} (ha : PE X a ta) (ht : TruR X r) (he : ∀ whole, isTrue a X.env whole = (do let v ← whole; standAt a.pos; holding [v] (truthy v))) : PT X a (tTr r ta) := by
  refine ⟨fun pins s σ H Q I h => ?_⟩
  exact isTrue_plain (thn (ha.run pins s σ H _ I h) fun v s1 ⟨x, H1, I1, r1, q1⟩ => ht pins s1 σ H1 x v Q I1 r1 q1) (he _)
theorem r_tr {r : V → Hp → (Bool → Hp → Prop) → Prop} {ta : TE} {σ : L2.St} {H : Hp} {Q : Bool → Hp → Prop} (h : ta σ H fun x H' => r x H' Q) : tTr r ta σ H Q := h
/-- // by any divisor but 0, below 2 ^ 9000 -/
def CDivZ (_ j : Int) : Prop := j ≠ 0 ∧ j.natAbs < 2 ^ 9000
theorem op_fdivZ : OpR X (binaryOp .FloorDiv) (rI CDivZ fun i j => .int (i.fdiv j)) := L2.opI fun i j _ _ _ _ _ hc q => by
  have h1 : j ≠ 0 := hc.1
  have h2 := PySem.Flt.log2_lt_of (by decide) hc.2
  exact floordiv_int h1 q (.inl (PyProof.noPylong_of_log2 h2))
theorem hu_of64 {A : Around} {k : Nat} (hr : Room k A) : A.units + 64 < cLine := hr.units
def tAMono (t : TA) : TA := fun σ H Q => ∃ Q0 : List V → Hp → Prop, t σ H Q0 ∧ ∀ vs H1, Q0 vs H1 → Q vs H1
theorem pa_mono {es : List Expr} {t : TA} (h : PA X es t) : PA X es (tAMono t) := by
  refine ⟨fun pos pins s σ H Q I q => ?_⟩
  obtain ⟨Q0, q0, w⟩ := q
  exact thn (h.run pos pins s σ H Q0 I q0) fun us s1 ⟨xs, H1, I1, r1, q1⟩ => ⟨xs, H1, I1, r1, w xs H1 q1⟩
def spEx (C : Addr) (fn : Str) : Sp := fun vs H Q _ => ∃ a v, vs = [.ref a, v] ∧ H a = some (exo a C none) ∧ ∀ dx, H dx = none → dx ≠ a → Q .non (upd (upd H dx (exd dx [(fn, v)])) a (exo a C (some dx)))
structure Cox (P : Program) (w : World) (K : PySem.W.Frag) (mg : Str → Option Value) (base : Heap) (k : Nat) (x : Str) (C : Addr) (fn : Str) : Prop where
  ox : OexC K C
  hm : mg x = some (.ref C)
  ex : ∃ (f : Addr) (fd : FuncData) (ps : List Str), PySem.W.findIn K (.ref C) "__init__" = some (some (.ref f)) ∧ PySem.W.typeIn K (.ref f) = some (.type "function") ∧ FnOk P w K mg base (L2.CX P w) k f fd ps (spEx C fn) ∧ Binds K fd ps []
def tRz (C : Addr) (fn : Str) (W : WX) (ta : TA) : TS := fun _ σ H => ta σ H fun vs H1 => ∃ v, vs = [v] ∧ ∀ d, H1 d = none → W (.ref C) (some d) σ (upd H1 d (.xd [(fn, v)]))
theorem ps_rz {x fn : Str} {W : WX} {e : Expr} {ta : TA} {p pos pos' : Pos} (c : Cox X.prog X.w X.K X.mg X.base k x C fn) (hr : Room j X.A) (hk : k + 1 ≤ j) (tk : Takes X W) (hg : Gl X x) (ha : PA X (e :: []) ta) (hc : X.calm = true := by rfl) (hdb : (x == ("__debug__" : Str)) = false := by decide)
    (he : starEach (e :: []) X.env = (false, eval e X.env) :: starEach [] X.env := by rfl) (hpl : (backTo pos (starEach [] X.env)).any (·.1) = false := by rfl) :
    PS X (.Raise (some (.Call (.Name x p) (e :: []) [] pos)) none pos') (tRz C fn W ta) := by
  obtain ⟨f, fd, ps, iC, tI, F, hb⟩ := c.ex
  have q := ps_raise (pos := pos') hc tk (pmk_oex (p := p) (pos := pos) c.ox iC tI F (hr.mono hk) hb .nil passL hg c.hm (pa_mono ha) hdb he hpl)
  refine ⟨fun pins s σ H D I h => q.run pins s σ H D I ?_⟩
  show tMkO C (spEx C fn) [] (tAMono ta) σ H fun cls d H' => W cls d σ H'
  unfold tMkO tAMono
  have key : ∀ (vs : List V) (H1 : Hp), (∃ v, vs = [v] ∧ ∀ d, H1 d = none → W (.ref C) (some d) σ (upd H1 d (.xd [(fn, v)]))) → (vs.length ≤ 1000 ∧ ∀ a, H1 a = none → spEx C fn (.ref a :: (vs ++ [])) (upd H1 a (exo a C none))
      (fun v H2 => v = .non ∧ ∃ (d : Addr) (fs : List (Str × V)), H2 a = some (exo a C (some d)) ∧ H2 d = some (exd d fs) ∧ H1 d = none ∧ W (.ref C) (some d) σ (upd (del H2 a) d (.xd fs))) (fun _ _ _ => False)) := by
    rintro vs H1 ⟨v, rfl, w⟩
    refine ⟨by show 1 ≤ 1000; decide, fun a ha => ⟨a, v, rfl, upd_same, fun dx hdx hne => ⟨rfl, dx, [(fn, v)], upd_same, ?_, ?_, ?_⟩⟩⟩
    · rw [upd_ne hne, upd_same]
    · rw [upd_ne hne] at hdx; exact hdx
    · have hd1 : H1 dx = none := by rw [upd_ne hne] at hdx; exact hdx
      have e : upd (del (upd (upd (upd H1 a (exo a C none)) dx (exd dx [(fn, v)])) a (exo a C (some dx))) a) dx (.xd [(fn, v)]) = upd H1 dx (.xd [(fn, v)]) := by
        funext b
        by_cases hb : b = dx
        · subst hb; rw [upd_same, upd_same]
        · rw [upd_ne hb, upd_ne hb]
          by_cases hba : b = a
          · subst hba; rw [del_same, ha]
          · rw [del_ne hba, upd_ne hba, upd_ne hb, upd_ne hba]
      rw [e]
      exact w dx hd1
  exact ⟨_, h, key⟩
theorem r_rz {fn : Str} {W : WX} {ta : TA} {D : Ends} {σ : L2.St} {H : Hp} (h : ta σ H fun vs H1 => ∃ v, vs = [v] ∧ ∀ d, H1 d = none → W (.ref C) (some d) σ (upd H1 d (.xd [(fn, v)]))) : tRz C fn W ta D σ H := h
end
end
section
open PySem PySem.Spec PyProof.Rows L2
/-- below 4000 bits -/
def Bt (i : Int) : Prop := i.natAbs < 2 ^ 4000
def Sz (n : Nat) (q : Rat) : Prop := q.num.natAbs < 2 ^ n ∧ q.den < 2 ^ n
def Bq (q : Rat) : Prop := Bt q.num ∧ Bt (q.den : Int)
theorem pow_mono {a b n : Nat} (h : a < 2 ^ n) (hb : n ≤ b) : a < 2 ^ b := Nat.lt_of_lt_of_le h (Nat.pow_le_pow_right (by decide) hb)
theorem bt_of {i : Int} {n : Nat} (h : i.natAbs < 2 ^ n) (hn : n ≤ 4000) : Bt i := pow_mono h hn
theorem Sz.bq {n : Nat} {q : Rat} (h : Sz n q) (hn : n ≤ 4000) : Bq q := ⟨pow_mono h.1 hn, by show ((q.den : Int)).natAbs < _; rw [Int.natAbs_natCast]; exact pow_mono h.2 hn⟩
theorem Sz.mono {n m : Nat} {q : Rat} (h : Sz n q) (hn : n ≤ m) : Sz m q := ⟨pow_mono h.1 hn, pow_mono h.2 hn⟩
theorem pow_mul_lt {a b n m : Nat} (ha : a < 2 ^ n) (hb : b < 2 ^ m) : a * b < 2 ^ (n + m) := by
  rw [Nat.pow_add]; exact Nat.mul_lt_mul'' ha hb
theorem lt_mul {i j : Int} {n m : Nat} (hi : i.natAbs < 2 ^ n) (hj : j.natAbs < 2 ^ m) : (i * j).natAbs < 2 ^ (n + m) := by
  rw [Int.natAbs_mul]; exact pow_mul_lt hi hj
theorem lt_add {i j : Int} {n m k : Nat} (hi : i.natAbs < 2 ^ n) (hj : j.natAbs < 2 ^ m) (h1 : n < k) (h2 : m < k) : (i + j).natAbs < 2 ^ k := by
  have a := pow_mono hi (show n ≤ k - 1 by omega)
  have b := pow_mono hj (show m ≤ k - 1 by omega)
  have e : 2 ^ k = 2 ^ (k - 1) + 2 ^ (k - 1) := by
    obtain ⟨r, rfl⟩ : ∃ r, k = r + 1 := ⟨k - 1, by omega⟩
    rw [Nat.add_sub_cancel, Nat.pow_succ]; omega
  omega
theorem lt_sub {i j : Int} {n m k : Nat} (hi : i.natAbs < 2 ^ n) (hj : j.natAbs < 2 ^ m) (h1 : n < k) (h2 : m < k) : (i - j).natAbs < 2 ^ k := by
  rw [Int.sub_eq_add_neg]; exact lt_add hi (by rw [Int.natAbs_neg]; exact hj) h1 h2
theorem natAbs_div_le (a : Int) (b : Nat) : (a / (b : Int)).natAbs ≤ a.natAbs := by
  exact Int.natAbs_ediv_le_natAbs a b
theorem Sz.divInt {a b : Int} {n : Nat} (ha : a.natAbs < 2 ^ n) (hb : b.natAbs < 2 ^ n) (h0 : 0 < n) : Sz n (Rat.divInt a b) := by
  constructor
  · rw [Rat.num_divInt]
    refine Nat.lt_of_le_of_lt (natAbs_div_le _ _) ?_
    rw [Int.natAbs_mul]
    refine Nat.lt_of_le_of_lt (Nat.mul_le_mul_right _ (show b.sign.natAbs ≤ 1 from ?_)) (by rw [Nat.one_mul]; exact ha)
    rw [Int.natAbs_sign]; split <;> omega
  · rw [Rat.den_divInt]
    split
    · exact Nat.one_lt_two_pow (by omega)
    · exact Nat.lt_of_le_of_lt (Nat.div_le_self _ _) hb
theorem den_ne (q : Rat) : (q.den : Int) ≠ 0 := by have := q.den_nz; omega
theorem den_pos (q : Rat) : 0 < (q.den : Int) := by have := den_ne q; omega
theorem Sz.add {n m k : Nat} {q r : Rat} (h : Sz n q) (g : Sz m r) (hk : n + m < k) : Sz k (q + r) := by
  rw [← Rat.num_divInt_den q, ← Rat.num_divInt_den r, Rat.divInt_add_divInt _ _ (den_ne q) (den_ne r)]
  refine Sz.divInt (lt_add (n := n + m) (m := m + n) (lt_mul h.1 ?_) (lt_mul g.1 ?_) hk (by omega)) (pow_mono (lt_mul (n := n) (m := m) ?_ ?_) (by omega)) (by omega)
  all_goals first | exact g.2 | exact h.2
theorem Sz.mul {n m : Nat} {q r : Rat} (h : Sz n q) (g : Sz m r) (hk : 0 < n + m) : Sz (n + m) (q * r) := by
  rw [← Rat.num_divInt_den q, ← Rat.num_divInt_den r, Rat.divInt_mul_divInt]
  refine Sz.divInt (lt_mul h.1 g.1) (lt_mul ?_ ?_) hk
  all_goals first | exact g.2 | exact h.2
theorem Sz.neg {n : Nat} {q : Rat} (h : Sz n q) : Sz n (-q) := ⟨by show (-q.num).natAbs < _; rw [Int.natAbs_neg]; exact h.1, h.2⟩
theorem Sz.int {n : Nat} {i : Int} (h : i.natAbs < 2 ^ n) (h0 : 0 < n) : Sz n (i : Rat) := ⟨h, by show 1 < 2 ^ n; exact Nat.one_lt_two_pow (by omega)⟩
/-- what Ratio's __init__ writes -/
theorem made_num {a b : Int} (hb : b ≠ 0) : a.fdiv (if b < 0 then -(Int.gcd a b : Int) else (Int.gcd a b : Int)) = (Rat.divInt a b).num := by
  rw [Rat.num_divInt]
  have hg : (Int.gcd a b : Int) ∣ a := Int.gcd_dvd_left ..
  have e : Int.gcd b a = Int.gcd a b := Int.gcd_comm ..
  rw [e]
  obtain ⟨c, hc⟩ := hg
  have hg0 : (Int.gcd a b : Int) ≠ 0 := by
    have := Int.gcd_ne_zero_right (a := a) hb; omega
  split
  · rename_i h
    rw [Int.sign_eq_neg_one_of_neg h, Int.fdiv_eq_ediv_of_dvd (by rw [Int.neg_dvd]; exact ⟨c, hc⟩), Int.ediv_neg, Int.neg_one_mul, Int.neg_ediv_of_dvd ⟨c, hc⟩]
  · rename_i h
    have : 0 < b := by omega
    rw [Int.sign_eq_one_of_pos this, Int.fdiv_eq_ediv_of_dvd ⟨c, hc⟩, Int.one_mul]
theorem made_den {a b : Int} (hb : b ≠ 0) : b.fdiv (if b < 0 then -(Int.gcd a b : Int) else (Int.gcd a b : Int)) = ((Rat.divInt a b).den : Int) := by
  rw [Rat.den_divInt, if_neg hb]
  have e : Int.gcd b a = Int.gcd a b := Int.gcd_comm ..
  rw [e]
  have hg : (Int.gcd a b : Int) ∣ b := Int.gcd_dvd_right ..
  rw [Int.natCast_ediv]
  split
  · rename_i h
    rw [Int.fdiv_eq_ediv_of_dvd (by rw [Int.neg_dvd]; exact hg), Int.ediv_neg, Int.ofNat_natAbs_of_nonpos (by omega), Int.neg_ediv_of_dvd hg]
  · rename_i h
    rw [Int.fdiv_eq_ediv_of_dvd hg, Int.natAbs_of_nonneg (by omega)]
theorem gcd_le {a b : Int} (hb : b ≠ 0) : Int.gcd a b ≤ b.natAbs := Nat.le_of_dvd (by omega) (Int.gcd_dvd_natAbs_right a b)
theorem divInt_one (n : Int) : Rat.divInt n 1 = (n : Rat) := by
  apply Rat.ext <;> simp [Rat.num_divInt, Rat.den_divInt]
theorem rat_add (q r : Rat) : Rat.divInt (q.num * r.den + r.num * q.den) (q.den * r.den) = q + r := by
  conv => rhs; rw [← Rat.num_divInt_den q, ← Rat.num_divInt_den r, Rat.divInt_add_divInt _ _ (den_ne q) (den_ne r)]
theorem rat_mul (q r : Rat) : Rat.divInt (q.num * r.num) (q.den * r.den) = q * r := by
  conv => rhs; rw [← Rat.num_divInt_den q, ← Rat.num_divInt_den r, Rat.divInt_mul_divInt]
theorem rat_neg (q : Rat) : Rat.divInt (-q.num) q.den = -q := by
  conv => rhs; rw [← Rat.num_divInt_den q, Rat.neg_divInt]
theorem eq_iff (q r : Rat) : (q.num = r.num ∧ (q.den : Int) = r.den) ↔ q = r := ⟨fun h => Rat.ext h.1 (by omega), fun h => by subst h; exact ⟨rfl, rfl⟩⟩
theorem den_one {q : Rat} (h : (q.den : Int) = 1) : q = (q.num : Rat) := Rat.ext rfl (by show q.den = 1; omega)
/-- floor(q / r) -/
theorem rat_fdiv (q r : Rat) (hr : r ≠ 0) : (q.num * r.den).fdiv (q.den * r.num) = (q / r).floor := by
  have hn : r.num ≠ 0 := fun h => hr (Rat.num_eq_zero.mp h)
  have e : q / r = Rat.divInt (q.num * r.den) (q.den * r.num) := by
    conv => lhs; rw [← Rat.num_divInt_den q, ← Rat.num_divInt_den r, Rat.div_def, Rat.inv_divInt, Rat.divInt_mul_divInt]
  have hd : q.den * r.num ≠ 0 := Int.mul_ne_zero (den_ne q) hn
  rw [e, Rat.floor_def, ← made_num hd, ← made_den hd]
  generalize q.num * r.den = a at *
  generalize (q.den : Int) * r.num = b at *
  have hga : (Int.gcd a b : Int) ∣ a := Int.gcd_dvd_left ..
  have hgb : (Int.gcd a b : Int) ∣ b := Int.gcd_dvd_right ..
  have hg0 : (Int.gcd a b : Int) ≠ 0 := by
    have := Int.gcd_ne_zero_right (a := a) hd; omega
  generalize hG : (if b < 0 then -(Int.gcd a b : Int) else (Int.gcd a b : Int)) = G
  have hG0 : G ≠ 0 := by subst hG; split <;> omega
  have hGa : G ∣ a := by subst hG; split; exact (Int.neg_dvd).mpr hga; exact hga
  have hGb : G ∣ b := by subst hG; split; exact (Int.neg_dvd).mpr hgb; exact hgb
  have hp : 0 ≤ b.fdiv G := by
    have := made_den (a := a) hd
    rw [hG] at this; rw [this]; omega
  rw [← Int.fdiv_eq_ediv_of_nonneg _ hp]
  obtain ⟨c, rfl⟩ := hGa
  obtain ⟨d, rfl⟩ := hGb
  rw [Int.mul_fdiv_cancel_left _ hG0] at hp
  rw [Int.mul_fdiv_cancel_left _ hG0, Int.mul_fdiv_cancel_left _ hG0]
  rcases Int.lt_or_gt_of_ne hG0 with g | g
  · rw [← Int.neg_fdiv_neg (G * c), ← Int.neg_mul, ← Int.neg_mul, Int.fdiv_eq_ediv_of_nonneg _ hp, Int.fdiv_eq_ediv_of_nonneg _ (Int.mul_nonneg (by omega) hp), Int.mul_ediv_mul_of_pos _ _ (by omega)]
  · rw [Int.fdiv_eq_ediv_of_nonneg _ hp, Int.fdiv_eq_ediv_of_nonneg _ (Int.mul_nonneg (by omega) hp), Int.mul_ediv_mul_of_pos _ _ g]
theorem dec_eq_i {q : Rat} {n : Int} (h : (q.den : Int) = 1) : decide (q = (n : Rat)) = decide (q.num = n) := by
  rw [decide_eq_decide]
  constructor
  · intro z; rw [z]; rfl
  · intro z; rw [den_one h, z]
theorem dec_eq_i' {q : Rat} {n : Int} (h : ¬ (q.den : Int) = 1) : decide (q = (n : Rat)) = false := by
  rw [decide_eq_false_iff_not]; intro z; rw [z] at h; exact h rfl
theorem dec_eq_r {q r : Rat} (h : q.num = r.num) : decide (q = r) = decide ((q.den : Int) = r.den) := by
  rw [decide_eq_decide, ← eq_iff]; exact ⟨fun z => z.2, fun z => ⟨h, z⟩⟩
theorem dec_eq_r' {q r : Rat} (h : ¬ q.num = r.num) : decide (q = r) = false := by
  rw [decide_eq_false_iff_not]; intro z; exact h (by rw [z])
theorem dec_lt {q r : Rat} : decide (q < r) = decide (q.num * r.den < r.num * q.den) := by rw [decide_eq_decide, Rat.lt_iff]
theorem dec_le {q r : Rat} : decide (q ≤ r) = decide (q.num * r.den ≤ r.num * q.den) := by rw [decide_eq_decide, Rat.le_iff]
theorem dec_gt {q r : Rat} : decide (r < q) = decide (r.num * q.den < q.num * r.den) := dec_lt
theorem dec_ge {q r : Rat} : decide (r ≤ q) = decide (r.num * q.den ≤ q.num * r.den) := dec_le
end
section
open PySem PySem.Spec PyProof.Rows L2
/-- what the written part says of a plain own class, with what isinstance asks -/
structure ClsP (K : PySem.W.Frag) (C : Addr) : Prop where
  o : ClsO K C
  nb : PySem.W.subIn K (.ref C) (.type "bool") = some false
  ci : (PySem.W.clsIn K C).isSome = true
  ct : PySem.W.typeIn K (.ref C) = some (.type "type")
section
variable {K : PySem.W.Frag} {C D : Addr} {b : Bool} {t : Value}
theorem kit_self : PySem.W.kitOne K t t = some true := by
  unfold PySem.W.kitOne; rw [if_pos (by exact beq_self_eq_true t)]
theorem kit_own (k : ClsP K C) (h : PySem.W.subIn K t (.ref C) = some b) (hne : (t == Value.ref C) = false) : PySem.W.kitOne K t (.ref C) = some b := by
  unfold PySem.W.kitOne; rw [if_neg (by rw [hne]; simp)]
  show (if ((PySem.W.clsIn K C).isSome && PySem.W.typeIn K (.ref C) == some (.type "type")) = true then _ else _) = _
  rw [k.ci, k.ct, if_pos (by simp)]; exact h
theorem kit_ni (k : ClsP K C) : PySem.W.kitOne K (.ref C) (.type "int") = some false := by
  unfold PySem.W.kitOne; rw [if_neg (by intro z; cases beq_iff_eq.mp z)]
  show (if PySem.W.kitMeta "int" = true then PySem.W.subIn K (.ref C) (.type "int") else none) = _
  rw [if_pos (by decide +kernel)]; exact k.o.ni
theorem kit_nb (k : ClsP K C) : PySem.W.kitOne K (.ref C) (.type "bool") = some false := by
  unfold PySem.W.kitOne; rw [if_neg (by intro z; cases beq_iff_eq.mp z)]
  show (if PySem.W.kitMeta "bool" = true then PySem.W.subIn K (.ref C) (.type "bool") else none) = _
  rw [if_pos (by decide +kernel)]; exact k.nb
theorem kit_int (k : ClsP K C) : PySem.W.kitOne K (.type "int") (.ref C) = some false := kit_own k sub_int (Bool.eq_false_iff.mpr fun z => by cases beq_iff_eq.mp z)
theorem kit_str (k : ClsP K C) : PySem.W.kitOne K (.type "str") (.ref C) = some false := kit_own k sub_str (Bool.eq_false_iff.mpr fun z => by cases beq_iff_eq.mp z)
theorem kit_bool (k : ClsP K C) : PySem.W.kitOne K (.type "bool") (.ref C) = some false := kit_own k sub_bool (Bool.eq_false_iff.mpr fun z => by cases beq_iff_eq.mp z)
theorem kit_none (k : ClsP K C) : PySem.W.kitOne K (.type "NoneType") (.ref C) = some false := kit_own k sub_none (Bool.eq_false_iff.mpr fun z => by cases beq_iff_eq.mp z)
theorem kit_tup (k : ClsP K C) : PySem.W.kitOne K (.type "tuple") (.ref C) = some false := kit_own k sub_tuple (Bool.eq_false_iff.mpr fun z => by cases beq_iff_eq.mp z)
theorem kit_lst (k : ClsP K C) : PySem.W.kitOne K (.type "list") (.ref C) = some false := kit_own k sub_list (Bool.eq_false_iff.mpr fun z => by cases beq_iff_eq.mp z)
theorem ki_ii : PySem.W.kitOne K (.type "int") (.type "int") = some true := kit_ty (by decide +kernel)
theorem ki_ib : PySem.W.kitOne K (.type "int") (.type "bool") = some false := kit_ty (by decide +kernel)
theorem ki_bi : PySem.W.kitOne K (.type "bool") (.type "int") = some true := kit_ty (by decide +kernel)
theorem ki_bb : PySem.W.kitOne K (.type "bool") (.type "bool") = some true := kit_ty (by decide +kernel)
theorem ki_si : PySem.W.kitOne K (.type "str") (.type "int") = some false := kit_ty (by decide +kernel)
theorem ki_ni : PySem.W.kitOne K (.type "NoneType") (.type "int") = some false := kit_ty (by decide +kernel)
theorem ki_ti : PySem.W.kitOne K (.type "tuple") (.type "int") = some false := kit_ty (by decide +kernel)
theorem ki_li : PySem.W.kitOne K (.type "list") (.type "int") = some false := kit_ty (by decide +kernel)
theorem tyI {H : Hp} {n : Int} : TyX K H (.int n) (.type "int") := .base (.int n)
theorem tyB {H : Hp} {n : Bool} : TyX K H (.bl n) (.type "bool") := .base (.bl n)
theorem tyS {H : Hp} {n : Str} : TyX K H (.str n) (.type "str") := .base (.str n)
theorem tyN {H : Hp} : TyX K H .non (.type "NoneType") := .base .non
theorem tyT {H : Hp} {a : Addr} {xs : List V} (h : H a = some (.tup xs)) : TyX K H (.ref a) (.type "tuple") := .base (.tup h)
theorem tyL {H : Hp} {a : Addr} {xs : List V} (h : H a = some (.lst xs)) : TyX K H (.ref a) (.type "list") := .base (.lst h)
end
def CMulA (i j : Int) : Prop := CMul i j ∨ CMulW i j
section
variable {X : Cx}
theorem op_mulA : OpR X (binaryOp .Mult) (rI CMulA fun i j => .int (i * j)) := L2.opI fun _ _ _ _ _ _ _ hc q => mul_int q (hc.elim CMul.ok CMulW.ok)
variable {a b : Value} {r1 r2 : R2}
/-- two rules, of which one serves -/
theorem op_or {f : Value → Value → Sem Value} (h1 : OpR X f r1) (h2 : OpR X f r2) : OpR X f (fun x y H Q => r1 x y H Q ∨ r2 x y H Q) := by
  intro pins s σ H x y v u Q I rx ry h
  exact h.elim (h1 pins s σ H x y v u Q I rx ry) (h2 pins s σ H x y v u Q I rx ry)
theorem un_or {f : Value → Sem Value} {r1 r2 : V → Hp → VK → Prop} (h1 : UnR X f r1) (h2 : UnR X f r2) : UnR X f (fun x H Q => r1 x H Q ∨ r2 x H Q) := by
  intro pins s σ H x v Q I rx h
  exact h.elim (h1 pins s σ H x v Q I rx) (h2 pins s σ H x v Q I rx)
theorem tru_or {r1 r2 : V → Hp → (Bool → Hp → Prop) → Prop} (h1 : TruR X r1) (h2 : TruR X r2) : TruR X (fun x H Q => r1 x H Q ∨ r2 x H Q) := by
  intro pins s σ H x v Q I rx h
  exact h.elim (h1 pins s σ H x v Q I rx) (h2 pins s σ H x v Q I rx)
theorem call_or {f : Value} {r1 r2 : List V → Hp → VK → Prop} (h1 : CallR X f r1) (h2 : CallR X f r2) : CallR X f (fun x H Q => r1 x H Q ∨ r2 x H Q) := by
  intro pins s σ H xs us Q I r h
  exact h.elim (h1 pins s σ H xs us Q I r) (h2 pins s σ H xs us Q I r)
end
theorem cmA_bt {i j : Int} (hi : Bt i) (hj : Bt j) : CMulA i j := .inr (wide_mul hi hj (by decide) (by decide) (by decide))
theorem le64 {i : Int} (h : i.natAbs < 2 ^ 64) : -(2 ^ 64) < i ∧ i < 2 ^ 64 := by
  have e : (2 : Nat) ^ 64 = 18446744073709551616 := by decide
  have e' : (2 : Int) ^ 64 = 18446744073709551616 := by decide
  rw [e']; rw [e] at h; omega
theorem cmA_l {i j : Int} (h : i.natAbs < 2 ^ 64) : CMulA i j := .inl (.inl (le64 h))
theorem cmA_r {i j : Int} (h : j.natAbs < 2 ^ 64) : CMulA i j := .inl (.inr (le64 h))
theorem cmA_w {i j : Int} {n m : Nat} (hi : i.natAbs < 2 ^ n) (hj : j.natAbs < 2 ^ m) (h : n + m ≤ 999998) : CMulA i j :=
  .inr (wide_mul (a := n + 1) (b := m + 1) (pow_mono hi (Nat.le_succ n)) (pow_mono hj (Nat.le_succ m)) (Nat.succ_pos _) (Nat.succ_pos _) (by omega))
def fR (q : Rat) : List (Str × V) := [("top", .int q.num), ("bottom", .int (q.den : Int))]
def IsR (C : Addr) (H : Hp) (p : Addr) (q : Rat) : Prop := ∃ dx, H p = some (.ins C dx (fR q))
def NumV (C : Addr) (H : Hp) (v : V) (q : Rat) : Prop := (∃ n : Int, v = .int n ∧ q = (n : Rat)) ∨ ∃ p, v = .ref p ∧ IsR C H p q
/-- a value that is neither an int nor a Ratio -/
def Wrong (K : PySem.W.Frag) (C : Addr) (H : Hp) (v : V) : Prop := ∃ t, TyX K H v t ∧ PySem.W.kitOne K t (.ref C) = some false ∧ (PySem.W.kitOne K t (.type "int") = some false ∨ (PySem.W.kitOne K t (.type "int") = some true ∧ PySem.W.kitOne K t (.type "bool") = some true))
theorem IsR.le {C p : Addr} {H H' : Hp} {q : Rat} (l : Le H H') (h : IsR C H p q) : IsR C H' p q := by
  obtain ⟨dx, h⟩ := h
  exact ⟨dx, l _ _ h trivial⟩
theorem IsR.ex {C p : Addr} {H H' : Hp} {q : Rat} (l : Ex H H') (h : IsR C H p q) : IsR C H' p q := h.le l.le
theorem NumV.le {C : Addr} {v : V} {H H' : Hp} {q : Rat} (l : Le H H') (h : NumV C H v q) : NumV C H' v q := by
  rcases h with h | ⟨p, e, h⟩
  · exact .inl h
  · exact .inr ⟨p, e, h.le l⟩
theorem NumV.ex {C : Addr} {v : V} {H H' : Hp} {q : Rat} (l : Ex H H') (h : NumV C H v q) : NumV C H' v q := h.le l.le
structure RT (K : PySem.W.Frag) (mg : Str → Option Value) (C : Addr) : Prop where
  k : ClsP K C
  nT : NoAttr K C "top"
  nB : NoAttr K C "bottom"
  mgC : mg "Ratio" = some (.ref C)
theorem tb_ne : ¬ (("top" : Str) = "bottom") := by decide +kernel
theorem tb_ne' : ¬ (("bottom" : Str) = "top") := by decide +kernel
theorem lk_top {q : Rat} : (fR q).lookup ("top" : Str) = some (.int q.num) := by
  unfold fR; rw [List.lookup_cons]; simp
theorem lk_bot {q : Rat} : (fR q).lookup ("bottom" : Str) = some (.int (q.den : Int)) := by
  unfold fR
  rw [List.lookup_cons, show (("bottom" : Str) == "top") = false from by decide +kernel]
  show ([(("bottom" : Str), V.int (q.den : Int))]).lookup ("bottom" : Str) = _
  rw [List.lookup_cons]; simp
theorem lk_no {q : Rat} {m : Str} (h1 : (m == ("top" : Str)) = false) (h2 : (m == ("bottom" : Str)) = false) : (fR q).lookup m = none := by
  unfold fR
  rw [List.lookup_cons, h1]
  show ([(("bottom" : Str), V.int (q.den : Int))]).lookup m = _
  rw [List.lookup_cons, h2]; rfl
theorem fR_made {a b : Int} : putF "bottom" (.int b) (putF "top" (.int a) []) = [(("top" : Str), V.int a), (("bottom" : Str), V.int b)] := by
  show (if ("top" : Str) = "bottom" then _ else (("top" : Str), V.int a) :: putF "bottom" (V.int b) []) = _
  rw [if_neg tb_ne]; rfl
section
variable {K : PySem.W.Frag} {mg : Str → Option Value} {C a : Addr} {H : Hp} {Q : VK} {q : Rat} {E : XK} {σ : L2.St} {ta : TE} {f : Str} {v : V} {D : Ends}
/-- the field f of the instance x -/
def FldAt (K : PySem.W.Frag) (f : Str) (x : V) (H : Hp) (Q : VK) : Prop := ∃ a C dx fs v, x = .ref a ∧ H a = some (.ins C dx fs) ∧ Cls K C ∧ NoAttr K C f ∧ fs.lookup f = some v ∧ Q v H
theorem r_fld (k : ta σ H fun x H1 => FldAt K f x H1 Q) : tFld K ta f σ H Q := k
theorem r_top {K' : PySem.W.Frag} (T : RT K mg C) (e : K' = K) (h : IsR C H a q) (k : Q (.int q.num) H) : FldAt K' "top" (.ref a) H Q := by
  subst e
  obtain ⟨dx, h⟩ := h
  exact ⟨a, C, dx, _, _, rfl, h, T.k.o.cl, T.nT, lk_top, k⟩
theorem r_bot {K' : PySem.W.Frag} (T : RT K mg C) (e : K' = K) (h : IsR C H a q) (k : Q (.int (q.den : Int)) H) : FldAt K' "bottom" (.ref a) H Q := by
  subst e
  obtain ⟨dx, h⟩ := h
  exact ⟨a, C, dx, _, _, rfl, h, T.k.o.cl, T.nB, lk_bot, k⟩
/-- the store of a field -/
def PutAt (K : PySem.W.Frag) (f : Str) (x v : V) (H : Hp) (N : Hp → Prop) : Prop := ∃ a C dx fs, x = .ref a ∧ H a = some (.ins C dx fs) ∧ Cls K C ∧ NoAttr K C f ∧ fs.length < 1000 ∧ N (upd H a (.ins C dx (putF f v fs)))
theorem IsR.tyx (T : RT K mg C) (h : IsR C H a q) : TyX K H (.ref a) (.ref C) := by
  obtain ⟨dx, h⟩ := h
  exact T.k.o.ty h
def spIsInt (K : PySem.W.Frag) : Sp := fun vs H Q _ => ∃ v t r s, vs = [v] ∧ TyX K H v t ∧ PySem.W.kitOne K t (.type "int") = some r ∧ (r = true → PySem.W.kitOne K t (.type "bool") = some s) ∧ Q (.bl (r && !s)) H
theorem q_isInt_i {n : Int} (k : Q (.bl true) H) : spIsInt K [.int n] H Q E := ⟨_, _, true, false, rfl, tyI, ki_ii, fun _ => ki_ib, k⟩
theorem q_isInt_r (T : RT K mg C) (h : IsR C H a q) (k : Q (.bl false) H) : spIsInt K [.ref a] H Q E := ⟨_, _, false, false, rfl, h.tyx T, kit_ni T.k, (fun z => nomatch z), k⟩
theorem q_isInt_w (h : Wrong K C H v) (k : Q (.bl false) H) : spIsInt K [v] H Q E := by
  obtain ⟨t, ht, _, h | ⟨h1, h2⟩⟩ := h
  · exact ⟨v, t, false, false, rfl, ht, h, (fun z => nomatch z), k⟩
  · exact ⟨v, t, true, true, rfl, ht, h1, (fun _ => h2), k⟩
def spIsNum (K : PySem.W.Frag) (C : Addr) : Sp := fun vs H Q _ => ∃ v, vs = [v] ∧ (((∃ q, NumV C H v q) ∧ Q (.bl true) H) ∨ (Wrong K C H v ∧ Q (.bl false) H))
theorem q_isNum (h : NumV C H v q) (k : Q (.bl true) H) : spIsNum K C [v] H Q E := ⟨v, rfl, .inl ⟨⟨q, h⟩, k⟩⟩
/-- raises the own error CX with the value v -/
def Rz (E : XK) (CX : Addr) (fn : Str) (v : V) (H : Hp) : Prop := ∀ d H', Ex H H' → H' d = some (.xd [(fn, v)]) → H d = none → E (.ref CX) (some d) H'
theorem Rz.at {CX : Addr} {fn : Str} {v : V} (h : Rz E CX fn v H) : ∃ v', [v] = [v'] ∧ ∀ d, H d = none → E (.ref CX) (some d) (upd H d (.xd [(fn, v')])) := ⟨v, rfl, fun d hd => h d _ (Ex.new hd) upd_same hd⟩
theorem Rz.ex {CX : Addr} {fn : Str} {v : V} {H' : Hp} (h : Rz E CX fn v H) (e : Ex H H') : Rz E CX fn v H' := fun d H2 e2 hd hn => h d H2 (e.trans e2) hd (by
  cases z : H d with
  | none => rfl
  | some o => have := e d o z; rw [hn] at this; cases this)
def spRatioOf (K : PySem.W.Frag) (C CB : Addr) : Sp := fun vs H Q E => ∃ v, vs = [v] ∧ ((∃ q, NumV C H v q ∧ Bq q ∧ ∀ H' p, Ex H H' → IsR C H' p q → Q (.ref p) H') ∨ (Wrong K C H v ∧ Rz E CB "value" v H))
/-- __init__ -/
def spRInit (K : PySem.W.Frag) (C CB : Addr) : Sp := fun vs H Q E => ∃ p dx x y, vs = [.ref p, x, y] ∧ H p = some (.ins C dx []) ∧
  ((∃ a b : Int, x = .int a ∧ y = .int b ∧ b ≠ 0 ∧ b.natAbs < 2 ^ 9000 ∧ ∀ H', (∀ c o, H c = some o → c ≠ p → H' c = some o) → IsR C H' p (Rat.divInt a b) → Q .non H') ∨
   (Wrong K C H x ∧ Rz E CB "value" x H) ∨ (∃ a : Int, x = .int a ∧ Wrong K C H y ∧ Rz E CB "value" y H) ∨ (∃ a : Int, x = .int a ∧ y = .int 0 ∧ Rz E CB "value" (.int 0) H))
/-- a new Ratio, whatever it was made of -/
def NewR (C : Addr) (Q : VK) (H : Hp) (q : Rat) : Prop := ∀ H' p, Ex H H' → IsR C H' p q → Q (.ref p) H'
/-- the reading of C(..): the instance is new, __init__ keeps sp -/
def MkAt (C : Addr) (sp : Sp) (dvs : List V) (E : XK) (vs : List V) (H : Hp) (Q : VK) : Prop := ∀ x dx, H x = none → H dx = none → dx ≠ x → sp (.ref x :: (vs ++ dvs)) (upd (upd H dx (.own x)) x (.ins C dx [])) (fun v H2 => v = .non ∧ Q (.ref x) H2) E
/-- the reading of Ratio(a, b) -/
theorem q_mk {CB : Addr} {a b : Int} {dvs vs : List V} (e : vs ++ dvs = [.int a, .int b]) (hb : b ≠ 0) (h9 : b.natAbs < 2 ^ 9000) (k : NewR C Q H (Rat.divInt a b)) : MkAt C (spRInit K C CB) dvs E vs H Q := by
  intro x dx hx hdx hne
  rw [e]
  refine ⟨x, dx, _, _, rfl, upd_same, .inl ⟨a, b, rfl, rfl, hb, h9, fun H' st h => ⟨rfl, k H' x (fun c o hc => ?_) h⟩⟩⟩
  exact st c o (by rw [upd_ne (ne_of_none hc hx), upd_ne (ne_of_none hc hdx)]; exact hc) (ne_of_none hc hx)
/-- a method of one argument: a number of either kind -/
def spR1 (C : Addr) (g : Rat → Rat → Rat) (ok : Rat → Rat → Prop) : Sp := fun vs H Q _ => ∃ a v q r, vs = [.ref a, v] ∧ IsR C H a q ∧ NumV C H v r ∧ Bq q ∧ Bq r ∧ ok q r ∧ NewR C Q H (g q r)
/-- .. an int alone -/
def spRI (C : Addr) (g : Rat → Rat → Rat) (ok : Rat → Rat → Prop) : Sp := fun vs H Q _ => ∃ a q n, vs = [.ref a, .int n] ∧ IsR C H a q ∧ Bq q ∧ Bt n ∧ ok q (n : Rat) ∧ NewR C Q H (g q (n : Rat))
/-- a value, whatever was made on the way -/
def NewV (Q : VK) (H : Hp) (v : V) : Prop := ∀ H', Ex H H' → Q v H'
/-- a comparison -/
def spRB (C : Addr) (g : Rat → Rat → Bool) : Sp := fun vs H Q _ => ∃ a v q r, vs = [.ref a, v] ∧ IsR C H a q ∧ NumV C H v r ∧ Bq q ∧ Bq r ∧ NewV Q H (.bl (g q r))
/-- without an argument -/
def spR0 (C : Addr) (g : Rat → Rat) : Sp := fun vs H Q _ => ∃ a q, vs = [.ref a] ∧ IsR C H a q ∧ Bq q ∧ NewR C Q H (g q)
def spRV (C : Addr) (g : Rat → V) : Sp := fun vs H Q _ => ∃ a q, vs = [.ref a] ∧ IsR C H a q ∧ Bq q ∧ Q (g q) H
end
section
variable {X : Cx} {pos : Pos}
/-- a name that is not reached -/
theorem pe_ni {e : Expr} : PE X e (fun _ _ _ => False) := ⟨fun _ _ _ _ _ _ h => h.elim⟩
end
end
section
open PySem PySem.Spec PyProof.Rows L2
theorem st_set {σ : L2.St} {i : Nat} {v : Option V} {τ : L2.St} {QS : L2.St → Hp → Prop} {H : Hp} (e : σ.set i v = τ) (h : QS τ H) : QS (σ.set i v) H := by rw [e]; exact h
theorem r_blP {b : Bool} {R : Bool → Prop} (k : R b) : ∃ b', V.bl b = .bl b' ∧ R b' := ⟨b, rfl, k⟩
theorem Bq.n {q : Rat} (h : Bq q) : Bt q.num := h.1
theorem Bq.d {q : Rat} (h : Bq q) : Bt (q.den : Int) := h.2
theorem bt_abs {i : Int} (h : Bt i) : Bt (i.natAbs : Int) := by unfold Bt; rw [Int.natAbs_natCast]; exact h
theorem bt_neg {i : Int} (h : Bt i) : Bt (-i) := by unfold Bt; rw [Int.natAbs_neg]; exact h
theorem bt_mul9 {i j : Int} (hi : Bt i) (hj : Bt j) : (i * j).natAbs < 2 ^ 9000 := pow_mono (lt_mul hi hj) (by decide)
theorem bt_9 {i : Int} (hi : Bt i) : i.natAbs < 2 ^ 9000 := pow_mono hi (by decide)
section
variable {K : PySem.W.Frag} {mg : Str → Option Value} {C a p CB : Addr} {H : Hp} {Q : VK} {q r : Rat} {E : XK} {σ : L2.St} {t : TA} {ta : TE} {sp : Sp} {dvs : List V} {f m : Str} {v : V} {D : Ends} {k : Nat} {ok : Rat → Rat → Prop} {g : Rat → Rat → Rat}
theorem r_ck (h : t σ H fun vs H1 => MkAt C sp dvs E vs H1 Q) : tK1 C sp dvs E t σ H Q := h
theorem r_cm (h : ta σ H fun x H1 => ∃ a dx fs, x = .ref a ∧ H1 a = some (.ins C dx fs) ∧ fs.lookup m = none ∧ t σ H1 fun vs H2 => sp (.ref a :: vs) H2 Q E) : tM1 C m sp E ta t σ H Q := h
theorem q_ratioOf (h : NumV C H v q) (b : Bq q) (k : NewR C Q H q) : spRatioOf K C CB [v] H Q E := ⟨v, rfl, .inl ⟨q, h, b, k⟩⟩
theorem q_ratioOfW (h : Wrong K C H v) (k : Rz E CB "value" v H) : spRatioOf K C CB [v] H Q E := ⟨v, rfl, .inr ⟨h, k⟩⟩
theorem q_isNumW (h : Wrong K C H v) (k : Q (.bl false) H) : spIsNum K C [v] H Q E := ⟨v, rfl, .inr ⟨h, k⟩⟩
theorem NewR.ex {H' : Hp} (k : NewR C Q H q) (e : Ex H H') : NewR C Q H' q := fun H2 p e2 h => k H2 p (e.trans e2) h
theorem NewV.ex {H' : Hp} (k : NewV Q H v) (e : Ex H H') : NewV Q H' v := fun H2 e2 => k H2 (e.trans e2)
theorem NewV.here (k : NewV Q H v) : Q v H := k H (Ex.refl H)
theorem num_i {n : Int} : NumV C H (.int n) (n : Rat) := .inl ⟨n, rfl, rfl⟩
theorem num_r (h : IsR C H p q) : NumV C H (.ref p) q := .inr ⟨p, rfl, h⟩
theorem bq_i {n : Int} (h : Bt n) : Bq (n : Rat) := ⟨h, by show (1 : Int).natAbs < _; exact Nat.one_lt_two_pow (by decide)⟩
/-- an operator's reading, x a Ratio -/
theorem o_O {y : V} {ok : V → Hp → Prop} (h : IsR C H a q) (ho : ok y H) (k : sp [.ref a, y] H Q E) : rO C sp E ok (.ref a) y H Q := by
  obtain ⟨dx, h⟩ := h; exact ⟨a, dx, _, rfl, h, ho, k⟩
theorem o_ins (h : IsR C H p q) : isIns C (.ref p) H := by
  obtain ⟨dx, h⟩ := h; exact ⟨p, dx, _, rfl, h⟩
theorem o_int {n : Int} : isInt (.int n) H := ⟨n, rfl⟩
theorem o_any {t : Value} {y : V} (h : TyX K H y t) (n : PySem.W.notFirst K C t = true) : isAny K C y H := ⟨t, h, n⟩
theorem o_anyR (T : RT K mg C) (h : IsR C H p q) : isAny K C (.ref p) H := ⟨_, h.tyx T, nf_self⟩
theorem o_anyI {n : Int} : isAny K C (.int n) H := ⟨_, tyI, nf_of sub_int⟩
theorem o_Or {n : Int} (h : IsR C H a q) (k : sp [.ref a, .int n] H Q E) : rOr C sp E (.int n) (.ref a) H Q := by
  obtain ⟨dx, h⟩ := h; exact ⟨a, dx, _, n, rfl, rfl, h, k⟩
theorem o_NO {y : V} {ok : V → Hp → Prop} (h : IsR C H a q) (ho : ok y H) (k : sp [.ref a, y] H (kNB Q) E) : rNO C sp E ok (.ref a) y H Q := by
  obtain ⟨dx, h⟩ := h; exact ⟨a, dx, _, rfl, h, ho, k⟩
theorem o_U (h : IsR C H a q) (k : sp [.ref a] H Q E) : rU1 C sp E (.ref a) H Q := by
  obtain ⟨dx, h⟩ := h; exact ⟨a, dx, _, rfl, h, k⟩
theorem o_C {kk : VK → VK} (h : IsR C H a q) (k : sp [.ref a] H (kk Q) E) : rC1 C sp E kk [.ref a] H Q := by
  obtain ⟨dx, h⟩ := h; exact ⟨a, dx, _, rfl, h, k⟩
theorem o_T {QT : Bool → Hp → Prop} (h : IsR C H a q) (k : sp [.ref a] H (fun v H' => ∃ b, v = .bl b ∧ QT b H') E) : ∃ a' dx fs, V.ref a = .ref a' ∧ H a' = some (.ins C dx fs) ∧ sp [.ref a'] H (fun v H' => ∃ b, v = .bl b ∧ QT b H') E := by
  obtain ⟨dx, h⟩ := h; exact ⟨a, dx, _, rfl, h, k⟩
theorem o_M {R : Addr → Prop} (h : IsR C H a q) (hm : (m == ("top" : Str)) = false) (hm' : (m == ("bottom" : Str)) = false) (k : R a) : ∃ a' dx fs, V.ref a = .ref a' ∧ H a' = some (.ins C dx fs) ∧ fs.lookup m = none ∧ R a' := by
  obtain ⟨dx, h⟩ := h; exact ⟨a, dx, _, rfl, h, lk_no hm hm', k⟩
theorem q_R1 (h : IsR C H a q) (hv : NumV C H v r) (b : Bq q) (b' : Bq r) (o : ok q r) (k : NewR C Q H (g q r)) : spR1 C g ok [.ref a, v] H Q E := ⟨a, v, q, r, rfl, h, hv, b, b', o, k⟩
theorem q_RI {n : Int} (h : IsR C H a q) (b : Bq q) (b' : Bt n) (o : ok q (n : Rat)) (k : NewR C Q H (g q (n : Rat))) : spRI C g ok [.ref a, .int n] H Q E := ⟨a, q, n, rfl, h, b, b', o, k⟩
theorem q_RB {g : Rat → Rat → Bool} (h : IsR C H a q) (hv : NumV C H v r) (b : Bq q) (b' : Bq r) (k : NewV Q H (.bl (g q r))) : spRB C g [.ref a, v] H Q E := ⟨a, v, q, r, rfl, h, hv, b, b', k⟩
theorem q_R0 {g : Rat → Rat} (h : IsR C H a q) (b : Bq q) (k : NewR C Q H (g q)) : spR0 C g [.ref a] H Q E := ⟨a, q, rfl, h, b, k⟩
theorem q_RV {g : Rat → V} (h : IsR C H a q) (b : Bq q) (k : Q (g q) H) : spRV C g [.ref a] H Q E := ⟨a, q, rfl, h, b, k⟩
end
/-- a fact carried to the heap of the goal -/
theorem r_sfld {K : PySem.W.Frag} {σ : L2.St} {H : Hp} {ta tv : TE} {f : Str} {D : Ends} (k : tv σ H fun y H1 => ta σ H1 fun x H2 => PutAt K f x y H2 (fun H' => D.nx σ H')) : sFld K ta tv f D σ H := k
/-- a field of an instance of which all is known -/
theorem r_put {K K' : PySem.W.Frag} {C p dx : Addr} {fs : List (Str × V)} {f : Str} {v : V} {H : Hp} {N : Hp → Prop} (c : Cls K C) (n : NoAttr K C f) (e : K' = K) (h : H p = some (.ins C dx fs)) (hl : fs.length < 1000) (k : N (upd H p (.ins C dx (putF f v fs)))) : PutAt K' f (.ref p) v H N := by
  subst e
  exact ⟨p, C, dx, fs, rfl, h, c, n, hl, k⟩
theorem upd_upd {H : Hp} {p : Addr} {o o' : HO} : upd (upd H p o) p o' = upd H p o' := by
  funext b
  by_cases e : b = p
  · subst e; rw [upd_same, upd_same]
  · rw [upd_ne e, upd_ne e, upd_ne e]
theorem r_Ibt {a b : Int} {g : Int → Int → V} {H : Hp} {Q : VK} (ha : Bt a) (hb : Bt b) (k : Q (g a b) H) : rI CMulA g (.int a) (.int b) H Q := r_I (cmA_bt ha hb) k
theorem r_Ir {a b : Int} {g : Int → Int → V} {H : Hp} {Q : VK} (hb : b.natAbs < 2 ^ 64) (k : Q (g a b) H) : rI CMulA g (.int a) (.int b) H Q := r_I (cmA_r hb) k
theorem r_Il {a b : Int} {g : Int → Int → V} {H : Hp} {Q : VK} (ha : a.natAbs < 2 ^ 64) (k : Q (g a b) H) : rI CMulA g (.int a) (.int b) H Q := r_I (cmA_l ha) k
end
open PySem PySem.Spec PyProof.Rows L2
local macro_rules | `(tactic| wtm_at "of_up") => `(tactic| first | assumption | (apply IsR.ex; assumption; wtm_at "of_up") | (apply NumV.ex; assumption; wtm_at "of_up") | (apply num_r; wtm_at "of_up") | exact num_i | (apply NewR.ex; wtm_at "of_up"; assumption) | (apply NewV.ex; wtm_at "of_up"; assumption) | (apply Rz.ex; wtm_at "of_up"; assumption))
section
open PySem PySem.Spec PyProof.Rows L2
end
open PySem PySem.Spec PyProof.Rows L2
local macro_rules | `(tactic| wtm_at "of_btl") => `(tactic| first | assumption | exact Bq.n (by assumption) | exact Bq.d (by assumption) | (refine bt_neg ?_; wtm_at "of_btl") | (refine bt_abs ?_; wtm_at "of_btl") | (refine bq_i ?_; wtm_at "of_btl"))
section
open PySem PySem.Spec PyProof.Rows L2
end
open PySem PySem.Spec PyProof.Rows L2
local macro_rules | `(tactic| wtm_at "of_rd1") => `(tactic| with_reducible first
  | refine r_seq ?_ | refine r_asg ?_ | refine r_ret ?_ | refine r_sfld ?_ | refine r_ifS ?_ | refine r_drop ?_ | refine r_next ?_ | refine r_retN ?_ | refine r_gcd ?_
  | refine r_op ?_ | refine r_un ?_ | refine r_fld ?_ | refine r_cons ?_ | refine r_nil ?_ | refine r_c ?_ | refine r_c1 ?_ | refine r_cb ?_ | refine r_ck ?_ | refine r_cm ?_
  | refine r_test ?_ | refine r_B ?_ | refine r_and ?_ | refine r_or ?_ | refine r_not ?_ | refine r_andV ?_ | refine r_orV ?_ | refine r_notV ?_ | refine r_ifE ?_
  | refine r_tr ?_ | refine r_name ?_ | refine r_blP ?_ | refine r_tup ?_ | refine r_lst ?_ | refine r_gCons ?_ | refine r_gNil ?_ | refine r_rz ?_
  | refine r_var (by with_unfolding_all rfl) ?_
  | refine iteT ?_ | refine iteF ?_ | refine iteNT ?_ | refine iteNF ?_
  | refine r_I0 ?_ | refine r_Ibt (by wtm_at "of_btl") (by wtm_at "of_btl") ?_ | refine r_U ?_ | refine r_eqI ?_ | refine r_neI ?_
  | refine r_top (by assumption) (by with_unfolding_all rfl) (by wtm_at "of_up") ?_ | refine r_bot (by assumption) (by with_unfolding_all rfl) (by wtm_at "of_up") ?_)
section
open PySem PySem.Spec PyProof.Rows L2
end
open PySem PySem.Spec PyProof.Rows L2
local macro_rules | `(tactic| wtm_at "of_rd") => `(tactic| repeat wtm_at "of_rd1")
section
open PySem PySem.Spec PyProof.Rows L2
end
section
open PySem PySem.Spec PyProof.Rows L2 RZ
section
variable {K : PySem.W.Frag} {σ : L2.St} {H : Hp} {Q : VK} {QA : List V → Hp → Prop} {D : Ends} {ta tb te : TE} {tr : TA} {wi : TI} {g : TG} {ts : TS} {tt : TT} {vs : List Nat} {a l p : Addr} {xs : List V} {x y v : V} {R : It → Hp → Prop}
def ForIt (J : It) (g : TG) (tb : TS) (D : Ends) (σ : L2.St) (H : Hp) : Prop := ∃ W : Nat → Nat → L2.St → Hp → Prop, (∃ m, W 0 m σ H) ∧ ∀ i m σ H, W i m σ H →
  (J.stop i H ∧ D.nx σ H) ∨ (J.go i H ∧ ∃ N : L2.St → Hp → Prop, (∀ σ' H', N σ' H' → ∃ m', m' < m ∧ W (i + 1) m' σ' H') ∧ ∀ x H', J.yld i H x H' → g x σ H' fun σ2 H2 => tb { D with nx := N, ct := N, bk := D.nx } σ2 H2)
theorem r_for (k : wi σ H fun J H1 => ForIt J g ts D σ H1) : tFor wi g ts D σ H := k
def LcIt (J : It) (g : TG) (tt : TT) (te : TE) (vs : List Nat) (σ : L2.St) (H1 : Hp) (Q : VK) : Prop := ∀ D, H1 D = none → ∃ W : Nat → Nat → Hp → Prop, (∃ m, W 0 m (upd H1 D (.lst []))) ∧ ∀ i m H, W i m H →
  (J.stop i H ∧ Q (.ref D) H) ∨ (J.go i H ∧ ∃ Nx : Hp → Prop, (∀ H', Nx H' → ∃ m', m' < m ∧ W (i + 1) m' H') ∧ ∀ x H', J.yld i H x H' → g x (wipe σ vs) H' fun σ2 H2 => wipe σ2 vs = wipe σ vs ∧ tt σ2 H2 fun b H3 =>
    if b = true then te σ2 H3 fun y H4 => ∃ acc, H4 D = some (.lst acc) ∧ acc.length < sizeLine ∧ Nx (upd H4 D (.lst (acc ++ [y]))) else Nx H3)
theorem r_lc (k : wi σ H fun J H1 => LcIt J g tt te vs σ H1 Q) : tLc wi g tt te vs σ H Q := k
def ItL (K : PySem.W.Frag) (x : V) (H : Hp) (R : It → Hp → Prop) : Prop := ∃ a, x = .ref a ∧ (∃ xs, SqL K H a xs) ∧ R (Itl K a) H
def ItT (K : PySem.W.Frag) (x : V) (H : Hp) (R : It → Hp → Prop) : Prop := ∃ a, x = .ref a ∧ (∃ xs, SqT K H a xs) ∧ R (Itt K a) H
def ItR (vs : List V) (H : Hp) (R : It → Hp → Prop) : Prop := ∃ j : Int, vs = [.int j] ∧ -(2 ^ 62) ≤ j ∧ j < 2 ^ 62 ∧ R (Itr 0 j.toNat) H
def ItR2 (vs : List V) (H : Hp) (R : It → Hp → Prop) : Prop := ∃ i j : Int, vs = [.int i, .int j] ∧ (-(2 ^ 62) ≤ i ∧ i < 2 ^ 62 ∧ -(2 ^ 62) ≤ j ∧ j < 2 ^ 62) ∧ R (Itr i (j - i).toNat) H
def ItR3 (vs : List V) (H : Hp) (R : It → Hp → Prop) : Prop := ∃ (i j c : Int) (n : Nat), vs = [.int i, .int j, .int c] ∧ RgC i j c n ∧ R (Itc i c n) H
def ItZ (K : PySem.W.Frag) (vs : List V) (H : Hp) (R : It → Hp → Prop) : Prop := ∃ a b xs ys, vs = [.ref a, .ref b] ∧ ((SqL K H a xs ∧ SqL K H b ys ∧ R (Itz K a b) H) ∨ (SqT K H a xs ∧ SqT K H b ys ∧ R (ItzT K a b) H))
theorem r_iL (k : ta σ H fun x H1 => ItL K x H1 R) : iList K ta σ H R := k
theorem r_iT (k : ta σ H fun x H1 => ItT K x H1 R) : iTup K ta σ H R := k
theorem r_iR1 (k : tr σ H fun x H1 => ItR x H1 R) : iRng1 tr σ H R := k
theorem r_iR2 (k : tr σ H fun x H1 => ItR2 x H1 R) : iRng2 tr σ H R := k
theorem r_iR3 (k : tr σ H fun x H1 => ItR3 x H1 R) : iRng3 tr σ H R := k
theorem r_iZ (k : tr σ H fun x H1 => ItZ K x H1 R) : iZipA K tr σ H R := k
theorem i_L (h : H a = some (.lst xs)) (k : R (Itl K a) H) : ItL K (.ref a) H R := ⟨a, rfl, ⟨xs, SqL.of h⟩, k⟩
theorem i_T (h : H a = some (.tup xs)) (k : R (Itt K a) H) : ItT K (.ref a) H R := ⟨a, rfl, ⟨xs, SqT.of h⟩, k⟩
theorem n62 {n : Nat} (h : n ≤ 1000000000) : -(2 ^ 62) ≤ (n : Int) ∧ (n : Int) < 2 ^ 62 := by
  have e : (2 : Int) ^ 62 = 4611686018427387904 := by decide
  rw [e]; omega
theorem i_R {n : Nat} {j : Int} (e : j = (n : Int)) (h : n ≤ 1000000000) (k : R (Itr 0 n) H) : ItR [.int j] H R := by
  subst e
  exact ⟨_, rfl, (n62 h).1, (n62 h).2, k⟩
theorem i_ZT {b : Addr} {ys : List V} (h : H a = some (.tup xs)) (h' : H b = some (.tup ys)) (k : R (ItzT K a b) H) : ItZ K [.ref a, .ref b] H R := ⟨a, b, xs, ys, rfl, .inr ⟨SqT.of h, SqT.of h', k⟩⟩
theorem i_ZL {b : Addr} {ys : List V} (h : H a = some (.lst xs)) (h' : H b = some (.lst ys)) (k : R (Itz K a b) H) : ItZ K [.ref a, .ref b] H R := ⟨a, b, xs, ys, rfl, .inl ⟨SqL.of h, SqL.of h', k⟩⟩
/-- one turn of a loop: the body, with where it goes on -/
def Turn1 (g : TG) (tb : TS) (D : Ends) (N : L2.St → Hp → Prop) (x : V) (σ : L2.St) (H : Hp) : Prop := g x σ H fun σ2 H2 => tb { D with nx := N, ct := N, bk := D.nx } σ2 H2
theorem fL (Pv : Nat → L2.St → Hp → Prop) (h0 : Pv 0 σ H) (hl : ∀ i σ H, i ≤ xs.length → Pv i σ H → H a = some (.lst xs))
    (hs : ∀ i x σ H, xs[i]? = some x → Pv i σ H → Turn1 g ts D (Pv (i + 1)) x σ H) (hd : ∀ σ H, Pv xs.length σ H → D.nx σ H) : ForIt (Itl K a) g ts D σ H := for_list Pv h0 (fun i σ H hi h => SqL.of (hl i σ H hi h)) hs hd
theorem fR' {lo : Int} {n : Nat} (Pv : Nat → L2.St → Hp → Prop) (h0 : Pv 0 σ H) (hs : ∀ i σ H, i < n → Pv i σ H → Turn1 g ts D (Pv (i + 1)) (.int (lo + i)) σ H) (hd : ∀ σ H, Pv n σ H → D.nx σ H) : ForIt (Itr lo n) g ts D σ H := for_range Pv h0 hs hd
theorem fZT {b : Addr} {ys : List V} (hl : xs.length = ys.length) (Pv : Nat → L2.St → Hp → Prop) (h0 : Pv 0 σ H) (hq : ∀ i σ H, Pv i σ H → H a = some (.tup xs) ∧ H b = some (.tup ys))
    (hs : ∀ (i : Nat) (x y : V) (T : Addr) (σ : L2.St) (H H' : Hp), xs[i]? = some x → ys[i]? = some y → Pv i σ H → Ex H H' → H T = none → H' T = some (.tup [x, y]) → Turn1 g ts D (Pv (i + 1)) (.ref T) σ H') (hd : ∀ σ H, Pv xs.length σ H → D.nx σ H) : ForIt (ItzT K a b) g ts D σ H :=
  for_zipT hl Pv h0 (fun i σ H h => ⟨SqT.of (hq i σ H h).1, SqT.of (hq i σ H h).2⟩) (fun i x y T σ H h1 h2 h3 h4 => hs i x y T σ H _ h1 h2 h3 (Ex.new h4) h4 upd_same) hd
/-- a comprehension's item is put to its list -/
def LPut (L : Addr) (P : List V → Hp → Prop) (y : V) (H : Hp) : Prop := ∃ acc, H L = some (.lst acc) ∧ acc.length < sizeLine ∧ ∃ acc', upd H L (.lst (acc ++ [y])) L = some (.lst acc') ∧ P acc' (upd H L (.lst (acc ++ [y])))
theorem lput {L : Addr} {P : List V → Hp → Prop} {acc : List V} (h : H L = some (.lst acc)) (hn : acc.length ≤ 1000000) (k : P (acc ++ [y]) (upd H L (.lst (acc ++ [y])))) : LPut L P y H :=
  ⟨acc, h, by rw [sizeLine_eq]; omega, acc ++ [y], upd_same, k⟩
/-- a turn of a comprehension -/
def LTurn (g : TG) (tt : TT) (te : TE) (vs : List Nat) (σ : L2.St) (L : Addr) (P : List V → Hp → Prop) (x : V) (H : Hp) : Prop :=
  g x (wipe σ vs) H fun σ2 H2 => wipe σ2 vs = wipe σ vs ∧ tt σ2 H2 fun b H3 => if b = true then te σ2 H3 fun y H4 => LPut L P y H4 else ∃ acc, H3 L = some (.lst acc) ∧ P acc H3
theorem lL (Pv : Addr → Nat → List V → Hp → Prop) (h0 : ∀ L, H L = none → ∀ H', Ex H H' → H' L = some (.lst []) → Pv L 0 [] H')
    (hl : ∀ L i acc H', H L = none → i ≤ xs.length → Pv L i acc H' → H' a = some (.lst xs))
    (hs : ∀ L i x acc H', H L = none → xs[i]? = some x → Pv L i acc H' → H' L = some (.lst acc) → LTurn g tt te vs σ L (Pv L (i + 1)) x H')
    (hd : ∀ L acc H', H L = none → H' L = some (.lst acc) → Pv L xs.length acc H' → Q (.ref L) H') : LcIt (Itl K a) g tt te vs σ H Q := by
  intro L hL
  refine lc_list (xs := xs) (fun i H' => ∃ acc, H' L = some (.lst acc) ∧ Pv L i acc H') ⟨[], upd_same, h0 L hL _ (Ex.new hL) upd_same⟩ (fun i H' hi ⟨acc, h1, h2⟩ => SqL.of (hl L i acc H' hL hi h2)) (fun i x H' hx' ⟨acc, h1, h2⟩ => ?_) (fun H' ⟨acc, h1, h2⟩ => hd L acc H' hL h1 h2)
  exact hs L i x acc H' hL hx' h2 h1
theorem lR {lo : Int} {n : Nat} (Pv : Addr → Nat → List V → Hp → Prop) (h0 : ∀ L, H L = none → ∀ H', Ex H H' → H' L = some (.lst []) → Pv L 0 [] H')
    (hs : ∀ L i acc H', H L = none → i < n → Pv L i acc H' → H' L = some (.lst acc) → LTurn g tt te vs σ L (Pv L (i + 1)) (.int (lo + i)) H')
    (hd : ∀ L acc H', H L = none → H' L = some (.lst acc) → Pv L n acc H' → Q (.ref L) H') : LcIt (Itr lo n) g tt te vs σ H Q := by
  intro L hL
  refine lc_range (fun i H' => ∃ acc, H' L = some (.lst acc) ∧ Pv L i acc H') ⟨[], upd_same, h0 L hL _ (Ex.new hL) upd_same⟩ (fun i H' hi ⟨acc, h1, h2⟩ => ?_) (fun H' ⟨acc, h1, h2⟩ => hd L acc H' hL h1 h2)
  exact hs L i acc H' hL hi h2 h1
theorem lRC {lo c : Int} {n : Nat} (Pv : Addr → Nat → List V → Hp → Prop) (h0 : ∀ L, H L = none → ∀ H', Ex H H' → H' L = some (.lst []) → Pv L 0 [] H')
    (hs : ∀ L i acc H', H L = none → i < n → Pv L i acc H' → H' L = some (.lst acc) → LTurn g tt te vs σ L (Pv L (i + 1)) (.int (lo + (i : Nat) * c)) H')
    (hd : ∀ L acc H', H L = none → H' L = some (.lst acc) → Pv L n acc H' → Q (.ref L) H') : LcIt (Itc lo c n) g tt te vs σ H Q := by
  intro L hL
  refine ⟨fun i m H' => m = n - i ∧ i ≤ n ∧ ∃ acc, H' L = some (.lst acc) ∧ Pv L i acc H', ⟨n, by simp, Nat.zero_le _, [], upd_same, h0 L hL _ (Ex.new hL) upd_same⟩, ?_⟩
  rintro i m H' ⟨rfl, hi, acc, h1, h2⟩
  by_cases hlt : i < n
  · refine .inr ⟨hlt, fun H' => ∃ acc, H' L = some (.lst acc) ∧ Pv L (i + 1) acc H', fun H' p' => ⟨n - (i + 1), by omega, rfl, hlt, p'⟩, fun x H'' y => ?_⟩
    obtain ⟨e, y⟩ := y
    subst e y
    exact hs L i acc _ hL hlt h2 h1
  · have e : i = n := by omega
    subst e
    exact .inl ⟨Nat.le_refl _, hd L acc H' hL h1 h2⟩
theorem lT (Pv : Addr → Nat → List V → Hp → Prop) (h0 : ∀ L, H L = none → ∀ H', Ex H H' → H' L = some (.lst []) → Pv L 0 [] H')
    (hl : ∀ L i acc H', H L = none → i ≤ xs.length → Pv L i acc H' → H' a = some (.tup xs))
    (hs : ∀ L i x acc H', H L = none → xs[i]? = some x → Pv L i acc H' → H' L = some (.lst acc) → LTurn g tt te vs σ L (Pv L (i + 1)) x H')
    (hd : ∀ L acc H', H L = none → H' L = some (.lst acc) → Pv L xs.length acc H' → Q (.ref L) H') : LcIt (Itt K a) g tt te vs σ H Q := by
  intro L hL
  refine lc_tup (xs := xs) (fun i H' => ∃ acc, H' L = some (.lst acc) ∧ Pv L i acc H') ⟨[], upd_same, h0 L hL _ (Ex.new hL) upd_same⟩ (fun i H' hi ⟨acc, h1, h2⟩ => SqT.of (hl L i acc H' hL hi h2)) (fun i x H' hx' ⟨acc, h1, h2⟩ => ?_) (fun H' ⟨acc, h1, h2⟩ => hd L acc H' hL h1 h2)
  exact hs L i x acc H' hL hx' h2 h1
/-- a list or a tuple -/
def SeqAt1 (H : Hp) (a : Addr) (xs : List V) : Prop := H a = some (.lst xs) ∨ H a = some (.tup xs)
theorem lLT {J : It} (hJ : (J = Itl K a ∧ H a = some (.lst xs)) ∨ (J = Itt K a ∧ H a = some (.tup xs))) (Pv : Addr → Nat → List V → Hp → Prop) (h0 : ∀ L, H L = none → ∀ H', Ex H H' → H' L = some (.lst []) → Pv L 0 [] H')
    (hl : ∀ L i acc H', H L = none → i ≤ xs.length → Pv L i acc H' → Ex H H')
    (hs : ∀ L i x acc H', H L = none → xs[i]? = some x → Pv L i acc H' → H' L = some (.lst acc) → LTurn g tt te vs σ L (Pv L (i + 1)) x H')
    (hd : ∀ L acc H', H L = none → H' L = some (.lst acc) → Pv L xs.length acc H' → Q (.ref L) H') : LcIt J g tt te vs σ H Q := by
  rcases hJ with ⟨rfl, h⟩ | ⟨rfl, h⟩
  · exact lL Pv h0 (fun L i acc H' h1 h2 h3 => hl L i acc H' h1 h2 h3 _ _ h) hs hd
  · exact lT Pv h0 (fun L i acc H' h1 h2 h3 => hl L i acc H' h1 h2 h3 _ _ h) hs hd
def iOr (w1 w2 : TI) : TI := fun σ H R => w1 σ H R ∨ w2 σ H R
theorem i_LT {i : Nat} (e : σ[i]? = some (some (V.ref a))) (h : SeqAt1 H a xs) (k : ∀ J, ((J = Itl K a ∧ H a = some (.lst xs)) ∨ (J = Itt K a ∧ H a = some (.tup xs))) → R J H) : iOr (iList K (tVar i)) (iTup K (tVar i)) σ H R := by
  rcases h with h | h
  · exact .inl ⟨.ref a, e, a, rfl, ⟨xs, SqL.of h⟩, k _ (.inl ⟨rfl, h⟩)⟩
  · exact .inr ⟨.ref a, e, a, rfl, ⟨xs, SqT.of h⟩, k _ (.inr ⟨rfl, h⟩)⟩
theorem r_lturn {L : Addr} {P : List V → Hp → Prop} (k : g x (wipe σ vs) H fun σ2 H2 => wipe σ2 vs = wipe σ vs ∧ tt σ2 H2 fun b H3 => if b = true then te σ2 H3 fun y H4 => LPut L P y H4 else ∃ acc, H3 L = some (.lst acc) ∧ P acc H3) : LTurn g tt te vs σ L P x H := k
theorem r_yes {QT : Bool → Hp → Prop} (k : QT true H) : tYes σ H QT := k
/-- a while -/
def Tn (Pv : L2.St → Hp → Prop) (μ : L2.St → Hp → Nat) (m : Nat) (tb : TS) (D : Ends) (σ : L2.St) (H1 : Hp) : Prop := ∃ N : L2.St → Hp → Prop, (∀ σ' H', N σ' H' → ∃ m', m' < m ∧ (m' = μ σ' H' ∧ Pv σ' H')) ∧ tb { D with nx := N, ct := N, bk := D.nx } σ H1
theorem tn {Pv : L2.St → Hp → Prop} {μ : L2.St → Hp → Nat} {m : Nat} (k : ts { D with nx := fun σ' H' => Pv σ' H' ∧ μ σ' H' < m, ct := fun σ' H' => Pv σ' H' ∧ μ σ' H' < m, bk := D.nx } σ H) : Tn Pv μ m ts D σ H :=
  ⟨_, fun σ' H' h => ⟨_, h.2, rfl, h.1⟩, k⟩
theorem r_while {c : TT} (Pv : L2.St → Hp → Prop) (μ : L2.St → Hp → Nat) (h0 : Pv σ H) (hs : ∀ σ H, Pv σ H → c σ H fun b H1 => if b = true then Tn Pv μ (μ σ H) ts D σ H1 else D.nx σ H1) : tWhile c ts D σ H := by
  refine ⟨fun m σ H => m = μ σ H ∧ Pv σ H, ⟨_, rfl, h0⟩, ?_⟩
  rintro m σ H ⟨rfl, p⟩
  exact hs σ H p
/-- slices -/
theorem r_sl {r : V → Option Int → Option Int → Hp → VK → Prop} {tl th : TO} (k : te σ H fun x H1 => tl σ H1 fun l H2 => th σ H2 fun u H3 => r x l u H3 Q) : L2.tSl r te tl th σ H Q := k
theorem r_slL {lo hi : Option Int} (h : H a = some (.lst xs)) (k : ∀ p H', Ex H H' → H p = none → H' p = some (.lst (cutV xs lo hi)) → Q (.ref p) H') : rSlL K (.ref a) lo hi H Q := ⟨a, xs, rfl, SqL.of h, fun p hp => k p _ (Ex.new hp) hp upd_same⟩
/-- methods of built-in types -/
theorem r_bm {T : String} {r : V → List V → Hp → VK → Prop} (k : ta σ H fun x H1 => tyV K T x H1 ∧ tr σ H1 fun xs H2 => r x xs H2 Q) : tBM K T r ta tr σ H Q := k
theorem ty_l (h : H a = some (.lst xs)) : tyV K "list" (.ref a) H := .inl ⟨rfl, xs, SqL.of h⟩
theorem r_app (h : H l = some (.lst xs)) (hn : xs.length ≤ 1000000) (k : Q .non (upd H l (.lst (xs ++ [y])))) : rAppend (.ref l) [y] H Q := ⟨l, xs, y, rfl, rfl, h, by rw [sizeLine_eq]; omega, k⟩
theorem r_cat {b : Addr} {zs : List V} (h : H a = some (.lst xs)) (h' : H b = some (.lst zs)) (hn : xs.length + zs.length ≤ 1000000) (k : ∀ p H', Ex H H' → H p = none → H' p = some (.lst (xs ++ zs)) → Q (.ref p) H') : rCat (.ref a) (.ref b) H Q :=
  ⟨a, b, xs, zs, rfl, rfl, h, h', by rw [sizeLine_eq]; omega, fun p hp => k p _ (Ex.new hp) hp upd_same⟩
end
theorem none_of {H H' : Hp} {p : Addr} (e : Ex H H') (h : H' p = none) : H p = none := by
  cases z : H p with
  | none => rfl
  | some o => rw [e _ _ z] at h; cases h
/-- what was there before L stays whatever becomes of L -/
theorem Ex.put {H H' : Hp} {L : Addr} {o : HO} (e : Ex H H') (h : H L = none) : Ex H (upd H' L o) := fun a u q => by
  rw [upd_ne (ne_of_none q h)]; exact e a u q
theorem Le.put {H H' : Hp} {L : Addr} {o : HO} (e : Le H H') (h : H L = none) : Le H (upd H' L o) := fun a u q s => by
  rw [upd_ne (ne_of_none q h)]; exact e a u q s
theorem IsR.put {C p L : Addr} {H : Hp} {q : Rat} {xs : List V} {o : HO} (h : IsR C H p q) (hl : H L = some (.lst xs)) : IsR C (upd H L o) p q := by
  obtain ⟨dx, h⟩ := h
  exact ⟨dx, by rw [upd_ne (ne_of h hl (by intro z; cases z))]; exact h⟩
theorem cutV_all (xs : List V) : cutV xs none none = xs := by
  unfold cutV
  show (xs.drop 0).take (xs.length - 0) = xs
  simp
def rLen (K : PySem.W.Frag) : List V → Hp → VK → Prop := fun xs H Q => ∃ p ys, xs = [.ref p] ∧ (SqL K H p ys ∨ SqT K H p ys) ∧ Q (.int (List.length ys : Int)) H
def rListOf (K : PySem.W.Frag) : List V → Hp → VK → Prop := fun xs H Q => ∃ p ys, xs = [.ref p] ∧ (SqL K H p ys ∨ SqT K H p ys) ∧ ∀ l, H l = none → Q (.ref l) (upd H l (.lst ys))
def rTru (K : PySem.W.Frag) : V → Hp → (Bool → Hp → Prop) → Prop := fun x H Q => ∃ k, TruV K x H k ∧ Q k H
section
variable {X : Cx} {K : PySem.W.Frag} {e o : Expr} {es : List Expr} {ta tv tl to : TE} {tr : TA} {f : Str} {pos pos' p tpos : Pos} {tg : Expr} {value : Expr}
theorem kix_l (h : X.K = K) : IxR X (rIxL K) := by subst h; exact ix_list
theorem kix_t (h : X.K = K) : IxR X (rIxT K) := by subst h; exact ix_tup
theorem kc_len (h : X.K = K) : CallR X (.builtin "len") (rLen K) := by subst h; exact call_len_seq
theorem kc_listof (h : X.K = K) : CallR X (.type "list") (rListOf K) := by subst h; exact call_list_of
theorem kc_isi (h : X.K = K) : CallR X (.builtin "isinstance") (rIsi K) := by subst h; exact call_isi
theorem kc_isiT (h : X.K = K) : CallR X (.builtin "isinstance") (rIsiT K) := by subst h; exact call_isiT
theorem kfld (h : X.K = K) (he : PE X e ta) (hb : attributeBase e f X.env (eval e X.env) = eval e X.env) : PE X (.Attribute e f pos) (tFld K ta f) := by subst h; exact pe_fld he hb
theorem ksfld (h : X.K = K) (ha : PE X o ta) (hv : PE X value tv) (hs : swapsWith value (some (.Attribute o f pos')) pos.line X.env = pure false) : PS X (.Assign [.Attribute o f pos'] value pos) (sFld K ta tv f) := by subst h; exact ps_fld ha hv hs
theorem kpg_tup {es : List Expr} {k : Nat} {t : TGs} (n : Nat) (h : X.K = K) (hc : X.calm = true) (hp : PGs X es t)
    (hn : (assignEach es X.env).length = n := by rfl) (hst : (assignEach es X.env).findIdx? (·.1) = none := by rfl) : PG X (.Tuple es k pos) (gTup K n t) := by subst h; exact pg_tup hc hp hn hst
theorem kpi_l (h : X.K = K) (hl : PE X e tl) : L2.PI X tg e (iList K tl) := by subst h; exact pi_list hl
theorem kpi_t (h : X.K = K) (hl : PE X e tl) : L2.PI X tg e (iTup K tl) := by subst h; exact pi_tup hl
theorem kpi_or {w1 w2 : TI} (h1 : L2.PI X tg e w1) (h2 : L2.PI X tg e w2) : L2.PI X tg e (iOr w1 w2) := ⟨fun pins s σ H R I h => h.elim (h1.run pins s σ H R I) (h2.run pins s σ H R I)⟩
theorem kpi_zip {e2 : Expr} {elts : List Expr} {kk : Nat} (h : X.K = K) (hg : Gl X "zip") (hm : X.mg "zip" = none) (ha : PA X [e, e2] tr)
    (hs : starEach [e, e2] X.env = (false, eval e X.env) :: starEach [e2] X.env := by rfl) (hpl : (backTo pos (starEach [e2] X.env)).any (·.1) = false := by rfl) :
    L2.PI X (.Tuple elts kk tpos) (.Call (.Name "zip" p) [e, e2] [] pos) (RZ.iZipA K tr) := by subst h; exact RZ.pi_zipA hg hm ha hs hpl
theorem ksl_l (h : X.K = K) : SlR X (rSlL K) := by subst h; exact sl_list
theorem ksl_t (h : X.K = K) : SlR X (rSlT K) := by subst h; exact sl_tup
theorem kop_eqD (h : X.K = K) (hu : X.A.units + 64 < cLine) : OpR X (compareOp .Eq) (rEqD K) := by subst h; exact op_eqD hu
theorem kop_neD (h : X.K = K) (hu : X.A.units + 64 < cLine) : OpR X (compareOp .NotEq) (rNeD K) := by subst h; exact op_neD hu
theorem ktru (h : X.K = K) : TruR X (rTru K) := by subst h; exact tru_ok
theorem kapp {e : Expr} {es : List Expr} {apos cpos : Pos} {T id : String} {r : V → List V → Hp → VK → Prop} {name : Str} (h : X.K = K) (pa : PlainAttrs T) (slot : Slot T name id) (hty : typeOf (.builtin id) = pure (.type "method_descriptor")) (hm : MtR X id r) (ho : PE X o to) (ha : PA X (e :: es) tr)
    (hbase : attributeBase o name X.env (eval o X.env) = eval o X.env := by rfl)
    (hfew : ((backTo cpos (starEach (e :: es) X.env)).all (fun x => !x.1) && (backToKw cpos (keywordEach [] X.env)).all (fun x => x.1.isSome)
      && decide ((e :: es).length + ([] : List Keyword).length + (if ([] : List Keyword).isEmpty then 0 else 1) < 30)) = true := by rfl)
    (hline : (apos.endLine == cpos.line) = true := by rfl) (hs : starEach (e :: es) X.env = (false, eval e X.env) :: starEach es X.env := by rfl) (hplain : (backTo cpos (starEach es X.env)).any (·.1) = false := by rfl) :
    PE X (.Call (.Attribute o name apos) (e :: es) [] cpos) (tBM K T r to tr) := by subst h; exact pe_bm pa slot hty hm ho ha hbase hfew hline hs hplain
section
variable {k j : Nat} {C f g : Addr} {sp : Sp} {E : XK}
theorem kC_eq (h : X.K = K) (c : Cm X.prog X.w K X.mg X.base k C "__eq__" f sp) (hr : Room j X.A) (hk : k ≤ j) (hx : Passes (L2.CX X.prog X.w) X E) : OpR X (compareOp .Eq) (rO C sp E (isAny K C)) := by subst h; exact opC_eq c hr hk hx
theorem kC_lt (h : X.K = K) (c : Cm X.prog X.w K X.mg X.base k C "__lt__" f sp) (hr : Room j X.A) (hk : k ≤ j) (hx : Passes (L2.CX X.prog X.w) X E) : OpR X (compareOp .Lt) (rO C sp E (isAny K C)) := by subst h; exact opC_lt c hr hk hx
theorem kC_le (h : X.K = K) (c : Cm X.prog X.w K X.mg X.base k C "__le__" f sp) (hr : Room j X.A) (hk : k ≤ j) (hx : Passes (L2.CX X.prog X.w) X E) : OpR X (compareOp .LtE) (rO C sp E (isAny K C)) := by subst h; exact opC_le c hr hk hx
theorem kC_gt (h : X.K = K) (c : Cm X.prog X.w K X.mg X.base k C "__gt__" f sp) (hr : Room j X.A) (hk : k ≤ j) (hx : Passes (L2.CX X.prog X.w) X E) : OpR X (compareOp .Gt) (rO C sp E (isAny K C)) := by subst h; exact opC_gt c hr hk hx
theorem kC_ge (h : X.K = K) (c : Cm X.prog X.w K X.mg X.base k C "__ge__" f sp) (hr : Room j X.A) (hk : k ≤ j) (hx : Passes (L2.CX X.prog X.w) X E) : OpR X (compareOp .GtE) (rO C sp E (isAny K C)) := by subst h; exact opC_ge c hr hk hx
theorem kNe (h : X.K = K) (kc : ClsO K C) (c : Cm X.prog X.w K X.mg X.base k C "__eq__" f sp) (hr : Room j X.A) (hk : k + 1 ≤ j) (hx : Passes (L2.CX X.prog X.w) X E) : OpR X (compareOp .NotEq) (rNO C sp E (isAny K C)) := by subst h; exact opNe kc c hr hk hx
end
end
section
variable {K : PySem.W.Frag} {H : Hp} {Q : VK} {a : Addr} {xs : List V}
theorem q_lenL (h : H a = some (.lst xs)) (k : Q (.int (xs.length : Int)) H) : rLen K [.ref a] H Q := ⟨a, xs, rfl, .inl (SqL.of h), k⟩
theorem q_lenT (h : H a = some (.tup xs)) (k : Q (.int (xs.length : Int)) H) : rLen K [.ref a] H Q := ⟨a, xs, rfl, .inr (SqT.of h), k⟩
theorem q_lenLT (h : SeqAt1 H a xs) (k : Q (.int (xs.length : Int)) H) : rLen K [.ref a] H Q := by
  rcases h with h | h
  · exact ⟨a, xs, rfl, .inl (SqL.of h), k⟩
  · exact ⟨a, xs, rfl, .inr (SqT.of h), k⟩
theorem q_listL (h : H a = some (.lst xs)) (k : ∀ p H', Ex H H' → H p = none → H' p = some (.lst xs) → Q (.ref p) H') : rListOf K [.ref a] H Q := ⟨a, xs, rfl, .inl (SqL.of h), fun l hl => k l _ (Ex.new hl) hl upd_same⟩
theorem q_truI {i : Int} {QT : Bool → Hp → Prop} (k : QT (decide (i ≠ 0)) H) : rTru K (.int i) H QT := ⟨i != 0, rfl, by
  have e : (i != 0) = decide (i ≠ 0) := by rw [Bool.eq_iff_iff]; simp
  rw [e]; exact k⟩
theorem q_truB {b : Bool} {QT : Bool → Hp → Prop} (k : QT b H) : rTru K (.bl b) H QT := ⟨b, rfl, k⟩
end
theorem r_part {te : TE} {σ : L2.St} {H : Hp} {QO : Option Int → Hp → Prop} (k : te σ H fun x H1 => ∃ i, x = .int i ∧ QO (some i) H1) : tPart te σ H QO := k
theorem r_nopart {σ : L2.St} {H : Hp} {QO : Option Int → Hp → Prop} (k : QO none H) : tNoPart σ H QO := k
theorem r_intP {j : Int} {R : Int → Prop} (k : R j) : ∃ i, V.int j = .int i ∧ R i := ⟨j, rfl, k⟩
theorem r_parP {v w : V} {R : V → V → Prop} (k : R v w) : ∃ v' w', [v, w] = [v', w'] ∧ R v' w' := ⟨v, w, rfl, k⟩
theorem r_parP3 {v w z : V} {R : V → V → V → Prop} (k : R v w z) : ∃ v' w' z', [v, w, z] = [v', w', z'] ∧ R v' w' z' := ⟨v, w, z, rfl, k⟩
theorem r_turn1 {g : TG} {tb : TS} {D : Ends} {N : L2.St → Hp → Prop} {x : V} {σ : L2.St} {H : Hp} (k : g x σ H fun σ2 H2 => tb { D with nx := N, ct := N, bk := D.nx } σ2 H2) : Turn1 g tb D N x σ H := k
end
open PySem PySem.Spec PyProof.Rows L2 RZ
local macro_rules | `(tactic| wtm_at "of_rd1") => `(tactic| with_reducible first
  | refine r_par ?_ | refine r_par3 ?_ | refine r_parP ?_ | refine r_parP3 ?_ | refine r_part ?_ | refine r_nopart ?_ | refine r_intP ?_ | refine r_for ?_ | refine r_iL ?_ | refine r_iT ?_ | refine r_iR1 ?_ | refine r_iR2 ?_ | refine r_iR3 ?_ | refine r_iZ ?_ | refine r_lc ?_ | refine r_sl ?_ | refine r_bm ?_ | refine r_turn1 ?_ | refine r_lturn ?_ | refine r_yes ?_
  | refine r_seq ?_ | refine r_asg ?_ | refine r_ret ?_ | refine r_sfld ?_ | refine r_ifS ?_ | refine r_drop ?_ | refine r_next ?_ | refine r_retN ?_ | refine r_gcd ?_
  | refine r_op ?_ | refine r_un ?_ | refine r_fld ?_ | refine r_cons ?_ | refine r_nil ?_ | refine r_c ?_ | refine r_c1 ?_ | refine r_cb ?_ | refine r_ck ?_ | refine r_cm ?_
  | refine r_test ?_ | refine r_B ?_ | refine r_and ?_ | refine r_or ?_ | refine r_not ?_ | refine r_andV ?_ | refine r_orV ?_ | refine r_notV ?_ | refine r_ifE ?_
  | refine r_tr ?_ | refine r_name ?_ | refine r_blP ?_ | refine r_tup ?_ | refine r_lst ?_ | refine r_gCons ?_ | refine r_gNil ?_ | refine r_rz ?_
  | refine r_var (by with_unfolding_all rfl) ?_
  | refine iteT ?_ | refine iteF ?_ | refine iteNT ?_ | refine iteNF ?_
  | refine r_I0 ?_ | refine r_Ibt (by wtm_at "of_btl") (by wtm_at "of_btl") ?_ | refine r_U ?_ | refine r_eqI ?_ | refine r_neI ?_
  | refine r_top (by assumption) (by with_unfolding_all rfl) (by wtm_at "of_up") ?_ | refine r_bot (by assumption) (by with_unfolding_all rfl) (by wtm_at "of_up") ?_)
section
open PySem PySem.Spec PyProof.Rows L2 RZ
section
variable {K : PySem.W.Frag} {σ : L2.St} {H : Hp} {Q : VK} {QT : Bool → Hp → Prop} {D : Ends} {te : TE} {x : V} {i : Nat} {p : Addr} {xs : List V} {v : V}
theorem r_aug {ti : TIp} (h : σ[i]? = some (some x)) (k : te σ H fun y H1 => ti x y H1 fun z H2 => D.nx (σ.set i (some z)) H2) : tAug i te ti D σ H := ⟨x, h, k⟩
theorem r_ipI {f : Int → Int → Int} {a b : Int} (k : Q (.int (f a b)) H) : ipI f (.int a) (.int b) H Q := ⟨a, b, rfl, rfl, k⟩
theorem r_iL1 (h : H p = some (.lst xs)) {j : Int} (e : atI xs j = some v) (k : Q v H) : rIxL K (.ref p) (.int j) H Q := ⟨p, xs, j, v, rfl, rfl, SqL.of h, e, k⟩
theorem r_iT1 (h : H p = some (.tup xs)) {j : Int} (e : atI xs j = some v) (k : Q v H) : rIxT K (.ref p) (.int j) H Q := ⟨p, xs, j, v, rfl, rfl, SqT.of h, e, k⟩
end
/-- a comprehension's items, all new objects -/
structure Acc (P : Nat → Addr → Hp → Prop) (acc : List V) (i : Nat) (H : Hp) : Prop where
  len : acc.length = i
  at_ : ∀ j, j < i → ∃ p : Addr, acc[j]? = some (V.ref p) ∧ P j p H
theorem Acc.nil {P : Nat → Addr → Hp → Prop} {H : Hp} : Acc P [] 0 H := ⟨rfl, fun j h => absurd h (Nat.not_lt_zero j)⟩
theorem Acc.snoc {P : Nat → Addr → Hp → Prop} {acc : List V} {i : Nat} {H H' : Hp} {p : Addr} (hP : ∀ j q, P j q H → P j q H') (a : Acc P acc i H) (h : P i p H') : Acc P (acc ++ [V.ref p]) (i + 1) H' := by
  refine ⟨by rw [List.length_append, a.len]; rfl, fun j hj => ?_⟩
  by_cases e : j < i
  · obtain ⟨q, h1, h2⟩ := a.at_ j e
    exact ⟨q, by rw [List.getElem?_append_left (by rw [a.len]; exact e)]; exact h1, hP j q h2⟩
  · have : j = i := by omega
    subst this
    exact ⟨p, by rw [List.getElem?_append_right (by rw [a.len]; omega), a.len]; simp, h⟩
theorem r_iRC {i j c : Int} {n : Nat} {H : Hp} {R : It → Hp → Prop} (h : RgC i j c n) (k : R (Itc i c n) H) : ItR3 [.int i, .int j, .int c] H R := ⟨i, j, c, n, rfl, h, k⟩
theorem rg2 {m : Nat} (h : 2 ≤ m) (h' : m ≤ 1000000) : RgC 0 ((m : Int) - 1) 2 (m / 2) := by
  have e : Builtin.Range.rangeSize 0 ((m : Int) - 1) 2 = ((m / 2 : Nat) : Int) := by
    unfold Builtin.Range.rangeSize
    rw [if_pos (by decide), if_pos (by omega)]; omega
  refine ⟨by decide, by decide, ?_, e⟩
  unfold Builtin.Range.small
  rw [e]
  simp only [Builtin.Range.rangeFitsLong, Bool.and_eq_true, Bool.or_eq_true, decide_eq_true_eq, beq_iff_eq, show (2 : Int) > 0 by decide, if_true]
  omega
end
section
open PySem PySem.Spec PyProof.Rows L2
theorem rlt_asymm {a b : Rat} (h : a < b) : ¬ b < a := by grind
theorem rlt_trans {a b c : Rat} (h : a < b) (h' : b < c) : a < c := by grind
theorem rlt_tri {a b : Rat} (h : a ≠ b) : a < b ∨ b < a := by grind
def lexLt : List Rat → List Rat → Bool
  | a :: as, b :: bs => if a = b then lexLt as bs else decide (a < b)
  | [], _ :: _ => true
  | _, [] => false
theorem lexLt_asymm : ∀ a b : List Rat, lexLt a b = true → lexLt b a = false
  | [], [], h => by cases h
  | [], _ :: _, _ => rfl
  | _ :: _, [], h => by cases h
  | a :: as, b :: bs, h => by
    unfold lexLt at h ⊢
    by_cases e : a = b
    · rw [if_pos e] at h; rw [if_pos e.symm]; exact lexLt_asymm as bs h
    · rw [if_neg e] at h; rw [if_neg (fun z => e z.symm)]
      rw [decide_eq_true_iff] at h; rw [decide_eq_false_iff_not]
      exact rlt_asymm h
theorem lexLt_step : ∀ a b c : List Rat, lexLt c a = true → lexLt c b = true ∨ lexLt b a = true
  | [], _, [], h => by cases h
  | [], _, _ :: _, h => by cases h
  | _ :: _, [], [], _ => .inr rfl
  | _ :: _, _ :: _, [], _ => .inl rfl
  | _ :: _, [], _ :: _, _ => .inr rfl
  | a :: as, b :: bs, c :: cs, h => by
    unfold lexLt at h ⊢
    by_cases e : c = a
    · rw [if_pos e] at h
      subst e
      by_cases e2 : c = b
      · rw [if_pos e2, if_pos e2.symm]; exact lexLt_step as bs cs h
      · rw [if_neg e2, if_neg (fun z => e2 z.symm), decide_eq_true_iff, decide_eq_true_iff]
        rcases rlt_tri e2 with z | z
        · exact .inl z
        · exact .inr z
    · rw [if_neg e, decide_eq_true_iff] at h
      by_cases e2 : c = b
      · subst e2; rw [if_neg e, decide_eq_true_iff]; exact .inr h
      · rw [if_neg e2, decide_eq_true_iff]
        rcases rlt_tri e2 with z | z
        · exact .inl z
        · right
          rw [if_neg (fun w => by subst w; exact rlt_asymm h z), decide_eq_true_iff]
          exact rlt_trans z h
def leftOf (n i : Nat) (σ : L2.St) : Nat := match σ[i]? with
  | some (some (V.int a)) => n - a.toNat
  | _ => 0
/-- the Ratios of a tuple or list -/
def RsL (C : Addr) (H : Hp) (xs : List V) (k : List Rat) : Prop := xs.length = k.length ∧ ∀ (i : Nat) (q : Rat), k[i]? = some q → ∃ p : Addr, xs[i]? = some (V.ref p) ∧ IsR C H p q
def KeyT (C : Addr) (H : Hp) (a : Addr) (k : List Rat) : Prop := ∃ xs, H a = some (.tup xs) ∧ RsL C H xs k
def Keys (C : Addr) (H : Hp) (a : Addr) (ks : List (List Rat)) : Prop := ∃ xs, H a = some (.lst xs) ∧ xs.length = ks.length ∧ ∀ (i : Nat) (k : List Rat), ks[i]? = some k → ∃ p : Addr, xs[i]? = some (V.ref p) ∧ KeyT C H p k
/-- keys of one length, of no great numbers -/
def KOk (m : Nat) (ks : List (List Rat)) : Prop := ∀ k ∈ ks, k.length = m ∧ ∀ q ∈ k, Bq q
abbrev nat (n : Nat) : V := .int n
def leK (ks : List (List Rat)) (i j : Nat) : Bool := !(lexLt (ks.getD j []) (ks.getD i []))
def spBefore (C : Addr) : Sp := fun vs H Q _ => ∃ (a b : Addr) (ka kb : List Rat), vs = [.ref a, .ref b] ∧ KeyT C H a ka ∧ KeyT C H b kb ∧ ka.length = kb.length ∧ (∀ q ∈ ka, Bq q) ∧ (∀ q ∈ kb, Bq q) ∧ NewV Q H (.bl (lexLt ka kb))
def spMerged (C : Addr) : Sp := fun vs H Q _ => ∃ (l r k : Addr) (L R : List Nat) (ks : List (List Rat)) (m : Nat), vs = [.ref l, .ref r, .ref k] ∧ H l = some (.lst (L.map nat)) ∧ H r = some (.lst (R.map nat)) ∧ Keys C H k ks ∧ KOk m ks ∧ L.length + R.length ≤ 1000 ∧ (∀ i ∈ L, i < ks.length) ∧ (∀ i ∈ R, i < ks.length) ∧
  ∀ (H' : Hp) (p : Addr), Ex H H' → H p = none → H' p = some (.lst ((List.merge L R (leK ks)).map nat)) → Q (.ref p) H'
def spRanked (C : Addr) : Sp := fun vs H Q _ => ∃ (k : Addr) (ks : List (List Rat)) (m : Nat), vs = [.ref k] ∧ Keys C H k ks ∧ KOk m ks ∧ ks.length ≤ 1000 ∧
  ∀ (H' : Hp) (p : Addr) (idx : List Nat), Ex H H' → H' p = some (.lst (idx.map nat)) → idx.Perm (List.range ks.length) → idx.Pairwise (fun i j => leK ks i j = true) → Q (.ref p) H'
def spAscending (C : Addr) : Sp := fun vs H Q _ => ∃ (k : Addr) (xs : List V) (qs : List Rat), vs = [.ref k] ∧ SeqAt1 H k xs ∧ xs.length = qs.length ∧ (∀ (i : Nat) (q : Rat), qs[i]? = some q → ∃ v, xs[i]? = some v ∧ NumV C H v q) ∧ (∀ q ∈ qs, Bq q) ∧ qs.length ≤ 1000 ∧
  ∀ (H' : Hp) (p : Addr) (ys : List V) (rs : List Rat), Ex H H' → H p = none → H' p = some (.lst ys) → RsL C H' ys rs → rs.Perm qs → rs.Pairwise (· ≤ ·) → Q (.ref p) H'
theorem lex_at {C : Addr} {H : Hp} {xs ys : List V} {ka kb : List Rat} {x y : V} {i : Nat} (hx : RsL C H xs ka) (hy : RsL C H ys kb) (hl : ka.length = kb.length) (h1 : xs[i]? = some x) (h2 : ys[i]? = some y) :
    ∃ q p r p', ka[i]? = some q ∧ kb[i]? = some r ∧ x = .ref p ∧ y = .ref p' ∧ IsR C H p q ∧ IsR C H p' r ∧ lexLt (ka.drop i) (kb.drop i) = if q = r then lexLt (ka.drop (i + 1)) (kb.drop (i + 1)) else decide (q < r) := by
  have i1 : i < xs.length := (List.getElem?_eq_some_iff.mp h1).1
  have ia : i < ka.length := by rw [← hx.1]; exact i1
  have ib : i < kb.length := by rw [← hl]; exact ia
  obtain ⟨p, hp, R1⟩ := hx.2 i ka[i] (List.getElem?_eq_getElem ia)
  obtain ⟨p', hp', R2⟩ := hy.2 i kb[i] (List.getElem?_eq_getElem ib)
  rw [hp] at h1; rw [hp'] at h2
  cases h1; cases h2
  refine ⟨ka[i], p, kb[i], p', List.getElem?_eq_getElem ia, List.getElem?_eq_getElem ib, rfl, rfl, R1, R2, ?_⟩
  rw [List.drop_eq_getElem_cons ia, List.drop_eq_getElem_cons ib]
  rfl
theorem leK_trans (ks : List (List Rat)) (a b c : Nat) (h1 : leK ks a b = true) (h2 : leK ks b c = true) : leK ks a c = true := by
  unfold leK at *
  rw [Bool.not_eq_true'] at *
  cases h : lexLt (ks.getD c []) (ks.getD a []) with
  | false => rfl
  | true =>
    rcases lexLt_step _ (ks.getD b []) _ h with z | z
    · rw [z] at h2; cases h2
    · rw [z] at h1; cases h1
theorem leK_total (ks : List (List Rat)) (a b : Nat) : (leK ks a b || leK ks b a) = true := by
  unfold leK
  cases h : lexLt (ks.getD b []) (ks.getD a []) with
  | false => rfl
  | true => rw [lexLt_asymm _ _ h]; rfl
/-- one step of a merge -/
theorem merge_at {le : Nat → Nat → Bool} {L R : List Nat} {a i x y : Nat} (hx : L[a]? = some x) (hy : R[i]? = some y) :
    List.merge (L.drop a) (R.drop i) le = if le x y = true then x :: List.merge (L.drop (a + 1)) (R.drop i) le else y :: List.merge (L.drop a) (R.drop (i + 1)) le := by
  obtain ⟨ha, rfl⟩ := List.getElem?_eq_some_iff.mp hx
  obtain ⟨hi, rfl⟩ := List.getElem?_eq_some_iff.mp hy
  rw [List.drop_eq_getElem_cons ha, List.drop_eq_getElem_cons hi, List.cons_merge_cons]
theorem nat_at {L : List Nat} {i : Nat} {v : V} (h : (L.map nat)[i]? = some v) : ∃ x, L[i]? = some x ∧ v = nat x := by
  rw [List.getElem?_map] at h
  cases e : L[i]? with
  | none => rw [e] at h; cases h
  | some x => rw [e] at h; exact ⟨x, rfl, (Option.some.inj h).symm⟩
theorem key_at {C : Addr} {H : Hp} {xs : List V} {ks : List (List Rat)} {i : Nat} (hl : xs.length = ks.length) (h : ∀ (i : Nat) (k : List Rat), ks[i]? = some k → ∃ p : Addr, xs[i]? = some (V.ref p) ∧ KeyT C H p k) (hi : i < ks.length) :
    ∃ p, atI xs (i : Int) = some (V.ref p) ∧ KeyT C H p (ks.getD i []) := by
  obtain ⟨p, h1, h2⟩ := h i ks[i] (List.getElem?_eq_getElem hi)
  refine ⟨p, atI_nat h1, ?_⟩
  rw [List.getD_eq_getElem?_getD, List.getElem?_eq_getElem hi]; exact h2
theorem key_ok {m : Nat} {ks : List (List Rat)} {i : Nat} (h : KOk m ks) (hi : i < ks.length) : (ks.getD i []).length = m ∧ ∀ q ∈ ks.getD i [], Bq q := by
  rw [List.getD_eq_getElem?_getD, List.getElem?_eq_getElem hi]; exact h _ (List.getElem_mem hi)
theorem RsL.ex {C : Addr} {H H' : Hp} {xs : List V} {k : List Rat} (e : Ex H H') (h : RsL C H xs k) : RsL C H' xs k := ⟨h.1, fun i q hq => by
  obtain ⟨p, h1, h2⟩ := h.2 i q hq
  exact ⟨p, h1, h2.ex e⟩⟩
theorem KeyT.ex {C a : Addr} {H H' : Hp} {k : List Rat} (e : Ex H H') (h : KeyT C H a k) : KeyT C H' a k := by
  obtain ⟨xs, h1, h2⟩ := h
  exact ⟨xs, e _ _ h1, h2.ex e⟩
theorem Keys.ex {C a : Addr} {H H' : Hp} {k : List (List Rat)} (e : Ex H H') (h : Keys C H a k) : Keys C H' a k := by
  obtain ⟨xs, h1, h2, h3⟩ := h
  exact ⟨xs, e _ _ h1, h2, fun i k hk => by
    obtain ⟨p, h4, h5⟩ := h3 i k hk
    exact ⟨p, h4, h5.ex e⟩⟩
theorem cutV_from {xs : List V} {a : Nat} (h : a ≤ xs.length) : cutV xs (some (a : Int)) none = xs.drop a := by
  unfold cutV
  have e1 : HT.sIx xs.length 0 (some (a : Int)) = a := by
    unfold HT.sIx
    show (if (a : Int) < 0 then ((a : Int) + xs.length).toNat else min (a : Int).toNat xs.length) = a
    rw [if_neg (by omega)]; omega
  have e2 : HT.sIx xs.length xs.length none = xs.length := rfl
  rw [e1, e2, List.take_of_length_le (by rw [List.length_drop]; omega)]
/-- a list of lists of indexes -/
def RowsAt (H : Hp) (r : Addr) (rs : List (List Nat)) : Prop := ∃ xs, H r = some (.lst xs) ∧ Acc (fun j p H => ∃ s, rs[j]? = some s ∧ H p = some (.lst (s.map nat))) xs rs.length H
theorem RowsAt.ex {H H' : Hp} {r : Addr} {rs : List (List Nat)} (e : Ex H H') (h : RowsAt H r rs) : RowsAt H' r rs := by
  obtain ⟨xs, h1, h2⟩ := h
  exact ⟨xs, e _ _ h1, h2.len, fun j hj => by
    obtain ⟨p, h3, s, h4, h5⟩ := h2.at_ j hj
    exact ⟨p, h3, s, h4, e _ _ h5⟩⟩
def rowsLeft (σ : L2.St) (H : Hp) : Nat := match σ[1]? with
  | some (some (V.ref r)) => (match H r with | some (.lst xs) => xs.length | _ => 0)
  | _ => 0
theorem rowsLeft_at {a b c d : Option V} {r : Addr} {H : Hp} {rs : List (List Nat)} (h : RowsAt H r rs) : rowsLeft [a, some (V.ref r), b, c, d] H = rs.length := by
  obtain ⟨xs, h1, h2⟩ := h
  show (match H r with | some (.lst xs) => xs.length | _ => 0) = _
  rw [h1]; exact h2.len
/-- pairs of rows merged -/
def joinRows (le : Nat → Nat → Bool) : List (List Nat) → List (List Nat)
  | a :: b :: rs => List.merge a b le :: joinRows le rs
  | rs => rs
theorem joinRows_perm (le : Nat → Nat → Bool) : ∀ rs, (joinRows le rs).flatten.Perm rs.flatten
  | [] => .refl _
  | [_] => .refl _
  | a :: b :: rs => by
    show (List.merge a b le ++ (joinRows le rs).flatten).Perm (a ++ (b ++ rs.flatten))
    rw [← List.append_assoc]
    exact (List.merge_perm_append le).append (joinRows_perm le rs)
theorem joinRows_sorted {le : Nat → Nat → Bool} (tr : ∀ a b c, le a b = true → le b c = true → le a c = true) (to : ∀ a b, (le a b || le b a) = true) : ∀ rs : List (List Nat), (∀ s ∈ rs, s.Pairwise (fun a b => le a b = true)) → ∀ s ∈ joinRows le rs, s.Pairwise (fun a b => le a b = true)
  | [], h => h
  | [_], h => h
  | a :: b :: rs, h => by
    intro s hs
    rcases List.mem_cons.mp hs with e | e
    · subst e
      exact List.pairwise_merge tr to a b (h a (by simp)) (h b (by simp))
    · exact joinRows_sorted tr to rs (fun s z => h s (by simp [z])) s e
theorem joinRows_length (le : Nat → Nat → Bool) : ∀ rs, (joinRows le rs).length = (rs.length + 1) / 2
  | [] => rfl
  | [_] => by simp [joinRows]
  | a :: b :: rs => by
    show (joinRows le rs).length + 1 = (rs.length + 1 + 1 + 1) / 2
    rw [joinRows_length le rs]; omega
theorem joinRows_at (le : Nat → Nat → Bool) : ∀ (rs : List (List Nat)) (i : Nat), 2 * i + 1 < rs.length → ∃ a b, rs[2 * i]? = some a ∧ rs[2 * i + 1]? = some b ∧ (joinRows le rs)[i]? = some (List.merge a b le)
  | [], i, h => by simp at h
  | [_], i, h => by simp at h
  | a :: b :: rs, 0, h => ⟨a, b, rfl, rfl, rfl⟩
  | a :: b :: rs, i + 1, h => by
    obtain ⟨x, y, h1, h2, h3⟩ := joinRows_at le rs i (by simp at h; omega)
    refine ⟨x, y, ?_, ?_, h3⟩
    · rw [show 2 * (i + 1) = 2 * i + 1 + 1 from by omega]; exact h1
    · rw [show 2 * (i + 1) + 1 = 2 * i + 1 + 1 + 1 from by omega]; exact h2
theorem joinRows_tail (le : Nat → Nat → Bool) : ∀ rs : List (List Nat), (joinRows le rs).drop (rs.length / 2) = rs.drop (rs.length / 2 * 2)
  | [] => rfl
  | [_] => by simp [joinRows]
  | a :: b :: rs => by
    show (List.merge a b le :: joinRows le rs).drop ((rs.length + 1 + 1) / 2) = (a :: b :: rs).drop ((rs.length + 1 + 1) / 2 * 2)
    rw [show (rs.length + 1 + 1) / 2 = rs.length / 2 + 1 from by omega, show (rs.length / 2 + 1) * 2 = rs.length / 2 * 2 + 1 + 1 from by omega]
    exact joinRows_tail le rs
theorem flat_mem {n : Nat} {rs : List (List Nat)} (h : rs.flatten.Perm (List.range n)) {s : List Nat} (hs : s ∈ rs) : ∀ i ∈ s, i < n := fun i hi => by
  have : i ∈ List.range n := h.mem_iff.mp (List.mem_flatten.mpr ⟨s, hs, hi⟩)
  exact List.mem_range.mp this
theorem flat_len : ∀ {rs : List (List Nat)} {a b : Nat} {s t : List Nat}, rs[a]? = some s → rs[b]? = some t → a < b → s.length + t.length ≤ rs.flatten.length
  | [], _, _, _, _, h, _, _ => by simp at h
  | r :: rs, 0, b + 1, s, t, h1, h2, _ => by
    cases h1
    have : t.length ≤ rs.flatten.length := by
      have hm : t ∈ rs := List.mem_of_getElem? h2
      obtain ⟨l1, l2, rfl⟩ := List.append_of_mem hm
      simp; omega
    show r.length + t.length ≤ (r ++ rs.flatten).length
    rw [List.length_append]; omega
  | r :: rs, a + 1, b + 1, s, t, h1, h2, hab => by
    have := flat_len (rs := rs) (a := a) (b := b) h1 h2 (by omega)
    show _ ≤ (r ++ rs.flatten).length
    rw [List.length_append]; omega
theorem rows_next {le : Nat → Nat → Bool} {rs : List (List Nat)} {acc xs : List V} {H H' : Hp} {L p : Addr} (hx : Acc (fun j p H => ∃ s, rs[j]? = some s ∧ H p = some (.lst (s.map nat))) xs rs.length H)
    (ha : Acc (fun j p H => p ≠ L ∧ ∃ s, (joinRows le rs)[j]? = some s ∧ H p = some (.lst (s.map nat))) acc (rs.length / 2) H) (e : Ex H H') (hp : H' p = some (.lst (acc ++ xs.drop (rs.length / 2 * 2)))) : RowsAt H' p (joinRows le rs) := by
  refine ⟨_, hp, ?_, fun j hj => ?_⟩
  · rw [List.length_append, ha.len, List.length_drop, hx.len, joinRows_length]; omega
  · rw [joinRows_length] at hj
    by_cases h : j < rs.length / 2
    · obtain ⟨q, h1, _, s, h3, h4⟩ := ha.at_ j h
      exact ⟨q, by rw [List.getElem?_append_left (by rw [ha.len]; exact h)]; exact h1, s, h3, e _ _ h4⟩
    · have hj2 : rs.length / 2 * 2 + (j - rs.length / 2) < rs.length := by omega
      obtain ⟨q, h1, s, h3, h4⟩ := hx.at_ _ hj2
      refine ⟨q, by rw [List.getElem?_append_right (by rw [ha.len]; omega), ha.len, List.getElem?_drop]; exact h1, s, ?_, e _ _ h4⟩
      have t := congrArg (fun l => l[j - rs.length / 2]?) (joinRows_tail le rs)
      simp only [List.getElem?_drop] at t
      rw [show rs.length / 2 + (j - rs.length / 2) = j from by omega] at t
      rw [t]; exact h3
theorem RsL.put {C L : Addr} {H : Hp} {xs ys : List V} {k : List Rat} {o : HO} (h : RsL C H xs k) (hl : H L = some (.lst ys)) : RsL C (upd H L o) xs k := ⟨h.1, fun i q hq => by
  obtain ⟨p, h1, h2⟩ := h.2 i q hq
  exact ⟨p, h1, h2.put hl⟩⟩
theorem KeyT.put {C a L : Addr} {H : Hp} {ys : List V} {k : List Rat} {o : HO} (h : KeyT C H a k) (hl : H L = some (.lst ys)) : KeyT C (upd H L o) a k := by
  obtain ⟨xs, h1, h2⟩ := h
  exact ⟨xs, by rw [upd_ne (ne_of h1 hl (by intro z; cases z))]; exact h1, h2.put hl⟩
theorem RsL.of_acc {C : Addr} {H : Hp} {xs : List V} {qs : List Rat} (h : Acc (fun j p H => ∃ q, qs[j]? = some q ∧ IsR C H p q) xs qs.length H) : RsL C H xs qs := ⟨h.len, fun i q hq => by
  obtain ⟨p, h1, q', h2, h3⟩ := h.at_ i (List.getElem?_eq_some_iff.mp hq).1
  rw [hq] at h2; cases h2
  exact ⟨p, h1, h3⟩⟩
theorem one_key {C : Addr} {H : Hp} {a : Addr} {p : Addr} {q : Rat} (h : H a = some (.tup [V.ref p])) (hp : IsR C H p q) : KeyT C H a [q] := ⟨_, h, rfl, fun i r hr => by
  match i, hr with
  | 0, hr => cases hr; exact ⟨p, rfl, hp⟩⟩
theorem ord_perm {qs : List Rat} {idx : List Nat} (h : idx.Perm (List.range qs.length)) : (idx.map fun i => qs.getD i 0).Perm qs := by
  have := h.map (fun i => qs.getD i 0)
  refine this.trans (List.Perm.of_eq ?_)
  apply List.ext_getElem?
  intro i
  rw [List.getElem?_map]
  by_cases hi : i < qs.length
  · rw [List.getElem?_range hi, List.getElem?_eq_getElem hi]
    show some (qs.getD i 0) = _
    rw [List.getD_eq_getElem?_getD, List.getElem?_eq_getElem hi]; rfl
  · rw [List.getElem?_eq_none (by rw [List.length_range]; omega), List.getElem?_eq_none (by omega)]; rfl
theorem ord_sorted {qs : List Rat} {idx : List Nat} (hlt : ∀ i ∈ idx, i < qs.length) (h : idx.Pairwise (fun i j => leK (qs.map fun q => [q]) i j = true)) : (idx.map fun i => qs.getD i 0).Pairwise (· ≤ ·) := by
  rw [List.pairwise_map]
  refine List.Pairwise.imp_of_mem (fun {a b} ha hb z => ?_) h
  have la := hlt a ha
  have lb := hlt b hb
  unfold leK at z
  rw [List.getD_eq_getElem?_getD, List.getD_eq_getElem?_getD, List.getElem?_map, List.getElem?_map, List.getElem?_eq_getElem la, List.getElem?_eq_getElem lb] at z
  rw [List.getD_eq_getElem?_getD, List.getD_eq_getElem?_getD, List.getElem?_eq_getElem la, List.getElem?_eq_getElem lb]
  show qs[a] ≤ qs[b]
  have z' : (!(if qs[b] = qs[a] then lexLt [] [] else decide (qs[b] < qs[a]))) = true := z
  by_cases e : qs[b] = qs[a]
  · rw [e]; exact Rat.le_refl
  · rw [if_neg e, Bool.not_eq_true', decide_eq_false_iff_not, Rat.not_lt] at z'; exact z'
/-- least (m = 0), greatest (m = 1) -/
def spLeast (C CN : Addr) (m : Nat) : Sp := fun vs H Q E => ∃ (k : Addr) (xs : List V), vs = [.ref k] ∧ SeqAt1 H k xs ∧ ((xs = [] ∧ Rz E CN "number" (.int 0) H) ∨
  ∃ qs : List Rat, xs.length = qs.length ∧ (∀ (i : Nat) (q : Rat), qs[i]? = some q → ∃ v, xs[i]? = some v ∧ NumV C H v q) ∧ (∀ q ∈ qs, Bq q) ∧ qs.length ≤ 1000 ∧ 0 < qs.length ∧
  ∀ (H' : Hp) (p : Addr) (rs : List Rat) (q : Rat), Ex H H' → rs.Perm qs → rs.Pairwise (· ≤ ·) → ((m = 0 ∧ rs[0]? = some q) ∨ (m = 1 ∧ rs[rs.length - 1]? = some q)) → IsR C H' p q → Q (.ref p) H')
def spII (g : Int → Int → Int) : Sp := fun vs H Q _ => ∃ a b : Int, vs = [.int a, .int b] ∧ Bt a ∧ Bt b ∧ Q (.int (g a b)) H
theorem atI_last {xs : List V} {v : V} (h : 0 < xs.length) (e : xs[xs.length - 1]? = some v) : atI xs (-1) = some v := by
  unfold atI
  have : ixN xs.length (-1) = some (xs.length - 1) := by
    unfold ixN
    rw [if_neg (by decide), if_pos (by omega)]
    congr 1
    omega
  rw [this]; exact e
/-- math.lcm -/
def rLcm : List V → Hp → VK → Prop := fun vs H Q => ∃ a b : Int, vs = [.int a, .int b] ∧ Bt a ∧ Bt b ∧ Q (.int ((Int.lcm a b : Nat) : Int)) H
theorem bt_log {a : Nat} (h : a < 2 ^ 4000) : a.log2 < 4000 := PySem.Flt.log2_lt_of (by decide) h
theorem cr_lcm {X : Cx} : CallR X (.builtin "math.lcm") rLcm := by
  intro pins s σ H vs us Q I r h
  obtain ⟨a, b, rfl, ha, hb, q⟩ := h
  obtain ⟨t, u, rfl⟩ := Vals.int2 r
  have la := bt_log ha
  have lb := bt_log hb
  have e : ((Nat.lcm 1 a.natAbs).lcm b.natAbs) = Int.lcm a b := by rw [Nat.lcm_one_left]; rfl
  have l1 : (max 1 a.natAbs).log2 < 4000 := by
    rcases Nat.le_total 1 a.natAbs with z | z
    · rw [Nat.max_eq_right z]; exact la
    · rw [Nat.max_eq_left z]; decide
  have l2 : (max a.natAbs b.natAbs).log2 < 4000 := by
    rcases Nat.le_total a.natAbs b.natAbs with z | z
    · rw [Nat.max_eq_right z]; exact lb
    · rw [Nat.max_eq_left z]; exact la
  have l3 : (((Nat.lcm 1 a.natAbs).lcm b.natAbs : Nat) : Int).natAbs.log2 < bitsLine := by
    rw [Int.natAbs_natCast, e]
    have : Int.lcm a b < 2 ^ 8000 := by
      show Nat.lcm a.natAbs b.natAbs < _
      refine Nat.lt_of_le_of_lt (Nat.div_le_self _ _) ?_
      exact pow_mono (pow_mul_lt ha hb) (by decide)
    have z := PySem.Flt.log2_lt_of (by decide) this
    have e : bitsLine = 134217728 := by decide
    omega
  exact call_function_meets PySem.W.MGF.kind_lcm PySem.W.MGF.plain_lcm PySem.W.MGF.entry_lcm (PySem.W.MGF.args_lcm _ _) (PySem.W.mg_run_lcm a t b u (by omega) (by omega) l3).meets ⟨.int _, H, I.tok _, ⟨_, rfl⟩, by rw [e]; exact q⟩
def spBez : Sp := fun vs H Q _ => ∃ a b : Int, vs = [.int a, .int b] ∧ Bt a ∧ Bt b ∧ ∀ (H' : Hp) (p : Addr) (s t : Int), Ex H H' → H p = none → H' p = some (.tup [.int ((Int.gcd a b : Nat) : Int), .int s, .int t]) → s * a + t * b = ((Int.gcd a b : Nat) : Int) → s.natAbs < 2 ^ 4002 → t.natAbs < 2 ^ 8010 → Q (.ref p) H'
/-- the state of the walk -/
structure Bez (a b u l s f : Int) : Prop where
  co : ∃ x y, u = s * a + x * b ∧ l = f * a + y * b
  gc : Int.gcd u l = Int.gcd a b
  ab : f.natAbs * u.natAbs + s.natAbs * l.natAbs = b.natAbs
  sg : (u = a ∧ l = b ∧ s = 1 ∧ f = 0) ∨ (u ≠ 0 ∧ ((0 ≤ u ∧ 0 ≤ l) ∨ (u ≤ 0 ∧ l ≤ 0)) ∧ ((0 ≤ s ∧ f ≤ 0) ∨ (s ≤ 0 ∧ 0 ≤ f)))
  bs : s.natAbs ≤ b.natAbs + 1
  bf : f.natAbs ≤ b.natAbs + 1
  bu : u.natAbs ≤ a.natAbs + b.natAbs
  bl : l.natAbs ≤ b.natAbs
theorem Bez.start (a b : Int) : Bez a b a b 1 0 := ⟨⟨0, 1, by omega, by omega⟩, rfl, by simp, .inl ⟨rfl, rfl, rfl, rfl⟩, by simp, by simp, by omega, Nat.le_refl _⟩
theorem fmod_facts {u l : Int} (h : l ≠ 0) : (0 < l → 0 ≤ u - u.fdiv l * l ∧ u - u.fdiv l * l < l) ∧ (l < 0 → l < u - u.fdiv l * l ∧ u - u.fdiv l * l ≤ 0) := by
  have e : u - u.fdiv l * l = u.fmod l := by rw [Int.fmod_def, Int.mul_comm]
  rw [e]
  exact ⟨fun hl => ⟨Int.fmod_nonneg_of_pos u hl, Int.fmod_lt_of_pos u hl⟩, fun hl => ⟨by
    have := Int.fmod_lt_of_pos (-u) (show 0 < -l by omega)
    have e2 := Int.neg_fmod_neg (a := u) (b := l)
    omega, by
    have := Int.fmod_nonneg_of_pos (-u) (show 0 < -l by omega)
    have e2 := Int.neg_fmod_neg (a := u) (b := l)
    omega⟩⟩
theorem abs_p {x : Int} (h : 0 ≤ x) : (x.natAbs : Int) = x := Int.natAbs_of_nonneg h
theorem abs_n {x : Int} (h : x ≤ 0) : (x.natAbs : Int) = -x := by omega
theorem Bez.step {a b u l s f q : Int} (B : Bez a b u l s f) (h : l ≠ 0) (hq : q = u.fdiv l) : Bez a b l (u - q * l) f (s - q * f) ∧ (u - q * l).natAbs < l.natAbs := by
  obtain ⟨⟨x, y, e1, e2⟩, gc, ab, sg, bs, bf, bu, bl⟩ := B
  have fm := fmod_facts (u := u) h
  rw [← hq] at fm
  have lt : (u - q * l).natAbs < l.natAbs := by
    rcases Int.lt_or_gt_of_ne h with z | z
    · have := fm.2 z; omega
    · have := fm.1 z; omega
  have sgn : (0 ≤ l ∧ 0 ≤ u - q * l) ∨ (l ≤ 0 ∧ u - q * l ≤ 0) := by
    rcases Int.lt_or_gt_of_ne h with z | z
    · exact .inr ⟨by omega, (fm.2 z).2⟩
    · exact .inl ⟨by omega, (fm.1 z).1⟩
  have gc' : Int.gcd l (u - q * l) = Int.gcd a b := by
    rw [← gc, Int.gcd_comm u l]
    have : u - q * l = u + l * (-q) := by grind
    rw [this, Int.gcd_add_mul_left_right]
  have co' : ∃ x y, l = f * a + x * b ∧ u - q * l = (s - q * f) * a + y * b := ⟨y, x - q * y, e2, by rw [e1]; grind⟩
  have main : (s - q * f).natAbs * l.natAbs + f.natAbs * (u - q * l).natAbs = b.natAbs ∧ ((0 ≤ f ∧ s - q * f ≤ 0) ∨ (f ≤ 0 ∧ 0 ≤ s - q * f)) := by
    rcases sg with ⟨rfl, rfl, rfl, rfl⟩ | ⟨hu, hs, hsf⟩
    · refine ⟨by simp, .inr ⟨by omega, by omega⟩⟩
    · have q0 : 0 ≤ q := by
        rw [hq]
        rcases hs with ⟨z1, z2⟩ | ⟨z1, z2⟩
        · exact Int.fdiv_nonneg z1 z2
        · rw [← Int.neg_fdiv_neg]; exact Int.fdiv_nonneg (by omega) (by omega)
      have key : (0 ≤ f ∧ s - q * f ≤ 0 ∧ s ≤ 0) ∨ (f ≤ 0 ∧ 0 ≤ s - q * f ∧ 0 ≤ s) := by
        rcases hsf with ⟨z1, z2⟩ | ⟨z1, z2⟩
        · right
          have := Int.mul_nonpos_of_nonneg_of_nonpos q0 z2
          exact ⟨z2, by omega, z1⟩
        · left
          have := Int.mul_nonneg q0 z2
          exact ⟨z2, by omega, z1⟩
      refine ⟨?_, key.elim (fun z => .inl ⟨z.1, z.2.1⟩) (fun z => .inr ⟨z.1, z.2.1⟩)⟩
      have hs' : (0 ≤ l ∧ 0 ≤ u ∧ 0 ≤ u - q * l) ∨ (l ≤ 0 ∧ u ≤ 0 ∧ u - q * l ≤ 0) := by
        rcases Int.lt_or_gt_of_ne h with z | z
        · right
          have := fm.2 z
          exact ⟨by omega, by omega, by omega⟩
        · left
          have := fm.1 z
          exact ⟨by omega, by omega, by omega⟩
      apply Int.ofNat_inj.mp
      rw [← ab]
      push_cast
      rcases key with ⟨k1, k2, k3⟩ | ⟨k1, k2, k3⟩ <;> rcases hs' with ⟨l1, l2, l3⟩ | ⟨l1, l2, l3⟩
      · rw [abs_n k2, abs_p l1, abs_p k1, abs_p l3, abs_p l2, abs_n k3]; grind
      · rw [abs_n k2, abs_n l1, abs_p k1, abs_n l3, abs_n l2, abs_n k3]; grind
      · rw [abs_p k2, abs_p l1, abs_n k1, abs_p l3, abs_p l2, abs_p k3]; grind
      · rw [abs_p k2, abs_n l1, abs_n k1, abs_n l3, abs_n l2, abs_p k3]; grind
  have bnd : (s - q * f).natAbs ≤ b.natAbs := by
    have h1 : 1 ≤ l.natAbs := by omega
    have := Nat.mul_le_mul_left (s - q * f).natAbs h1
    omega
  exact ⟨⟨co', gc', main.1, .inr ⟨h, sgn, main.2⟩, bf, by omega, by omega, by omega⟩, lt⟩
/-- the products of a step are not great -/
theorem Bez.small {a b u l s f q : Int} (B : Bez a b u l s f) (h : l ≠ 0) (hq : q = u.fdiv l) (ha : Bt a) (hb : Bt b) : CDivZ u l ∧ CMulA q l ∧ CMulA q f := by
  have st := (B.step h hq).2
  have bl := B.bl
  have bu := B.bu
  have bf := B.bf
  have a4 : a.natAbs < 2 ^ 4000 := ha
  have b4 : b.natAbs < 2 ^ 4000 := hb
  have e1 : (2 : Nat) ^ 4002 = 4 * 2 ^ 4000 := by rw [show (4002 : Nat) = 4000 + 2 from rfl, Nat.pow_add, Nat.mul_comm]
  have q1 : q.natAbs ≤ u.natAbs + l.natAbs := by
    have z : q.natAbs * l.natAbs ≤ u.natAbs + l.natAbs := by
      rw [← Int.natAbs_mul]; omega
    have h1 : 1 ≤ l.natAbs := by omega
    have := Nat.mul_le_mul_left q.natAbs h1
    omega
  have q2 : q.natAbs < 2 ^ 4002 := by rw [e1]; omega
  have p1 : 0 < 2 ^ 4000 := Nat.two_pow_pos 4000
  exact ⟨⟨h, Nat.lt_of_lt_of_le (Nat.lt_of_le_of_lt bl b4) (Nat.pow_le_pow_right (by decide) (by decide))⟩, cmA_w q2 (show l.natAbs < 2 ^ 4000 from Nat.lt_of_le_of_lt bl b4) (by decide), cmA_w q2 (show f.natAbs < 2 ^ 4002 by omega) (by decide)⟩
def absAt (i : Nat) (σ : L2.St) : Nat := match σ[i]? with
  | some (some (V.int a)) => a.natAbs
  | _ => 0
/-- the end of the walk -/
theorem Bez.fin {a b u s f : Int} (B : Bez a b u 0 s f) : (u.natAbs : Int) = ((Int.gcd a b : Nat) : Int) ∧ ∃ x, u = s * a + x * b := by
  obtain ⟨⟨x, y, e1, e2⟩, gc, ab, sg, bs, bf, bu, bl⟩ := B
  refine ⟨?_, x, e1⟩
  rw [← gc, Int.gcd_zero_right]
theorem bez_t {a b s t : Int} (e : s * a + t * b = ((Int.gcd a b : Nat) : Int)) (hb : b ≠ 0) (hs : s.natAbs < 2 ^ 4002) (ha : Bt a) (hb4 : Bt b) : t.natAbs < 2 ^ 8010 := by
  have h1 : t.natAbs ≤ (t * b).natAbs := by
    rw [Int.natAbs_mul]
    exact Nat.le_mul_of_pos_right _ (by omega)
  have h2 : t * b = ((Int.gcd a b : Nat) : Int) - s * a := by omega
  have h3 : (s * a).natAbs < 2 ^ (4002 + 4000) := lt_mul hs ha
  have h4 : Int.gcd a b < 2 ^ 4000 := Nat.lt_of_le_of_lt (gcd_le hb) hb4
  have h5 : (((Int.gcd a b : Nat) : Int) - s * a).natAbs < 2 ^ 8010 := lt_sub (n := 4000) (m := 8002) (by rw [Int.natAbs_natCast]; exact h4) h3 (by decide) (by decide)
  rw [← h2] at h5
  omega
theorem lcm_eq {a b : Int} : ((Int.lcm a b : Nat) : Int) = (a.natAbs : Int).fdiv ((Int.gcd a b : Nat) : Int) * (b.natAbs : Int) := by
  have hg : Int.gcd a b ∣ a.natAbs := Int.gcd_dvd_natAbs_left a b
  rw [Int.fdiv_eq_ediv_of_nonneg _ (by omega), ← Int.natCast_ediv, ← Int.natCast_mul]
  congr 1
  show a.natAbs * b.natAbs / Nat.gcd a.natAbs b.natAbs = a.natAbs / Nat.gcd a.natAbs b.natAbs * b.natAbs
  exact Nat.mul_div_right_comm hg b.natAbs
end
section
open PySem PySem.Spec PyProof.Rows L2 He
def oexB (K : PySem.W.Frag) (C : Addr) : Bool := (match K.lookup C with
  | some ⟨.type "type", _, .cls cd, sl⟩ => (match cd.mro, sl.toList with
    | .ref C' :: bm, [_, _, _, _, some (.builtin n), _] => decide (C' = C) && (decide (n = "ValueError.__new__") && (!cd.hasDel && (cd.hasDict && PySem.HandSPX.refsVE bm)))
    | _, _ => false)
  | _ => false) && (eqO (PySem.W.findIn K (.ref C) "__setattr__") (some (some (.builtin "object.__setattr__"))) && (decide (PySem.W.subIn K (.ref C) (.type "BaseException") = some true) && (decide (PySem.W.typeIn K (.ref C) = some (.type "type")) && PySem.W.keepIn K (.ref C))))
theorem oexB_ok {K : PySem.W.Frag} {C : Addr} (h : oexB K C = true) : OexC K C := by
  obtain ⟨h1, h2⟩ := ba h
  obtain ⟨h2, h3⟩ := ba h2
  obtain ⟨h3, h4⟩ := ba h3
  obtain ⟨h4, h5⟩ := ba h4
  refine ⟨?_, eqO_ok h2, of_decide_eq_true h3, of_decide_eq_true h4, h5⟩
  cases e : K.lookup C with
  | none => rw [e] at h1; cases h1
  | some o =>
    rw [e] at h1
    obtain ⟨oc, od, dt, sl⟩ := o
    skip
    split at h1
    · rename_i cd sl' ho
      cases ho
      split at h1
      · rename_i C' bm a0 a1 a2 a3 n a5 hm hs
        obtain ⟨nm, bs, mro, N, q, hd, sn, sub, ab, col, hdel⟩ := cd
        replace h1 : (decide (C' = C) && (decide (n = "ValueError.__new__") && (!hdel && (hd && PySem.HandSPX.refsVE bm)))) = true := h1
        simp only [Bool.and_eq_true, decide_eq_true_eq, Bool.not_eq_true'] at h1
        obtain ⟨e1, e2, e3, e4, g5⟩ := h1
        replace hm : mro = .ref C' :: bm := hm
        subst e1 e2 e3 e4 hm
        have e6 : sl = #[a0, a1, a2, a3, some (.builtin "ValueError.__new__"), a5] := by
          apply Array.ext'
          rw [hs]
        subst e6
        exact ⟨nm, q, N, bs, bm, sn, sub, ab, col, _, a0, a1, a2, a3, a5, rfl, g5⟩
      · cases h1
    · cases h1
def clsPB (K : PySem.W.Frag) (C : Addr) : Bool :=
  PySem.W.selfFirst K C && (decide (PySem.W.subIn K (.ref C) (.type "int") = some false) && (eqO (PySem.W.findIn K (.ref C) "__ne__") (some (some (.builtin "object.__ne__"))) && (eqO (PySem.W.findIn K (.ref C) "__class__") (some (some (.builtin "object.__class__"))) &&
  (decide (PySem.W.specialIn K (.builtin "object.__class__") "__get__" = some (some (.builtin "getset_descriptor.__get__"))) && (decide (PySem.W.takesIn K (.builtin "object.__class__") = some true) && (decide (PySem.W.mroIn K C (.type "object") = some true) &&
  (eqO (PySem.W.findIn K (.ref C) "__rpow__") (some none) && (decide (PySem.W.subIn K (.ref C) (.type "bool") = some false) && ((PySem.W.clsIn K C).isSome && decide (PySem.W.typeIn K (.ref C) = some (.type "type")))))))))))
theorem clsPB_ok {K : PySem.W.Frag} {C : Addr} (c : Cls K C) (h : clsPB K C = true) : ClsP K C := by
  obtain ⟨h1, h⟩ := ba h
  obtain ⟨h2, h⟩ := ba h
  obtain ⟨h3, h⟩ := ba h
  obtain ⟨h4, h⟩ := ba h
  obtain ⟨h5, h⟩ := ba h
  obtain ⟨h6, h⟩ := ba h
  obtain ⟨h7, h⟩ := ba h
  obtain ⟨h8, h⟩ := ba h
  obtain ⟨h9, h⟩ := ba h
  obtain ⟨h10, h11⟩ := ba h
  exact ⟨⟨c, h1, of_decide_eq_true h2, eqO_ok h3, eqO_ok h4, of_decide_eq_true h5, of_decide_eq_true h6, of_decide_eq_true h7, eqO_ok h8⟩, of_decide_eq_true h9, h10, of_decide_eq_true h11⟩
section
variable {X : Cx} {K : PySem.W.Frag} {o e : Expr} {to te : TE} {f : Str} {p' pos : Pos}
theorem kps_ost (h : X.K = K) (ho : PE X o to) (he : PE X e te) (hs : swapsWith e (some (.Attribute o f p')) pos.line X.env = pure false := by rfl) : PS X (.Assign [.Attribute o f p'] e pos) (tOst K f to te) := by subst h; exact ps_ost ho he hs
end
section
variable {P : Program} {w : World} {K : PySem.W.Frag} {mg : Str → Option Value} {base : Heap} {k : Nat} {x m : Str} {f C : Addr} {fd : FuncData} {ps : List Str} {sp : Sp} {pa : Arguments} {bd : List Stmt} {sc : Scope}
/-- a def as callers take it -/
theorem mkCl {q : Str} (F : FunD K x q pa bd sc [] [] f fd) (hm : mg x = some (.ref f)) (ok : FnOk P w K mg base (L2.CX P w) k f fd ps sp) (b : Binds K fd ps []) : Cl P w K mg base k x sp := ⟨f, fd, ps, ok, hm, F.kp, b⟩
theorem mkCm (me : Meth K C m f) (ok : FnOk P w K mg base (L2.CX P w) k f fd ps sp) (b : Binds K fd ps []) : Cm P w K mg base k C m f sp := ⟨⟨fd, ps, ok, b⟩, me⟩
theorem mkCk {dvs : List V} {ds : List Value} (M : Mk K C f) (hm : mg x = some (.ref C)) (ok : FnOk P w K mg base (L2.CX P w) k f fd ps sp) (b : Binds K fd ps ds) (hv : Vals dvs ds) : Ck P w K mg base k x C dvs sp := ⟨f, fd, ps, ds, ok, M, hm, b, hv⟩
theorem mkCox {fn : Str} (ox : OexC K C) (hm : mg x = some (.ref C)) (me : Meth K C "__init__" f) (ti : PySem.W.typeIn K (.ref f) = some (.type "function")) (ok : FnOk P w K mg base (L2.CX P w) k f fd ps (spEx C fn)) (b : Binds K fd ps []) : Cox P w K mg base k x C fn := ⟨ox, hm, f, fd, ps, me.at_, ti, ok, b⟩
/-- the same contract with a wider level is not needed: a Room serves all below it -/
theorem Cl.up' {k' : Nat} (c : Cl P w K mg base k x sp) : Cl P w K mg base k x sp := c
end
end
section
open PySem PySem.Spec PyProof.Rows L2
def reps (x : Str) (n : Int) : Str := if n < 1 then Str.empty else if (n == 1 || x.length == 0) = true then x else ⟨(List.replicate n.toNat x.cps).foldl (· ++ ·) #[]⟩
def tenText (f : Nat) : Str := ("1" : Str) ++ reps ("0" : Str) (f : Int)
theorem foldl_toList {a : Array Nat} : ∀ (n : Nat) (acc : Array Nat), ((List.replicate n a).foldl (· ++ ·) acc).toList = acc.toList ++ (List.replicate n a.toList).flatten
  | 0, acc => by simp
  | n + 1, acc => by
    rw [List.replicate_succ, List.replicate_succ, List.foldl_cons, foldl_toList n, Array.toList_append, List.flatten_cons, List.append_assoc]
theorem flat_one (n x : Nat) : (List.replicate n [x]).flatten = List.replicate n x := by
  induction n with
  | zero => rfl
  | succ n ih => rw [List.replicate_succ, List.replicate_succ, List.flatten_cons, ih]; rfl
theorem zero_cps : ("0" : Str).cps.toList = [48] := by decide +kernel
theorem one_cps : ("1" : Str).cps.toList = [49] := by decide +kernel
theorem reps_cps (f : Nat) : (reps ("0" : Str) (f : Int)).cps.toList = List.replicate f 48 := by
  unfold reps
  match f with
  | 0 => rw [if_pos (by omega)]; rfl
  | 1 => rw [if_neg (by omega), if_pos (by rfl)]; exact zero_cps
  | f + 2 =>
    rw [if_neg (by omega), if_neg (by
      rw [show ((((f + 2 : Nat) : Int)) == 1) = false from by rw [beq_eq_false_iff_ne]; omega]
      rw [show ((("0" : Str).length == 0)) = false from by decide +kernel]
      decide)]
    show ((List.replicate ((f + 2 : Nat) : Int).toNat ("0" : Str).cps).foldl (· ++ ·) #[]).toList = _
    rw [foldl_toList, zero_cps, Int.toNat_natCast, flat_one]; rfl
theorem ten_cps (f : Nat) : (tenText f).cps.toList = 49 :: List.replicate f 48 := by
  show (("1" : Str).cps ++ (reps ("0" : Str) (f : Int)).cps).toList = _
  rw [Array.toList_append, one_cps, reps_cps]; rfl
theorem ten_len (f : Nat) : (tenText f).length = f + 1 := by
  show (tenText f).cps.size = _
  rw [← Array.length_toList, ten_cps, List.length_cons, List.length_replicate]
theorem reps_len (f : Nat) : (reps ("0" : Str) (f : Int)).length = f := by
  show (reps ("0" : Str) (f : Int)).cps.size = _
  rw [← Array.length_toList, reps_cps, List.length_replicate]
theorem val_zeros : ∀ (f acc : Nat), (List.replicate f 48).foldl (fun acc c => acc * 10 + (c - 48)) acc = acc * 10 ^ f
  | 0, acc => by simp
  | f + 1, acc => by
    rw [List.replicate_succ, List.foldl_cons, val_zeros f, Nat.pow_succ]
    show (acc * 10 + 0) * 10 ^ f = _
    rw [Nat.add_zero, Nat.mul_assoc, Nat.mul_comm 10]
theorem ten_ok {f : Nat} (h : f ≤ 600) : PySem.intText? (tenText f) = some (((10 ^ f : Nat) : Int)) ∧ (tenText f).length ≤ 640 := by
  refine ⟨?_, by rw [ten_len]; omega⟩
  rw [intText_digits (x := tenText f)]
  · congr 2
    rw [ten_cps]
    show (List.replicate f 48).foldl (fun acc c => acc * 10 + (c - 48)) (0 * 10 + (49 - 48)) = _
    rw [val_zeros]; omega
  · rw [ten_cps]
    intro c hc
    rcases List.mem_cons.mp hc with e | e
    · omega
    · have := List.eq_of_mem_replicate e; omega
  · rw [ten_cps]; exact List.cons_ne_nil _ _
  · rw [ten_len]; omega
theorem flat_len_const {l a : List Nat} {n : Nat} : (a ++ (List.replicate n l).flatten).length = a.length + n * l.length := by
  rw [List.length_append]
  congr 1
  induction n with
  | zero => simp
  | succ n ih => rw [List.replicate_succ, List.flatten_cons, List.length_append, ih, Nat.succ_mul]; omega
def rMulS : R2 := fun x y H Q => ∃ (z : Str) (n : Nat), x = .str z ∧ y = .int n ∧ n ≤ 1000 ∧ z.length ≤ 1000 ∧ Q (.str (reps z (n : Int))) H
theorem op_mul_str {X : Cx} : OpR X (binaryOp .Mult) rMulS := by
  intro pins s σ H x y v u Q I rx ry h
  obtain ⟨z, n, rfl, rfl, hn, hz, q⟩ := h
  obtain ⟨t, rfl⟩ := rx
  obtain ⟨t', rfl⟩ := ry
  have hlen : z.length * n ≤ 1000 * 1000 := Nat.mul_le_mul hz hn
  refine P.mul_str (by
    rw [decide_eq_false (show ¬ (n : Int) < -(2 ^ 63) by omega), decide_eq_false (show ¬ (n : Int) ≥ 2 ^ 63 by
      have e : (2 : Int) ^ 63 = 9223372036854775808 := by decide
      omega)]; rfl) (fun h1 _ => ?_) (fun h1 _ => ?_) ?_
  · have hn0 : 0 < (n : Int) := by omega
    have e : (2 : Int) ^ 63 - 1 = 9223372036854775807 := by decide
    rw [e]
    have : (z.length : Int) ≤ 9223372036854775807 / (n : Int) := by
      rw [Int.le_ediv_iff_mul_le hn0]
      have : (z.length : Int) * (n : Int) ≤ 1000 * 1000 := by exact_mod_cast hlen
      omega
    omega
  · show decide (z.length * ((n : Nat) : Int).toNat > sizeLine) = false
    rw [decide_eq_false_iff_not, sizeLine_eq, Int.toNat_natCast]; omega
  · unfold reps at q
    split
    · rename_i h1
      rw [if_pos h1] at q
      exact ⟨by decide, .str Str.empty, H, I.tok _, ⟨_, rfl⟩, q⟩
    · rename_i h1
      rw [if_neg h1] at q
      split
      · rename_i h2
        rw [if_pos h2] at q
        exact ⟨.str z, H, I, ⟨_, rfl⟩, q⟩
      · rename_i h2
        rw [if_neg h2] at q
        refine ⟨?_, .str _, H, I.tok _, ⟨_, rfl⟩, q⟩
        show ((List.replicate ((n : Nat) : Int).toNat z.cps).foldl (· ++ ·) #[]).size ≤ sizeLine
        rw [← Array.length_toList, foldl_toList, Int.toNat_natCast, flat_len_const, sizeLine_eq]
        show 0 + n * z.cps.toList.length ≤ _
        have e : z.cps.toList.length = z.length := Array.length_toList
        rw [e, Nat.mul_comm]; omega
def DAt (x y : V) (H : Hp) (Q : VK) : Prop := ∃ a v, x = .ref a ∧ DGet H a y (some v) ∧ Q v H
def DPutAt (x y v : V) (H : Hp) (N : Hp → Prop) : Prop := ∃ a H', x = .ref a ∧ DPut H a y v H' ∧ N H'
section
variable {σ : L2.St} {H : Hp} {Q : VK} {D : Ends} {td ty tv : TE} {a c : Addr} {kvs : List (Key × V)} {s : Str} {v x y : V} {N : Hp → Prop} {QS : L2.St → Hp → Prop}
theorem r_dget (k : td σ H fun x H1 => ty σ H1 fun y H2 => DAt x y H2 Q) : tDGet td ty σ H Q := k
theorem dAt (h : H a = some (.dK kvs)) (e : valV kvs (Sum.inr s) = some v) (k : Q v H) : DAt (.ref a) (.str s) H Q := ⟨a, v, rfl, by
  have := DGet.k (k := (Sum.inr s : Key)) h
  rw [e] at this; exact this, k⟩
theorem r_dput (k : tv σ H fun v H1 => td σ H1 fun x H2 => ty σ H2 fun y H3 => DPutAt x y v H3 (fun H4 => D.nx σ H4)) : sDPut td ty tv D σ H := k
theorem dPut {kvs' : List (Key × V)} (h : H a = some (.dK kvs)) (hn : kvs.length ≤ 1000) (e : putK kvs (Sum.inr s) v = kvs') (k : N (upd H a (.dK kvs'))) : DPutAt (.ref a) (.str s) v H N :=
  ⟨a, _, rfl, DPut.k (k := (Sum.inr s : Key)) h (small1000 hn), by rw [e]; exact k⟩
theorem r_gsub {v : V} (k : td σ H fun x H1 => ty σ H1 fun y H2 => DPutAt x y v H2 (fun H3 => QS σ H3)) : gSub td ty rSetD v σ H QS := k
end
def rInt1 : List V → Hp → VK → Prop := fun xs H Q => (∃ i, xs = [.int i] ∧ Q (.int i) H) ∨ ∃ k, xs = [.bl k] ∧ Q (.int (if k then 1 else 0)) H
def rIntS : List V → Hp → VK → Prop := fun xs H Q => ∃ a n, xs = [.str a] ∧ PySem.intText? a = some n ∧ a.length ≤ 640 ∧ Q (.int n) H
def rAddS : R2 := fun x y H Q => ∃ i j, x = .str i ∧ y = .str j ∧ i.length + j.length ≤ sizeLine ∧ Q (.str (i ++ j)) H
def rMax2 : List V → Hp → VK → Prop := fun xs H Q => ∃ i j, xs = [.int i, .int j] ∧ Q (.int (if j > i then j else i)) H
def rAbs1 : List V → Hp → VK → Prop := fun xs H Q => ∃ i, xs = [.int i] ∧ Q (.int (if i < 0 then -i else i)) H
section
variable {X : Cx} {H : Hp} {Q : VK} {a b : Int} {k : Bool} {x y : Str}
theorem kc_int1 : CallR X (.type "int") rInt1 := call_int1
theorem kc_intS : CallR X (.type "int") rIntS := call_int_str
theorem kop_addS : OpR X (binaryOp .Add) rAddS := op_add_str
theorem kc_max (hc : X.calm = true) : CallR X (.builtin "max") rMax2 := call_max2 hc
theorem kc_abs : CallR X (.builtin "abs") rAbs1 := call_abs
theorem q_intI (h : Q (.int a) H) : rInt1 [.int a] H Q := .inl ⟨a, rfl, h⟩
theorem q_intB (h : Q (.int (if k then 1 else 0)) H) : rInt1 [.bl k] H Q := .inr ⟨k, rfl, h⟩
theorem q_intS {n : Int} (e : PySem.intText? x = some n) (l : x.length ≤ 640) (h : Q (.int n) H) : rIntS [.str x] H Q := ⟨x, n, rfl, e, l, h⟩
theorem q_addS (l : x.length + y.length ≤ sizeLine) (h : Q (.str (x ++ y)) H) : rAddS (.str x) (.str y) H Q := ⟨x, y, rfl, rfl, l, h⟩
theorem q_max (h : Q (.int (max a b)) H) : rMax2 [.int a, .int b] H Q := ⟨a, b, rfl, by
  have e : (if b > a then b else a) = max a b := by
    rw [Int.max_def]; split <;> split <;> omega
  rw [e]; exact h⟩
theorem q_abs (h : Q (.int (a.natAbs : Int)) H) : rAbs1 [.int a] H Q := ⟨a, rfl, by
  have e : (if a < 0 then -a else a) = (a.natAbs : Int) := by split <;> omega
  rw [e]; exact h⟩
end
theorem at_mod {ns : List Int} {a : Int} (h : 0 < ns.length) : ∃ z, atI (ns.map V.int) (a % (((ns.map V.int).length : Nat) : Int)) = some (V.int z) := by
  have hl : (ns.map V.int).length = ns.length := List.length_map _
  rw [hl]
  have h0 : 0 ≤ a % (ns.length : Int) := Int.emod_nonneg _ (by omega)
  have h1 : a % (ns.length : Int) < ns.length := Int.emod_lt_of_pos _ (by omega)
  obtain ⟨j, hj⟩ : ∃ j : Nat, a % (ns.length : Int) = j := ⟨(a % (ns.length : Int)).toNat, by omega⟩
  rw [hj]
  refine ⟨ns[j]'(by omega), atI_nat ?_⟩
  rw [List.getElem?_map, List.getElem?_eq_getElem (by omega)]; rfl
end
open PySem PySem.Spec PyProof.Rows L2
local macro_rules | `(tactic| wtm_at "of_rd1") => `(tactic| with_reducible first
  | refine r_dget ?_ | refine r_dput ?_ | refine r_gsub ?_ | refine q_intI ?_ | refine q_intB ?_
  | refine r_par ?_ | refine r_par3 ?_ | refine r_parP ?_ | refine r_parP3 ?_ | refine r_part ?_ | refine r_nopart ?_ | refine r_intP ?_ | refine r_for ?_ | refine r_iL ?_ | refine r_iT ?_ | refine r_iR1 ?_ | refine r_iR2 ?_ | refine r_iR3 ?_ | refine r_iZ ?_ | refine r_lc ?_ | refine r_sl ?_ | refine r_bm ?_ | refine r_turn1 ?_ | refine r_lturn ?_ | refine r_yes ?_
  | refine r_seq ?_ | refine r_asg ?_ | refine r_ret ?_ | refine r_sfld ?_ | refine r_ifS ?_ | refine r_drop ?_ | refine r_next ?_ | refine r_retN ?_ | refine r_gcd ?_
  | refine r_op ?_ | refine r_un ?_ | refine r_fld ?_ | refine r_cons ?_ | refine r_nil ?_ | refine r_c ?_ | refine r_c1 ?_ | refine r_cb ?_ | refine r_ck ?_ | refine r_cm ?_
  | refine r_test ?_ | refine r_B ?_ | refine r_and ?_ | refine r_or ?_ | refine r_not ?_ | refine r_andV ?_ | refine r_orV ?_ | refine r_notV ?_ | refine r_ifE ?_
  | refine r_tr ?_ | refine r_name ?_ | refine r_blP ?_ | refine r_tup ?_ | refine r_lst ?_ | refine r_gCons ?_ | refine r_gNil ?_ | refine r_rz ?_
  | refine r_var (by with_unfolding_all rfl) ?_
  | refine iteT ?_ | refine iteF ?_ | refine iteNT ?_ | refine iteNF ?_
  | refine r_I0 ?_ | refine r_Ibt (by wtm_at "of_btl") (by wtm_at "of_btl") ?_ | refine r_Ir (by decide) ?_ | refine r_Il (by decide) ?_ | refine r_U ?_ | refine r_eqI ?_ | refine r_neI ?_
  | refine r_top (by assumption) (by with_unfolding_all rfl) (by wtm_at "of_up") ?_ | refine r_bot (by assumption) (by with_unfolding_all rfl) (by wtm_at "of_up") ?_)
section
open PySem PySem.Spec PyProof.Rows L2
section
variable {σ : L2.St} {H : Hp} {tk tv : TE} {r : List (TE × TE)} {QP : List (V × V) → Hp → Prop} {Q : VK} {trs : List (TE × TE)} {K : PySem.W.Frag} {a : Addr} {xs : List V}
theorem r_pairs (k : tk σ H fun x H1 => tv σ H1 fun y H2 => tPairs r σ H2 fun ps H3 => QP ((x, y) :: ps) H3) : tPairs ((tk, tv) :: r) σ H QP := k
theorem r_pairs0 (k : QP [] H) : tPairs [] σ H QP := k
def DispEnd (p : Addr) (Q : VK) (ps : List (V × V)) (H2 : Hp) : Prop := H2 p = some (.dK []) ∧ ∃ kvs : List (Key × V), ps = kvs.map (fun kv => (kV kv.1, kv.2)) ∧ kvs.length ≤ 15 ∧ Q (.ref p) (upd H2 p (.dK (mergeK [] kvs)))
theorem r_disp (k : ∀ p H', Ex H H' → H p = none → H' p = some (.dK []) → tPairs trs σ H' (DispEnd p Q)) : tDisp trs σ H Q := fun p hp => k p _ (Ex.new hp) hp upd_same
theorem disp_end {p : Addr} {kvs kvs' : List (Key × V)} (h : H p = some (.dK [])) (hl : kvs.length ≤ 15) (e : mergeK [] kvs = kvs') (k : Q (.ref p) (upd H p (.dK kvs'))) {ps : List (V × V)} (ep : ps = kvs.map (fun kv => (kV kv.1, kv.2))) : DispEnd p Q ps H := ⟨h, kvs, ep, hl, by rw [e]; exact k⟩
theorem r_slS {K' : PySem.W.Frag} {lo hi : Option Int} (e : K' = K) (h : SqL K H a xs) (k : ∀ p H', Ex H H' → H p = none → H' p = some (.lst (cutV xs lo hi)) → Q (.ref p) H') : rSlL K' (.ref a) lo hi H Q := by subst e; exact ⟨a, xs, rfl, h, fun p hp => k p _ (Ex.new hp) hp upd_same⟩
theorem q_lenS {K' : PySem.W.Frag} (e : K' = K) (h : SqL K H a xs) (k : Q (.int (xs.length : Int)) H) : rLen K' [.ref a] H Q := by subst e; exact ⟨a, xs, rfl, .inl h, k⟩
theorem r_rep {n : Int} (h : H a = some (.lst xs)) (h0 : 0 ≤ n) (h1 : n ≤ 1000) (hx : xs.length ≤ 1000) (k : ∀ p H', Ex H H' → H p = none → H' p = some (.lst (List.replicate n.toNat xs).flatten) → Q (.ref p) H') : rRep (.ref a) (.int n) H Q := by
  have e : (2 : Int) ^ 63 = 9223372036854775808 := by decide
  have hm : xs.length * n.toNat ≤ 1000 * 1000 := Nat.mul_le_mul hx (by omega)
  exact ⟨a, n, xs, rfl, rfl, h, by omega, by omega, by rw [sizeLine_eq]; omega, fun p hp => k p _ (Ex.new hp) hp upd_same⟩
theorem cutV_upto {n : Nat} (h : xs.length ≤ n) : cutV xs none (some (n : Int)) = xs := by
  unfold cutV
  have e1 : HT.sIx xs.length 0 none = 0 := rfl
  have e2 : HT.sIx xs.length xs.length (some (n : Int)) = xs.length := by
    unfold HT.sIx
    show (if (n : Int) < 0 then ((n : Int) + xs.length).toNat else min (n : Int).toNat xs.length) = _
    rw [if_neg (by omega)]; omega
  rw [e1, e2, Nat.sub_zero, List.drop_zero, List.take_length]
end
theorem Ex.seq {K : PySem.W.Frag} {H H' : Hp} {a : Addr} {xs : List V} (e : Ex H H') (h : SqL K H a xs) : SqL K H' a xs := Same.seq e h
def tpK (c : Addr) (a r : Int) : List (Key × V) := [(Sum.inr "cells", .ref c), (Sum.inr "at", .int a), (Sum.inr "rest", .int r)]
section
variable {c : Addr} {a r z : Int}
theorem tp_cells : valV (tpK c a r) (Sum.inr "cells") = some (.ref c) := by kernel_rfl
theorem tp_at : valV (tpK c a r) (Sum.inr "at") = some (.int a) := by kernel_rfl
theorem tp_rest : valV (tpK c a r) (Sum.inr "rest") = some (.int r) := by kernel_rfl
theorem tp_putAt : putK (tpK c a r) (Sum.inr "at") (.int z) = tpK c z r := by kernel_rfl
theorem tp_putRest : putK (tpK c a r) (Sum.inr "rest") (.int z) = tpK c a z := by kernel_rfl
end
theorem tp_new {c : Addr} : mergeK [] (tpK c 0 0) = tpK c 0 0 := by kernel_rfl
/-- the tape at p, of at most n cells read -/
def Tape (H : Hp) (p c : Addr) (n : Nat) : Prop := ∃ (a r : Int) (ns : List Int), H p = some (.dK (tpK c a r)) ∧ H c = some (.lst (ns.map V.int)) ∧ 0 < ns.length ∧ ns.length ≤ 63 ∧ 0 ≤ a ∧ a ≤ (n : Int)
theorem Tape.mono {H : Hp} {p c : Addr} {n m : Nat} (h : Tape H p c n) (hm : n ≤ m) : Tape H p c m := by
  obtain ⟨a, r, ns, h1, h2, h3, h4, h5, h6⟩ := h
  exact ⟨a, r, ns, h1, h2, h3, h4, h5, by omega⟩
theorem Tape.ex {H H' : Hp} {p c : Addr} {n : Nat} (e : Ex H H') (h : Tape H p c n) : Tape H' p c n := by
  obtain ⟨a, r, ns, h1, h2, h3⟩ := h
  exact ⟨a, r, ns, e _ _ h1, e _ _ h2, h3⟩
theorem Tape.put {H : Hp} {p c L : Addr} {n : Nat} {xs : List V} {o : HO} (h : Tape H p c n) (hl : H L = some (.lst xs)) (hc : c ≠ L) : Tape (upd H L o) p c n := by
  obtain ⟨a, r, ns, h1, h2, h3⟩ := h
  exact ⟨a, r, ns, by rw [upd_ne (ne_of h1 hl (by intro z; cases z))]; exact h1, by rw [upd_ne hc]; exact h2, h3⟩
theorem Le.lst {H H' : Hp} {p : Addr} {xs : List V} (e : Le H H') (h : H p = some (.lst xs)) : H' p = some (.lst xs) := e _ _ h trivial
theorem Le.tup {H H' : Hp} {p : Addr} {xs : List V} (e : Le H H') (h : H p = some (.tup xs)) : H' p = some (.tup xs) := e _ _ h trivial
/-- a draw: below the limit -/
def spDraw : Sp := fun vs H Q _ => ∃ (p : Addr) (m : Int) (n : Nat), vs = [.ref p, .int m] ∧ ∃ c, Tape H p c n ∧ n < 1000000 ∧ 0 < m ∧ m.natAbs < 2 ^ 4000 ∧ ∀ (H' : Hp) (d : Int), Le H H' → Tape H' p c (n + 1) → 0 ≤ d → d < m → Q (.int d) H'
def spBegin (K : PySem.W.Frag) : Sp := fun vs H Q _ => ∃ (a : Addr) (ns : List Int), vs = [.ref a] ∧ SqL K H a (ns.map V.int) ∧ ns.length ≤ 63 ∧ ∀ (H' : Hp) (p c : Addr), Ex H H' → H p = none → H c = none → Tape H' p c 0 → Q (.ref p) H'
def spPick : Sp := fun vs H Q _ => ∃ (p k : Addr) (xs : List V) (n : Nat), vs = [.ref p, .ref k] ∧ ∃ c, Tape H p c n ∧ n < 1000000 ∧ H k = some (.lst xs) ∧ 0 < xs.length ∧ xs.length ≤ 1000000 ∧ ∀ (H' : Hp) (i : Nat) (v : V), Le H H' → Tape H' p c (n + 1) → xs[i]? = some v → Q v H'
def spTen : Sp := fun vs H Q _ => ∃ f : Nat, vs = [.int f] ∧ f ≤ 600 ∧ Q (.int ((10 ^ f : Nat) : Int)) H
/-- a number of so many figures -/
def spNum (c lo : Nat) (neg : Bool) : Sp := fun vs H Q _ => ∃ (p : Addr) (f n : Nat), vs = [.ref p, .int f] ∧ ∃ c', Tape H p c' n ∧ n + c < 900000 ∧ lo ≤ f ∧ f ≤ 500 ∧
  ∀ (H' : Hp) (d : Int), Le H H' → Tape H' p c' (n + c) → (neg = false → 0 ≤ d) → d.natAbs < 10 ^ f → Q (.int d) H'
/-- Euclid's walk, counted -/
structure Euc (A B i u l : Nat) : Prop where
  g : Nat.gcd u l = Nat.gcd A B
  c : (i = 0 ∧ u = A ∧ l = B) ∨ (0 < i ∧ l < u ∧ u * l * 2 ^ (i - 1) ≤ A * B)
theorem Euc.step {A B i u l : Nat} (e : Euc A B i u l) (h : l ≠ 0) : Euc A B (i + 1) l (u % l) := by
  have hlt : u % l < l := Nat.mod_lt _ (by omega)
  refine ⟨by rw [← e.g, Nat.gcd_comm u l, Nat.gcd_comm l (u % l)]; exact (Nat.gcd_rec l u).symm, .inr ⟨by omega, hlt, ?_⟩⟩
  rcases e.c with ⟨rfl, rfl, rfl⟩ | ⟨h0, h1, h2⟩
  · show l * (u % l) * 2 ^ 0 ≤ u * l
    rw [Nat.pow_zero, Nat.mul_one, Nat.mul_comm]
    exact Nat.mul_le_mul_right _ (Nat.mod_le _ _)
  · have key : 2 * (u % l) ≤ u := by
      have hd := Nat.div_add_mod u l
      have h3 : 1 ≤ u / l := (Nat.one_le_div_iff (by omega)).mpr (by omega)
      have h4 : l * 1 ≤ l * (u / l) := Nat.mul_le_mul_left l h3
      omega
    refine Nat.le_trans ?_ h2
    obtain ⟨j, rfl⟩ : ∃ j, i = j + 1 := ⟨i - 1, by omega⟩
    rw [Nat.add_sub_cancel, Nat.add_sub_cancel, Nat.pow_succ]
    have : l * (u % l) * (2 ^ j * 2) = (2 * (u % l)) * l * 2 ^ j := by
      generalize 2 ^ j = y
      generalize u % l = x
      grind
    rw [this]
    exact Nat.mul_le_mul_right _ (Nat.mul_le_mul_right _ key)
theorem Euc.done {A B u l : Nat} (e : Euc A B 1000000 u l) (hA : A < 2 ^ 4000) (hB : B < 2 ^ 4000) : l = 0 := by
  rcases e.c with ⟨h, _, _⟩ | ⟨_, h1, h2⟩
  · omega
  · rcases Nat.eq_zero_or_pos l with z | z
    · exact z
    · exfalso
      have h3 : A * B < 2 ^ (4000 + 4000) := pow_mul_lt hA hB
      have h4 : 1 ≤ u * l := Nat.mul_pos (by omega) z
      have h5 : 2 ^ (1000000 - 1) ≤ A * B := Nat.le_trans (Nat.le_mul_of_pos_left _ h4) h2
      have h6 : 2 ^ (1000000 - 1) < 2 ^ (4000 + 4000) := Nat.lt_of_le_of_lt h5 h3
      have := (Nat.pow_lt_pow_iff_right (a := 2) (by decide)).mp h6
      omega
def spWhole (K : PySem.W.Frag) : Sp := fun vs H Q _ => ∃ a b : Int, vs = [.int a, .int b] ∧ Q (.bl (decide (a = b))) H
def spRatioIs (C : Addr) : Sp := fun vs H Q _ => ∃ (p : Addr) (q : Rat) (t b : Int), vs = [.ref p, .int t, .int b] ∧ IsR C H p q ∧ Bq q ∧ Bt t ∧ Bt b ∧ Q (.bl (decide (q.num * b = t * (q.den : Int)))) H
end
section
open PySem PySem.Spec PyProof.Rows L2
abbrev Pr : Type := Int × Int
def pairD (r : Pr) : PyData := .tuple [.int r.1, .int r.2]
def pairV (r : Pr) : List V := [.int r.1, .int r.2]
/-- the items are tuples of these pairs -/
inductive RowsX (H : Hp) : List V → List Pr → Prop where
  | nil : RowsX H [] []
  | cons {p : Addr} {r : Pr} {xs : List V} {rs : List Pr} : H p = some (.tup (pairV r)) → RowsX H xs rs → RowsX H (V.ref p :: xs) (r :: rs)
def Rows (H : Hp) (l : Addr) (rs : List Pr) : Prop := ∃ xs, H l = some (.lst xs) ∧ RowsX H xs rs
section
variable {H H' : Hp} {xs ys : List V} {rs qs : List Pr} {l p L : Addr} {r : Pr} {o : HO}
theorem RowsX.length (h : RowsX H xs rs) : xs.length = rs.length := by
  induction h with
  | nil => rfl
  | cons _ _ ih => rw [List.length_cons, List.length_cons, ih]
theorem RowsX.le (e : Le H H') (h : RowsX H xs rs) : RowsX H' xs rs := by
  induction h with
  | nil => exact .nil
  | cons h1 _ ih => exact .cons (e.tup h1) ih
theorem RowsX.put (hl : H L = some (.lst ys)) (h : RowsX H xs rs) : RowsX (upd H L o) xs rs := by
  induction h with
  | nil => exact .nil
  | cons h1 _ ih => exact .cons (by rw [upd_ne (ne_of h1 hl (by intro z; cases z))]; exact h1) ih
theorem RowsX.snoc (h : RowsX H xs rs) (hp : H p = some (.tup (pairV r))) : RowsX H (xs ++ [V.ref p]) (rs ++ [r]) := by
  induction h with
  | nil => exact .cons hp .nil
  | cons h1 _ ih => exact .cons h1 ih
theorem RowsX.at_ (h : RowsX H xs rs) : ∀ {i : Nat} {v : V}, xs[i]? = some v → ∃ p r, v = .ref p ∧ rs[i]? = some r ∧ H p = some (.tup (pairV r)) := by
  induction h with
  | nil => intro i v h; simp at h
  | cons h1 _ ih =>
    intro i v hv
    match i, hv with
    | 0, hv => cases hv; exact ⟨_, _, rfl, rfl, h1⟩
    | i + 1, hv => exact ih hv
theorem RowsX.get (h : RowsX H xs rs) : ∀ {i : Nat} {r : Pr}, rs[i]? = some r → ∃ p, xs[i]? = some (.ref p) ∧ H p = some (.tup (pairV r)) := by
  induction h with
  | nil => intro i v h; simp at h
  | cons h1 _ ih =>
    intro i v hv
    match i, hv with
    | 0, hv => cases hv; exact ⟨_, rfl, h1⟩
    | i + 1, hv => exact ih hv
theorem RowsX.erase (h : RowsX H xs rs) : ∀ i : Nat, RowsX H (xs.eraseIdx i) (rs.eraseIdx i) := by
  induction h with
  | nil => intro i; exact .nil
  | cons h1 h2 ih =>
    intro i
    match i with
    | 0 => exact h2
    | i + 1 => exact .cons h1 (ih i)
variable {K : PySem.W.Frag}
theorem dp_pair (h : H p = some (.tup (pairV r))) : Dp K H (.ref p) (pairD r) := .tup (SqT.of h) (.cons (.int _) (.cons (.int _) .nil))
theorem RowsX.dp (h : RowsX H xs rs) : DpAll K H xs (rs.map pairD) := by
  induction h with
  | nil => exact .nil
  | cons h1 _ ih => exact .cons (dp_pair h1) ih
theorem rows_dp (hl : H l = some (.lst xs)) (h : RowsX H xs rs) : Dp K H (.ref l) (.list (rs.map pairD)) := .lst (SqL.of hl) h.dp
theorem nil_dp (hl : H l = some (.lst [])) : Dp K H (.ref l) (.list []) := .lst (SqL.of hl) .nil
theorem pair_lay (r : Pr) : (pairD r).canLay0 = true := rfl
theorem rows_lay : ∀ rs : List Pr, PyData.canLayAll0 (rs.map pairD) = true
  | [] => rfl
  | r :: rs => by
    show (PyData.canLay0 (pairD r) && PyData.canLayAll0 (rs.map pairD)) = true
    rw [pair_lay, rows_lay rs]; rfl
theorem rows_depth : ∀ rs : List Pr, PyData.depthAll (rs.map pairD) ≤ 1
  | [] => Nat.zero_le _
  | r :: rs => by
    show max (PyData.depth (pairD r)) (PyData.depthAll (rs.map pairD)) ≤ 1
    have h1 : PyData.depth (pairD r) = 1 := rfl
    have := rows_depth rs
    omega
theorem rows_shaped (rs : List Pr) : SeqAt.shaped (.list (rs.map pairD)) = true := by
  unfold SeqAt.shaped
  have h1 : PyData.canLay0 (.list (rs.map pairD)) = true := rows_lay rs
  have h2 : PyData.depth (.list (rs.map pairD)) ≤ 64 := by
    show PyData.depthAll (rs.map pairD) + 1 ≤ 64
    have := rows_depth rs
    omega
  rw [h1, decide_eq_true h2]; rfl
theorem nil_shaped : SeqAt.shaped (.list []) = true := by decide +kernel
theorem rows_eqv_nil (rs : List Pr) : PyData.eqv (.list (rs.map pairD)) (.list []) = decide (rs = []) := by
  cases rs with
  | nil => rfl
  | cons r rs => rfl
theorem pair_eqv (r q : Pr) : PyData.eqv (pairD r) (pairD q) = decide (r = q) := by
  show (r.1 == q.1 && (r.2 == q.2 && true)) = decide (r = q)
  rw [Bool.and_true, Bool.eq_iff_iff, Bool.and_eq_true, beq_iff_eq, beq_iff_eq, decide_eq_true_iff, Prod.ext_iff]
/-- rows != [], rows == [] -/
theorem r_neNil {Q : VK} {e : Addr} (hl : H l = some (.lst xs)) (h : RowsX H xs rs) (he : H e = some (.lst [])) (k : Q (.bl (!decide (rs = []))) H) : rNeD K (.ref l) (.ref e) H Q := ⟨_, _, rows_dp hl h, nil_dp he, rows_shaped rs, nil_shaped, by rw [rows_eqv_nil]; exact k⟩
theorem r_eqNil {Q : VK} {e : Addr} (hl : H l = some (.lst xs)) (h : RowsX H xs rs) (he : H e = some (.lst [])) (k : Q (.bl (decide (rs = []))) H) : rEqD K (.ref l) (.ref e) H Q := ⟨_, _, rows_dp hl h, nil_dp he, rows_shaped rs, nil_shaped, by rw [rows_eqv_nil]; exact k⟩
/-- l.remove(x), data in data: the first equal item goes -/
def rRemD (K : PySem.W.Frag) : V → List V → Hp → VK → Prop := fun x vs H Q => ∃ (l : Addr) (xs : List V) (y : V) (ds : List PyData) (d : PyData) (j : Nat), x = .ref l ∧ vs = [y] ∧ H l = some (.lst xs) ∧ DpAll K H xs ds ∧ Dp K H y d ∧ PyData.canLayAll0 ds = true ∧ d.canLay0 = true ∧ PyData.depthAll ds ≤ 60 ∧
  SeqAt.dataPlace ds d = some j ∧ Q .non (upd H l (.lst (xs.eraseIdx j)))
theorem erase_len (xs : List V) (j : Nat) : (xs.eraseIdx j).length ≤ xs.length := by
  rw [List.length_eraseIdx]; split <;> omega
theorem mt_removeD {X : Cx} (h : X.K = K) (hu : X.A.units + 64 < cLine) : MtM X "list.remove" (rRemD K) := by
  subst h
  intro pins s σ H x vs v us Q I rx rxs h
  obtain ⟨l, xs, y, ds, d, j, rfl, rfl, hH, hds, hd, c1, c2, hdep, hj, q⟩ := h
  cases rx
  obtain ⟨u, rfl, ru⟩ := rxs.one
  obtain ⟨z, its, n, r, hl, e⟩ := I.lstM hH
  obtain ⟨as, q1⟩ := Dp.readsAll I ds _ _ hds r
  obtain ⟨bs, q2⟩ := Dp.reads I d _ _ hd ru
  refine SeqAt.remove_list_data (vs := its.toArray) (xs := ds) (d := d) (as := as) (bs := bs) ⟨_, e, rfl, n, rfl⟩ (by simpa using q1) q2 (PyData.plainAll_of_canLay0 _ c1) (PyData.plain_of_canLay0 _ c2) (by omega) hj (by rw [List.size_toArray]; omega) ?_
  have rr := r.eraseIdx j
  refine ⟨.non, _, I.lset (its' := its.eraseIdx j) (t' := s.toks) hH e ?_ rr ?_, rfl, q⟩
  · show its.toArray.eraseIdxIfInBounds j = (its.eraseIdx j).toArray
    rw [List.eraseIdxIfInBounds_toArray]
  · have := erase_len xs j
    omega
end
def spDiv : Sp := fun vs H Q _ => ∃ a b : Int, vs = [.int a, .int b] ∧ Bt a ∧ Bt b ∧ NewV Q H (.bl true)
def PrOk (N : Nat) (r : Pr) : Prop := r.1.natAbs < 2 ^ N ∧ r.2.natAbs < 2 ^ N ∧ 0 < r.2
def spNear : Sp := fun vs H Q _ => ∃ (p l : Addr) (rs : List Pr) (n N : Nat), vs = [.ref p, .ref l] ∧ ∃ c, Tape H p c n ∧ n + 500 < 900000 ∧ Rows H l rs ∧ rs.length ≤ 1000 ∧ 240 ≤ N ∧ N ≤ 3000 ∧ (∀ r ∈ rs, PrOk N r) ∧
  ∀ (H' : Hp) (q : Addr) (r : Pr), Le H H' → Tape H' p c (n + 500) → H' q = some (.tup (pairV r)) → PrOk (N + 5) r → Q (.ref q) H'
theorem p5 (N : Nat) : 2 ^ (N + 5) = 32 * 2 ^ N := by rw [Nat.pow_add, Nat.mul_comm]
theorem near_ok {N : Nat} {r : Pr} {f d : Int} (h : PrOk N r) (f0 : 1 ≤ f) (f1 : f ≤ 9) (d0 : -1 ≤ d) (d1 : d ≤ 1) : PrOk (N + 5) (r.1 * f + d, r.2 * f) := by
  obtain ⟨h1, h2, h3⟩ := h
  have e := p5 N
  have p : 0 < 2 ^ N := Nat.two_pow_pos N
  have m1 : (r.1 * f).natAbs ≤ r.1.natAbs * 9 := by rw [Int.natAbs_mul]; exact Nat.mul_le_mul_left _ (by omega)
  have m2 : (r.2 * f).natAbs ≤ r.2.natAbs * 9 := by rw [Int.natAbs_mul]; exact Nat.mul_le_mul_left _ (by omega)
  have m3 : 0 < r.2 * f := Int.mul_pos h3 (by omega)
  exact ⟨by show (r.1 * f + d).natAbs < _; rw [e]; omega, by show (r.2 * f).natAbs < _; rw [e]; omega, m3⟩
def toQ (r : Pr) : Rat := Rat.divInt r.1 r.2
/-- the numbers handed in are those of the rows -/
def Handed (C : Addr) (H : Hp) (k : Addr) (rs : List Pr) : Prop := ∃ ys, SeqAt1 H k ys ∧ ys.length = rs.length ∧ ∀ (i : Nat) (r : Pr), rs[i]? = some r → ∃ v, ys[i]? = some v ∧ NumV C H v (toQ r)
def spOrder (C : Addr) : Sp := fun vs H Q _ => ∃ (l k : Addr) (rs : List Pr), vs = [.ref l, .ref k] ∧ Rows H l rs ∧ Handed C H k rs ∧ 0 < rs.length ∧ rs.length ≤ 1000 ∧ (∀ r ∈ rs, PrOk 3000 r) ∧ NewV Q H (.bl true)
theorem PrOk.bq {N : Nat} {r : Pr} (h : PrOk N r) (hN : N ≤ 4000) : Bq (toQ r) := by
  obtain ⟨h1, h2, h3⟩ := h
  rcases Nat.eq_zero_or_pos N with z | z
  · subst z
    have : r.2.natAbs < 1 := h2
    omega
  · exact (Sz.divInt h1 h2 z).bq hN
theorem dec_ratio {q : Rat} {r : Pr} (h : 0 < r.2) : decide (q.num * r.2 = r.1 * (q.den : Int)) = decide (q = toQ r) := by
  rw [decide_eq_decide]
  unfold toQ
  conv => rhs; rw [← Rat.num_divInt_den q]
  rw [Rat.divInt_eq_divInt_iff (den_ne q) (by omega)]
theorem dec_same {q r : Rat} (h : q = r) : decide (q.num * (r.den : Int) = r.num * (q.den : Int)) = true := by
  subst h; exact decide_eq_true rfl
theorem place_of {r : Pr} {rs : List Pr} (h : r ∈ rs) : ∃ j, SeqAt.dataPlace (rs.map pairD) (pairD r) = some j ∧ rs[j]? = some r := by
  unfold SeqAt.dataPlace
  cases e : (rs.map pairD).findIdx? (fun y => PyData.eqv y (pairD r)) with
  | none =>
    have := List.findIdx?_eq_none_iff.mp e (pairD r) (List.mem_map.mpr ⟨r, h, rfl⟩)
    rw [pair_eqv] at this
    simp at this
  | some j =>
    obtain ⟨h1, h2, _⟩ := List.findIdx?_eq_some_iff_getElem.mp e
    refine ⟨j, rfl, ?_⟩
    rw [List.length_map] at h1
    rw [List.getElem_map, pair_eqv, decide_eq_true_iff] at h2
    rw [List.getElem?_eq_getElem h1, h2]
theorem erase_perm {r : Pr} : ∀ {rs : List Pr} {j : Nat}, rs[j]? = some r → (r :: rs.eraseIdx j).Perm rs
  | [], j, h => by simp at h
  | q :: rs, 0, h => by cases h; exact .refl _
  | q :: rs, j + 1, h => (List.Perm.swap q r _).trans ((erase_perm (rs := rs) (j := j) h).cons q)
theorem filter_step {t : Pr → Bool} {rs : List Pr} {r : Pr} {i : Nat} (h : rs[i]? = some r) : (rs.take (i + 1)).filter t = (rs.take i).filter t ++ (if t r = true then [r] else []) := by
  rw [List.take_add_one, h, List.filter_append]
  congr 1
  show List.filter t [r] = _
  rw [List.filter_cons, List.filter_nil]
theorem sorted_unique {a b : List Rat} (h : a.Perm b) (ha : a.Pairwise (· ≤ ·)) (hb : b.Pairwise (· ≤ ·)) : a = b :=
  List.Perm.eq_of_pairwise (fun x y _ _ h1 h2 => Rat.le_antisymm h1 h2) ha hb h
def rTupOf (K : PySem.W.Frag) : List V → Hp → VK → Prop := fun xs H Q => ∃ p ys, xs = [.ref p] ∧ ((SqL K H p ys ∧ ∀ l, H l = none → Q (.ref l) (upd H l (.tup ys))) ∨ (SqT K H p ys ∧ Q (.ref p) H))
theorem kc_tupof {X : Cx} {K : PySem.W.Frag} (h : X.K = K) : CallR X (.type "tuple") (rTupOf K) := by subst h; exact call_tuple_of
theorem kc_all {X : Cx} {K : PySem.W.Frag} (h : X.K = K) (hc : X.calm = true) : CallR X (.builtin "all") (rAll K) := by subst h; exact cr_all hc
theorem q_tupL {K : PySem.W.Frag} {H : Hp} {Q : VK} {a : Addr} {xs : List V} (h : H a = some (.lst xs)) (k : ∀ p H', Ex H H' → H p = none → H' p = some (.tup xs) → Q (.ref p) H') : rTupOf K [.ref a] H Q :=
  ⟨a, xs, rfl, .inl ⟨SqL.of h, fun l hl => k l _ (Ex.new hl) hl upd_same⟩⟩
theorem q_allB {K : PySem.W.Frag} {H : Hp} {Q : VK} {a : Addr} {bs : List Bool} (h : H a = some (.lst (bs.map V.bl))) (k : Q (.bl (bs.all id)) H) : rAll K [.ref a] H Q := ⟨a, bs, rfl, SqL.of h, k⟩
theorem PrOk.mono {N M : Nat} {r : Pr} (h : PrOk N r) (hm : N ≤ M) : PrOk M r := ⟨pow_mono h.1 hm, pow_mono h.2.1 hm, h.2.2⟩
theorem toQ_one {r : Pr} (h : r.2 = 1) : toQ r = (r.1 : Rat) := by unfold toQ; rw [h, divInt_one]
def negP (r : Pr) : Pr := (-r.1, r.2)
theorem PrOk.neg {N : Nat} {r : Pr} (h : PrOk N r) : PrOk N (negP r) := ⟨by show (-r.1).natAbs < _; rw [Int.natAbs_neg]; exact h.1, h.2.1, h.2.2⟩
end
section
open PySem PySem.Spec PyProof.Rows L2 PySem.W PySem.Calls
section
variable {prog : Program} {w : World} {A : Around} {E : Value → Shared → Prop} {s : Shared} {K : Frag} {x D : Addr} {ox : Obj} {od : Option Obj}
theorem kit_exc (C : ExcC K D) : KitX K (.ref x) (.ref D) (fun h => InstAt h x ox D od) :=
  kitx_exc (by obtain ⟨_, hc, _⟩ := any_some C.hd; rw [hc]; rfl) C.hg C.hk C.hs C.ha C.hn C.ht C.hm
end
/-- isinstance(e, c) in the suite, e with a dict -/
theorem call_isEd {X : Cx} {a D : Addr} {oe : Obj} {pn : List (Addr × Obj)} {dd : Addr} {K : Frag} (hK : X.K = K) (C : ExcC K D) (hz : Zc (.ref D) (some dd) oe) (hf : ∃ vs, oe.data = .fields vs) :
    CallR (X.suite a ((a, oe) :: pn)) (.builtin "isinstance") (fun xs H Q => (∃ fs, H dd = some (.xd fs)) ∧ rIsE K D a xs H Q) := by
  subst hK
  intro pins s σ H xs us Q I r h
  obtain ⟨⟨fs, hdd⟩, c, cv, b, rfl, hcv, e, q⟩ := h
  cases r with
  | cons rx rr =>
    cases rr with
    | cons rt rr =>
      cases rr; cases rx
      obtain rfl := hcv _ rt
      obtain ⟨hget, _⟩ := I.pin (a, oe) (List.mem_append.mpr (.inl List.mem_cons_self))
      obtain ⟨vs, hv⟩ := hf
      obtain ⟨mA, hns, hr⟩ := (show ObjOk X.prog X.w H s.heap dd (.xd fs) from I.hok dd _ hdd)
      obtain ⟨od, ho, hl⟩ := lookIn_ns hns
      have J : InstAt s.heap a oe D (some od) := ⟨hget, hz.1, by unfold notCls; rw [hv] <;> rfl, by rw [hz.2]; exact ho⟩
      exact kia_one (kit_exc C) I.kIn J e (fun z => nomatch z) fun tk => ⟨.bl b, H, I.kept (t' := tk) fun _ _ z => z, rfl, q⟩
theorem call_isEx {X : Cx} {a D : Addr} {oe : Obj} {pn : List (Addr × Obj)} {cls : Value} {d : Option Addr} {K : Frag} (hK : X.K = K) (C : ExcC K D) (hz : Zc cls d oe) (hf : ∃ vs, oe.data = .fields vs) :
    CallR (X.suite a ((a, oe) :: pn)) (.builtin "isinstance") (fun xs H Q => cls = .ref D ∧ (∃ dd fs, d = some dd ∧ H dd = some (.xd fs)) ∧ rIsE K D a xs H Q) := by
  intro pins s σ H xs us Q I r h
  obtain ⟨rfl, ⟨dd, fs, rfl, hdd⟩, q⟩ := h
  exact call_isEd hK C hz hf pins s σ H xs us Q I r ⟨⟨fs, hdd⟩, q⟩
theorem takes_len {X : Cx} {W : WX} (tk : Takes X W) : Takes X (fun cls d σ H => σ.length = X.N.length → W cls d σ H) := fun u s' h => by
  obtain ⟨a, B, sI, pins, σ, H, cls, d, e, I, nb, up, sky, na, os, ag, w⟩ := h
  exact tk u s' ⟨a, B, sI, pins, σ, H, cls, d, e, I, nb, up, sky, na, os, ag, w I.len⟩
/-- what a refused call leaves: NoSuch's number -/
def TEmpty (CN : Addr) : (XK → Hp → VK → Prop) → Hp → VK → Prop := fun tl H Q => tl (fun cls d H' => cls = .ref CN ∧ ∃ dd v, d = some dd ∧ H' dd = some (.xd [("number", v)]) ∧ Q v H') H (fun _ H' => ∃ v : V, some (some (V.str "fine")) = some (some v) ∧ Q v H')
end
section
open PySem PySem.Spec PyProof.Rows L2
def spLaw (K : PySem.W.Frag) (T : List (Addr × Str)) : Sp := fun vs H Q _ => ∃ (a : Addr) (ns : List Int), vs = [.ref a] ∧ SqL K H a (ns.map V.int) ∧ ns.length ≤ 63 ∧ LamX.Tabs T H ∧ ∀ H', Q (.bl true) H'
theorem tabs_le {T : List (Addr × Str)} {H H' : Hp} (t : LamX.Tabs T H) (e : Le H H') : LamX.Tabs T H' := fun p hp => by
  obtain ⟨ps, h1, h2, h3⟩ := t p hp
  refine ⟨ps, e _ _ h1 trivial, h2, fun pos cv hc => ?_⟩
  obtain ⟨c, e1, e2⟩ := h3 pos cv hc
  exact ⟨c, e1, e _ _ e2 trivial⟩
end
section
open PySem PySem.Spec PyProof.Rows L2
abbrev qL : Str := (("law" : Str) ++ ".<locals>.") ++ "<lambda>"
theorem psL {X : Cx} {A : Around} {outer : List Env} {s : Shared} {H : Hp} {E : XK} {scope : Scope} {f c' : Addr} : Passes (L2.CX X.prog X.w) (LamX.lamCx X A outer s H E scope f c') E :=
  passes_call (X := LamX.lamCx X A outer s H E scope f c') (W := fun cls d _ H => E cls d H) (takes_of rfl rfl rfl rfl) (fun _ _ _ _ h => h)
theorem r_lam {T : List (Addr × Str)} {TT : (XK → Hp → VK → Prop) → Hp → VK → Prop} {t : XK → TE} {σ : L2.St} {H : Hp} {Q : VK} (h : LamX.Tabs T H) (k : ∀ H1, LamX.ExtN H H1 → LamX.Tabs T H1 → TT (fun E H' Q' => t E σ H' Q') H1 Q) : LamX.tLam T TT t σ H Q := ⟨h, k⟩
end
section
open PySem PySem.Spec PyProof.Rows L2
theorem lam_mem {q : Str} {PT : Addr} (e : q ++ ("<lambda>" : Str) = qL) : (PT, q ++ ("<lambda>" : Str)) ∈ [(PT, qL)] := by rw [e]; exact List.mem_singleton.mpr rfl
theorem lam_uni {q : Str} {PT : Addr} (e : q ++ ("<lambda>" : Str) = qL) : ∀ p ∈ [(PT, qL)], p.1 = PT → p.2 = q ++ ("<lambda>" : Str) := by
  rw [e]
  intro p hp _
  rw [List.mem_singleton.mp hp]
end
section
open PySem PySem.Spec PyProof.Rows L2
theorem lamGl {X : Cx} {A : Around} {outer : List Env} {s : Shared} {H : Hp} {E : XK} {scope : Scope} {f c' : Addr} {x : Str} (h : scope.names.lookup x = some .globalImplicit) : Gl (LamX.lamCx X A outer s H E scope f c') x := h
end
section
open PySem PySem.Spec PyProof.Rows L2 He
def top (i : Nat) : Stmt := PySem.Challenge.pw_overfloors_k10_points_and_forms.main.body.getD i (.Pass ⟨0, 0, 0, 0⟩)
end
section
open PySem PySem.Spec PyProof.Rows L2 He
abbrev R : PySem.W.OpenRow := PySem.W.OpenLaw.row PySem.Challenge.rw_overfloors_k10_points_and_forms
def excCB (K : PySem.W.Frag) (D : Addr) : Bool := eqO (PySem.W.findIn K (.ref D) "__getattribute__") (some (some (.builtin "BaseException.__getattribute__"))) && (eqO (PySem.W.findIn K (.ref D) "__getattr__") (some none) && (decide (PySem.W.subIn K (.ref D) (.type "BaseException") = some true) && (PySem.W.hasDictIn K D && (eqO (PySem.W.findIn K (.ref D) "__class__") (some (some (.builtin "object.__class__"))) && (decide (PySem.W.specialIn K (.builtin "object.__class__") "__get__" = some (some (.builtin "getset_descriptor.__get__"))) && (decide (PySem.W.takesIn K (.builtin "object.__class__") = some true) && decide (PySem.W.mroIn K D (.type "object") = some true)))))))
theorem excCB_ok {K : PySem.W.Frag} {D : Addr} (h : excCB K D = true) : ExcC K D := by
  obtain ⟨h1, h⟩ := ba h
  obtain ⟨h2, h⟩ := ba h
  obtain ⟨h3, h⟩ := ba h
  obtain ⟨h4, h⟩ := ba h
  obtain ⟨h5, h⟩ := ba h
  obtain ⟨h6, h⟩ := ba h
  obtain ⟨h7, h8⟩ := ba h
  exact ⟨eqO_ok h1, eqO_ok h2, of_decide_eq_true h3, h4, eqO_ok h5, of_decide_eq_true h6, of_decide_eq_true h7, of_decide_eq_true h8⟩
def fn : List DefD := [
  ⟨("row_keys", none), "row_keys", "row_keys", defArgs (top 4), defBody (top 4), defScope (top 4), [], []⟩,
  ⟨("inserted", none), "inserted", "inserted", defArgs (top 5), defBody (top 5), defScope (top 5), [], []⟩,
  ⟨("ranked", none), "ranked", "ranked", defArgs (top 6), defBody (top 6), defScope (top 6), [], []⟩,
  ⟨("is_int", none), "is_int", "is_int", defArgs (top 11), defBody (top 11), defScope (top 11), [], []⟩,
  ⟨("is_number", none), "is_number", "is_number", defArgs (top 12), defBody (top 12), defScope (top 12), [], []⟩,
  ⟨("ratio_of", none), "ratio_of", "ratio_of", defArgs (top 13), defBody (top 13), defScope (top 13), [], []⟩,
  ⟨("floor_quotient", none), "floor_quotient", "floor_quotient", defArgs (top 14), defBody (top 14), defScope (top 14), [], []⟩,
  ⟨("remainder_of", none), "remainder_of", "remainder_of", defArgs (top 15), defBody (top 15), defScope (top 15), [], []⟩,
  ⟨("power_of", none), "power_of", "power_of", defArgs (top 16), defBody (top 16), defScope (top 16), [], []⟩,
  ⟨("check_parts", none), "check_parts", "check_parts", defArgs (top 17), defBody (top 17), defScope (top 17), [], []⟩,
  ⟨("order_keys", none), "order_keys", "order_keys", defArgs (top 19), defBody (top 19), defScope (top 19), [], []⟩,
  ⟨("added", none), "added", "added", defArgs (top 21), defBody (top 21), defScope (top 21), [], []⟩,
  ⟨("taken", none), "taken", "taken", defArgs (top 22), defBody (top 22), defScope (top 22), [], []⟩,
  ⟨("summed", none), "summed", "summed", defArgs (top 23), defBody (top 23), defScope (top 23), [], []⟩,
  ⟨("cross", none), "cross", "cross", defArgs (top 26), defBody (top 26), defScope (top 26), [], []⟩,
  ⟨("value_at", none), "value_at", "value_at", defArgs (top 27), defBody (top 27), defScope (top 27), [], []⟩,
  ⟨("ranked_points", none), "ranked_points", "ranked_points", defArgs (top 28), defBody (top 28), defScope (top 28), [], []⟩,
  ⟨("ascending_points", none), "ascending_points", "ascending_points", defArgs (top 29), defBody (top 29), defScope (top 29), [], []⟩,
  ⟨("_law_begin", none), "_law_begin", "_law_begin", defArgs (top 31), defBody (top 31), defScope (top 31), [], []⟩,
  ⟨("_law_draw", none), "_law_draw", "_law_draw", defArgs (top 32), defBody (top 32), defScope (top 32), [], []⟩,
  ⟨("_law_pick", none), "_law_pick", "_law_pick", defArgs (top 33), defBody (top 33), defScope (top 33), [], []⟩,
  ⟨("_law_ten", none), "_law_ten", "_law_ten", defArgs (top 34), defBody (top 34), defScope (top 34), [], []⟩,
  ⟨("_law_long", none), "_law_long", "_law_long", defArgs (top 35), defBody (top 35), defScope (top 35), [], []⟩,
  ⟨("_law_size", none), "_law_size", "_law_size", defArgs (top 36), defBody (top 36), defScope (top 36), [], []⟩,
  ⟨("_law_number", none), "_law_number", "_law_number", defArgs (top 37), defBody (top 37), defScope (top 37), [], []⟩,
  ⟨("_law_gcd", none), "_law_gcd", "_law_gcd", defArgs (top 38), defBody (top 38), defScope (top 38), [], []⟩,
  ⟨("_law_truth", none), "_law_truth", "_law_truth", defArgs (top 39), defBody (top 39), defScope (top 39), [], []⟩,
  ⟨("_law_whole_is", none), "_law_whole_is", "_law_whole_is", defArgs (top 40), defBody (top 40), defScope (top 40), [], []⟩,
  ⟨("_law_ratio_is", none), "_law_ratio_is", "_law_ratio_is", defArgs (top 41), defBody (top 41), defScope (top 41), [], []⟩,
  ⟨("_law_told", none), "_law_told", "_law_told", defArgs (top 42), defBody (top 42), defScope (top 42), [], []⟩,
  ⟨("_law_point", none), "_law_point", "_law_point", defArgs (top 43), defBody (top 43), defScope (top 43), [], []⟩,
  ⟨("_law_at", none), "_law_at", "_law_at", defArgs (top 44), defBody (top 44), defScope (top 44), [], []⟩,
  ⟨("_law_pair", none), "_law_pair", "_law_pair", defArgs (top 45), defBody (top 45), defScope (top 45), [], []⟩,
  ⟨("_law_area", none), "_law_area", "_law_area", defArgs (top 46), defBody (top 46), defScope (top 46), [], []⟩,
  ⟨("_law_plus", none), "_law_plus", "_law_plus", defArgs (top 47), defBody (top 47), defScope (top 47), [], []⟩,
  ⟨("_law_minus", none), "_law_minus", "_law_minus", defArgs (top 48), defBody (top 48), defScope (top 48), [], []⟩,
  ⟨("_law_times", none), "_law_times", "_law_times", defArgs (top 49), defBody (top 49), defScope (top 49), [], []⟩,
  ⟨("_law_spot", none), "_law_spot", "_law_spot", defArgs (top 50), defBody (top 50), defScope (top 50), [], []⟩,
  ⟨("_law_form_is", none), "_law_form_is", "_law_form_is", defArgs (top 51), defBody (top 51), defScope (top 51), [], []⟩,
  ⟨("_law_points_right", none), "_law_points_right", "_law_points_right", defArgs (top 52), defBody (top 52), defScope (top 52), [], []⟩,
  ⟨("_law_forms_right", none), "_law_forms_right", "_law_forms_right", defArgs (top 53), defBody (top 53), defScope (top 53), [], []⟩,
  ⟨("_law_rising", none), "_law_rising", "_law_rising", defArgs (top 54), defBody (top 54), defScope (top 54), [], []⟩,
  ⟨("_law_refused", none), "_law_refused", "_law_refused", defArgs (top 55), defBody (top 55), defScope (top 55), [], []⟩,
  ⟨("law", none), "law", "law", defArgs (top 56), defBody (top 56), defScope (top 56), [], []⟩,
  ⟨("BadNumber", some "__init__"), "__init__", "BadNumber.__init__", defArgs (inClass (top 9) 0), defBody (inClass (top 9) 0), defScope (inClass (top 9) 0), [], []⟩,
  ⟨("Ratio", some "__init__"), "__init__", "Ratio.__init__", defArgs (inClass (top 18) 0), defBody (inClass (top 18) 0), defScope (inClass (top 18) 0), [.int 1], []⟩,
  ⟨("Ratio", some "floor"), "floor", "Ratio.floor", defArgs (inClass (top 18) 2), defBody (inClass (top 18) 2), defScope (inClass (top 18) 2), [], []⟩,
  ⟨("Ratio", some "__str__"), "__str__", "Ratio.__str__", defArgs (inClass (top 18) 6), defBody (inClass (top 18) 6), defScope (inClass (top 18) 6), [], []⟩,
  ⟨("Ratio", some "__bool__"), "__bool__", "Ratio.__bool__", defArgs (inClass (top 18) 7), defBody (inClass (top 18) 7), defScope (inClass (top 18) 7), [], []⟩,
  ⟨("Ratio", some "__neg__"), "__neg__", "Ratio.__neg__", defArgs (inClass (top 18) 8), defBody (inClass (top 18) 8), defScope (inClass (top 18) 8), [], []⟩,
  ⟨("Ratio", some "__abs__"), "__abs__", "Ratio.__abs__", defArgs (inClass (top 18) 9), defBody (inClass (top 18) 9), defScope (inClass (top 18) 9), [], []⟩,
  ⟨("Ratio", some "__eq__"), "__eq__", "Ratio.__eq__", defArgs (inClass (top 18) 10), defBody (inClass (top 18) 10), defScope (inClass (top 18) 10), [], []⟩,
  ⟨("Ratio", some "__lt__"), "__lt__", "Ratio.__lt__", defArgs (inClass (top 18) 11), defBody (inClass (top 18) 11), defScope (inClass (top 18) 11), [], []⟩,
  ⟨("Ratio", some "__le__"), "__le__", "Ratio.__le__", defArgs (inClass (top 18) 12), defBody (inClass (top 18) 12), defScope (inClass (top 18) 12), [], []⟩,
  ⟨("Ratio", some "__gt__"), "__gt__", "Ratio.__gt__", defArgs (inClass (top 18) 13), defBody (inClass (top 18) 13), defScope (inClass (top 18) 13), [], []⟩,
  ⟨("Ratio", some "__ge__"), "__ge__", "Ratio.__ge__", defArgs (inClass (top 18) 14), defBody (inClass (top 18) 14), defScope (inClass (top 18) 14), [], []⟩,
  ⟨("Ratio", some "__add__"), "__add__", "Ratio.__add__", defArgs (inClass (top 18) 15), defBody (inClass (top 18) 15), defScope (inClass (top 18) 15), [], []⟩,
  ⟨("Ratio", some "__radd__"), "__radd__", "Ratio.__radd__", defArgs (inClass (top 18) 16), defBody (inClass (top 18) 16), defScope (inClass (top 18) 16), [], []⟩,
  ⟨("Ratio", some "__sub__"), "__sub__", "Ratio.__sub__", defArgs (inClass (top 18) 17), defBody (inClass (top 18) 17), defScope (inClass (top 18) 17), [], []⟩,
  ⟨("Ratio", some "__rsub__"), "__rsub__", "Ratio.__rsub__", defArgs (inClass (top 18) 18), defBody (inClass (top 18) 18), defScope (inClass (top 18) 18), [], []⟩,
  ⟨("Ratio", some "__mul__"), "__mul__", "Ratio.__mul__", defArgs (inClass (top 18) 19), defBody (inClass (top 18) 19), defScope (inClass (top 18) 19), [], []⟩,
  ⟨("Ratio", some "__rmul__"), "__rmul__", "Ratio.__rmul__", defArgs (inClass (top 18) 20), defBody (inClass (top 18) 20), defScope (inClass (top 18) 20), [], []⟩,
  ⟨("Ratio", some "__floordiv__"), "__floordiv__", "Ratio.__floordiv__", defArgs (inClass (top 18) 21), defBody (inClass (top 18) 21), defScope (inClass (top 18) 21), [], []⟩,
  ⟨("Ratio", some "__rfloordiv__"), "__rfloordiv__", "Ratio.__rfloordiv__", defArgs (inClass (top 18) 22), defBody (inClass (top 18) 22), defScope (inClass (top 18) 22), [], []⟩,
  ⟨("Ratio", some "__mod__"), "__mod__", "Ratio.__mod__", defArgs (inClass (top 18) 23), defBody (inClass (top 18) 23), defScope (inClass (top 18) 23), [], []⟩,
  ⟨("Ratio", some "__rmod__"), "__rmod__", "Ratio.__rmod__", defArgs (inClass (top 18) 24), defBody (inClass (top 18) 24), defScope (inClass (top 18) 24), [], []⟩,
  ⟨("Ratio", some "__pow__"), "__pow__", "Ratio.__pow__", defArgs (inClass (top 18) 25), defBody (inClass (top 18) 25), defScope (inClass (top 18) 25), [], []⟩,
  ⟨("Point", some "__init__"), "__init__", "Point.__init__", defArgs (inClass (top 24) 0), defBody (inClass (top 24) 0), defScope (inClass (top 24) 0), [], []⟩,
  ⟨("Point", some "__bool__"), "__bool__", "Point.__bool__", defArgs (inClass (top 24) 1), defBody (inClass (top 24) 1), defScope (inClass (top 24) 1), [], []⟩,
  ⟨("Point", some "__eq__"), "__eq__", "Point.__eq__", defArgs (inClass (top 24) 2), defBody (inClass (top 24) 2), defScope (inClass (top 24) 2), [], []⟩,
  ⟨("Point", some "__neg__"), "__neg__", "Point.__neg__", defArgs (inClass (top 24) 3), defBody (inClass (top 24) 3), defScope (inClass (top 24) 3), [], []⟩,
  ⟨("Point", some "__add__"), "__add__", "Point.__add__", defArgs (inClass (top 24) 4), defBody (inClass (top 24) 4), defScope (inClass (top 24) 4), [], []⟩,
  ⟨("Point", some "__sub__"), "__sub__", "Point.__sub__", defArgs (inClass (top 24) 5), defBody (inClass (top 24) 5), defScope (inClass (top 24) 5), [], []⟩,
  ⟨("Point", some "__mul__"), "__mul__", "Point.__mul__", defArgs (inClass (top 24) 6), defBody (inClass (top 24) 6), defScope (inClass (top 24) 6), [], []⟩,
  ⟨("Point", some "__rmul__"), "__rmul__", "Point.__rmul__", defArgs (inClass (top 24) 7), defBody (inClass (top 24) 7), defScope (inClass (top 24) 7), [], []⟩,
  ⟨("Form", some "__init__"), "__init__", "Form.__init__", defArgs (inClass (top 25) 0), defBody (inClass (top 25) 0), defScope (inClass (top 25) 0), [], []⟩,
  ⟨("Form", some "__call__"), "__call__", "Form.__call__", defArgs (inClass (top 25) 1), defBody (inClass (top 25) 1), defScope (inClass (top 25) 1), [], []⟩,
  ⟨("Form", some "__eq__"), "__eq__", "Form.__eq__", defArgs (inClass (top 25) 2), defBody (inClass (top 25) 2), defScope (inClass (top 25) 2), [], []⟩,
  ⟨("Form", some "__neg__"), "__neg__", "Form.__neg__", defArgs (inClass (top 25) 3), defBody (inClass (top 25) 3), defScope (inClass (top 25) 3), [], []⟩,
  ⟨("Form", some "__add__"), "__add__", "Form.__add__", defArgs (inClass (top 25) 4), defBody (inClass (top 25) 4), defScope (inClass (top 25) 4), [], []⟩,
  ⟨("Form", some "__sub__"), "__sub__", "Form.__sub__", defArgs (inClass (top 25) 5), defBody (inClass (top 25) 5), defScope (inClass (top 25) 5), [], []⟩,
  ⟨("Form", some "__mul__"), "__mul__", "Form.__mul__", defArgs (inClass (top 25) 6), defBody (inClass (top 25) 6), defScope (inClass (top 25) 6), [], []⟩,
  ⟨("Form", some "__rmul__"), "__rmul__", "Form.__rmul__", defArgs (inClass (top 25) 7), defBody (inClass (top 25) 7), defScope (inClass (top 25) 7), [], []⟩]
def fa : List Fa := [
  .free "type",
  .free "isinstance",
  .free "int",
  .free "bool",
  .free "len",
  .free "range",
  .free "enumerate",
  .free "sorted",
  .free "list",
  .free "abs",
  .free "str",
  .free "max",
  .free "zip",
  .free "repr",
  .free "tuple",
  .free "NotImplemented",
  .glo "row_keys",
  .glo "inserted",
  .glo "ranked",
  .glo "is_int",
  .glo "is_number",
  .glo "ratio_of",
  .glo "floor_quotient",
  .glo "remainder_of",
  .glo "power_of",
  .glo "check_parts",
  .glo "order_keys",
  .glo "added",
  .glo "taken",
  .glo "summed",
  .glo "cross",
  .glo "value_at",
  .glo "ranked_points",
  .glo "ascending_points",
  .glo "_law_begin",
  .glo "_law_draw",
  .glo "_law_pick",
  .glo "_law_ten",
  .glo "_law_long",
  .glo "_law_size",
  .glo "_law_number",
  .glo "_law_gcd",
  .glo "_law_truth",
  .glo "_law_whole_is",
  .glo "_law_ratio_is",
  .glo "_law_told",
  .glo "_law_point",
  .glo "_law_at",
  .glo "_law_pair",
  .glo "_law_area",
  .glo "_law_plus",
  .glo "_law_minus",
  .glo "_law_times",
  .glo "_law_spot",
  .glo "_law_form_is",
  .glo "_law_points_right",
  .glo "_law_forms_right",
  .glo "_law_rising",
  .glo "_law_refused",
  .glo "law",
  .glo "FloorError",
  .glo "BadNumber",
  .glo "Ratio",
  .glo "Point",
  .glo "Form",
  .meth "BadNumber" "__init__",
  .noat "BadNumber" "value",
  .cls "Ratio",
  .noat "Ratio" "top",
  .noat "Ratio" "bottom",
  .mkr "Ratio",
  .meth "Ratio" "floor",
  .meth "Ratio" "__str__",
  .meth "Ratio" "__bool__",
  .meth "Ratio" "__neg__",
  .meth "Ratio" "__abs__",
  .meth "Ratio" "__eq__",
  .meth "Ratio" "__lt__",
  .meth "Ratio" "__le__",
  .meth "Ratio" "__gt__",
  .meth "Ratio" "__ge__",
  .meth "Ratio" "__add__",
  .meth "Ratio" "__radd__",
  .meth "Ratio" "__sub__",
  .meth "Ratio" "__rsub__",
  .meth "Ratio" "__mul__",
  .meth "Ratio" "__rmul__",
  .meth "Ratio" "__floordiv__",
  .meth "Ratio" "__rfloordiv__",
  .meth "Ratio" "__mod__",
  .meth "Ratio" "__rmod__",
  .meth "Ratio" "__pow__",
  .cls "Point",
  .noat "Point" "x",
  .noat "Point" "y",
  .mkr "Point",
  .meth "Point" "__bool__",
  .meth "Point" "__eq__",
  .meth "Point" "__neg__",
  .meth "Point" "__add__",
  .meth "Point" "__sub__",
  .meth "Point" "__mul__",
  .meth "Point" "__rmul__",
  .cls "Form",
  .noat "Form" "x",
  .noat "Form" "y",
  .mkr "Form",
  .meth "Form" "__call__",
  .meth "Form" "__eq__",
  .meth "Form" "__neg__",
  .meth "Form" "__add__",
  .meth "Form" "__sub__",
  .meth "Form" "__mul__",
  .meth "Form" "__rmul__",
  .exm "BadNumber" "BadNumber" true,
  .int "FEW" 8]
def ex (K : PySem.W.Frag) : Bool := clsPB K (ga K "Ratio") && (clsPB K (ga K "Point") && (clsPB K (ga K "Form") && (oexB K (ga K "BadNumber") && (xfB K (ga K "BadNumber") && (PySem.W.fnIn K (ma K (ga K "Form") "__call__") && (decide (PySem.W.subIn K (.ref (ga K "Ratio")) (.ref (ga K "Point")) = some false) && (decide (PySem.W.subIn K (.ref (ga K "Ratio")) (.ref (ga K "Form")) = some false) && (decide (PySem.W.subIn K (.ref (ga K "Point")) (.ref (ga K "Ratio")) = some false) && (decide (PySem.W.subIn K (.ref (ga K "Point")) (.ref (ga K "Form")) = some false) && (decide (PySem.W.subIn K (.ref (ga K "Form")) (.ref (ga K "Point")) = some false) && (decide (PySem.W.subIn K (.ref (ga K "Form")) (.ref (ga K "Ratio")) = some false) && (decide (ga K "Ratio" ≠ ga K "Point") && (decide (ga K "Ratio" ≠ ga K "Form") && (decide (ga K "Point" ≠ ga K "Ratio") && (decide (ga K "Point" ≠ ga K "Form") && (decide (ga K "Form" ≠ ga K "Point") && (decide (ga K "Form" ≠ ga K "Ratio") && (eqO (PySem.W.nsIn K mainGlobals "gcd") (some (some (.builtin "math.gcd")))))))))))))))))))))
def tfs : List Defn := [("law", none)]
abbrev hk : PySem.W.Hook := hookX 4 fa fn [] tfs ex
def ob (s : PySem.W.SharedT) : AlX := obsX 4 fa fn [] tfs ex (HandSHeadRun.getT s)
theorem ob_eq (s : PySem.W.SharedT) : ob s = hk.obs s.abs := obsX_eq (HandSHeadRun.getT_eq s)
def loose : List PySem.Str := ([("FEW" : PySem.Str), ("gcd" : PySem.Str), ("_wall" : PySem.Str), ("row_keys" : PySem.Str), ("inserted" : PySem.Str), ("ranked" : PySem.Str), ("FloorError" : PySem.Str), ("BadNumber" : PySem.Str), ("is_int" : PySem.Str), ("is_number" : PySem.Str), ("ratio_of" : PySem.Str), ("floor_quotient" : PySem.Str), ("remainder_of" : PySem.Str), ("power_of" : PySem.Str), ("check_parts" : PySem.Str), ("Ratio" : PySem.Str), ("order_keys" : PySem.Str), ("added" : PySem.Str), ("taken" : PySem.Str), ("summed" : PySem.Str), ("Point" : PySem.Str), ("Form" : PySem.Str), ("cross" : PySem.Str), ("value_at" : PySem.Str), ("ranked_points" : PySem.Str), ("ascending_points" : PySem.Str), ("_law_begin" : PySem.Str), ("_law_draw" : PySem.Str), ("_law_pick" : PySem.Str), ("_law_ten" : PySem.Str)] : List PySem.Str) ++ ([("_law_long" : PySem.Str), ("_law_size" : PySem.Str), ("_law_number" : PySem.Str), ("_law_gcd" : PySem.Str), ("_law_truth" : PySem.Str), ("_law_whole_is" : PySem.Str), ("_law_ratio_is" : PySem.Str), ("_law_told" : PySem.Str), ("_law_point" : PySem.Str), ("_law_at" : PySem.Str), ("_law_pair" : PySem.Str), ("_law_area" : PySem.Str), ("_law_plus" : PySem.Str), ("_law_minus" : PySem.Str), ("_law_times" : PySem.Str), ("_law_spot" : PySem.Str), ("_law_form_is" : PySem.Str), ("_law_points_right" : PySem.Str), ("_law_forms_right" : PySem.Str), ("_law_rising" : PySem.Str), ("_law_refused" : PySem.Str)] : List PySem.Str)
theorem run (w : PySem.World) : HandSHeadRun.RunEqI R (PySem.W.view R.prog [0, 56]) hk ob 6600 loose w := by
  unfold HandSHeadRun.RunEqI
  kernel_rfl
end
section
open PySem PySem.Spec PyProof.Rows L2
def absQ (q : Rat) : Rat := if q.num < 0 then -q else q
theorem cdz_den {q : Rat} {i : Int} (h : Bq q) : CDivZ i (q.den : Int) := ⟨den_ne q, by exact pow_mono h.2 (by decide)⟩
theorem flo_num (q : Rat) : q.num.fdiv (q.den : Int) = q.floor := by
  rw [Rat.floor_def, Int.fdiv_eq_ediv_of_nonneg _ (by omega)]
theorem flo_neg (q : Rat) : (-q.num).fdiv (q.den : Int) = (-q).floor := flo_num (-q)
theorem dd_ne (q r : Rat) : (q.den : Int) * r.den ≠ 0 := Int.mul_ne_zero (den_ne q) (den_ne r)
theorem dd_lt {q r : Rat} (h : Bq q) (g : Bq r) : ((q.den : Int) * r.den).natAbs < 2 ^ 9000 := pow_mono (lt_mul h.2 g.2) (by decide)
theorem rat_abs (q : Rat) : Rat.divInt (if q.num < 0 then -q.num else q.num) q.den = absQ q := by
  unfold absQ
  split
  · exact rat_neg q
  · exact Rat.num_divInt_den q
theorem q_absI {i : Int} {H : Hp} {Q : VK} (k : Q (.int (if i < 0 then -i else i)) H) : rAbs1 [.int i] H Q := ⟨i, rfl, k⟩
end
section
open PySem PySem.Spec PyProof.Rows L2
def spFloQ (K : PySem.W.Frag) (C CB : Addr) : Sp := fun vs H Q E => ∃ u v q r, vs = [u, v] ∧ NumV C H u q ∧ NumV C H v r ∧ Bq q ∧ Bq r ∧ ((r = 0 ∧ Rz E CB "value" v H) ∨ (r ≠ 0 ∧ NewV Q H (.int (q / r).floor)))
def spOver (K : PySem.W.Frag) (C CB : Addr) : Sp := fun vs H Q E => ∃ a v q, vs = [.ref a, v] ∧ IsR C H a q ∧ Bq q ∧ ((Wrong K C H v ∧ Rz E CB "value" v H) ∨ ∃ r, NumV C H v r ∧ Bq r ∧ ((r = 0 ∧ Rz E CB "value" v H) ∨ (r ≠ 0 ∧ NewR C Q H (q / r))))
end
section
open PySem PySem.Spec PyProof.Rows L2
theorem num_ne {r : Rat} (h : r ≠ 0) : r.num ≠ 0 := fun z => h (Rat.num_eq_zero.mp z)
def spRF (C CB : Addr) (g : Rat → Rat → Int) : Sp := fun vs H Q E => ∃ a v q r, vs = [.ref a, v] ∧ IsR C H a q ∧ NumV C H v r ∧ Bq q ∧ Bq r ∧ ((r = 0 ∧ Rz E CB "value" v H) ∨ (r ≠ 0 ∧ NewV Q H (.int (g q r))))
def spRFI (C CB : Addr) (g : Rat → Rat → Int) : Sp := fun vs H Q E => ∃ a q n, vs = [.ref a, .int n] ∧ IsR C H a q ∧ Bq q ∧ Bt n ∧ ((q = 0 ∧ Rz E CB "value" (.ref a) H) ∨ (q ≠ 0 ∧ NewV Q H (.int (g q (n : Rat)))))
end
section
open PySem PySem.Spec PyProof.Rows L2
def spRM (C CB : Addr) (g : Rat → Rat → Rat) : Sp := fun vs H Q E => ∃ a v q r, vs = [.ref a, v] ∧ IsR C H a q ∧ NumV C H v r ∧ Bq q ∧ Bq r ∧ ((r = 0 ∧ Rz E CB "value" v H) ∨ (r ≠ 0 ∧ Bq (r * ((q / r).floor : Rat)) ∧ Bt (q / r).floor ∧ NewR C Q H (g q r)))
def spRMI (C CB : Addr) (g : Rat → Rat → Rat) : Sp := fun vs H Q E => ∃ a q n, vs = [.ref a, .int n] ∧ IsR C H a q ∧ Bq q ∧ Bt n ∧ ((q = 0 ∧ Rz E CB "value" (.ref a) H) ∨ (q ≠ 0 ∧ Bq (q * (((n : Rat) / q).floor : Rat)) ∧ Bt ((n : Rat) / q).floor ∧ NewR C Q H (g q (n : Rat))))
def strQ (q : Rat) : Str := if (q.den : Int) = 1 then Str.ofString (toString q.num) else ((Str.empty ++ Str.ofString (toString q.num)) ++ ("/" : Str)) ++ Str.ofString (toString (q.den : Int))
def spRS (C : Addr) : Sp := fun vs H Q _ => ∃ a q, vs = [.ref a] ∧ IsR C H a q ∧ q.num.natAbs.log2 < 1920 ∧ q.den.log2 < 1920 ∧ Q (.str (strQ q)) H
def spPow : Sp := fun vs H Q _ => ∃ (x : Int) (n : Nat), vs = [.int x, .int n, .int 1] ∧ Bt x ∧ n < 120 ∧ Q (.int (x ^ n)) H
end
section
open PySem PySem.Spec PyProof.Rows L2
theorem rat_div (q r : Rat) : Rat.divInt (q.num * r.den) (q.den * r.num) = q / r := by
  conv => rhs; rw [← Rat.num_divInt_den q, ← Rat.num_divInt_den r, Rat.div_def, Rat.inv_divInt, Rat.divInt_mul_divInt]
end
section
open PySem PySem.Spec PyProof.Rows L2
theorem pw_lt {x : Int} (h : Bt x) : ∀ {m : Nat}, m < 120 → (x ^ m).natAbs < 2 ^ (4000 * 120 + 1) := by
  intro m hm
  rw [Int.natAbs_pow]
  have h1 : x.natAbs ^ m ≤ (2 ^ 4000) ^ m := Nat.pow_le_pow_left (Nat.le_of_lt h) m
  rw [← Nat.pow_mul] at h1
  exact Nat.lt_of_le_of_lt h1 (Nat.pow_lt_pow_right (by decide) (by omega))
def spRP (C : Addr) : Sp := fun vs H Q _ => ∃ (a : Addr) (q : Rat) (n : Nat), vs = [.ref a, .int n] ∧ IsR C H a q ∧ Bq q ∧ n < 120 ∧ (((q.den : Int)) ^ n).natAbs < 2 ^ 9000 ∧ NewR C Q H (q ^ n)
end
section
open PySem PySem.Spec PyProof.Rows L2
theorem rat_pow (q : Rat) : ∀ n : Nat, Rat.divInt (q.num ^ n) ((q.den : Int) ^ n) = q ^ n
  | 0 => by rw [Int.pow_zero, Int.pow_zero, Rat.pow_zero]; rfl
  | n + 1 => by rw [Rat.pow_succ, ← rat_pow q n, Int.pow_succ, Int.pow_succ, ← Rat.divInt_mul_divInt, Rat.num_divInt_den]
end
section
open PySem PySem.Spec PyProof.Rows L2
theorem Ex.get {H H' : Hp} {a : Addr} {o : HO} (e : Ex H H') (h : H a = some o) : H' a = some o := e a o h
/-- q is n over d -/
def FrQ (q : Rat) (n d : Int) : Prop := q * (d : Rat) = (n : Rat)
theorem frq_of {n d : Int} (h : d ≠ 0) : FrQ (Rat.divInt n d) n d := by
  unfold FrQ
  rw [Rat.divInt_eq_div]
  have : (d : Rat) ≠ 0 := by exact_mod_cast h
  grind
theorem rat_nd (q : Rat) : (q.num : Rat) = q * ((q.den : Int) : Rat) := by
  have e : Rat.divInt q.num q.den = q := Rat.num_divInt_den q
  rw [Rat.divInt_eq_div] at e
  have d0 : ((q.den : Int) : Rat) ≠ 0 := by exact_mod_cast den_ne q
  generalize hy : ((q.den : Int) : Rat) = y at *
  generalize hx : (q.num : Rat) = x at *
  rw [← e]
  grind
theorem FrQ.num {q : Rat} {t b : Int} (h : FrQ q t b) : q.num * b = t * (q.den : Int) := by
  have : ((q.num * b : Int) : Rat) = ((t * (q.den : Int) : Int) : Rat) := by
    rw [Rat.intCast_mul, Rat.intCast_mul, rat_nd q, ← h]
    grind
  exact_mod_cast this
theorem FrQ.of_num {q : Rat} {t b : Int} (h : q.num * b = t * (q.den : Int)) : FrQ q t b := by
  unfold FrQ
  have h2 : ((q.num * b : Int) : Rat) = ((t * (q.den : Int) : Int) : Rat) := by rw [h]
  rw [Rat.intCast_mul, Rat.intCast_mul, rat_nd q] at h2
  have d0 : ((q.den : Int) : Rat) ≠ 0 := by exact_mod_cast den_ne q
  generalize ((q.den : Int) : Rat) = y at *
  grind
theorem FrQ.eq {q : Rat} {n d : Int} (h : FrQ q n d) (h0 : d ≠ 0) : q = Rat.divInt n d := by
  have g := frq_of (n := n) h0
  unfold FrQ at h g
  have : (d : Rat) ≠ 0 := by exact_mod_cast h0
  grind
theorem frq_self (q : Rat) : FrQ q q.num q.den := (rat_nd q).symm
theorem frq_int (n : Int) : FrQ (n : Rat) n 1 := by unfold FrQ; grind
/-- sizes of integers -/
def Sb (n : Nat) (i : Int) : Prop := i.natAbs < 2 ^ n
/-- sizes of fractions -/
def Sr (n : Nat) (q : Rat) : Prop := Sz (n + 1) q
section
variable {i j : Int} {n m : Nat} {q r : Rat}
theorem Sb.mono (h : Sb n i) (hn : n ≤ m) : Sb m i := pow_mono h hn
theorem Sb.bt (h : Sb n i) (hn : n ≤ 4000) : Bt i := pow_mono h hn
theorem Sb.lt (h : Sb n i) {k : Nat} (hn : n ≤ k) : i.natAbs < 2 ^ k := pow_mono h hn
theorem Sb.mul (h : Sb n i) (g : Sb m j) : Sb (n + m) (i * j) := lt_mul h g
theorem Sb.add (h : Sb n i) (g : Sb m j) : Sb (max n m + 1) (i + j) := lt_add h g (by omega) (by omega)
theorem Sb.sub (h : Sb n i) (g : Sb m j) : Sb (max n m + 1) (i - j) := lt_sub h g (by omega) (by omega)
theorem Sb.neg (h : Sb n i) : Sb n (-i) := by unfold Sb; rw [Int.natAbs_neg]; exact h
theorem Sb.abs (h : Sb n i) : Sb n (i.natAbs : Int) := by unfold Sb; rw [Int.natAbs_natCast]; exact h
theorem Sb.absi (h : Sb n i) : Sb n (if i < 0 then -i else i) := by split; exact h.neg; exact h
theorem Sb.one : Sb 1 1 := by unfold Sb; decide
theorem Sb.small (h : i.natAbs < 2 ^ 64) : Sb 64 i := h
theorem Sb.fdiv (h : Sb n i) : Sb n (i.fdiv j) := by
  unfold Sb
  by_cases hj : j = 0
  · subst hj; rw [Int.fdiv_zero]; exact Nat.two_pow_pos _
  refine Nat.lt_of_le_of_lt ?_ h
  rcases Int.lt_or_gt_of_ne hj with h0 | h0
  · rw [← Int.neg_fdiv_neg, Int.fdiv_eq_ediv_of_nonneg _ (by omega)]
    have := Int.natAbs_ediv_le_natAbs (-i) (-j)
    rw [Int.natAbs_neg] at this
    exact this
  · rw [Int.fdiv_eq_ediv_of_nonneg _ (by omega)]
    exact Int.natAbs_ediv_le_natAbs i j
theorem Sr.bq (h : Sr n q) (hn : n + 1 ≤ 4000) : Bq q := Sz.bq h hn
theorem Sr.mono (h : Sr n q) (hn : n ≤ m) : Sr m q := Sz.mono h (by omega)
theorem Sr.int (h : Sb n i) : Sr n (i : Rat) := Sz.int (pow_mono h (by omega)) (by omega)
theorem Sr.add (h : Sr n q) (g : Sr m r) : Sr (n + m + 2) (q + r) := Sz.add h g (by omega)
theorem Sr.neg (h : Sr n q) : Sr n (-q) := Sz.neg h
theorem Sr.sub (h : Sr n q) (g : Sr m r) : Sr (n + m + 2) (q - r) := by rw [Rat.sub_eq_add_neg]; exact h.add g.neg
theorem Sr.mul (h : Sr n q) (g : Sr m r) : Sr (n + m + 1) (q * r) := Sz.mono (Sz.mul h g (by omega)) (by omega)
theorem Sr.abs (h : Sr n q) : Sr n (absQ q) := by unfold absQ; split; exact h.neg; exact h
theorem Sr.divInt (h : Sb n i) (g : Sb m j) : Sr (max n m) (Rat.divInt i j) := Sz.divInt (pow_mono h (by omega)) (pow_mono g (by omega)) (by omega)
theorem Sr.inv (h : Sr n q) : Sr n q⁻¹ := by
  rw [← Rat.num_divInt_den q, Rat.inv_divInt]
  exact Sz.divInt h.2 h.1 (by omega)
theorem Sr.div (h : Sr n q) (g : Sr m r) : Sr (n + m + 1) (q / r) := by rw [Rat.div_def]; exact h.mul g.inv
theorem Sr.num (h : Sr n q) : Sb (n + 1) q.num := h.1
theorem Sr.den (h : Sr n q) : Sb (n + 1) (q.den : Int) := by show ((q.den : Int)).natAbs < _; rw [Int.natAbs_natCast]; exact h.2
theorem Sr.frq {d : Int} (h : FrQ q i d) (h0 : d ≠ 0) (a : Sb n i) (b : Sb m d) : Sr (max n m) q := by rw [h.eq h0]; exact .divInt a b
theorem Bq.sr (h : Bq q) : Sr 4000 q := Sz.mono (n := 4000) ⟨h.1, by have := h.2; unfold Bt at this; rw [Int.natAbs_natCast] at this; exact this⟩ (by omega)
end
end
open PySem PySem.Spec PyProof.Rows L2
local macro_rules | `(tactic| wtm_at "of_exs") => `(tactic| first | assumption | exact Ex.refl _ | (refine Ex.trans ?_ (by assumption); wtm_at "of_exs"))
section
open PySem PySem.Spec PyProof.Rows L2
end
open PySem PySem.Spec PyProof.Rows L2
local macro_rules | `(tactic| wtm_at "of_szb") => `(tactic| first | assumption | exact Sr.bq (by wtm_at "of_szi") (by decide) | exact Sb.bt (by wtm_at "of_szi") (by decide) | exact Sb.lt (by wtm_at "of_szi") (by decide))
section
open PySem PySem.Spec PyProof.Rows L2
section
variable {K : PySem.W.Frag} {C a p CB : Addr} {H : Hp} {Q : VK} {q r : Rat} {E : XK} {v : V}
def spREq (K : PySem.W.Frag) (C : Addr) : Sp := fun vs H Q _ => ∃ a v q, vs = [.ref a, v] ∧ IsR C H a q ∧ ((∃ r, NumV C H v r ∧ Q (.bl (decide (q = r))) H) ∨ (Wrong K C H v ∧ Q (.bl false) H))
theorem q_REq (h : IsR C H a q) (hv : NumV C H v r) (k : Q (.bl (decide (q = r))) H) : spREq K C [.ref a, v] H Q E := ⟨a, v, q, rfl, h, .inl ⟨r, hv, k⟩⟩
theorem q_REqW (h : IsR C H a q) (hv : Wrong K C H v) (k : Q (.bl false) H) : spREq K C [.ref a, v] H Q E := ⟨a, v, q, rfl, h, .inr ⟨hv, k⟩⟩
theorem q_rIs {t b : Int} (h : IsR C H p q) (hq : Bq q) (ht : Bt t) (hb : Bt b) (e : FrQ q t b) (k : Q (.bl true) H) : spRatioIs C [.ref p, .int t, .int b] H Q E := ⟨p, q, t, b, rfl, h, hq, ht, hb, by rw [decide_eq_true e.num]; exact k⟩
theorem q_rIsD {t b : Int} (h : IsR C H p q) (hq : Bq q) (ht : Bt t) (hb : Bt b) (k : Q (.bl (decide (q.num * b = t * (q.den : Int)))) H) : spRatioIs C [.ref p, .int t, .int b] H Q E := ⟨p, q, t, b, rfl, h, hq, ht, hb, k⟩
theorem q_whT {i j : Int} (e : i = j) (k : Q (.bl true) H) : spWhole K [.int i, .int j] H Q E := ⟨i, j, rfl, by rw [decide_eq_true e]; exact k⟩
end
theorem r_lq {xs : List V} {H : Hp} {Q : VK} (hz : Nat.ble xs.length 1000 = true) (k : ∀ p H', Ex H H' → H p = none → H' p = some (.tup xs) → Q (.ref p) H') : LaidT xs H Q := r_laidT (Nat.le_of_ble_eq_true hz) k
theorem r_ll {xs : List V} {H : Hp} {Q : VK} (hz : Nat.ble xs.length 1000 = true) (k : ∀ p H', Ex H H' → H p = none → H' p = some (.lst xs) → Q (.ref p) H') : LaidL xs H Q := r_laidL (Nat.le_of_ble_eq_true hz) k
section
variable {K : PySem.W.Frag} {mg : Str → Option Value} {C a p : Addr} {H : Hp} {Q : VK} {q r : Rat} {E : XK} {sp : Sp} {n : Int} {m : Str}
/-- operators of Ratios, by kinds -/
theorem a_OI {ok : V → Hp → Prop} (h : IsR C H a q) (ho : ok (.int n) H) (k : sp [.ref a, .int n] H Q E) : rO C sp E ok (.ref a) (.int n) H Q := o_O h ho k
theorem a_2 (h : IsR C H a q) (h' : IsR C H p r) (k : sp [.ref a, .ref p] H Q E) : rO C sp E (isIns C) (.ref a) (.ref p) H Q := o_O h (o_ins h') k
theorem a_I (h : IsR C H a q) (k : sp [.ref a, .int n] H Q E) : rO C sp E isInt (.ref a) (.int n) H Q := o_O h o_int k
theorem a_c2 (T : RT K mg C) (h : IsR C H a q) (h' : IsR C H p r) (k : sp [.ref a, .ref p] H Q E) : rO C sp E (isAny K C) (.ref a) (.ref p) H Q := o_O h (o_anyR T h') k
theorem a_cI (h : IsR C H a q) (k : sp [.ref a, .int n] H Q E) : rO C sp E (isAny K C) (.ref a) (.int n) H Q := o_O h o_anyI k
theorem a_n2 (T : RT K mg C) (h : IsR C H a q) (h' : IsR C H p r) (k : sp [.ref a, .ref p] H (kNB Q) E) : rNO C sp E (isAny K C) (.ref a) (.ref p) H Q := o_NO h (o_anyR T h') k
theorem a_M {R : Addr → Prop} (h : IsR C H a q) (hm : (!(m == ("top" : Str)) && !(m == ("bottom" : Str))) = true) (k : R a) : ∃ a' dx fs, V.ref a = .ref a' ∧ H a' = some (.ins C dx fs) ∧ fs.lookup m = none ∧ R a' := by
  obtain ⟨h1, h2⟩ := Bool.and_eq_true_iff.mp hm
  exact o_M h (by simpa using h1) (by simpa using h2) k
theorem a_lt {g : Rat → Rat → Bool} {v : V} (h : IsR C H a q) (hv : NumV C H v r) (b : Bq q) (b' : Bq r) (k : ∀ H', Ex H H' → Q (.bl (g q r)) H') : spRB C g [.ref a, v] H Q E := q_RB h hv b b' k
theorem a_R1 {g : Rat → Rat → Rat} {v : V} (h : IsR C H a q) (hv : NumV C H v r) (b : Bq q) (b' : Bq r) (k : ∀ H' p, Ex H H' → IsR C H' p (g q r) → Q (.ref p) H') : spR1 C g (fun _ _ => True) [.ref a, v] H Q E := q_R1 h hv b b' trivial k
theorem a_RI {g : Rat → Rat → Rat} (h : IsR C H a q) (b : Bq q) (b' : Bt n) (k : ∀ H' p, Ex H H' → IsR C H' p (g q (n : Rat)) → Q (.ref p) H') : spRI C g (fun _ _ => True) [.ref a, .int n] H Q E := q_RI h b b' trivial k
theorem a_R0 {g : Rat → Rat} (h : IsR C H a q) (b : Bq q) (k : ∀ H' p, Ex H H' → IsR C H' p (g q) → Q (.ref p) H') : spR0 C g [.ref a] H Q E := q_R0 h b k
theorem a_RV {g : Rat → V} (h : IsR C H a q) (b : Bq q) (k : Q (g q) H) : spRV C g [.ref a] H Q E := q_RV h b k
theorem a_id {v : V} (k : Q v H) : id Q v H := k
theorem a_dz {g : Int → Int → V} {i j : Int} (h0 : j ≠ 0) (h1 : j.natAbs < 2 ^ 9000) (k : Q (g i j) H) : rI CDivZ g (.int i) (.int j) H Q := r_I ⟨h0, h1⟩ k
theorem a_whD {i j : Int} (k : Q (.bl (decide (i = j))) H) : spWhole K [.int i, .int j] H Q E := ⟨i, j, rfl, k⟩
theorem a_kNB {b : Bool} (k : Q (.bl (!b)) H) : kNB Q (.bl b) H := ⟨b, rfl, k⟩
theorem a_kB {b : Bool} (k : Q (.bl b) H) : kB Q (.bl b) H := ⟨b, rfl, k⟩
end
end
open PySem PySem.Spec PyProof.Rows L2
local macro_rules | `(tactic| wtm_at "of_ra") => `(tactic| repeat wtm_at "of_ra1")
section
open PySem PySem.Spec PyProof.Rows L2
end
section
open PySem PySem.Spec PyProof.Rows L2
def spTruth : Sp := fun vs H Q _ => ∃ a b : Bool, vs = [.bl a, .bl b] ∧ Q (.bl (decide (a = b))) H
def spLPow : Sp := fun vs H Q _ => ∃ (x : Int) (n : Nat), vs = [.int x, .int n] ∧ Sb 400 x ∧ n ≤ 7 ∧ Q (.int (x ^ n)) H
def spFrac : Sp := fun vs H Q _ => ∃ (p : Addr) (n : Nat), vs = [.ref p] ∧ ∃ c, Tape H p c n ∧ n + 101 < 900000 ∧ ∀ (H' : Hp) (t : Addr) (x y : Int), Le H H' → Tape H' p c (n + 101) → H' t = some (.tup [.int x, .int y]) → x.natAbs < 10 ^ 80 → 0 < y → y.natAbs ≤ 10 ^ 79 → Q (.ref t) H'
/-- a told fraction and its Ratio -/
structure Fr (C : Addr) (H : Hp) (o a : Addr) (n d : Int) (q : Rat) : Prop where
  t : H o = some (.tup [.int n, .int d])
  r : IsR C H a q
  e : FrQ q n d
  d0 : 0 < d
  sn : Sb 400 n
  sd : Sb 400 d
theorem Fr.ex {C o a : Addr} {H H' : Hp} {n d : Int} {q : Rat} (h : Fr C H o a n d q) (e : Ex H H') : Fr C H' o a n d q := ⟨e _ _ h.t, h.r.ex e, h.e, h.d0, h.sn, h.sd⟩
theorem Fr.s {C o a : Addr} {H : Hp} {n d : Int} {q : Rat} (h : Fr C H o a n d q) : Sr 400 q := Sr.frq h.e (by have := h.d0; omega) h.sn h.sd
def spTwo (C : Addr) : Sp := fun vs H Q _ => ∃ o t a b n d m e qa qb, vs = [.ref o, .ref t, .ref a, .ref b] ∧ Fr C H o a n d qa ∧ Fr C H t b m e qb ∧ ∀ H', Ex H H' → Q (.bl true) H'
end
section
open PySem PySem.Spec PyProof.Rows L2
section
variable {q r : Rat} {n d m e : Int}
theorem frq_add (h : FrQ q n d) (g : FrQ r m e) : FrQ (q + r) (n * e + m * d) (d * e) := by
  unfold FrQ at *; push_cast; grind
theorem frq_sub (h : FrQ q n d) (g : FrQ r m e) : FrQ (q - r) (n * e - m * d) (d * e) := by
  unfold FrQ at *; push_cast; grind
theorem frq_mul (h : FrQ q n d) (g : FrQ r m e) : FrQ (q * r) (n * m) (d * e) := by
  unfold FrQ at *; push_cast; grind
theorem frq_neg (h : FrQ q n d) : FrQ (-q) (-n) d := by
  unfold FrQ at *; push_cast; grind
theorem frq_addI (h : FrQ q n d) : FrQ (q + (m : Rat)) (n + m * d) d := by
  unfold FrQ at *; push_cast; grind
theorem frq_Iadd (h : FrQ q n d) : FrQ ((m : Rat) + q) (n + m * d) d := by
  unfold FrQ at *; push_cast; grind
theorem frq_subI (h : FrQ q n d) : FrQ (q - (m : Rat)) (n - m * d) d := by
  unfold FrQ at *; push_cast; grind
theorem frq_Isub (h : FrQ q n d) : FrQ ((m : Rat) - q) (m * d - n) d := by
  unfold FrQ at *; push_cast; grind
theorem frq_mulI (h : FrQ q n d) : FrQ (q * (m : Rat)) (n * m) d := by
  unfold FrQ at *; push_cast; grind
theorem frq_Imul (h : FrQ q n d) : FrQ ((m : Rat) * q) (n * m) d := by
  unfold FrQ at *; push_cast; grind
theorem frq_abs (h : FrQ q n d) (d0 : 0 < d) : FrQ (absQ q) (if n < 0 then -n else n) d := by
  have hs : q.num < 0 ↔ n < 0 := by
    have := h.num
    have := den_pos q
    constructor
    · intro z
      have h1 : q.num * d < 0 := Int.mul_neg_of_neg_of_pos z d0
      apply Int.lt_of_not_ge; intro h2
      have := Int.mul_nonneg h2 (Int.le_of_lt this)
      omega
    · intro z
      have h1 : n * (q.den : Int) < 0 := Int.mul_neg_of_neg_of_pos z this
      apply Int.lt_of_not_ge; intro h2
      have := Int.mul_nonneg h2 (Int.le_of_lt d0)
      omega
  unfold absQ
  by_cases z : n < 0
  · rw [if_pos z, if_pos (hs.mpr z)]; exact frq_neg h
  · rw [if_neg z, if_neg (fun c => z (hs.mp c))]; exact h
theorem frq_floor (h : FrQ q n d) (d0 : 0 < d) : q.floor = n.fdiv d := by
  have dp : (0 : Rat) < (d : Rat) := by exact_mod_cast d0
  have e1 : n.fdiv d * d + n.fmod d = n := by rw [Int.mul_comm]; exact Int.mul_fdiv_add_fmod n d
  have m0 : 0 ≤ n.fmod d := Int.fmod_nonneg_of_pos n d0
  have m1 : n.fmod d < d := Int.fmod_lt_of_pos n d0
  apply Int.le_antisymm
  · apply Int.le_of_lt_add_one
    rw [Rat.floor_lt_iff]
    unfold FrQ at h
    have : (n : Rat) < ((n.fdiv d + 1 : Int) : Rat) * (d : Rat) := by
      have : n < (n.fdiv d + 1) * d := by rw [Int.add_mul]; omega
      exact_mod_cast this
    rw [← h] at this
    exact Rat.lt_of_mul_lt_mul_right this (Rat.le_of_lt dp)
  · rw [Rat.le_floor_iff]
    unfold FrQ at h
    have : ((n.fdiv d : Int) : Rat) * (d : Rat) ≤ (n : Rat) := by
      have : n.fdiv d * d ≤ n := by omega
      exact_mod_cast this
    rw [← h] at this
    exact Rat.le_of_mul_le_mul_right this dp
end
end
section
open PySem PySem.Spec PyProof.Rows L2 PySem.W PySem.Calls PySem.HandSPX
section
variable {prog : Program} {w : World} {A : Around} {E : Value → Shared → Prop} {R : Result → Shared → Prop} {h : Heap} {g : Array GenState} {d : Drawn} {t : Nat} {os : OsState}
variable {nm q : Str} {C N : Addr} {bs bm bmB : List Value} {hdct : Bool} {sn : List Str} {sub : List Value} {ab : Bool} {col : Option Bool} {dd : Option Addr} {k0 k1 k2 k3 k5 : Option Value} {B newId initId : String} {rest : List Value} {kw : List (Str × Value)}
theorem kwNew (F : ExcBaseFacts B newId initId bmB) (hT : ∀ X : String, bm.contains (.type X) = bmB.contains (.type X)) {Q : Unit → Shared → Prop}
    (hC : h.get? C = some (excClassObj nm q C N bs bm hdct sn sub ab col dd k0 k1 k2 k3 k5 newId)) (hq : Q () ⟨h, g, d, t, os⟩) : wpAny (model prog w) A (checkBuiltinCall newId ⟨.ref C :: rest, kw⟩) Q E ⟨h, g, d, t, os⟩ := by
  have c1 : (Value.ref C :: bm).contains (.type B) = true := by rw [List.contains_cons, hT, F.hasB, Bool.or_true]
  have c2 := F.noStar
  simp only [checkBuiltinCall, F.newKind, F.newSplit, F.newRow]
  repeat (first | refine wpAny_loadPart_at hC ?_ | (refine wpAny_isSubtype_exc hC ?_; rw [c1]) | refine wpAny_staticBase_exc hC ?_ | refine wpAny_madeBy_exc hC ?_ | simp only [bne_self_eq_false, Bool.false_eq_true, if_false] | wp_step)
  exact hq
theorem newKw (F : ExcBaseFacts B newId initId bmB) (hT : ∀ X : String, bm.contains (.type X) = bmB.contains (.type X)) (hC : h.get? C = some (excClassObj nm q C N bs bm hdct sn sub ab col dd k0 k1 k2 k3 k5 newId))
    (hq : R (.ok (.ret (.ref (h.objs.size + 1)))) ⟨(h.push (PySem.W.kdv_tup rest)).push (excO C h.objs.size), g, d, t, os⟩) (hl : rest.length ≤ sizeLine) : codeAny (model prog w) A (.builtin newId ⟨.ref C :: rest, kw⟩) R ⟨h, g, d, t, os⟩ := by
  have e0 := F.ends
  have c1 : (Value.ref C :: bm).contains (.type B) = true := by rw [List.contains_cons, hT, F.hasB, Bool.or_true]
  have c2 : (Value.ref C :: bm).contains (.type "AttributeError") = false := by rw [List.contains_cons, hT, F.noAttr] <;> rfl
  have c3 : (Value.ref C :: bm).contains (.type "NameError") = false := by rw [List.contains_cons, hT, F.noName] <;> rfl
  refine codeAny_builtinAt F.entry ?_
  unfold Builtin.«BaseException.__new__»
  refine PySem.wpAt_bind ?_
  show PySem.wpAt _ _ _ (stack >>= _) _ _ _
  refine PySem.wpAt_bind (PySem.wpAt_stack fun p below => PySem.wpAt_of_wpAny ?_)
  wp_walk
  refine PySem.wpAt_of_wpAny ?_
  rw [F.owner]
  repeat (first | with_reducible refine wpAny_madeHere_exc F.canon hC ?_ | with_reducible refine wpAny_loadPart_at hC ?_ | (with_reducible refine wpAny_isSubtype_exc hC ?_; first | rw [c1] | rw [c2] | rw [c3]) | wp_step)
  show R _ _
  rw [Heap.size_push]
  exact hq
theorem tcKw (F : ExcBaseFacts B newId initId bmB) (hT : ∀ X : String, bm.contains (.type X) = bmB.contains (.type X)) {fI : Addr} {Q : Fin → Shared → Prop} (hC : h.get? C = some (excClassObj nm q C N bs bm hdct sn sub ab col dd k0 k1 k2 k3 k5 newId))
    (hi : PySem.W.Looks (model prog w) h (typeLookup (.ref C) "__init__") (some (.ref fI))) (hb : ∀ self, PySem.W.Looks (model prog w) h (bindSpecial (.ref fI) self) (.ref fI, [self])) (hl : rest.length ≤ sizeLine)
    (hq : codeAny (model prog w) A (.call (.ref fI) ⟨.ref (h.objs.size + 1) :: rest, kw⟩) (fun r s' => match r with | .ok (.ret v) => v = .none ∧ Q (.done (.ret (.ref (h.objs.size + 1)))) s' | .ok _ => False | .error e => E e s') ⟨(h.push (PySem.W.kdv_tup rest)).push (excO C h.objs.size), g, d, t, os⟩) :
    wpAny (model prog w) A (Builtin.«type.__call__» ⟨.ref C :: rest, kw⟩) Q E ⟨h, g, d, t, os⟩ := by
  repeat (first | with_reducible refine wpAny_loadPart_at hC ?_ | with_reducible refine wpAny_madeBy_exc hC ?_ | wp_step)
  refine codeAny_call_builtin_code (Code.quiet_builtin _ F.quiet) (kwNew F hT hC (newKw F hT hC ?_ hl))
  show wpAny _ _ _ _ _ _
  have k : ∀ b o, h.get? b = some o → ((h.push (PySem.W.kdv_tup rest)).push (excO C h.objs.size)).get? b = some o := fun b o e => Heap.get?_push_of_some _ (Heap.get?_push_of_some _ e)
  have hC1 := k _ _ hC
  have hg : ((h.push (PySem.W.kdv_tup rest)).push (excO C h.objs.size)).get? (h.objs.size + 1) = some (excO C h.objs.size) := by heap_get
  have cc : (Value.ref C :: bm).contains (.ref C) = true := by simp
  have i1 := hi.keeps k
  have b1 := (hb (.ref (h.objs.size + 1))).keeps k
  unfold isInstance
  repeat (first | with_reducible refine wpAny_loadPart_at hg ?_ | (with_reducible refine wpAny_isSubtype_exc hC1 ?_; rw [cc]) | wp_step)
  show wpAny _ _ (typeLookup (.ref C) _) _ _ _
  refine i1.at (wpAny_holding (wpAny_bind (b1.at (wpAny_bind (wpAny_call (codeAny_mono hq fun r s' z => ?_))))))
  rcases r with e | (v | _ | _ | _) <;> first | exact z | exact z.elim | skip
  obtain ⟨rfl, z⟩ := z
  first | exact wpAny_pure (wpAny_pure z) | (wp_walk; exact z)
theorem callKw (F : ExcBaseFacts B newId initId bmB) (hT : ∀ X : String, bm.contains (.type X) = bmB.contains (.type X)) {fI : Addr} (hC : h.get? C = some (excClassObj nm q C N bs bm hdct sn sub ab col dd k0 k1 k2 k3 k5 newId))
    (hi : PySem.W.Looks (model prog w) h (typeLookup (.ref C) "__init__") (some (.ref fI))) (hb : ∀ self, PySem.W.Looks (model prog w) h (bindSpecial (.ref fI) self) (.ref fI, [self])) (hl : rest.length ≤ sizeLine)
    (hq : codeAny (model prog w) (A.under (.builtin "type.__call__" ⟨.ref C :: rest, kw⟩)) (.call (.ref fI) ⟨.ref (h.objs.size + 1) :: rest, kw⟩) (PySem.W.InitBack (h.objs.size + 1) R) ⟨(h.push (PySem.W.kdv_tup rest)).push (excO C h.objs.size), g, d, t, os⟩) :
    codeAny (model prog w) A (.call (.ref C) ⟨rest, kw⟩) R ⟨h, g, d, t, os⟩ := by
  have f1 := tc_lookup
  have f2 := tc_bind (.ref C)
  have ty : (⟨h, g, d, t, os⟩ : Shared).TypeIs (.ref C) "type" := ⟨_, hC, rfl⟩
  refine codeAny_of_tree ?_
  show wpAny _ _ (callAny (.ref C) _) _ _ _
  repeat (any_goals (first | assumption | with_reducible refine wpAny_loadPart_at hC ?_ | wp_step))
  refine ⟨rfl, ?_⟩
  refine codeAny_call_builtin_at (Code.quiet_builtin _ (by decide +kernel)) entry_typeCall (wpAny_check_type_call_sub hC (tcKw F hT hC hi hb hl ?_))
  refine codeAny_mono hq fun r s' z => ?_
  rcases r with e | (v | _ | _ | _) <;> exact z
end
end
section
open PySem PySem.Spec PyProof.Rows L2
/-- at a stands an exception of the class at C with these fields -/
def IsX (C : Addr) (fs : List (Str × V)) (H : Hp) (a : Addr) : Prop := ∃ d, H a = some (exo a C (some d)) ∧ H d = some (exd d fs) ∧ d ≠ a
def AnyX (C : Addr) (H : Hp) (a : Addr) : Prop := H a = some (exo a C none) ∨ ∃ fs, IsX C fs H a
theorem IsX.ex {C a : Addr} {fs : List (Str × V)} {H H' : Hp} (h : IsX C fs H a) (e : Ex H H') : IsX C fs H' a := by
  obtain ⟨d, h1, h2, h3⟩ := h
  exact ⟨d, e _ _ h1, e _ _ h2, h3⟩
theorem AnyX.ex {C a : Addr} {H H' : Hp} (h : AnyX C H a) (e : Ex H H') : AnyX C H' a := by
  rcases h with h | ⟨fs, h⟩
  · exact .inl (e _ _ h)
  · exact .inr ⟨fs, h.ex e⟩
def spExs (C : Addr) (fl : List Str) : Sp := fun vs H Q _ => ∃ a ys, vs = .ref a :: ys ∧ ys.length = fl.length ∧ H a = some (exo a C none) ∧
  ∀ d H', (∀ b o, H b = some o → b ≠ a → H' b = some o) → H' a = some (exo a C (some d)) → H' d = some (exd d (fl.zip ys).reverse) → H d = none → Q .non H'
structure Cxv (P : Program) (w : World) (K : PySem.W.Frag) (mg : Str → Option Value) (base : Heap) (k : Nat) (x : Str) (C : Addr) (fl : List Str) : Prop where
  ox : OexC K C
  hm : mg x = some (.ref C)
  ex : ∃ (f : Addr) (fd : FuncData), PySem.W.findIn K (.ref C) "__init__" = some (some (.ref f)) ∧ PySem.W.typeIn K (.ref f) = some (.type "function") ∧ FnOk P w K mg base (L2.CX P w) k f fd ("self" :: fl) (spExs C fl) ∧
    ∀ n, n ≤ fl.length → KBn K fd ("self" :: fl) (n + 1) (fl.drop n) (fun us ws => us ++ ws) (fun vs zs => vs ++ zs)
/-- X(e, .., f = e, ..) -/
def tOx (C : Addr) (fl : List Str) (n : Nat) (ta tk : TA) : TE := fun σ H Q => ta σ H fun vs H1 => tk σ H1 fun zs H2 => vs.length = n ∧ zs.length = fl.length - n ∧ ∀ a H', Ex H2 H' → H2 a = none → IsX C (fl.zip (vs ++ zs)).reverse H' a → Q (.ref a) H'
section
variable {X : Cx} {k j n : Nat} {C : Addr} {fl : List Str} {x : Str} {p pos : Pos} {e : Expr} {es : List Expr} {kws : List Keyword} {ta tk : TA}
theorem run_ox {pins : List (Addr × Obj)} {σ : L2.St} {H1 : Hp} {s1 : Shared} {Q : VK} {us ws : List Value} {vs zs : List V} (c : Cxv X.prog X.w X.K X.mg X.base k x C fl) (hr : Room (k + 1) X.A) (hn : n ≤ fl.length) (hz : fl.length ≤ 100)
    (I1 : Inv X pins σ H1 s1) (r : Vals vs us) (rv2 : Vals zs ws) (l1 : vs.length = n) (l2 : zs.length = fl.length - n) (hq : ∀ a H', Ex H1 H' → H1 a = none → IsX C (fl.zip (vs ++ zs)).reverse H' a → Q (.ref a) H') :
    wpAny (model X.prog X.w) X.A (call (.ref C) us ((fl.drop n).zip ws)) (EP X pins σ Q) X.xe s1 := by
  obtain ⟨f, fd, iC, tI, F1, kb⟩ := c.ex
  have hb := kb n hn
  obtain ⟨nm, q, N, bs, bm, sn, sub, ab, col, dd, k0, k1, k2, k3, k5, hC, hbm⟩ := c.ox.cls
  obtain ⟨hp, g0, dr, tk0, os⟩ := s1
  have h0 : H1 (hp.objs.size + 1) = none := I1.hok.fresh (Nat.le_succ _)
  have kk : ∀ b o, hp.get? b = some o → ((hp.push (PySem.W.kdv_tup us)).push (PySem.HandSPX.excO C hp.objs.size)).get? b = some o := fun b o e => Heap.get?_push_of_some _ (Heap.get?_push_of_some _ e)
  have hget : ((hp.push (PySem.W.kdv_tup us)).push (PySem.HandSPX.excO C hp.objs.size)).get? (hp.objs.size + 1) = some (PySem.HandSPX.excO C hp.objs.size) := by heap_get
  have I2 : Inv X pins σ (upd H1 (hp.objs.size + 1) (exo (hp.objs.size + 1) C none)) ⟨(hp.push (PySem.W.kdv_tup us)).push (PySem.HandSPX.excO C hp.objs.size), g0, dr, tk0, os⟩ := I1.laid (t' := tk0) kk (Nat.le_succ _) (exo_ok hget)
  have r1 : Vals (V.ref (hp.objs.size + 1) :: vs) (Value.ref (hp.objs.size + 1) :: us) := .cons rfl r
  have r2 := hb.rel r1 rv2
  have n1 : (Value.ref (hp.objs.size + 1) :: us).length = n + 1 := by rw [List.length_cons, ← r.length, l1]
  have n2 : ws.length = (fl.drop n).length := by rw [List.length_drop, ← rv2.length]; exact l2
  have hus : us.length ≤ sizeLine := by rw [← r.length, sizeLine_eq]; omega
  have sp1 : spExs C fl (V.ref (hp.objs.size + 1) :: vs ++ zs) (upd H1 (hp.objs.size + 1) (exo (hp.objs.size + 1) C none)) (fun v H3 => v = .non ∧ Q (.ref (hp.objs.size + 1)) H3) (fun _ _ _ => False) := by
    refine ⟨_, vs ++ zs, rfl, by rw [List.length_append, l1, l2]; omega, upd_same, fun d H' kp ha hd hn => ⟨rfl, hq _ H' (fun b o hb => kp b o ?_ ?_) h0 ⟨d, ha, hd, fun z => by rw [z, upd_same] at hn; cases hn⟩⟩⟩
    · rw [upd_ne (ne_of_none hb h0)]; exact hb
    · exact ne_of_none hb h0
  refine wpAny_call (callKw F.excBase_ValueError (fun Y => PySem.HandSPX.refsVE_contains Y bm hbm) (I1.kIn _ _ hC) (PySem.W.looks_findIn I1.kIn iC) (fun self => PySem.W.bind_fn I1.kIn self tI) hus
    (codeAny_mono (F1.run _ X.stack _ _ ⟨Value.ref (hp.objs.size + 1) :: us, (fl.drop n).zip ws⟩ (Value.ref (hp.objs.size + 1) :: us ++ ws) _ _ (fun _ _ _ => False) (hr.make C us _) (I2.env0.make C us _) (hb.to _ _ ws I2.kIn n1 n2) r2 sp1) fun r s' hq' => ?_))
  cases r with
  | error er => exact passL pins σ _ _ er s' I2 hq'
  | ok fl2 =>
    cases fl2 with
    | ret u =>
      obtain ⟨v, H', I3, rv, ev, q3⟩ := I2.after hq'
      subst ev
      exact ⟨rv, ⟨V.ref (hp.objs.size + 1), H', I3, rfl, q3⟩⟩
    | next => exact False.elim hq'
    | brk => exact False.elim hq'
    | cont => exact False.elim hq'
end
end
section
open PySem PySem.Spec PyProof.Rows L2
section
variable {X : Cx} {k j n : Nat} {C : Addr} {fl : List Str} {x : Str} {p pos : Pos} {e : Expr} {es : List Expr} {kws : List Keyword} {ta tk : TA}
theorem pe_xvP (c : Cxv X.prog X.w X.K X.mg X.base k x C fl) (hr : Room j X.A) (hk : k + 1 ≤ j) (hg : Gl X x) (ha : PA X (e :: es) ta) (hz : fl.length ≤ 100 := by decide)
    (he : starEach (e :: es) X.env = (false, eval e X.env) :: starEach es X.env := by rfl) (hpl : (backTo pos (starEach es X.env)).any (·.1) = false := by rfl) (hdb : (x == ("__debug__" : Str)) = false := by decide) :
    PE X (.Call (.Name x p) (e :: es) [] pos) (tOx C fl fl.length ta tNil) := by
  refine ⟨fun pins s σ H Q I h => ?_⟩
  refine wpAny_Call_Name_kw (ld_glob I hg c.hm ?_ hdb)
  refine PySem.W.callWith_K (h₀ := X.base) I.ok.mod.kin c.ox.kC (thn (ha.run pos pins s σ H _ I h) fun us s1 ⟨vs, H1, I1, r1, l1, l2, q1⟩ => ⟨I1.kIn, ?_⟩) he hpl
  have z := run_ox (zs := []) (ws := []) c (hr.mono hk) (Nat.le_refl _) hz I1 r1 .nil l1 l2 q1
  rw [List.drop_length] at z
  exact z
theorem pe_xvK (c : Cxv X.prog X.w X.K X.mg X.base k x C fl) (hr : Room j X.A) (hk : k + 1 ≤ j) (hg : Gl X x) (hkw : PK X kws tk) (hz : fl.length ≤ 100 := by decide)
    (hall : (backToKw pos (keywordEach kws X.env)).all (·.1.isSome) = true := by rfl) (hks : (backToKw pos (keywordEach kws X.env)).filterMap (·.1) = fl := by rfl) (hdb : (x == ("__debug__" : Str)) = false := by decide)
    (hpl : ((backTo pos (starEach [] X.env)).any (·.1) || (backToKw pos (keywordEach kws X.env)).any (·.1.isNone)) = false := by rfl) : PE X (.Call (.Name x p) [] kws pos) (tOx C fl 0 tNil tk) := by
  refine ⟨fun pins s σ H Q I h => ?_⟩
  refine wpAny_Call_Name_kw (ld_glob I hg c.hm ?_ hdb)
  refine PySem.W.callWith_KW0 (h₀ := X.base) I.ok.mod.kin c.ox.kC hall ?_ hpl
  refine thn (hkw.run pos pins s σ H _ I h) fun ws s2 ⟨zs, H2, I2, rv2, l1, l2, q2⟩ => ⟨I2.kIn, ?_⟩
  rw [hks]
  exact run_ox (us := []) (vs := []) c (hr.mono hk) (Nat.zero_le _) hz I2 .nil rv2 rfl l2 q2
theorem pe_xvM (c : Cxv X.prog X.w X.K X.mg X.base k x C fl) (hr : Room j X.A) (hk : k + 1 ≤ j) (hg : Gl X x) (n : Nat) (hn : n ≤ fl.length) (ha : PA X (e :: es) ta) (hkw : PK X kws tk) (hz : fl.length ≤ 100 := by decide)
    (hall : (backToKw pos (keywordEach kws X.env)).all (·.1.isSome) = true := by rfl) (hks : (backToKw pos (keywordEach kws X.env)).filterMap (·.1) = fl.drop n := by rfl) (hdb : (x == ("__debug__" : Str)) = false := by decide)
    (he : starEach (e :: es) X.env = (false, eval e X.env) :: starEach es X.env := by rfl) (hpl : ((backTo pos (starEach (e :: es) X.env)).any (·.1) || (backToKw pos (keywordEach kws X.env)).any (·.1.isNone)) = false := by rfl) :
    PE X (.Call (.Name x p) (e :: es) kws pos) (tOx C fl n ta tk) := by
  refine ⟨fun pins s σ H Q I h => ?_⟩
  refine wpAny_Call_Name_kw (ld_glob I hg c.hm ?_ hdb)
  refine PySem.W.callWith_KW (h₀ := X.base) I.ok.mod.kin c.ox.kC hall (thn (ha.run pos pins s σ H _ I h) fun us s1 ⟨vs, H1, I1, r, q⟩ => ?_) hpl he
  refine thn (hkw.run pos pins s1 σ H1 _ I1 q) fun ws s2 ⟨zs, H2, I2, rv2, l1, l2, q2⟩ => ⟨I2.kIn, ?_⟩
  rw [hks]
  exact run_ox c (hr.mono hk) hn hz I2 r rv2 l1 l2 q2
/-- X(), the class without an own __init__ -/
theorem pe_xv0 {bmB : List Value} {B newId initId : String} (F : ExcBaseFacts B newId initId bmB) (q : PySem.W.excIn X.K C bmB newId = true) (gC : X.mg x = some (.ref C)) (kC : PySem.W.keepIn X.K (.ref C) = true) (hg : Gl X x) (hdb : (x == ("__debug__" : Str)) = false := by decide) :
    PE X (.Call (.Name x p) [] [] pos) (fun σ H Q => ∀ a H', Ex H H' → H a = none → H' a = some (exo a C none) → Q (.ref a) H') := by
  refine ⟨fun pins s σ H Q I h => ?_⟩
  refine wpAny_Call_Name_kw (ld_glob I hg gC ?_ hdb)
  refine PySem.W.callWith_K0 I.kIn kC ?_
  show wpAny _ _ (call (.ref C) []) _ _ _
  obtain ⟨bm, N, nm, qn, bs, hdct, sn, sub, ab, col, dd, k0, k1, k2, k3, k5, mN, hC, hN, hni, T⟩ := exc_obj I.kIn q
  refine wpAny_call_exc_subT F T hC hN hni (fun h' a hm => ?_) (by show 0 ≤ sizeLine; omega)
  have h0 : H a = none := I.hok.gone hm.new
  obtain ⟨t, ht, _, _⟩ := hm.there
  exact ⟨.ref a, upd H a (exo a C none), I.laidN hm.keeps hm.new h0 (exo_ok ht), rfl, h a _ (Ex.new h0) h0 upd_same⟩
/-- x.f, x such an exception -/
def tXa (K : PySem.W.Frag) (C : Addr) (f : Str) (te : TE) : TE := fun σ H Q => te σ H fun x H1 => ∃ a fs v, x = .ref a ∧ IsX C fs H1 a ∧ fs.lookup f = some v ∧ Q v H1
theorem xdict {H : Hp} {s : Shared} {pins : List (Addr × Obj)} {σ : L2.St} {a d : Addr} {fs : List (Str × V)} (I : Inv X pins σ H s) (h1 : H a = some (exo a C (some d))) (h2 : H d = some (exd d fs)) :
    ∃ (oe od : Obj) (mA : Str → Option Value), PySem.W.InstAt s.heap a oe C (some od) ∧ (∀ f, RelO (fs.lookup f) (mA f)) ∧ ∀ f, PySem.W.lookIn f od = some (mA f) := by
  obtain ⟨t1, ho⟩ := exo_at I.hok h1
  obtain ⟨mA, hns, rel⟩ := exd_at I.hok h2
  obtain ⟨od, hd, hl⟩ := lookIn_ns hns
  exact ⟨_, od, mA, ⟨ho, rfl, rfl, hd⟩, rel, hl⟩
theorem pe_xa {te : TE} {f : Str} (T : XfC X.K C) (hno : PySem.W.findIn X.K (.ref C) f = some none) (he : PE X e te) (hb : attributeBase e f X.env (eval e X.env) = eval e X.env := by rfl) : PE X (.Attribute e f pos) (tXa X.K C f te) := by
  refine ⟨fun pins s σ H Q I h => ?_⟩
  refine attr_of hb (thn (he.run pins s σ H _ I h) fun u s1 ⟨v0, H1, I1, rx, a, fs, v, ex, ⟨d, h1, h2⟩, l, q⟩ => ?_)
  subst ex
  obtain rfl : u = Value.ref a := rx
  obtain ⟨oe, od, mA, J, rel, hl⟩ := xdict I1 h1 h2.1
  obtain ⟨u, hu, ru⟩ := RelO.some_of (v := v) (o := mA f) (by rw [← l]; exact rel f)
  exact HandSPX.exc_get I1.kIn J T.ga T.gg T.exC (PySem.W.findObj_own T.hdC hno rfl (by rw [hl, hu])) (handed_of ru) ⟨v, H1, I1.tok _, ru, q⟩
/-- isinstance(x, c), x such an exception, c a class or a tuple of classes -/
def rIsV (K : PySem.W.Frag) : List V → Hp → VK → Prop := fun xs H Q => ∃ (a C : Addr) (c : V) (b : Bool), xs = [.ref a, c] ∧ ExcC K C ∧ AnyX C H a ∧
  ((∃ cv, (∀ u, RelV c u → u = cv) ∧ PySem.W.kitOne K (.ref C) cv = some b) ∨ ∃ (t : Addr) (cs : List Addr), c = .ref t ∧ H t = some (.tup (cs.map V.ref)) ∧ PySem.W.kitAny K (.ref C) (cs.map Value.ref) = some b) ∧ Q (.bl b) H
theorem anyInst {H : Hp} {s : Shared} {pins : List (Addr × Obj)} {σ : L2.St} {a : Addr} (I : Inv X pins σ H s) (h : AnyX C H a) : ∃ (oe : Obj) (od : Option Obj), PySem.W.InstAt s.heap a oe C od := by
  rcases h with h | ⟨fs, d, h1, h2⟩
  · obtain ⟨t1, ho⟩ := exo_at I.hok h
    exact ⟨_, none, ho, rfl, rfl, trivial⟩
  · obtain ⟨oe, od, _, J, _⟩ := xdict I h1 h2.1
    exact ⟨oe, some od, J⟩
theorem vals_refs : ∀ {cs : List Addr} {us : List Value}, Vals (cs.map V.ref) us → us = cs.map Value.ref
  | [], _, h => by cases h; rfl
  | c :: cs, _, h => by
    cases h with
    | cons r rr => rw [vals_refs rr, show _ = Value.ref c from r]; rfl
theorem cr_isV : CallR X (.builtin "isinstance") (rIsV X.K) := by
  intro pins s σ H xs us Q I r h
  obtain ⟨a, C, c, b, rfl, EC, hx, hc, q⟩ := h
  obtain ⟨oe, od, J⟩ := anyInst I hx
  cases r with
  | cons rx rr =>
    cases rr with
    | cons rt rr =>
      cases rr; cases rx
      rcases hc with ⟨cv, hcv, hk⟩ | ⟨t, cs, rfl, ht, hk⟩
      · obtain rfl := hcv _ rt
        exact PySem.W.kia_one (kit_exc EC) I.kIn J hk (fun z => nomatch z) fun tk => ⟨.bl b, H, I.kept (t' := tk) fun _ _ z => z, rfl, q⟩
      · cases rt
        obtain ⟨_, its, rv, pl⟩ := (show ObjOk X.prog X.w H s.heap t (.tup _) from I.hok t _ ht)
        obtain rfl := vals_refs rv
        obtain ⟨⟨oc, od2, dt, sl⟩, ho, h1, n, h2⟩ := pl
        replace h1 : oc = .type "tuple" := h1
        replace h2 : dt = .seq _ n := h2
        subst h1 h2
        exact PySem.W.kia_tup (kit_exc EC) I.kIn J ho hk (fun z => nomatch z) fun tk => ⟨.bl b, H, I.kept (t' := tk) fun _ _ z => z, rfl, q⟩
/-- raise x, x such an exception made in this def -/
theorem pmk_x {te : TE} (hx : X.ex = []) (he : PE X e te) : PMk X e (fun σ H Q => te σ H fun x H1 => ∃ (a C : Addr) (od : Option Addr), x = .ref a ∧ H1 a = some (exo a C od) ∧ Fr0 X.H_0 a ∧ Raises X (.ref C) ∧ Q (.ref C) od (delH H1 a)) := by
  intro pins s σ H Q I h
  refine wpAny_mono (he.run pins s σ H _ I h) (fun u s1 hu => ?_) fun _ _ x => x
  obtain ⟨v, H1, I1, r1, a, C, od, rfl, ha, h0, hr, q⟩ := hu
  cases r1
  obtain ⟨t1, ho⟩ := exo_at I1.hok ha
  obtain ⟨G, gs, ga, J⟩ := I1.untrack ha h0 hx
  exact ⟨a, _, _, { s1 with heap := G }, delH H1 a, .ref C, od, rfl, J, gs, ga, ho, ⟨rfl, rfl⟩, rfl, rfl, delH_same, rfl, I1.bare, hr, q⟩
end
end
section
open PySem PySem.Spec PyProof.Rows L2
/-- all stays but dicts with something in them -/
def Kn (H H' : Hp) : Prop := ∀ b o, H b = some o → (∀ kv kvs, o ≠ .dK (kv :: kvs)) → H' b = some o
theorem Kn.refl (H : Hp) : Kn H H := fun _ _ h _ => h
theorem Kn.trans {H H1 H2 : Hp} (a : Kn H H1) (b : Kn H1 H2) : Kn H H2 := fun x o h s => b x o (a x o h s) s
theorem Ex.kn {H H' : Hp} (e : Ex H H') : Kn H H' := fun a o h _ => e a o h
theorem Kn.dict {H : Hp} {p : Addr} {kv : Key × V} {kvs : List (Key × V)} {o : HO} (h : H p = some (.dK (kv :: kvs))) : Kn H (upd H p o) := fun a u e s => by
  rw [upd_ne (ne_of e h (s _ _))]
  exact e
theorem Kn.put {H H' : Hp} {L : Addr} {o : HO} (e : Kn H H') (h : H L = none) : Kn H (upd H' L o) := fun a u q s => by
  rw [upd_ne (ne_of_none q h)]
  exact e a u q s
theorem Kn.lst {H H' : Hp} {p : Addr} {xs : List V} (e : Kn H H') (h : H p = some (.lst xs)) : H' p = some (.lst xs) := e _ _ h fun _ _ z => by cases z
theorem Kn.tup {H H' : Hp} {p : Addr} {xs : List V} (e : Kn H H') (h : H p = some (.tup xs)) : H' p = some (.tup xs) := e _ _ h fun _ _ z => by cases z
inductive V12 (H : Hp) : V → Prop
  | non : V12 H .non
  | tr : V12 H (.bl true)
  | i (n : Int) (h : n.natAbs < 2 ^ 64) : V12 H (.int n)
  | s (x : Str) (h : SeqAt.shaped (.str x) = true) : V12 H (.str x)
  | tup {t : Addr} (h : H t = some (.tup [.int 1, .int 2])) : V12 H (.ref t)
  | lst {t : Addr} (h : H t = some (.lst [.str "x"])) : V12 H (.ref t)
  | dic {t : Addr} (h : H t = some (.dK [])) : V12 H (.ref t)
  | nest {t u : Addr} (h : H t = some (.tup [.ref u, .int 2])) (h2 : H u = some (.tup [.int 0, .int 1])) : V12 H (.ref t)
theorem V12.kn {H H' : Hp} {v : V} (h : V12 H v) (e : Kn H H') : V12 H' v := by
  cases h with
  | non => exact .non
  | tr => exact .tr
  | i n h => exact .i n h
  | s x h => exact .s x h
  | tup h => exact .tup (e.tup h)
  | lst h => exact .lst (e.lst h)
  | dic h => exact .dic (e _ _ h fun _ _ z => by cases z)
  | nest h h2 => exact .nest (e.tup h) (e.tup h2)
theorem V12.put {H : Hp} {v : V} {L : Addr} {xs : List V} {o : HO} (h : V12 H v) (hL : H L = some (.lst xs)) (hx : xs.length ≠ 1) : V12 (upd H L o) v := by
  cases h with
  | non => exact .non
  | tr => exact .tr
  | i n h => exact .i n h
  | s x h => exact .s x h
  | tup h => exact .tup (by rw [upd_ne (ne_of h hL (by intro z; cases z))]; exact h)
  | lst h => exact .lst (by rw [upd_ne (ne_of h hL (by intro z; cases z; exact hx rfl))]; exact h)
  | dic h => exact .dic (by rw [upd_ne (ne_of h hL (by intro z; cases z))]; exact h)
  | nest h h2 => exact .nest (by rw [upd_ne (ne_of h hL (by intro z; cases z))]; exact h) (by rw [upd_ne (ne_of h2 hL (by intro z; cases z))]; exact h2)
theorem V12.data {K : PySem.W.Frag} {H : Hp} {v : V} (h : V12 H v) : (∃ d, Dp K H v d ∧ SeqAt.shaped d = true ∧ PyData.eqv d d = true) ∨ ∃ a, v = .ref a ∧ H a = some (.dK []) := by
  have sh : ∀ d : PyData, d.canLay0 = true → d.depth ≤ 64 → SeqAt.shaped d = true := fun d h1 h2 => by unfold SeqAt.shaped; rw [h1, decide_eq_true h2]; rfl
  cases h with
  | non => exact .inl ⟨_, .non, by decide, by decide⟩
  | tr => exact .inl ⟨_, .bl _, by decide, by decide⟩
  | i n h => exact .inl ⟨_, .int n, sh _ rfl (by show 0 ≤ 64; decide), SeqAt.eqv_refl _ rfl⟩
  | s x h => exact .inl ⟨_, .str x, h, SeqAt.eqv_refl _ (SeqAt.canLay_of_shaped h)⟩
  | tup h => exact .inl ⟨_, .tup (SqT.of h) (.cons (.int _) (.cons (.int _) .nil)), by decide, by decide⟩
  | lst h => exact .inl ⟨_, .lst (SqL.of h) (.cons (.str _) .nil), by decide +kernel, by decide +kernel⟩
  | dic h => exact .inr ⟨_, rfl, h⟩
  | nest h h2 => exact .inl ⟨_, .tup (SqT.of h) (.cons (.tup (SqT.of h2) (.cons (.int _) (.cons (.int _) .nil))) (.cons (.int _) .nil)), by decide, by decide⟩
theorem kitB (K : PySem.W.Frag) (n : String) (b : Bool) (h : PySem.W.kitOne [] (.type n) (.type "bool") = some b) : PySem.W.kitOne K (.type n) (.type "bool") = some b := h
theorem V12.ty {K : PySem.W.Frag} {H : Hp} {v : V} (h : V12 H v) : ∃ t b, TyX K H v t ∧ PySem.W.kitOne K t (.type "bool") = some b := by
  cases h with
  | non => exact ⟨_, false, .base .non, kitB K _ _ (by decide +kernel)⟩
  | tr => exact ⟨_, true, .base (.bl _), kitB K _ _ (by decide +kernel)⟩
  | i n h => exact ⟨_, false, .base (.int _), kitB K _ _ (by decide +kernel)⟩
  | s x h => exact ⟨_, false, .base (.str _), kitB K _ _ (by decide +kernel)⟩
  | tup h => exact ⟨_, false, .base (.tup h), kitB K _ _ (by decide +kernel)⟩
  | lst h => exact ⟨_, false, .base (.lst h), kitB K _ _ (by decide +kernel)⟩
  | dic h => exact ⟨_, false, .base (.dK h), kitB K _ _ (by decide +kernel)⟩
  | nest h h2 => exact ⟨_, false, .base (.tup h), kitB K _ _ (by decide +kernel)⟩
end
section
open PySem PySem.Spec PyProof.Rows L2
def GetX (C : Addr) (f : Str) (x : V) (H : Hp) (Q : VK) : Prop := ∃ a fs v, x = .ref a ∧ IsX C fs H a ∧ fs.lookup f = some v ∧ Q v H
def MkX (C : Addr) (fl : List Str) (n : Nat) (vs zs : List V) (H : Hp) (Q : VK) : Prop := vs.length = n ∧ zs.length = fl.length - n ∧ ∀ a H', Ex H H' → H a = none → IsX C (fl.zip (vs ++ zs)).reverse H' a → Q (.ref a) H'
/-- a class without fields -/
structure Cx0 (K : PySem.W.Frag) (mg : Str → Option Value) (x : Str) (C : Addr) : Prop where
  q : PySem.W.excIn K C He.veBase "ValueError.__new__" = true
  hm : mg x = some (.ref C)
  kp : PySem.W.keepIn K (.ref C) = true
def MkX0 (C : Addr) (H : Hp) (Q : VK) : Prop := ∀ a H', Ex H H' → H a = none → H' a = some (exo a C none) → Q (.ref a) H'
def tO0 (C : Addr) : TE := fun _ H Q => MkX0 C H Q
/-- what a raise takes -/
def Rzx (X : Cx) (x : V) (H : Hp) (Q : XK) : Prop := ∃ (a C : Addr) (od : Option Addr), x = .ref a ∧ H a = some (exo a C od) ∧ Fr0 X.H_0 a ∧ Raises X (.ref C) ∧ Q (.ref C) od (delH H a)
section
variable {K K' : PySem.W.Frag} {C : Addr} {f : Str} {fl : List Str} {n : Nat} {ta tk : TA} {te : TE} {σ : L2.St} {H : Hp} {Q : VK} {v x y : V} {vs zs : List V}
theorem r_xa (k : te σ H fun x H1 => GetX C f x H1 Q) : tXa K' C f te σ H Q := k
theorem r_ox (k : ta σ H fun vs H1 => tk σ H1 fun zs H2 => MkX C fl n vs zs H2 Q) : tOx C fl n ta tk σ H Q := k
theorem r_ox0 (k : MkX0 C H Q) : tO0 C σ H Q := k
theorem mkget (l1 : vs.length = n) (l2 : zs.length = fl.length - n) (hl : (fl.zip (vs ++ zs)).reverse.lookup f = some v) (k : ∀ H', Ex H H' → Q v H') : MkX C fl n vs zs H (fun x H1 => GetX C f x H1 Q) := ⟨l1, l2, fun a H' e _ h => ⟨a, _, v, rfl, h, hl, k H' e⟩⟩
theorem mkx (l1 : vs.length = n) (l2 : zs.length = fl.length - n) (k : ∀ a H', Ex H H' → H a = none → AnyX C H' a → Q (.ref a) H') : MkX C fl n vs zs H Q := ⟨l1, l2, fun a H' e h0 h => k a H' e h0 (.inr ⟨_, h⟩)⟩
theorem mkx0 (k : ∀ a H', Ex H H' → H a = none → AnyX C H' a → Q (.ref a) H') : MkX0 C H Q := fun a H' e h0 h => k a H' e h0 (.inl h)
/-- two values of a kind are never unlike themselves -/
def rNeW (K : PySem.W.Frag) : R2 := fun x y H Q => rNeD K x y H Q ∨ rNeDA x y H Q
theorem q_neW (h : V12 H v) (k : Q (.bl false) H) : rNeW K v v H Q := by
  rcases h.data (K := K) with ⟨d, h1, h2, h3⟩ | ⟨a, rfl, ha⟩
  · exact .inl ⟨d, d, h1, h1, h2, h2, by rw [h3]; exact k⟩
  · exact .inr ⟨a, a, [], [], rfl, rfl, ha, ha, rfl, fun p hp => (nomatch hp), k⟩
theorem q_isB (h : V12 H v) (e : K' = K) (k : ∀ b, (∀ Q' : VK, Q' (.bl b) H → rIsi K' [v, .ty "bool"] H Q') → Q (.bl b) H) : rIsi K' [v, .ty "bool"] H Q := by
  obtain ⟨t, b, h1, h2⟩ := h.ty (K := K')
  exact r_isi (.ty _) h1 h2 (k b fun Q' q => r_isi (.ty _) h1 h2 q)
end
section
variable {X : Cx} {K : PySem.W.Frag} {C : Addr} {x f : Str} {e : Expr} {te : TE} {p pos : Pos}
theorem kpe_xa (hK : X.K = K) (T : XfC K C) (hno : PySem.W.findIn K (.ref C) f = some none) (he : PE X e te) (hb : attributeBase e f X.env (eval e X.env) = eval e X.env := by rfl) : PE X (.Attribute e f pos) (tXa K C f te) := by subst hK; exact pe_xa T hno he hb
theorem pe_x0 (hK : X.K = K) (c : Cx0 K X.mg x C) (hg : Gl X x) (hdb : (x == ("__debug__" : Str)) = false := by decide) : PE X (.Call (.Name x p) [] [] pos) (tO0 C) := by subst hK; exact pe_xv0 F.excBase_ValueError c.q c.hm c.kp hg hdb
theorem kc_isV (hK : X.K = K) : CallR X (.builtin "isinstance") (rIsV K) := by subst hK; exact cr_isV
theorem kc_sum (hK : X.K = K) (hc : X.calm = true) : CallR X (.builtin "sum") (rSum K) := by subst hK; exact cr_sum hc
def rMin2 : List V → Hp → VK → Prop := fun xs H Q => ∃ i j, xs = [.int i, .int j] ∧ Q (.int (if j < i then j else i)) H
theorem kc_min (hc : X.calm = true) : CallR X (.builtin "min") rMin2 := call_min2 hc
theorem kop_neW (hK : X.K = K) (h1 : X.A.units + 64 < cLine) : OpR X (compareOp .NotEq) (rNeW K) := op_or (kop_neD hK h1) (op_ne_dictA (by omega))
theorem pmk_rx (hx : X.ex = []) (he : PE X e te) : PMk X e (fun σ H Q => te σ H fun x H1 => Rzx X x H1 Q) := pmk_x hx he
end
theorem r_rzx {X : Cx} {te : TE} {W : WX} {σ : L2.St} {H : Hp} (k : te σ H fun x H1 => Rzx X x H1 (fun cls d H' => W cls d σ H')) : (fun (σ : L2.St) (H : Hp) (Q : XK) => te σ H fun x H1 => Rzx X x H1 Q) σ H (fun cls d H' => W cls d σ H') := k
end
open PySem PySem.Spec PyProof.Rows L2
local macro_rules | `(tactic| wtm_at "of_rz1") => `(tactic| with_reducible first
  | refine r_xa ?_ | refine r_ox ?_ | refine r_ox0 ?_
  | refine r_dget ?_ | refine r_dput ?_ | refine r_gsub ?_ | refine q_intI ?_ | refine q_intB ?_
  | refine r_par ?_ | refine r_par3 ?_ | refine r_parP ?_ | refine r_parP3 ?_ | refine r_part ?_ | refine r_nopart ?_ | refine r_intP ?_ | refine r_for ?_ | refine r_iL ?_ | refine r_iT ?_ | refine r_iR1 ?_ | refine r_iR2 ?_ | refine r_iR3 ?_ | refine r_iZ ?_ | refine r_lc ?_ | refine r_sl ?_ | refine r_bm ?_ | refine r_turn1 ?_ | refine r_lturn ?_ | refine r_yes ?_
  | refine r_seq ?_ | refine r_asg ?_ | refine r_ret ?_ | refine r_sfld ?_ | refine r_ifS ?_ | refine r_drop ?_ | refine r_next ?_ | refine r_retN ?_
  | refine r_op ?_ | refine r_un ?_ | refine r_fld ?_ | refine r_cons ?_ | refine r_nil ?_ | refine r_c ?_ | refine r_c1 ?_ | refine r_cb ?_
  | refine r_test ?_ | refine r_B ?_ | refine r_and ?_ | refine r_or ?_ | refine r_not ?_ | refine r_andV ?_ | refine r_orV ?_ | refine r_notV ?_ | refine r_ifE ?_
  | refine r_tr ?_ | refine r_name ?_ | refine r_blP ?_ | refine r_tup ?_ | refine r_lst ?_ | refine r_gCons ?_ | refine r_gNil ?_
  | refine r_var (by with_unfolding_all rfl) ?_
  | refine iteT ?_ | refine iteF ?_ | refine iteNT ?_ | refine iteNF ?_
  | refine r_I0 ?_ | refine r_Ir (by decide) ?_ | refine r_Il (by decide) ?_ | refine r_U ?_ | refine r_eqI ?_ | refine r_neI ?_)
section
open PySem PySem.Spec PyProof.Rows L2
end
open PySem PySem.Spec PyProof.Rows L2
local macro_rules | `(tactic| wtm_at "of_rz") => `(tactic| repeat wtm_at "of_rz1")
section
open PySem PySem.Spec PyProof.Rows L2
def pnK (c : Addr) (a r : Int) : List (Key × V) := [(Sum.inr "cells", .ref c), (Sum.inr "stop", .int a), (Sum.inr "rest", .int r)]
section
variable {c : Addr} {a r z : Int}
theorem pn_cells : valV (pnK c a r) (Sum.inr "cells") = some (.ref c) := by kernel_rfl
theorem pn_stop : valV (pnK c a r) (Sum.inr "stop") = some (.int a) := by kernel_rfl
theorem pn_rest : valV (pnK c a r) (Sum.inr "rest") = some (.int r) := by kernel_rfl
theorem pn_putStop : putK (pnK c a r) (Sum.inr "stop") (.int z) = pnK c z r := by kernel_rfl
theorem pn_putRest : putK (pnK c a r) (Sum.inr "rest") (.int z) = pnK c a z := by kernel_rfl
end
theorem pn_new {c : Addr} : mergeK [] (pnK c 0 0) = pnK c 0 0 := by kernel_rfl
def Pen (H : Hp) (p c : Addr) (n : Nat) : Prop := ∃ (a r : Int) (ns : List Int), H p = some (.dK (pnK c a r)) ∧ H c = some (.lst (ns.map V.int)) ∧ ns.length ≤ 63 ∧ 0 ≤ a ∧ a ≤ (n : Int)
theorem Pen.mono {H : Hp} {p c : Addr} {n m : Nat} (h : Pen H p c n) (hm : n ≤ m) : Pen H p c m := by
  obtain ⟨a, r, ns, h1, h2, h4, h5, h6⟩ := h
  exact ⟨a, r, ns, h1, h2, h4, h5, by omega⟩
theorem Pen.ex {H H' : Hp} {p c : Addr} {n : Nat} (e : Ex H H') (h : Pen H p c n) : Pen H' p c n := by
  obtain ⟨a, r, ns, h1, h2, h3⟩ := h
  exact ⟨a, r, ns, e _ _ h1, e _ _ h2, h3⟩
theorem Pen.put {H : Hp} {p c L : Addr} {n : Nat} {xs : List V} {o : HO} (h : Pen H p c n) (hl : H L = some (.lst xs)) (hc : c ≠ L) : Pen (upd H L o) p c n := by
  obtain ⟨a, r, ns, h1, h2, h3⟩ := h
  exact ⟨a, r, ns, by rw [upd_ne (ne_of h1 hl (by intro z; cases z))]; exact h1, by rw [upd_ne hc]; exact h2, h3⟩
def spPen (K : PySem.W.Frag) : Sp := fun vs H Q _ => ∃ (a : Addr) (ns : List Int), vs = [.ref a] ∧ SqL K H a (ns.map V.int) ∧ ns.length ≤ 63 ∧ ∀ (H' : Hp) (p c : Addr), Ex H H' → H p = none → H c = none → Pen H' p c 0 → Q (.ref p) H'
def spPDraw : Sp := fun vs H Q _ => ∃ (p : Addr) (m : Int) (n : Nat), vs = [.ref p, .int m] ∧ ∃ c, Pen H p c n ∧ n < 1000000 ∧ 0 < m ∧ m.natAbs < 2 ^ 64 ∧ ∀ (H' : Hp) (d : Int), Kn H H' → Pen H' p c (n + 1) → 0 ≤ d → d < m → Q (.int d) H'
def spPPick : Sp := fun vs H Q _ => ∃ (p k : Addr) (xs : List V) (n : Nat), vs = [.ref p, .ref k] ∧ ∃ c, Pen H p c n ∧ n < 1000000 ∧ H k = some (.lst xs) ∧ 0 < xs.length ∧ xs.length ≤ 1000000 ∧ ∀ (H' : Hp) (v : V), Kn H H' → Pen H' p c (n + 1) → v ∈ xs → Q v H'
end
section
open PySem PySem.Spec PyProof.Rows L2
section
variable {K : PySem.W.Frag} {H : Hp} {l e : Addr} {ns : List Int} {Q : VK}
theorem ints_dp : ∀ ns : List Int, DpAll K H (ns.map V.int) (ns.map PyData.int)
  | [] => .nil
  | n :: ns => .cons (.int n) (ints_dp ns)
theorem ints_lay : ∀ ns : List Int, PyData.canLayAll0 (ns.map PyData.int) = true
  | [] => rfl
  | n :: ns => by
    show (PyData.canLay0 (.int n) && PyData.canLayAll0 (ns.map PyData.int)) = true
    rw [ints_lay ns]; rfl
theorem ints_depth : ∀ ns : List Int, PyData.depthAll (ns.map PyData.int) ≤ 1
  | [] => by decide
  | n :: ns => by
    show max (PyData.depth (.int n)) (PyData.depthAll (ns.map PyData.int)) ≤ 1
    have := ints_depth ns
    have h2 : PyData.depth (.int n) ≤ 1 := by show (0 : Nat) ≤ 1; decide
    omega
theorem ints_shaped (ns : List Int) : SeqAt.shaped (.list (ns.map PyData.int)) = true := by
  unfold SeqAt.shaped
  have h1 : PyData.canLay0 (.list (ns.map PyData.int)) = true := ints_lay ns
  have h2 : PyData.depth (.list (ns.map PyData.int)) = PyData.depthAll (ns.map PyData.int) + 1 := rfl
  rw [h1, h2, decide_eq_true (by have := ints_depth ns; omega)]; rfl
theorem q_neInts (hl : H l = some (.lst (ns.map V.int))) (he : H e = some (.lst [])) (k : Q (.bl (!decide (ns = []))) H) : rNeD K (.ref l) (.ref e) H Q :=
  ⟨_, _, .lst (SqL.of hl) (ints_dp ns), .lst (SqL.of he) .nil, ints_shaped ns, nil_shaped, by
    have e1 : PyData.eqv (.list (ns.map PyData.int)) (.list []) = decide (ns = []) := by
      cases ns with
      | nil => rfl
      | cons n ns => rfl
    rw [e1]; exact k⟩
end
end
section
open PySem PySem.Spec PyProof.Rows L2
def spAlone : Sp := fun vs H Q _ => ∃ v, vs = [v] ∧ ∀ H' L ts, Ex H H' → H' L = some (.lst ts) → ts.length = 14 → (∀ t ∈ ts, ∃ a, t = .ref a ∧ H' a = some (.tup [v, v])) → Q (.ref L) H'
def spMore : Sp := fun vs H Q _ => ∃ x y, vs = [x, y] ∧ ∀ H' L ts, Ex H H' → H' L = some (.lst ts) → ts.length ≤ 100 → (∀ t ∈ ts, ∃ a u, t = .ref a ∧ H' a = some (.tup [u, u]) ∧ (u = x ∨ u = y)) → Q (.ref L) H'
def spRaise (Cs : List Addr) : Sp := fun vs H _ E => ∃ (i : Int) (y : V), vs = [.int i, y] ∧ 0 ≤ i ∧ i < 5 ∧ ∀ C ∈ Cs, ∀ od H', Ex H H' → E (.ref C) od H'
def spCaught : Sp := fun vs H Q _ => ∃ (i : Int) (y : V), vs = [.int i, y] ∧ 0 ≤ i ∧ i < 5 ∧ ∀ H', Ex H H' → Q (.bl true) H'
theorem Ex.del {H H' : Hp} {a : Addr} (e : Ex H H') (h : H a = none) : Ex H (delH H' a) := fun b o q => by
  rw [delH_ne (ne_of_none q h)]
  exact e b o q
end
section
open PySem PySem.Spec PyProof.Rows L2
def spLaw0 (K : PySem.W.Frag) : Sp := fun vs H Q _ => ∃ (a : Addr) (ns : List Int), vs = [.ref a] ∧ SqL K H a (ns.map V.int) ∧ ns.length ≤ 63 ∧ ∀ H', Q (.bl true) H'
end
section
open PySem PySem.Spec PyProof.Rows L2
theorem r_dnew {σ : L2.St} {H : Hp} {Q : VK} (k : ∀ p H', Ex H H' → H p = none → H' p = some (.dK []) → Q (.ref p) H') : tDNewK σ H Q := fun p hp => k p _ (Ex.new hp) hp upd_same
theorem r_neB0 {b : Bool} {H : Hp} {Q : VK} (k : Q (.bl false) H) : rNe (.bl b) (.bl b) H Q := ⟨rfl, by rw [decide_eq_true rfl]; exact k⟩
theorem q_isV {K : PySem.W.Frag} {a C : Addr} {c : V} {cv : Value} {b : Bool} {H : Hp} {Q : VK} (EC : ExcC K C) (hx : AnyX C H a) (hc : ∀ u, RelV c u → u = cv) (hk : PySem.W.kitOne K (.ref C) cv = some b) (k : Q (.bl b) H) : rIsV K [.ref a, c] H Q := ⟨a, C, c, b, rfl, EC, hx, .inl ⟨cv, hc, hk⟩, k⟩
theorem q_isVT {K : PySem.W.Frag} {a C t : Addr} {cs : List Addr} {b : Bool} {H : Hp} {Q : VK} (EC : ExcC K C) (hx : AnyX C H a) (ht : H t = some (.tup (cs.map V.ref))) (hk : PySem.W.kitAny K (.ref C) (cs.map Value.ref) = some b) (k : Q (.bl b) H) : rIsV K [.ref a, .ref t] H Q := ⟨a, C, .ref t, b, rfl, EC, hx, .inr ⟨t, cs, rfl, ht, hk⟩, k⟩
theorem AnyX.put {C a L : Addr} {H : Hp} {xs : List V} {o : HO} (h : AnyX C H a) (hL : H L = some (.lst xs)) : AnyX C (upd H L o) a := by
  have ne1 : ∀ {b e C' : Addr} {d : Option Addr}, H b = some (exo e C' d) → b ≠ L := fun h => ne_of h hL (fun z => by have z' : HO.ext _ = HO.lst xs := z; cases z')
  have ne2 : ∀ {b e : Addr} {fs : List (Str × V)}, H b = some (exd e fs) → b ≠ L := fun h => ne_of h hL (fun z => by have z' : HO.ext _ = HO.lst xs := z; cases z')
  rcases h with h | ⟨fs, d, h1, h2⟩
  · exact .inl (by rw [upd_ne (ne1 h)]; exact h)
  · exact .inr ⟨fs, d, by rw [upd_ne (ne1 h1)]; exact h1, by rw [upd_ne (ne2 h2.1)]; exact h2⟩
end
section
open PySem PySem.Spec PyProof.Rows L2
theorem Kn.putN {H G G' : Hp} {L : Addr} {o : HO} (k1 : Kn H G) (z : G L = none) (k2 : Kn H G') : Kn H (upd G' L o) := fun b u q s => by
  have ne : b ≠ L := fun e => by
    have := k1 b u q s
    rw [e, z] at this
    cases this
  rw [upd_ne ne]
  exact k2 b u q s
theorem q_sum {K : PySem.W.Frag} {H : Hp} {Q : VK} {a : Addr} {ns : List Int} (h : H a = some (.lst (ns.map V.int))) (k : Q (.int ns.sum) H) : rSum K [.ref a] H Q := ⟨a, ns, rfl, SqL.of h, k⟩
end
section
open PySem PySem.Spec PyProof.Rows L2
section
variable {X : Cx} {pins : List (Addr × Obj)} {σ : L2.St} {H : Hp} {s : Shared}
theorem ty_is {y : V} {n : String} {u : Value} (I : Inv X pins σ H s) (ry : RelV y u) (h : TyX X.K H y (.type n)) : s.TypeIs u n := by
  generalize e : Value.type n = t at h
  cases h with
  | base b =>
    cases b with
    | non => cases e; cases (show u = Value.none from ry); rfl
    | bl y => cases e; cases (show u = Value.bool y from ry); rfl
    | int i => cases e; obtain ⟨t, q⟩ := (show ∃ t, u = Value.int i t from ry); cases q; rfl
    | str y => cases e; obtain ⟨t, q⟩ := (show ∃ t, u = Value.str y t from ry); cases q; rfl
    | flt y => cases e; obtain ⟨t, q⟩ := (show ∃ t, u = Value.float y t from ry); cases q; rfl
    | @lst a xs ea =>
      cases e
      cases (show u = Value.ref a from ry)
      obtain ⟨_, _, n, _, h1⟩ := (show ObjOk X.prog X.w H s.heap a (.lst xs) from I.hok a _ ea)
      exact ⟨_, h1, rfl⟩
    | @frz a ob xs ea =>
      cases e
      cases (show u = Value.ref a from ry)
      obtain ⟨_, _, _, n, _, h1⟩ := (show ObjOk X.prog X.w H s.heap a (.frz ob (.lst xs)) from I.hok a _ ea)
      exact ⟨_, h1, rfl⟩
    | @tup a xs ea =>
      cases e
      cases (show u = Value.ref a from ry)
      obtain ⟨_, _, _, o, h1, h2, _⟩ := (show ObjOk X.prog X.w H s.heap a (.tup xs) from I.hok a _ ea)
      exact ⟨_, h1, h2⟩
    | @dK a kvs ea =>
      cases e
      cases (show u = Value.ref a from ry)
      obtain ⟨_, _, vs, _, o, es, ep, h1, h2, _⟩ := (show ObjOk X.prog X.w H s.heap a (.dK kvs) from I.hok a _ ea)
      exact ⟨_, h1, h2.1⟩
    | @dT a kvs ea =>
      cases e
      cases (show u = Value.ref a from ry)
      obtain ⟨_, _, xs, _, o, es, ep, h1, h2, _⟩ := (show ObjOk X.prog X.w H s.heap a (.dT kvs) from I.hok a _ ea)
      exact ⟨_, h1, h2.1⟩
    | @ins a C dx fs ea cl ha hn htk hm => cases e
  | byt y => cases e; obtain ⟨t, q⟩ := (show ∃ t, u = Value.bytes y t from ry); cases q; rfl
  | @set a S n ea =>
    cases e
    cases (show u = Value.ref a from ry)
    obtain ⟨o, _, _, _, e, ex, _⟩ := I.hok a _ ea
    exact ⟨_, e, ex.1⟩
  | @kList a o e' c => cases e; cases (show u = Value.ref a from ry); exact ⟨_, I.kIn a o e', c⟩
  | @kTuple a o e' c => cases e; cases (show u = Value.ref a from ry); exact ⟨_, I.kIn a o e', c⟩
  | @kDict a o e' c => cases e; cases (show u = Value.ref a from ry); exact ⟨_, I.kIn a o e', c⟩
  | @fTuple a ob xs ea =>
    cases e
    cases (show u = Value.ref a from ry)
    obtain ⟨_, _, _, _, o, h1, h2, _⟩ := (show ObjOk X.prog X.w H s.heap a (.frz ob (.tup xs)) from I.hok a _ ea)
    exact ⟨_, h1, h2⟩
  | @fDict a ob kvs ea =>
    cases e
    cases (show u = Value.ref a from ry)
    obtain ⟨_, _, _, vs, _, o, es, ep, h1, h2, _⟩ := (show ObjOk X.prog X.w H s.heap a (.frz ob (.dK kvs)) from I.hok a _ ea)
    exact ⟨_, h1, h2.1⟩
theorem tyx_kinds {K : PySem.W.Frag} {y : V} {t : Value} (h : TyX K H y t) : (∃ n : String, t = .type n ∧ (Value.type n == Value.type "builtin_function_or_method") = false) ∨ (∃ (a C dx : Addr) (fs : List (Str × V)), y = .ref a ∧ t = .ref C ∧ H a = some (.ins C dx fs)) := by
  cases h with
  | base b =>
    cases b with
    | @ins a C dx fs ea cl ha hn htk hm => exact .inr ⟨a, C, dx, fs, rfl, rfl, ea⟩
    | _ => exact .inl ⟨_, rfl, by decide +kernel⟩
  | _ => exact .inl ⟨_, rfl, by decide +kernel⟩
/-- type(x): its class as a value -/
def tyV : Value → V
  | .type n => .ty n
  | .ref C => .ref C
  | _ => .non
def rType (K : PySem.W.Frag) : List V → Hp → VK → Prop := fun xs H Q => ∃ v t, xs = [v] ∧ TyX K H v t ∧ Q (tyV t) H
theorem cr_typeV : CallR X (.type "type") (rType X.K) := by
  intro pins s σ H xs us Q I r h
  obtain ⟨v, t, rfl, ht, q⟩ := h
  cases r with
  | cons ry rt =>
    cases rt
    rcases tyx_kinds ht with ⟨n, rfl, hb⟩ | ⟨a, C, dx, fs, rfl, rfl, ha⟩
    · exact call_type_of (ty_is I ry ht) hb ⟨.ty n, H, I, rfl, q⟩
    · obtain rfl := (show _ = Value.ref a from ry)
      obtain ⟨od, J⟩ := ins_inst I ha
      exact PySem.W.kto_own J ⟨.ref C, H, I, rfl, q⟩
/-- is not, a built-in class on the right -/
def rNotTy : R2 := fun x y H Q => ∃ (t : Value) (n : String), x = tyV t ∧ y = .ty n ∧ ((∃ m, t = .type m) ∨ ∃ C, t = .ref C) ∧ Q (.bl (!decide (t = .type n))) H
theorem op_isnot_ty : OpR X (compareOp .IsNot) rNotTy := by
  intro pins s σ H x y v u Q I rx ry h
  obtain ⟨t, n, rfl, rfl, ht, q⟩ := h
  obtain rfl := (show u = Value.type n from ry)
  have e : v = t := by rcases ht with ⟨m, rfl⟩ | ⟨C, rfl⟩ <;> exact rx
  subst e
  refine wpAny_isNot_plain (by rcases ht with ⟨m, rfl⟩ | ⟨C, rfl⟩ <;> rfl) ⟨.bl _, H, I, ?_, q⟩
  show Value.bool _ = Value.bool _
  congr 2
end
section
variable {K : PySem.W.Frag} {C a : Addr} {H : Hp} {Q : VK} {v : V}
theorem r_typeI {n : Int} (k : Q (.ty "int") H) : rType K [.int n] H Q := ⟨.int n, .type "int", rfl, tyI, k⟩
theorem r_typeW (h : Wrong K C H v) (k : ∀ t, ((∃ m, t = .type m) ∨ ∃ C, t = .ref C) → t ≠ .type "int" → Q (tyV t) H) : rType K [v] H Q := by
  obtain ⟨t, ht, h1, h2⟩ := h
  refine ⟨v, t, rfl, ht, k t ?_ ?_⟩
  · rcases tyx_kinds ht with ⟨n, rfl, hb⟩ | ⟨a, C, dx, fs, rfl, rfl, ha⟩
    · exact .inl ⟨_, rfl⟩
    · exact .inr ⟨_, rfl⟩
  · rintro rfl
    rw [ki_ii] at h2
    rw [ki_ib] at h2
    rcases h2 with h | ⟨_, h⟩ <;> cases h
theorem r_notTyI {R : V → Hp → Prop} (k : R (.bl false) H) : rNotTy (.ty "int") (.ty "int") H R := ⟨.type "int", "int", rfl, rfl, .inl ⟨_, rfl⟩, by simpa using k⟩
theorem r_notTyW {R : V → Hp → Prop} {t : Value} (h : (∃ m, t = .type m) ∨ ∃ C, t = .ref C) (n : t ≠ .type "int") (k : R (.bl true) H) : rNotTy (tyV t) (.ty "int") H R := ⟨t, "int", rfl, rfl, h, by simpa [n] using k⟩
end
theorem dec_lt_i {q : Rat} {n : Int} : decide (q < (n : Rat)) = decide (q.num < n * q.den) := by
  rw [dec_lt]; congr 1; rw [Rat.num_intCast, Rat.den_intCast]; simp
theorem dec_le_i {q : Rat} {n : Int} : decide (q ≤ (n : Rat)) = decide (q.num ≤ n * q.den) := by
  rw [dec_le]; congr 1; rw [Rat.num_intCast, Rat.den_intCast]; simp
theorem dec_gt_i {q : Rat} {n : Int} : decide ((n : Rat) < q) = decide (n * q.den < q.num) := by
  rw [dec_lt]; congr 1; rw [Rat.num_intCast, Rat.den_intCast]; simp
theorem dec_ge_i {q : Rat} {n : Int} : decide ((n : Rat) ≤ q) = decide (n * q.den ≤ q.num) := by
  rw [dec_le]; congr 1; rw [Rat.num_intCast, Rat.den_intCast]; simp
theorem rat_add_i (q : Rat) (n : Int) : Rat.divInt (q.num + n * q.den) q.den = q + (n : Rat) := by
  rw [← rat_add q n, Rat.num_intCast, Rat.den_intCast]; simp
theorem rat_sub (q r : Rat) : Rat.divInt (q.num * r.den - r.num * q.den) (q.den * r.den) = q - r := by
  rw [Rat.sub_eq_add_neg, ← rat_add, show (-r).num = -r.num from rfl, show (-r).den = r.den from rfl, Int.neg_mul, Int.sub_eq_add_neg]
theorem rat_sub_i (q : Rat) (n : Int) : Rat.divInt (q.num - n * q.den) q.den = q - (n : Rat) := by
  rw [← rat_sub q n, Rat.num_intCast, Rat.den_intCast]; simp
theorem rat_rsub_i (q : Rat) (n : Int) : Rat.divInt (n * q.den - q.num) q.den = (n : Rat) - q := by
  rw [← rat_sub n q, Rat.num_intCast, Rat.den_intCast]; simp
theorem rat_mul_i (q : Rat) (n : Int) : Rat.divInt (q.num * n) q.den = q * (n : Rat) := by
  rw [← rat_mul q n, Rat.num_intCast, Rat.den_intCast]; simp
theorem rat_rem (q r : Rat) (hr : r ≠ 0) : Rat.divInt ((q.num * r.den).fmod (q.den * r.num)) (q.den * r.den) = q - r * ((q / r).floor : Rat) := by
  rw [← rat_fdiv q r hr, Int.fmod_def]
  generalize (q.num * (r.den : Int)).fdiv ((q.den : Int) * r.num) = f
  have hq := den_ne q
  have hr' := den_ne r
  conv => rhs; rw [← Rat.num_divInt_den q, ← Rat.num_divInt_den r]
  rw [Rat.divInt_eq_div, Rat.divInt_eq_div, Rat.divInt_eq_div]
  have h1 : (q.den : Rat) ≠ 0 := by simpa using hq
  have h2 : (r.den : Rat) ≠ 0 := by simpa using hr'
  push_cast
  grind
/-- two Ratios -/
def spRR (C : Addr) (g : Rat → Rat → Rat) : Sp := fun vs H Q _ => ∃ a b q r, vs = [.ref a, .ref b] ∧ IsR C H a q ∧ IsR C H b r ∧ Bq q ∧ Bq r ∧ NewR C Q H (g q r)
theorem q_RR {C a b : Addr} {H : Hp} {q r : Rat} {Q : VK} {E : XK} {g : Rat → Rat → Rat} (h : IsR C H a q) (h' : IsR C H b r) (bq : Bq q) (br : Bq r) (k : NewR C Q H (g q r)) : spRR C g [.ref a, .ref b] H Q E := ⟨a, b, q, r, rfl, h, h', bq, br, k⟩
theorem IsR.here {C a : Addr} {H : Hp} {q : Rat} (_ : IsR C H a q) : Ex H H := Ex.refl H
/-- remainder_of -/
def spRemQ (K : PySem.W.Frag) (C CB : Addr) : Sp := fun vs H Q E => ∃ u v q r, vs = [u, v] ∧ NumV C H u q ∧ NumV C H v r ∧ Bq q ∧ Bq r ∧
  ((r = 0 ∧ Rz E CB "value" v H) ∨ (r ≠ 0 ∧ NewR C Q H (q - r * ((q / r).floor : Rat))))
/-- check_parts, where it raises -/
def spChk (K : PySem.W.Frag) (C CB : Addr) : Sp := fun vs H _ E => ∃ x y, vs = [x, y] ∧
  ((Wrong K C H x ∧ Rz E CB "value" x H) ∨ (∃ a : Int, x = .int a ∧ Wrong K C H y ∧ Rz E CB "value" y H) ∨ (∃ a : Int, x = .int a ∧ y = .int 0 ∧ Rz E CB "value" (.int 0) H))
end
section
open PySem PySem.Spec PyProof.Rows L2 He
structure TBl (mg : Str → Option Value) : Prop where
  b_type : mg "type" = none
  b_isinstance : mg "isinstance" = none
  b_int : mg "int" = none
  b_bool : mg "bool" = none
  b_len : mg "len" = none
  b_range : mg "range" = none
  b_enumerate : mg "enumerate" = none
  b_sorted : mg "sorted" = none
  b_list : mg "list" = none
  b_abs : mg "abs" = none
  b_str : mg "str" = none
  b_max : mg "max" = none
  b_zip : mg "zip" = none
  b_repr : mg "repr" = none
  b_tuple : mg "tuple" = none
  b_NotImplemented : mg "NotImplemented" = none
  g_gcd : mg "gcd" = some (.builtin "math.gcd")
section
variable {P : Program} {w : World} {K : PySem.W.Frag} {mg : Str → Option Value} {base : Heap} {C_Ratio C_BadNumber C_Point C_Form f_Ratio_eq f_Ratio_lt f_Ratio_le f_Ratio_gt f_Ratio_ge f_Ratio_bool f_Ratio_neg f_Ratio_abs f_Ratio_str f_Ratio_add f_Ratio_radd f_Ratio_sub f_Ratio_rsub f_Ratio_mul f_Ratio_rmul f_Ratio_floordiv f_Ratio_rfloordiv f_Ratio_mod f_Ratio_rmod f_Ratio_pow f_Ratio_over f_Ratio_floor f_Ratio_ceiling f_Ratio_whole f_Ratio_sign f_Point_mul f_Point_rmul f_Form_mul f_Form_rmul : Addr}
abbrev s_is_int : Stmt := (top 11)
theorem sc_is_int : FnScope ["value"] ["value"] (defScope s_is_int) := ⟨rfl, rfl, rfl, by decide +kernel, rfl, by decide +kernel, by decide +kernel⟩
theorem ok_is_int {f : Addr} {fd : FuncData} (F : FunD K "is_int" "is_int" (defArgs s_is_int) (defBody s_is_int) (defScope s_is_int) [] [] f fd) (TB : TBl mg) (TR : RT K mg C_Ratio) : FnOk P w K mg base (L2.CX P w) 1 f fd ["value"] (spIsInt K) := by
  refine F.ok (CX := L2.CX P w) sc_is_int (fun vs H Q E h => ?_) (fun cdv A outer s H vs Q E hr h => ?_)
  · obtain ⟨v, t, r, s, rfl, _⟩ := h; rfl
  · obtain ⟨v, t, r, s, rfl, ht, h1, h2, k⟩ := h
    refine ⟨_, (pss_one (ps_ret (pe_and (pe_callB (kc_isi (K := K) rfl) (by rfl) TB.b_isinstance (by decide +kernel) (pa_cons (pv 0) (pa_cons (pe_bltn (v := .ty "int") (u := .type "int") (by rfl) TB.b_int (by decide +kernel) rfl) pa_nil))) (pe_one (pe_not (pe_callB (kc_isi (K := K) rfl) (by rfl) TB.b_isinstance (by decide +kernel) (pa_cons (pv 0) (pa_cons (pe_bltn (v := .ty "bool") (u := .type "bool") (by rfl) TB.b_bool (by decide +kernel) rfl) pa_nil)))))))), ?_⟩
    wtm_at "of_rd"
    refine r_isi (.ty _) ht h1 ?_
    wtm_at "of_rd"
    cases r with
    | false => wtm_at "of_rd"; exact k
    | true =>
      wtm_at "of_rd"
      refine r_isi (.ty _) ht (h2 rfl) ?_
      wtm_at "of_rd"
      exact k
abbrev s_BadNumber_init : Stmt := (inClass (top 9) 0)
theorem sc_BadNumber___init__ : FnScope ["self", "value"] ["self", "value"] (defScope s_BadNumber_init) := ⟨rfl, rfl, rfl, by decide +kernel, rfl, by decide +kernel, by decide +kernel⟩
theorem ok_BadNumber_init {f : Addr} {fd : FuncData} (F : FunD K "__init__" "BadNumber.__init__" (defArgs s_BadNumber_init) (defBody s_BadNumber_init) (defScope s_BadNumber_init) [] [] f fd) (TR : RT K mg C_Ratio) (o_BadNumber : OexC K C_BadNumber) (n_BadNumber : PySem.W.findIn K (.ref C_BadNumber) "value" = some none) : FnOk P w K mg base (L2.CX P w) 1 f fd ["self", "value"] (spEx C_BadNumber "value") := by
  refine F.ok (CX := L2.CX P w) sc_BadNumber___init__ (fun vs H Q E h => ?_) (fun cdv A outer s H vs Q E hr h => ?_)
  · obtain ⟨a, v, rfl, _⟩ := h; rfl
  · obtain ⟨a, v, rfl, ha, k⟩ := h
    refine ⟨_, (pss_one (kps_ost (K := K) rfl (pv 0) (pv 1))), ?_⟩
    refine ⟨v, rfl, .ref a, rfl, a, C_BadNumber, rfl, o_BadNumber, n_BadNumber, .inl ⟨ha, ?_⟩⟩
    exact k
abbrev s_check_parts : Stmt := (top 17)
theorem sc_check_parts : FnScope ["top", "bottom"] ["top", "bottom"] (defScope s_check_parts) := ⟨rfl, rfl, rfl, by decide +kernel, rfl, by decide +kernel, by decide +kernel⟩
theorem ok_check_parts {f : Addr} {fd : FuncData} (F : FunD K "check_parts" "check_parts" (defArgs s_check_parts) (defBody s_check_parts) (defScope s_check_parts) [] [] f fd) (TR : RT K mg C_Ratio) (c_is_int : Cl P w K mg base 1 "is_int" (spIsInt K)) (c_BadNumber : Cox P w K mg base 1 "BadNumber" C_BadNumber "value") : FnOk P w K mg base (L2.CX P w) 3 f fd ["top", "bottom"] (spChk K C_Ratio C_BadNumber) := by
  refine F.ok (CX := L2.CX P w) sc_check_parts (fun vs H Q E h => ?_) (fun cdv A outer s H vs Q E hr h => ?_)
  · obtain ⟨x, y, rfl, _⟩ := h; rfl
  · obtain ⟨x, y, rfl, h⟩ := h
    refine ⟨_, (pss_cons (ps_if (pt_not (pt_val (pe_cl c_is_int hr (by decide) (by rfl) psE (pa_cons (pv 0) pa_nil)))) (pss_one (ps_rz c_BadNumber hr (by decide) tkE rfl (pa_cons (pv 0) pa_nil))) pss_nil) (pss_cons (ps_if (pt_not (pt_val (pe_cl c_is_int hr (by decide) (by rfl) psE (pa_cons (pv 1) pa_nil)))) (pss_one (ps_rz c_BadNumber hr (by decide) tkE rfl (pa_cons (pv 1) pa_nil))) pss_nil) (pss_one (ps_if (pt_cmpR op_eq (pv 1) pe_int (nomark _)) (pss_one (ps_rz c_BadNumber hr (by decide) tkE rfl (pa_cons pe_int pa_nil))) pss_nil)))), ?_⟩
    rcases h with ⟨hw, hz⟩ | ⟨a, rfl, hw, hz⟩ | ⟨a, rfl, rfl, hz⟩
    · wtm_at "of_rd"
      refine q_isInt_w hw ?_
      wtm_at "of_rd"
      exact hz.at
    · wtm_at "of_rd"
      refine q_isInt_i ?_
      wtm_at "of_rd"
      refine q_isInt_w hw ?_
      wtm_at "of_rd"
      exact hz.at
    · wtm_at "of_rd"
      refine q_isInt_i ?_
      wtm_at "of_rd"
      refine q_isInt_i ?_
      wtm_at "of_rd"
      refine iteD rfl ?_
      wtm_at "of_rd"
      exact hz.at
abbrev s_Ratio_init : Stmt := (inClass (top 18) 0)
theorem sc_Ratio___init__ : FnScope ["self", "top", "bottom", "common"] ["self", "top", "bottom"] (defScope s_Ratio_init) := ⟨rfl, rfl, rfl, by decide +kernel, rfl, by decide +kernel, by decide +kernel⟩
theorem ok_Ratio_init {f : Addr} {fd : FuncData} (F : FunD K "__init__" "Ratio.__init__" (defArgs s_Ratio_init) (defBody s_Ratio_init) (defScope s_Ratio_init) [.int 1] [] f fd) (TB : TBl mg) (TR : RT K mg C_Ratio) (c_check_parts : Cl P w K mg base 3 "check_parts" (spChk K C_Ratio C_BadNumber)) : FnOk P w K mg base (L2.CX P w) 4 f fd ["self", "top", "bottom"] (spRInit K C_Ratio C_BadNumber) := by
  refine F.ok (CX := L2.CX P w) sc_Ratio___init__ (fun vs H Q E h => ?_) (fun cdv A outer s H vs Q E hr h => ?_)
  · obtain ⟨p, dx, x, y, rfl, _⟩ := h; rfl
  · obtain ⟨p, dx, x, y, rfl, hp, h⟩ := h
    refine ⟨_, (pss_cons (ps_if (pw_or (pt_cmpR op_isnot_ty (pe_callTy cr_typeV (by rfl) TB.b_type (by decide +kernel) (pa_cons (pv 1) pa_nil)) (pe_bltn (v := .ty "int") (u := .type "int") (by rfl) TB.b_int (by decide +kernel) rfl) (nomark _)) (pw_or (pt_cmpR op_isnot_ty (pe_callTy cr_typeV (by rfl) TB.b_type (by decide +kernel) (pa_cons (pv 2) pa_nil)) (pe_bltn (v := .ty "int") (u := .type "int") (by rfl) TB.b_int (by decide +kernel) rfl) (nomark _)) (pw_or1 (pt_cmpR op_eq (pv 2) pe_int (nomark _))))).pt (pss_one (ps_expr (pe_cl c_check_parts hr (by decide) (by rfl) psE (pa_cons (pv 1) (pa_cons (pv 2) pa_nil))))) pss_nil) (pss_cons (ps_if (pt_cmpR op_ne (pv 2) pe_int (nomark _)) (pss_cons (ps_set (i := 3) sc_Ratio___init__.nd rfl (Or.inl rfl) (pe_ifExp (pt_cmpR op_gt (pv 2) pe_int (nomark _)) (pe_callBfun cr_gcd (by rfl) TB.g_gcd (pa_cons (pv 1) (pa_cons (pv 2) pa_nil))) (pe_un un_neg (pe_callBfun cr_gcd (by rfl) TB.g_gcd (pa_cons (pv 1) (pa_cons (pv 2) pa_nil)))))) (pss_one (ps_if (pt_cmpR op_ne (pv 3) pe_int (nomark _)) (pss_cons (ps_set (i := 1) sc_Ratio___init__.nd rfl (Or.inl rfl) (pe_op op_fdivZ (pv 1) (pv 3))) (pss_one (ps_set (i := 2) sc_Ratio___init__.nd rfl (Or.inl rfl) (pe_op op_fdivZ (pv 2) (pv 3))))) pss_nil))) pss_nil) (pss_cons (ksfld (K := K) rfl (pv 0) (pv 1) rfl) (pss_one (ksfld (K := K) rfl (pv 0) (pv 2) rfl))))), ?_⟩
    rcases h with ⟨a, b, rfl, rfl, hb, h9, k⟩ | ⟨hw, hz⟩ | ⟨a, rfl, hw, hz⟩ | ⟨a, rfl, rfl, hz⟩
    · wtm_at "of_rd"
      refine r_typeI ?_
      wtm_at "of_rd"
      refine r_notTyI ?_
      wtm_at "of_rd"
      refine r_typeI ?_
      wtm_at "of_rd"
      refine r_notTyI ?_
      wtm_at "of_rd"
      refine iteDn hb ?_
      wtm_at "of_rd"
      have fin : ∀ g : Int, g = (if b < 0 then -(Int.gcd a b : Int) else (Int.gcd a b : Int)) → ∀ x y : Int, x = a.fdiv g → y = b.fdiv g → ∀ H', H' = upd H p (.ins C_Ratio dx [("top", .int x), ("bottom", .int y)]) → Q V.non H' := by
        intro g hg x y hx hy H' e
        subst e; subst hx; subst hy
        refine k _ (fun c o hc hn => by rw [upd_ne hn]; exact hc) ⟨dx, ?_⟩
        rw [upd_same, hg, made_num hb, made_den hb]; rfl
      have div : ∀ g : Int, g = (if b < 0 then -(Int.gcd a b : Int) else (Int.gcd a b : Int)) → ∀ i, CDivZ i g := by
        intro g hg i
        have g0 : (Int.gcd a b : Int) ≠ 0 := by have := Int.gcd_ne_zero_right (a := a) hb; omega
        have gl := gcd_le (a := a) hb
        refine ⟨by subst hg; split <;> omega, ?_⟩
        have : g.natAbs = Int.gcd a b := by subst hg; split <;> simp
        omega
      refine ite2n (fun h1 => ?_) (fun h1 => ?_)
      · wtm_at "of_rd"
        refine ite2 (fun h2 => ?_) (fun h2 => ?_)
        · wtm_at "of_rd"
          refine ite2n (fun h3 => ?_) (fun h3 => ?_)
          · wtm_at "of_rd"
            refine r_I (div _ (by rw [if_neg (by omega)]) _) ?_
            wtm_at "of_rd"
            refine r_I (div _ (by rw [if_neg (by omega)]) _) ?_
            wtm_at "of_rd"
            refine r_put TR.k.o.cl TR.nT (by with_unfolding_all rfl) hp (by decide) ?_
            wtm_at "of_rd"
            refine r_put TR.k.o.cl TR.nB (by with_unfolding_all rfl) upd_same (by show 1 < 1000; decide) ?_
            refine fin _ (by rw [if_neg (by omega)]) _ _ (rfl) (rfl) _ ?_
            rw [upd_upd, fR_made]
          · wtm_at "of_rd"
            refine r_put TR.k.o.cl TR.nT (by with_unfolding_all rfl) hp (by decide) ?_
            wtm_at "of_rd"
            refine r_put TR.k.o.cl TR.nB (by with_unfolding_all rfl) upd_same (by show 1 < 1000; decide) ?_
            refine fin _ (by rw [if_neg (by omega)]) a b (by rw [h3]; exact (Int.fdiv_one _).symm) (by rw [h3]; exact (Int.fdiv_one _).symm) _ ?_
            rw [upd_upd, fR_made]
        · wtm_at "of_rd"
          refine ite2n (fun h3 => ?_) (fun h3 => ?_)
          · wtm_at "of_rd"
            refine r_I (div _ (by rw [if_pos (by omega)]) _) ?_
            wtm_at "of_rd"
            refine r_I (div _ (by rw [if_pos (by omega)]) _) ?_
            wtm_at "of_rd"
            refine r_put TR.k.o.cl TR.nT (by with_unfolding_all rfl) hp (by decide) ?_
            wtm_at "of_rd"
            refine r_put TR.k.o.cl TR.nB (by with_unfolding_all rfl) upd_same (by show 1 < 1000; decide) ?_
            refine fin _ (by rw [if_pos (by omega)]) _ _ (rfl) (rfl) _ ?_
            rw [upd_upd, fR_made]
          · wtm_at "of_rd"
            refine r_put TR.k.o.cl TR.nT (by with_unfolding_all rfl) hp (by decide) ?_
            wtm_at "of_rd"
            refine r_put TR.k.o.cl TR.nB (by with_unfolding_all rfl) upd_same (by show 1 < 1000; decide) ?_
            refine fin _ (by rw [if_pos (by omega)]) a b (by rw [h3]; exact (Int.fdiv_one _).symm) (by rw [h3]; exact (Int.fdiv_one _).symm) _ ?_
            rw [upd_upd, fR_made]
      · wtm_at "of_rd"
        refine r_put TR.k.o.cl TR.nT (by with_unfolding_all rfl) hp (by decide) ?_
        wtm_at "of_rd"
        refine r_put TR.k.o.cl TR.nB (by with_unfolding_all rfl) upd_same (by show 1 < 1000; decide) ?_
        refine fin _ (show (1 : Int) = _ by rw [h1]; simp) a b (by exact (Int.fdiv_one _).symm) (by rw [h1]; rfl) _ ?_
        rw [upd_upd, fR_made]
    · wtm_at "of_rd"
      refine r_typeW hw fun t ht hn => ?_
      wtm_at "of_rd"
      refine r_notTyW ht hn ?_
      wtm_at "of_rd"
      exact ⟨_, _, rfl, .inl ⟨hw, hz⟩⟩
    · wtm_at "of_rd"
      refine r_typeI ?_
      wtm_at "of_rd"
      refine r_notTyI ?_
      wtm_at "of_rd"
      refine r_typeW hw fun t ht hn => ?_
      wtm_at "of_rd"
      refine r_notTyW ht hn ?_
      wtm_at "of_rd"
      exact ⟨_, _, rfl, .inr (.inl ⟨_, rfl, hw, hz⟩)⟩
    · wtm_at "of_rd"
      refine r_typeI ?_
      wtm_at "of_rd"
      refine r_notTyI ?_
      wtm_at "of_rd"
      refine r_typeI ?_
      wtm_at "of_rd"
      refine r_notTyI ?_
      wtm_at "of_rd"
      refine iteD rfl ?_
      wtm_at "of_rd"
      exact ⟨_, _, rfl, .inr (.inr ⟨_, rfl, rfl, hz⟩)⟩
abbrev s_is_number : Stmt := (top 12)
theorem sc_is_number : FnScope ["value"] ["value"] (defScope s_is_number) := ⟨rfl, rfl, rfl, by decide +kernel, rfl, by decide +kernel, by decide +kernel⟩
theorem ok_is_number {f : Addr} {fd : FuncData} (F : FunD K "is_number" "is_number" (defArgs s_is_number) (defBody s_is_number) (defScope s_is_number) [] [] f fd) (g_Ratio : mg "Ratio" = some (.ref C_Ratio)) (TB : TBl mg) (TR : RT K mg C_Ratio) (c_is_int : Cl P w K mg base 1 "is_int" (spIsInt K)) : FnOk P w K mg base (L2.CX P w) 2 f fd ["value"] (spIsNum K C_Ratio) := by
  refine F.ok (CX := L2.CX P w) sc_is_number (fun vs H Q E h => ?_) (fun cdv A outer s H vs Q E hr h => ?_)
  · obtain ⟨v, rfl, _⟩ := h; rfl
  · obtain ⟨v, rfl, h⟩ := h
    refine ⟨_, (pss_one (ps_ret (pe_or (pe_callB (kc_isi (K := K) rfl) (by rfl) TB.b_isinstance (by decide +kernel) (pa_cons (pv 0) (pa_cons (pe_glob (v := .ref C_Ratio) (by rfl) g_Ratio rfl) pa_nil))) (pe_one (pe_cl c_is_int hr (by decide) (by rfl) psE (pa_cons (pv 0) pa_nil)))))), ?_⟩
    rcases h with ⟨⟨q, ⟨n, rfl, rfl⟩ | ⟨a, rfl, ha⟩⟩, k⟩ | ⟨hw, k⟩
    · wtm_at "of_rd"
      refine r_isi (.own _) tyI (kit_int TR.k) ?_
      wtm_at "of_rd"
      exact q_isInt_i k
    · wtm_at "of_rd"
      refine r_isi (.own _) (ha.tyx TR) kit_self ?_
      wtm_at "of_rd"
      exact k
    · wtm_at "of_rd"
      obtain ⟨t, ht, hc, hi⟩ := _root_.id hw
      refine r_isi (.own _) ht hc ?_
      wtm_at "of_rd"
      exact q_isInt_w hw k
abbrev s_ratio_of : Stmt := (top 13)
theorem sc_ratio_of : FnScope ["number"] ["number"] (defScope s_ratio_of) := ⟨rfl, rfl, rfl, by decide +kernel, rfl, by decide +kernel, by decide +kernel⟩
theorem ok_ratio_of {f : Addr} {fd : FuncData} (F : FunD K "ratio_of" "ratio_of" (defArgs s_ratio_of) (defBody s_ratio_of) (defScope s_ratio_of) [] [] f fd) (g_Ratio : mg "Ratio" = some (.ref C_Ratio)) (TB : TBl mg) (TR : RT K mg C_Ratio) (c_is_int : Cl P w K mg base 1 "is_int" (spIsInt K)) (c_BadNumber : Cox P w K mg base 1 "BadNumber" C_BadNumber "value") (c_Ratio_1 : Ck P w K mg base 4 "Ratio" C_Ratio [.int 1] (spRInit K C_Ratio C_BadNumber)) : FnOk P w K mg base (L2.CX P w) 6 f fd ["number"] (spRatioOf K C_Ratio C_BadNumber) := by
  refine F.ok (CX := L2.CX P w) sc_ratio_of (fun vs H Q E h => ?_) (fun cdv A outer s H vs Q E hr h => ?_)
  · obtain ⟨v, rfl, _⟩ := h; rfl
  · obtain ⟨v, rfl, h⟩ := h
    refine ⟨_, (pss_cons (ps_if (pt_val (pe_callB (kc_isi (K := K) rfl) (by rfl) TB.b_isinstance (by decide +kernel) (pa_cons (pv 0) (pa_cons (pe_glob (v := .ref C_Ratio) (by rfl) g_Ratio rfl) pa_nil)))) (pss_one (ps_ret (pv 0))) pss_nil) (pss_cons (ps_if (pt_val (pe_cl c_is_int hr (by decide) (by rfl) psE (pa_cons (pv 0) pa_nil))) (pss_one (ps_ret (pe_ck c_Ratio_1 hr (by decide) (by rfl) psE (pa_cons (pv 0) pa_nil)))) pss_nil) (pss_one (ps_rz c_BadNumber hr (by decide) tkE rfl (pa_cons (pv 0) pa_nil))))), ?_⟩
    rcases h with ⟨q, ⟨n, rfl, rfl⟩ | ⟨a, rfl, ha⟩, hb, k⟩ | ⟨hw, hz⟩
    · wtm_at "of_rd"
      refine r_isi (.own _) tyI (kit_int TR.k) ?_
      wtm_at "of_rd"
      refine q_isInt_i ?_
      wtm_at "of_rd"
      refine q_mk rfl (by decide) (by decide) ?_
      rw [divInt_one]
      exact k
    · wtm_at "of_rd"
      refine r_isi (.own _) (ha.tyx TR) kit_self ?_
      wtm_at "of_rd"
      exact k H a (Ex.refl H) ha
    · wtm_at "of_rd"
      obtain ⟨t, ht, hc, hi⟩ := _root_.id hw
      refine r_isi (.own _) ht hc ?_
      wtm_at "of_rd"
      refine q_isInt_w hw ?_
      wtm_at "of_rd"
      exact hz.at
abbrev s_Ratio_eq : Stmt := (inClass (top 18) 10)
theorem sc_Ratio___eq__ : FnScope ["self", "other"] ["self", "other"] (defScope s_Ratio_eq) := ⟨rfl, rfl, rfl, by decide +kernel, rfl, by decide +kernel, by decide +kernel⟩
theorem ok_Ratio_eq {f : Addr} {fd : FuncData} (F : FunD K "__eq__" "Ratio.__eq__" (defArgs s_Ratio_eq) (defBody s_Ratio_eq) (defScope s_Ratio_eq) [] [] f fd) (g_Ratio : mg "Ratio" = some (.ref C_Ratio)) (TB : TBl mg) (TR : RT K mg C_Ratio) (c_is_int : Cl P w K mg base 1 "is_int" (spIsInt K)) : FnOk P w K mg base (L2.CX P w) 2 f fd ["self", "other"] (spREq K C_Ratio) := by
  refine F.ok (CX := L2.CX P w) sc_Ratio___eq__ (fun vs H Q E h => ?_) (fun cdv A outer s H vs Q E hr h => ?_)
  · obtain ⟨a, v, q, rfl, _⟩ := h; rfl
  · obtain ⟨a, v, q, rfl, ha, h⟩ := h
    refine ⟨_, (pss_cons (ps_if (pt_val (pe_callB (kc_isi (K := K) rfl) (by rfl) TB.b_isinstance (by decide +kernel) (pa_cons (pv 1) (pa_cons (pe_glob (v := .ref C_Ratio) (by rfl) g_Ratio rfl) pa_nil)))) (pss_one (ps_ret (pe_and (pe_cmpR op_eq (kfld (K := K) rfl (pv 0) rfl) (kfld (K := K) rfl (pv 1) rfl) (nomark _)) (pe_one (pe_cmpR op_eq (kfld (K := K) rfl (pv 0) rfl) (kfld (K := K) rfl (pv 1) rfl) (nomark _)))))) pss_nil) (pss_one (ps_ret (pe_and (pe_cl c_is_int hr (by decide) (by rfl) psE (pa_cons (pv 1) pa_nil)) (pe_and (pe_cmpR op_eq (kfld (K := K) rfl (pv 0) rfl) pe_int (nomark _)) (pe_one (pe_cmpR op_eq (kfld (K := K) rfl (pv 0) rfl) (pv 1) (nomark _)))))))), ?_⟩
    rcases h with ⟨r, hv, k0⟩ | ⟨hw, k0⟩
    · rcases hv with ⟨n, rfl, rfl⟩ | ⟨c, rfl, hc⟩
      · wtm_at "of_rd"
        refine r_isi (.own _) tyI (kit_int TR.k) ?_
        wtm_at "of_rd"
        refine q_isInt_i ?_
        wtm_at "of_rd"
        refine ite2 (fun h1 => ?_) (fun h1 => ?_)
        · wtm_at "of_rd"
          rw [dec_eq_i h1] at k0
          exact k0
        · rw [dec_eq_i' h1] at k0
          exact k0
      · wtm_at "of_rd"
        refine r_isi (.own _) (hc.tyx TR) kit_self ?_
        wtm_at "of_rd"
        refine ite2 (fun h1 => ?_) (fun h1 => ?_)
        · wtm_at "of_rd"
          rw [dec_eq_r h1] at k0
          exact k0
        · rw [dec_eq_r' h1] at k0
          exact k0
    · obtain ⟨t, ht, hc, hi⟩ := _root_.id hw
      wtm_at "of_rd"
      refine r_isi (.own _) ht hc ?_
      wtm_at "of_rd"
      refine q_isInt_w hw ?_
      wtm_at "of_rd"
      exact k0
abbrev s_Ratio_lt : Stmt := (inClass (top 18) 11)
theorem sc_Ratio___lt__ : FnScope ["self", "other"] ["self", "other"] (defScope s_Ratio_lt) := ⟨rfl, rfl, rfl, by decide +kernel, rfl, by decide +kernel, by decide +kernel⟩
theorem ok_Ratio_lt {f : Addr} {fd : FuncData} (F : FunD K "__lt__" "Ratio.__lt__" (defArgs s_Ratio_lt) (defBody s_Ratio_lt) (defScope s_Ratio_lt) [] [] f fd) (g_Ratio : mg "Ratio" = some (.ref C_Ratio)) (TB : TBl mg) (TR : RT K mg C_Ratio) (c_is_int : Cl P w K mg base 1 "is_int" (spIsInt K)) : FnOk P w K mg base (L2.CX P w) 2 f fd ["self", "other"] (spRB C_Ratio (fun q r => decide (q < r))) := by
  refine F.ok (CX := L2.CX P w) sc_Ratio___lt__ (fun vs H Q E h => ?_) (fun cdv A outer s H vs Q E hr h => ?_)
  · obtain ⟨a, v, q, r, rfl, _⟩ := h; rfl
  · obtain ⟨a, v, q, r, rfl, ha, hv, hq, hr', k⟩ := h
    refine ⟨_, (pss_cons (ps_if (pt_val (pe_callB (kc_isi (K := K) rfl) (by rfl) TB.b_isinstance (by decide +kernel) (pa_cons (pv 1) (pa_cons (pe_glob (v := .ref C_Ratio) (by rfl) g_Ratio rfl) pa_nil)))) (pss_one (ps_ret (pe_cmpR op_lt (pe_op op_mulA (kfld (K := K) rfl (pv 0) rfl) (kfld (K := K) rfl (pv 1) rfl)) (pe_op op_mulA (kfld (K := K) rfl (pv 1) rfl) (kfld (K := K) rfl (pv 0) rfl)) (nomark _)))) pss_nil) (pss_cons (ps_if (pt_val (pe_cl c_is_int hr (by decide) (by rfl) psE (pa_cons (pv 1) pa_nil))) (pss_one (ps_ret (pe_cmpR op_lt (kfld (K := K) rfl (pv 0) rfl) (pe_op op_mulA (pv 1) (kfld (K := K) rfl (pv 0) rfl)) (nomark _)))) pss_nil) (pss_one (ps_ret pe_ni)))), ?_⟩
    dsimp only at k
    rcases hv with ⟨n, rfl, rfl⟩ | ⟨c, rfl, hc⟩
    · have hn : Bt n := hr'.1
      wtm_at "of_rd"
      refine r_isi (.own _) tyI (kit_int TR.k) ?_
      wtm_at "of_rd"
      refine q_isInt_i ?_
      wtm_at "of_rd"
      rw [dec_lt_i] at k
      exact k.here
    · wtm_at "of_rd"
      refine r_isi (.own _) (hc.tyx TR) kit_self ?_
      wtm_at "of_rd"
      rw [dec_lt] at k
      exact k.here
end
end
section
open PySem PySem.Spec PyProof.Rows L2 He
abbrev noArgs : Arguments := { posonlyargs := [], args := [], vararg := none, kwonlyargs := [], kw_defaults := [], kwarg := none, defaults := [] }
theorem def_no (env : Env) : defaultsOf noArgs env = ([], []) := rfl
theorem bind_no (q : Str) (body : Expr) (sc : Scope) (cl : List (Str × Addr)) (pm cv ctv : Value) : bindArgs (PySem.W.kla_fn "<lambda>" q noArgs body sc cl pm cv ctv) ⟨[], []⟩ = pure [] := rfl
end
section
open PySem PySem.Spec PyProof.Rows L2 LamX
/-- at f stands a lambda of this body, its code object at c' -/
def LamO (q : Str) (params : Arguments) (body : Expr) (scope : Scope) (cl : List (Str × Addr)) (f c' : Addr) : HO := .ext fun h => ∃ pm ctv, h.get? f = some (PySem.W.kla_obj "<lambda>" q params body scope cl pm c' ctv)
theorem lamO_ok {P : Program} {w : World} {H : Hp} {h : Heap} {q : Str} {params : Arguments} {body : Expr} {scope : Scope} {cl : List (Str × Addr)} {f c' : Addr} {pm ctv : Value} (e : h.get? f = some (PySem.W.kla_obj "<lambda>" q params body scope cl pm c' ctv)) : ObjOk P w H h f (LamO q params body scope cl f c') :=
  ⟨⟨pm, ctv, e⟩, ⟨_, e⟩, fun _ _ z k => by
    obtain ⟨p, c, z⟩ := z
    exact ⟨p, c, k _ z⟩⟩
section
variable {X : Cx} {pins : List (Addr × Obj)} {σ : L2.St} {H : Hp} {s : Shared}
/-- the lambda is made and known from now on -/
theorem lam_make3 {T : List (Addr × Str)} {c P : Addr} {params : Arguments} {body : Expr} {scope : Scope} {pos : Pos} {E : Value → Shared → Prop} {Q : Value → Shared → Prop} (I : Inv X pins σ H s) (TB : TabB X.base X.mg c P) (hcode : X.env.code = .ref c)
    (hm : (P, X.env.qual ++ "<lambda>") ∈ T) (hu : ∀ p ∈ T, p.1 = P → p.2 = X.env.qual ++ "<lambda>") (hT : Tabs T H) (hdef : defaultsOf params X.env = ([], [])) (hfree : ∀ y ∈ scope.names, y.2 = .free → ∃ c, X.env.cells.lookup y.1 = some c)
    (h : ∀ (f c' : Addr) (H1 : Hp) (s' : Shared), Inv X pins σ H1 s' → ExtN H H1 → Tabs T H1 → H f = none → H1 f = some (LamO (X.env.qual ++ "<lambda>") params body scope (cloFrom X.env.cells scope.names []) f c') → H1 c' = some (CodeO c' (X.env.qual ++ "<lambda>")) → Q (.ref f) s') :
    wpAny (model X.prog X.w) X.A (eval (.Lambda params body scope pos) X.env) Q E s := by
  obtain ⟨ps, hP, ht, ha⟩ := hT _ hm
  refine PySem.W.kla_eval hdef ?_
  have bP : s.heap.BuiltinsAt X.mg P := TB.bm.keeps I.bk
  have hP' : s.heap.get? P = some { cls := .none, data := .fields ps } := I.hok P _ hP
  cases hc : codeAmong pos ps.toList with
  | none =>
    refine PySem.W.kla_makeFunction (mg := X.mg) (c := c) (P := P) (ps := ps) (closure_ok hfree) I.ok.glob (I.mod.glob.keeps I.bk) hcode (TB.code.keeps I.bk) hP' ht hc TB.gP bP fun c' ctv h' tk hx hge hlt hrec htb => ?_
    obtain ⟨c2, oc, vs, t, e2, hoc, hd, hv⟩ := hrec
    cases e2
    have hsz : s.heap.objs.size ≤ h'.objs.size := Nat.le_trans hge (Nat.le_of_lt hlt)
    have nC : H c' = none := I.hok.fresh hge
    have nF : H h'.objs.size = none := I.hok.fresh hsz
    have I1 := inv_table (t' := tk) (more := #[rawInt pos.line, rawInt pos.col, .ref c']) (h' := h') I hP (fun b o hb e => hx b o hb e) htb hge ⟨oc, vs, t, hoc, hd, hv⟩
    have fo : (h'.push (PySem.W.kla_obj "<lambda>" (X.env.qual ++ "<lambda>") params body scope (cloFrom X.env.cells scope.names []) ((X.mg "__name__").getD .none) c' ctv)).get? h'.objs.size = some (PySem.W.kla_obj "<lambda>" (X.env.qual ++ "<lambda>") params body scope (cloFrom X.env.cells scope.names []) ((X.mg "__name__").getD .none) c' ctv) := Heap.get?_push_size _ rfl
    have I2 := I1.laid (t' := tk) (a := h'.objs.size) (o := LamO (X.env.qual ++ "<lambda>") params body scope (cloFrom X.env.cells scope.names []) h'.objs.size c') (h' := h'.push (PySem.W.kla_obj "<lambda>" (X.env.qual ++ "<lambda>") params body scope (cloFrom X.env.cells scope.names []) ((X.mg "__name__").getD .none) c' ctv))
      (fun b o e => Heap.get?_push_of_some _ e) (Nat.le_refl _) (lamO_ok fo)
    have n1 : c' ≠ h'.objs.size := Nat.ne_of_lt hlt
    have hE : ExtN H (upd (upd (upd H P (.tbl (ps ++ #[rawInt pos.line, rawInt pos.col, .ref c']))) c' (CodeO c' (X.env.qual ++ "<lambda>"))) h'.objs.size (LamO (X.env.qual ++ "<lambda>") params body scope (cloFrom X.env.cells scope.names []) h'.objs.size c')) := fun b o e n => by
      rw [upd_ne (ne_of_none e nF), upd_ne (ne_of_none e nC), upd_ne (fun z => n ps (Option.some.inj (e.symm.trans (by rw [z]; exact hP))))]
      exact e
    have eL : (ps ++ #[rawInt pos.line, rawInt pos.col, .ref c']).toList = ps.toList ++ [rawInt pos.line, rawInt pos.col, .ref c'] := by simp
    have atC : (upd (upd (upd H P (.tbl (ps ++ #[rawInt pos.line, rawInt pos.col, .ref c']))) c' (CodeO c' (X.env.qual ++ "<lambda>"))) h'.objs.size (LamO (X.env.qual ++ "<lambda>") params body scope (cloFrom X.env.cells scope.names []) h'.objs.size c')) c' = some (CodeO c' (X.env.qual ++ "<lambda>")) := by rw [upd_ne n1, upd_same]
    refine h h'.objs.size c' _ _ I2 hE (fun p hp => ?_) nF upd_same atC
    by_cases hb : p.1 = P
    · rw [hu p hp hb, hb]
      refine ⟨_, by rw [upd_ne (ne_of_none hP nF), upd_ne (ne_of_none hP nC), upd_same], by rw [eL]; exact PySem.TriplesOk_snoc _ _ _ _ ht, fun p' cv hcv => ?_⟩
      rw [eL] at hcv
      rcases among_app _ ht hcv with z | z
      · obtain ⟨c0, e1, e2⟩ := ha p' cv z
        exact ⟨c0, e1, hE _ _ e2 codeO_ne⟩
      · exact ⟨c', z, atC⟩
    · obtain ⟨ps', a1, a2, a3⟩ := hT p hp
      refine ⟨ps', by rw [upd_ne (ne_of_none a1 nF), upd_ne (ne_of_none a1 nC), upd_ne hb]; exact a1, a2, fun p' cv hcv => ?_⟩
      obtain ⟨c0, e1, e2⟩ := a3 p' cv hcv
      exact ⟨c0, e1, hE _ _ e2 codeO_ne⟩
  | some cv =>
    obtain ⟨c', e, hco⟩ := ha pos cv hc
    subst e
    refine PySem.W.kla_makeFunctionHit (mg := X.mg) (c := c) (P := P) (ps := ps) (closure_ok hfree) I.ok.glob (I.mod.glob.keeps I.bk) hcode (TB.code.keeps I.bk) hP' ht hc bP fun ctv h' tk hx hsz => ?_
    have nF : H h'.objs.size = none := I.hok.fresh hsz
    have fo : (h'.push (PySem.W.kla_obj "<lambda>" (X.env.qual ++ "<lambda>") params body scope (cloFrom X.env.cells scope.names []) ((X.mg "__name__").getD .none) c' ctv)).get? h'.objs.size = some (PySem.W.kla_obj "<lambda>" (X.env.qual ++ "<lambda>") params body scope (cloFrom X.env.cells scope.names []) ((X.mg "__name__").getD .none) c' ctv) := Heap.get?_push_size _ rfl
    have I1 := I.laid (t' := tk) (a := h'.objs.size) (o := LamO (X.env.qual ++ "<lambda>") params body scope (cloFrom X.env.cells scope.names []) h'.objs.size c') (h' := h'.push (PySem.W.kla_obj "<lambda>" (X.env.qual ++ "<lambda>") params body scope (cloFrom X.env.cells scope.names []) ((X.mg "__name__").getD .none) c' ctv))
      (fun b o e => Heap.get?_push_of_some _ (hx b o e)) hsz (lamO_ok fo)
    have hE : ExtN H (upd H h'.objs.size (LamO (X.env.qual ++ "<lambda>") params body scope (cloFrom X.env.cells scope.names []) h'.objs.size c')) := fun b o e _ => by
      rw [upd_ne (ne_of_none e nF)]
      exact e
    refine h h'.objs.size c' _ _ I1 hE (fun p hp => ?_) nF upd_same (hE _ _ hco codeO_ne)
    obtain ⟨ps', a1, a2, a3⟩ := hT p hp
    refine ⟨ps', by rw [upd_ne (ne_of_none a1 nF)]; exact a1, a2, fun p' cv hcv => ?_⟩
    obtain ⟨c0, e1, e2⟩ := a3 p' cv hcv
    exact ⟨c0, e1, hE _ _ e2 codeO_ne⟩
/-- lambda: body, as a value -/
def tLamV (T : List (Addr × Str)) (q : Str) (params : Arguments) (body : Expr) (scope : Scope) (cl : List (Str × Addr)) : TE := fun _ H Q => Tabs T H ∧ ∀ H1 f c', ExtN H H1 → Tabs T H1 → H f = none → H1 f = some (LamO q params body scope cl f c') → H1 c' = some (CodeO c' q) → Q (.ref f) H1
theorem pe_lamV {T : List (Addr × Str)} {c P : Addr} {params : Arguments} {body : Expr} {scope : Scope} {pos : Pos} (TB : TabB X.base X.mg c P) (hcode : X.env.code = .ref c) (hm : (P, X.env.qual ++ "<lambda>") ∈ T) (hu : ∀ p ∈ T, p.1 = P → p.2 = X.env.qual ++ "<lambda>") (L : LamS X.env.scope scope)
    (hdef : defaultsOf params X.env = ([], [])) : PE X (.Lambda params body scope pos) (tLamV T (X.env.qual ++ "<lambda>") params body scope (cloFrom X.env.cells scope.names [])) :=
  ⟨fun pins s σ H Q I h => lam_make3 I TB hcode hm hu h.1 hdef (L.has I.ok) fun f c' H1 s' I1 eN T1 hf hf1 hc => ⟨.ref f, H1, I1, rfl, h.2 H1 f c' eN T1 hf hf1 hc⟩⟩
end
end
section
open PySem PySem.Spec PyProof.Rows L2 LamX
/-- a lambda's body, read in the maker's context -/
structure LamB (X : Cx) (k : Nat) (params : Arguments) (body : Expr) (scope : Scope) (t : XK → TE) : Prop where
  ls : LamS X.env.scope scope
  bind : ∀ (q : Str) (cl : List (Str × Addr)) (pm cv ctv : Value), bindArgs (PySem.W.kla_fn "<lambda>" q params body scope cl pm cv ctv) ⟨[], []⟩ = pure []
  body : ∀ (A : Around) (outer : List Env) (s : Shared) (H : Hp) (E : XK) (f c' : Addr), Room k (A.deeper (lamEnv X scope s.heap.objs.size f c')) → PE (lamCx X A outer s H E scope f c') body (t E)
section
variable {X : Cx} {pins : List (Addr × Obj)} {σ : L2.St} {H : Hp} {s : Shared}
theorem pe_actV {CXg : CXT} {Eg : XK} {Ng : List Str} {qg : Str} {sg : Scope} {g f c' : Addr} {cdg : Value} {params : Arguments} {body : Expr} {scope : Scope} {k i : Nat} {a : Str} {pn : List (Addr × Obj)} {xe : Value → Shared → Prop} {W : WX} {E : XK} {t : XK → TE} {p1 p2 : Pos}
    (I : Inv X pins σ H s) (B : LamB X k params body scope t)
    (tk : Takes ((cxOf CXg X.prog X.w X.K X.mg X.base Ng qg sg g cdg X.A X.stack s H Eg).tr pn xe) W) (hW : ∀ cls d σ' H', E cls d H' → W cls d σ' H') (hr : Room (k + 1) (X.A.deeper (envOfC qg sg s.heap.objs.size g cdg)))
    (hN : Ng[i]? = some a) (hv : Vis sg a) (hd : (a == ("__debug__" : Str)) = false := by decide) (hcd : (a == ("__classdict__" : Str)) = false := by decide) :
    PE ((cxOf CXg X.prog X.w X.K X.mg X.base Ng qg sg g cdg X.A X.stack s H Eg).tr pn xe) (.Call (.Name a p1) [] [] p2)
      (fun σZ HZ Q => σZ[i]? = some (some (.ref f)) ∧ HZ f = some (LamO (X.env.qual ++ "<lambda>") params body scope (cloFrom X.env.cells scope.names []) f c') ∧ HZ c' = some (CodeO c' (X.env.qual ++ "<lambda>")) ∧ t E σ HZ Q) := by
  refine ⟨fun pinsZ sZ σZ HZ Q IZ h => ?_⟩
  obtain ⟨hs, hF, hc, ht⟩ := h
  refine wpAny_Call_Name_kw (thn ((pe_var (pos := p1) (i := i) hN hv hd hcd).run pinsZ sZ σZ HZ (fun v H1 => v = .ref f ∧ H1 = HZ) IZ ⟨.ref f, hs, rfl, rfl⟩) fun u s1 ⟨v, H1, I1, r1, q1⟩ => ?_)
  obtain ⟨ev, eH⟩ := q1
  subst ev
  rw [eH] at I1
  obtain rfl : u = Value.ref f := r1
  obtain ⟨⟨pm, ctv, of1⟩, _, _⟩ := I1.hok f _ hF
  refine PySem.W.callWith_F0 ⟨_, _, _, _, of1⟩ ?_
  have un : Un (frs X.stack) [] H HZ s.heap s1.heap := I1.base
  obtain ⟨⟨oc, vs, tt, hoc, hdc, hvc⟩, _, _⟩ := I1.hok c' _ hc
  have rc : codeAny (model X.prog X.w) (X.A.deeper (envOfC qg sg s.heap.objs.size g cdg)) (.call (.ref f) ⟨[], []⟩) (CR (L2.CX X.prog X.w) (envOfC qg sg s.heap.objs.size g cdg :: X.stack) X.prog X.w HZ s1 Q E) s1 := by
    refine PySem.W.kla_callFunE hr.depth of1 rfl B.ls.co B.ls.gen rfl ⟨c', oc, vs, tt, rfl, hoc, hdc, hvc⟩ ?_
    rw [B.bind]
    refine wpAny_pure (wpAny_newFunctionEnv (fun y hy => (B.ls.own y hy).2) (fun y hy => absurd hy (by simp)) (fun h₁ hns hsb => ⟨I1.nolimit.fresh _ hsb, ?_⟩) B.ls.kind)
    show codeAny _ _ (.expr body (lamEnv X scope s1.heap.objs.size f c')) _ _
    have kp : ∀ b o, s1.heap.get? b = some o → h₁.get? b = some o := fun b o e => hsb.extBut b o (Nat.ne_of_lt (Heap.lt_size e)) (Heap.get?_push_of_some _ e)
    have J : Inv (lamCx X (X.A.deeper (envOfC qg sg s.heap.objs.size g cdg)) (envOfC qg sg s.heap.objs.size g cdg :: X.stack) s1 HZ E scope f c') [] σ HZ { s1 with heap := h₁, toks := s1.toks + ([] : List (Str × Value)).length } :=
      lam_start2 I B.ls I1.env0 hr.hd un hns kp
    refine PySem.W.kla_codeExpr (wpAny_mono ((B.body _ _ s1 HZ E f c' (hr.deeper _)).run [] _ _ HZ Q J ht) (fun v s' hq => ?_) fun e s' hq => hq)
    obtain ⟨w', H', J', rv, q⟩ := hq
    exact ⟨w', H', J'.os, J'.bare, J'.base, J'.hok, rv, q⟩
  have hx : Passes (L2.CX X.prog X.w) ((cxOf CXg X.prog X.w X.K X.mg X.base Ng qg sg g cdg X.A X.stack s H Eg).tr pn xe) E := passes_call tk hW
  refine wpAny_call (codeAny_mono rc fun r s' hq => ?_)
  cases r with
  | error e => exact hx pinsZ σZ HZ s1 e s' I1 hq
  | ok fl =>
    cases fl with
    | ret u => exact I1.after hq
    | next => exact False.elim hq
    | brk => exact False.elim hq
    | cont => exact False.elim hq
/-- the def that calls what it got, a lambda of any kind -/
def GivesV (X : Cx) (Ng : List Str) (x : Str) (sg : Scope) (g : Addr) (cdg : Value) (bg : List Stmt) (a : Str) (q : Str) (TT : (XK → Hp → VK → Prop) → Hp → VK → Prop) : Prop :=
  ∀ (f c' : Addr) (oF : HO) (s : Shared) (H : Hp) (Q : VK) (tl : XK → Hp → VK → Prop), (∃ φ, oF = .ext φ) →
    (∀ (W : WX) (pn : List (Addr × Obj)) (xe : Value → Shared → Prop) (E : XK) (p1 p2 : Pos), Takes ((cxOf C8.CX0 X.prog X.w X.K X.mg X.base Ng x sg g cdg X.A X.stack s H C8.E0).tr pn xe) W → (∀ cls d σ' H', E cls d H' → W cls d σ' H') →
      PE ((cxOf C8.CX0 X.prog X.w X.K X.mg X.base Ng x sg g cdg X.A X.stack s H C8.E0).tr pn xe) (.Call (.Name a p1) [] [] p2) (fun σZ HZ Q => σZ[0]? = some (some (.ref f)) ∧ HZ f = some oF ∧ HZ c' = some (CodeO c' q) ∧ tl E HZ Q)) →
    H f = some oF → H c' = some (CodeO c' q) → TT tl H Q →
    ∃ t, PSs (cxOf C8.CX0 X.prog X.w X.K X.mg X.base Ng x sg g cdg X.A X.stack s H C8.E0).nox bg t ∧ t { nx := fun _ H' => Q .non H', rt := Q } (L2.start Ng [.ref f]) H
/-- what is known of the lambda that stands at f -/
def IsLam (X : Cx) (k : Nat) (q : Str) (H : Hp) (f : Addr) (t : XK → TE) : Prop := ∃ c' params body scope, LamB X k params body scope t ∧ H f = some (LamO q params body scope (cloFrom X.env.cells scope.names []) f c') ∧ H c' = some (CodeO c' q)
theorem IsLam.ex {k : Nat} {q : Str} {H H' : Hp} {f : Addr} {t : XK → TE} (h : IsLam X k q H f t) (e : Ex H H') : IsLam X k q H' f t := by
  obtain ⟨c', p, b, sc, B, h1, h2⟩ := h
  exact ⟨c', p, b, sc, B, e _ _ h1, e _ _ h2⟩
/-- x(e), e a lambda -/
def tGive (X : Cx) (k : Nat) (TT : (XK → Hp → VK → Prop) → Hp → VK → Prop) (te : TE) : TE := fun σ H Q => te σ H fun v H1 => ∃ f t, v = .ref f ∧ IsLam X k (X.env.qual ++ "<lambda>") H1 f t ∧ TT (fun E H' Q' => t E σ H' Q') H1 Q
theorem pe_give {TT : (XK → Hp → VK → Prop) → Hp → VK → Prop} {x a : Str} {g : Addr} {k : Nat} {pg : Arguments} {bg : List Stmt} {sg : Scope} {dV kV doc pm cdv ct oc : Value} {an od : Option Addr} {osl : Array (Option Value)} {Ng : List Str} {e : Expr} {te : TE}
    {p pos : Pos} (hg : Gl X x) (hm : X.mg x = some (.ref g)) (hk : PySem.W.keepIn X.K (.ref g) = true)
    (lk : X.K.lookup g = some ⟨oc, od, .func (PySem.W.fnOf x x pg bg sg dV kV doc pm an cdv ct), osl⟩) (hcg : PySem.W.codeIn X.K cdv x = true) (hb : L2.Binds X.K (PySem.W.fnOf x x pg bg sg dV kV doc pm an cdv ct) [a] []) (Sg : FnScope Ng [a] sg) (hNg : Ng[0]? = some a) (hva : Vis sg a)
    (hG : GivesV X Ng x sg g cdv bg a (X.env.qual ++ "<lambda>") TT) (hr : Room (k + 2) X.A) (he : PE X e te) (hs : starEach [e] X.env = (false, eval e X.env) :: starEach [] X.env := by rfl)
    (hdb : (x == ("__debug__" : Str)) = false := by decide) (hd : (a == ("__debug__" : Str)) = false := by decide) (hcd : (a == ("__classdict__" : Str)) = false := by decide) : PE X (.Call (.Name x p) [e] [] pos) (tGive X k TT te) := by
  refine ⟨fun pins s σ H Q I h => ?_⟩
  refine wpAny_Call_Name_kw (ld_glob I hg hm ?_ hdb)
  refine PySem.W.callWith_K (h₀ := X.base) I.ok.mod.kin hk ?_ hs (by rfl)
  rw [hs]
  show wpAny _ _ (spliced ((false, eval e X.env) :: backTo pos (starEach [] X.env))) _ _ s
  refine Calls.spliced_cons (thn (he.run pins s σ H _ I h) fun u s1 ⟨v, H1, I1, r1, q1⟩ => ?_)
  obtain ⟨f, t, rfl, ⟨c', params, body, scope, B, hF, hc⟩, ht⟩ := q1
  obtain rfl : u = Value.ref f := r1
  refine Calls.spliced_nil ⟨I1.kIn, ?_⟩
  have rc : codeAny (model X.prog X.w) X.A (.call (.ref g) ⟨[.ref f], []⟩) (CR C8.CX0 X.stack X.prog X.w H1 s1 Q C8.E0) s1 := by
    refine run_ofS (N := Ng) (ps := [a]) (us := [.ref f]) (vs := [.ref f]) lk hcg Sg hr I1.env0 (hb s1 [.ref f] I1.kIn rfl) (.cons rfl .nil) rfl fun hr' => ?_
    obtain ⟨t', ht', hq'⟩ := hG f c' _ s1 H1 Q (fun E H' Q' => t E σ H' Q') ⟨_, rfl⟩ (fun W pn xe E p1 p2 tk hW => pe_actV (i := 0) I1 B tk hW hr' hNg hva hd hcd) hF hc ht
    exact ⟨t', ht'.nox, hq'⟩
  refine wpAny_call (codeAny_mono rc fun r s2 hq => ?_)
  cases r with
  | error er => exact (show False from hq).elim
  | ok fl =>
    cases fl with
    | ret u => exact I1.after hq
    | next => exact False.elim hq
    | brk => exact False.elim hq
    | cont => exact False.elim hq
end
end
section
open PySem PySem.Spec PyProof.Rows L2 LamX
/-- a def's promise where no repr is under way -/
structure FnG (P : Program) (w : World) (K : PySem.W.Frag) (mg : Str → Option Value) (base : Heap) (CX : CXT) (k : Nat) (f : Addr) (fd : FuncData) (ps : List Str) (sp : Sp) : Prop where
  ln : ∀ vs H Q E, sp vs H Q E → vs.length = ps.length
  go : ∀ (A : Around) (out : List Env) (s : Shared) (H : Hp) (args : Args) (us : List Value) (vs : List V) (Q : VK) (E : XK), A.guards = some [] → Room k A → Env0 P w K mg base A out s H → BindsTo s fd args (ps.zip us) → Vals vs us → sp vs H Q E → codeAny (model P w) A (.call (.ref f) args) (CR CX out P w H s Q E) s
section
variable {P : Program} {w : World} {K : PySem.W.Frag} {mg : Str → Option Value} {base : Heap} {CX : CXT} {k j : Nat} {f : Addr} {fd : FuncData} {ps N : List Str} {sp : Sp} {x : Str}
theorem fnG_of {name qual : Str} {params : Arguments} {body : List Stmt} {scope : Scope} {dV kV doc pm cdv ct oc : Value} {an od : Option Addr} {osl : Array (Option Value)}
    (lk : K.lookup f = some ⟨oc, od, .func (PySem.W.fnOf name qual params body scope dV kV doc pm an cdv ct), osl⟩) (hcd : PySem.W.codeIn K cdv qual = true) (S : FnScope N ps scope) (ln : ∀ vs H Q E, sp vs H Q E → vs.length = ps.length)
    (hb : ∀ (A : Around) (out : List Env) (s : Shared) (H : Hp) (vs : List V) (Q : VK) (E : XK), A.guards = some [] → Room k (A.deeper (envOfC qual scope s.heap.objs.size f cdv)) → sp vs H Q E → ∃ t, PSs (cxOf CX P w K mg base N qual scope f cdv A out s H E) body t ∧ t { nx := fun _ H' => Q .non H', rt := Q } (L2.start N vs) H) :
    FnG P w K mg base CX (k + 1) f (PySem.W.fnOf name qual params body scope dV kV doc pm an cdv ct) ps sp :=
  ⟨ln, fun A out s H args us vs Q E hg hr e0 bd r hs => run_ofS lk hcd S hr e0 bd r (ln _ _ _ _ hs) fun hr' => hb A out s H vs Q E hg hr' hs⟩
/-- such a def, as callers take it -/
structure ClG (P : Program) (w : World) (K : PySem.W.Frag) (mg : Str → Option Value) (base : Heap) (k : Nat) (x : Str) (sp : Sp) : Prop where
  ex : ∃ (f : Addr) (fd : FuncData) (ps : List Str), FnG P w K mg base (L2.CX P w) k f fd ps sp ∧ mg x = some (.ref f) ∧ PySem.W.keepIn K (.ref f) = true ∧ Binds K fd ps []
end
section
variable {X : Cx} {k j : Nat} {x : Str} {sp : Sp} {E : XK} {e : Expr} {es : List Expr} {t : TA} {p pos : Pos}
theorem pe_clG (c : ClG X.prog X.w X.K X.mg X.base k x sp) (hgd : X.A.guards = some []) (hr : Room j X.A) (hk : k ≤ j) (hg : Gl X x) (hx : Passes (L2.CX X.prog X.w) X E) (ha : PA X (e :: es) t) (hdb : (x == ("__debug__" : Str)) = false := by decide)
    (he : starEach (e :: es) X.env = (false, eval e X.env) :: starEach es X.env := by rfl) (hpl : (backTo pos (starEach es X.env)).any (·.1) = false := by rfl) : PE X (.Call (.Name x p) (e :: es) [] pos) (tC1 sp E t) := by
  obtain ⟨f, fd, ps, F, hm, kp, bd⟩ := c.ex
  constructor
  intro pins s σ H Q I h
  refine wpAny_Call_Name_kw (ld_glob I hg hm ?_ hdb)
  refine PySem.W.callWith_K (h₀ := X.base) I.ok.mod.kin kp (thn (ha.run pos pins s σ H _ I h) ?_) he hpl
  rintro us s1 ⟨vs, H1, I1, rv, q⟩
  refine ⟨I1.kIn, wpAny_call (codeAny_mono (F.go X.A X.stack s1 H1 ⟨us, []⟩ us vs Q E hgd (hr.mono hk) I1.env0 (by have := bd s1 us I1.kIn (by rw [List.append_nil, ← rv.length]; exact F.ln _ _ _ _ q); rw [List.append_nil] at this; exact this) rv q) ?_)⟩
  rintro (er | (_ | _ | _ | u)) s2 hq
  · exact hx pins σ H1 s1 er s2 I1 hq
  all_goals first | exact I1.after hq | exact False.elim hq
/-- repr of data -/
def rRep (K : PySem.W.Frag) : List V → Hp → VK → Prop := fun xs H Q => ∃ v d, xs = [v] ∧ Dp K H v d ∧ d.showable = true ∧ d.hasDict = false ∧ d.depth ≤ 60 ∧ d.shown.length ≤ 2000 ∧ (∀ i, d = .int i → i.natAbs.log2 < 1920) ∧ Q (.str d.shown) H
theorem call_rep {K : PySem.W.Frag} (hK : X.K = K) (hgd : X.A.guards = some []) (hu : X.A.units + 64 < cLine) : CallR X (.builtin "repr") (rRep K) := by
  subst hK
  intro pins s σ H xs us Q I r h
  obtain ⟨v, d, rfl, hd, h1, h2, h3, h4, h5, q⟩ := h
  obtain ⟨u, rfl, ru⟩ := vals1 r
  have big : d.shown.length ≤ sizeLine := Nat.le_trans h4 (by rw [sizeLine_eq]; decide)
  have fin : ∀ tk t', EP X pins σ Q (.str d.shown tk) { s with toks := t' } := fun tk t' => ⟨.str d.shown, H, I.tok _, ⟨_, rfl⟩, q⟩
  cases hd with
  | non => cases (show u = Value.none from ru); exact PySem.P.repr_of_none (fin _ _)
  | bl b => cases (show u = Value.bool b from ru); cases b <;> exact PySem.P.repr_of_bool (fin _ _)
  | int i => obtain ⟨t, rfl⟩ := (show ∃ t, u = Value.int i t from ru); exact PySem.P.repr_of_int (h5 i rfl) (fin _ _)
  | str y => obtain ⟨t, rfl⟩ := (show ∃ t, u = Value.str y t from ru); exact PySem.P.repr_of_str (fin _ _) big
  | @lst a ys ds hs hds =>
    cases (show u = Value.ref a from ru)
    obtain ⟨as, rdx⟩ := Dp.reads I _ _ _ (Dp.lst hs hds) ru
    exact repr_of_reads' rdx h1 (fun z => by rw [h2] at z; cases z) hgd (by omega) (fun _ _ e => e) (fun h' u' tk ex => ⟨.str _, H, I.kept ex, ⟨_, rfl⟩, q⟩) big
  | @tup a ys ds hs hds =>
    cases (show u = Value.ref a from ru)
    obtain ⟨as, rdx⟩ := Dp.reads I _ _ _ (Dp.tup hs hds) ru
    exact repr_of_reads' rdx h1 (fun z => by rw [h2] at z; cases z) hgd (by omega) (fun _ _ e => e) (fun h' u' tk ex => ⟨.str _, H, I.kept ex, ⟨_, rfl⟩, q⟩) big
end
end
section
open PySem PySem.Spec PyProof.Rows L2 LamX
abbrev emptyTab : Obj := { cls := .none, data := .fields #[] }
section
variable {P : Program} {w : World} {K : PySem.W.Frag} {mg mb : Str → Option Value} {CX : CXT} {k : Nat} {fa a : Addr} {cs : List (Addr × Addr)} {fd : FuncData} {x : Str} {sp : Sp} {s₁ : Shared} {vs : List Value} {ns : List Int}
/-- with an abstract heap H that tracks the tables, and the script at most -/
theorem callG_at (KX : K.In s₁.heap) (hns : s₁.heap.Ns mainGlobals mg) (hb : s₁.heap.Ns builtinsNs mb) (hbb : ∀ x : Str, x ≠ "__name__" → mb x = bootBuiltins x) (hlim : s₁.heap.NoLimit) (hg : s₁.gens = #[])
    (hT : ∀ p ∈ cs, s₁.heap.get? p.2 = some emptyTab) (nT : ∀ p ∈ cs, K.lookup p.2 = none) (C : ∀ p ∈ cs, PySem.W.CodeHd s₁.heap p.1 p.2)
    (hbm : ∃ (bm : Addr) (ob : Obj), mg "__builtins__" = some (.ref bm) ∧ bm ≠ builtinsNs ∧ s₁.heap.get? bm = some ob ∧ ob.cls = .type "module" ∧ ob.dict = some builtinsNs ∧ ob.data = .plain)
    (ha : s₁.heap.get? a = some { cls := .type "list", data := .seq vs.toArray }) (hr : Room k callerA)
    (F : ∀ base : Heap, K.In base → base.Ns mainGlobals mg → (∀ p ∈ cs, TabB base mg p.1 p.2) → FnG P w K mg base CX k fa fd [x] sp) (hbind : ∀ (s : Shared) (u : Value), BindsTo s fd ⟨[u], []⟩ [(x, u)])
    (hCX : ∀ H e s', CX [] H s₁ (fun _ _ _ => False) e s' → False)
    {H : Hp} (t1 : ∀ p ∈ cs, H p.2 = some (.tbl #[])) (t2 : ∀ b, H b = none ∨ b ∈ cs.map (·.2) ∨ ∃ o xs, H b = some (.frz o (.lst xs))) (ok : HOk P w H s₁.heap) (t3 : ∀ b, H b ≠ none → b = a ∨ b ∈ cs.map (·.2)) (t4 : H a ≠ none → K.lookup a = none) (hsp : sp [.ref a] H (fun v _ => v = .bl true) fun _ _ _ => False) :
    codeAny (model P w) callerA (.call (.ref fa) ⟨[.ref a], []⟩) (fun r s' => r = .ok (.ret (.bool true)) ∧ OldK s₁.heap s'.heap ∧ s'.os = s₁.os ∧ AllBare s'.gens) s₁ := by
  have tabAt : ∀ {b}, b ∈ cs.map (·.2) → s₁.heap.get? b = some emptyTab := fun {b} hb => by
    rcases List.mem_map.mp hb with ⟨p, hp, rfl⟩
    exact hT p hp
  -- what is neither a list nor an empty table is not tracked
  have free : ∀ {b : Addr} {o : Obj}, s₁.heap.get? b = some o → (∀ us n, o.data ≠ .seq us n) → o.data ≠ .fields #[] → H b = none := fun {b o} e n1 n2 => by
    rcases hH : H b with _ | u
    · rfl
    · exfalso
      rcases t3 b (by rw [hH]; simp) with rfl | z
      · rw [ha] at e; cases e; exact n1 _ _ rfl
      · rw [tabAt z] at e; cases e; exact n2 rfl
  have keepB : ∀ {b : Addr} {o : Obj}, s₁.heap.get? b = some o → H b = none → (hidT s₁.heap H).get? b = some o := fun e z => hidT_get e z
  have dictB : ∀ {b : Addr} {o : Obj} {es : Array DictEntry} {ep : Nat}, s₁.heap.get? b = some o → o.data = .dict es ep → (hidT s₁.heap H).get? b = some o := fun {b o es ep} e d =>
    keepB e (free e (fun us n z => by rw [d] at z; cases z) (fun z => by rw [d] at z; cases z))
  have nsB : ∀ {b : Addr} {m : Str → Option Value}, s₁.heap.Ns b m → (hidT s₁.heap H).Ns b m := fun {b m} h => by
    obtain ⟨o, es, ep, e, d, rest⟩ := h
    exact ⟨o, es, ep, dictB e d, d, rest⟩
  have KB : K.In (hidT s₁.heap H) := fun b o e => keepB (KX b o e) (by
    rcases hH : H b with _ | u
    · rfl
    · exfalso
      rcases t3 b (by rw [hH]; simp) with rfl | z
      · rw [t4 (by rw [hH]; simp)] at e; cases e
      · rcases List.mem_map.mp z with ⟨p, hp, rfl⟩
        rw [nT p hp] at e; cases e)
  have gB := nsB hns
  have MB : L2.Mod K mg (hidT s₁.heap H) := ⟨KB, gB, ⟨mb, nsB hb, hbb⟩, by obtain ⟨mc, l1, l2⟩ := hlim; exact ⟨mc, nsB l1, l2⟩⟩
  have TB : ∀ p ∈ cs, TabB (hidT s₁.heap H) mg p.1 p.2 := fun p hp => by
    obtain ⟨og, eg, epg, geq, gdt, _⟩ := id hns
    obtain ⟨oc, us, file, tf, flags, tg, inF, text, tt, c1, c2, c3, c4, c5, c6, c7, c8, c9, ne⟩ := C p hp
    obtain ⟨bm, ob, b1, b2, b3, b4, b5, b6⟩ := hbm
    have fields : ∀ {b : Addr} {o : Obj} {ws : Array Value}, s₁.heap.get? b = some o → o.data = .fields ws → ws ≠ #[] → (hidT s₁.heap H).get? b = some o := fun {b o ws} e d n =>
      keepB e (free e (fun us n z => by rw [d] at z; cases z) (fun z => by rw [d] at z; cases z; exact n rfl))
    refine ⟨⟨oc, us, file, tf, flags, tg, inF, text, tt, fields c1 c3 (fun z => by rw [z] at c4; simp at c4), c2, c3, c4, c5, c6, c7, c8, c9, ne⟩, ⟨bm, ob, b1, b2, ?_, ?_, keepB b3 (free b3 (fun us n z => by rw [b6] at z; cases z) (fun z => by rw [b6] at z; cases z)), b4, b5, b6⟩, ?_⟩
    · intro z
      rw [z, geq] at b3
      cases b3
      rw [gdt] at b6
      cases b6
    · intro z
      rw [z, hT p hp] at b3
      cases b3
      cases b6
    · intro z
      rw [z, hT p hp] at geq
      cases geq
      cases gdt
  have E0 : Env0 P w K mg (hidT s₁.heap H) callerA [] s₁ H := ⟨rfl, MB, fun b o e => of_hidT e, Nat.le_of_eq (hidT_size _ _), trivial, (fun b z => nomatch (show b ∈ ([] : List Addr) from z)), ok, .of_eq hg⟩
  refine codeAny_mono ((F _ KB gB TB).go callerA [] s₁ H ⟨[.ref a], []⟩ [.ref a] [.ref a] (fun v _ => v = .bl true) (fun _ _ _ => False) rfl hr E0 (hbind s₁ (.ref a)) (.cons rfl .nil) hsp) ?_
  rintro (er | (_ | _ | _ | u)) s' h
  · exact (hCX H er s' h).elim
  all_goals first | exact False.elim h | skip
  obtain ⟨v, H', os, bare, un, ok', rv, rfl⟩ := h
  obtain rfl : u = Value.bool true := rv
  have noFr : ∀ b : Addr, ¬ b ∈ frs ([] : List Env) := fun b z => nomatch (show b ∈ ([] : List Addr) from z)
  have old : ∀ {b o}, ¬ b ∈ cs.map (·.2) → s₁.heap.get? b = some o → s'.heap.get? b = some o := fun {b o} nb e => by
    rcases t2 b with z | z | ⟨ob, xs, z⟩
    · exact un.keep b o e z (noFr b) (by simp)
    · exact absurd z nb
    · have g := un.frzs b ob _ z
      have e1 := (ok b _ z).1
      have e2 := (ok' b _ g).1
      rw [e] at e1
      cases e1
      exact e2
  have tabs : ∀ p ∈ cs, ∃ more : Array Value, s'.heap.get? p.2 = some { cls := .none, data := .fields more } := fun p hp => by
    obtain ⟨more, z⟩ := un.tbls p.2 #[] (t1 p hp)
    exact ⟨_, ok' p.2 _ z⟩
  refine ⟨rfl, ⟨fun b o e => ?_, fun b o e => ?_⟩, os, bare⟩
  · rcases Classical.em (b ∈ cs.map (·.2)) with z | z
    · rcases List.mem_map.mp z with ⟨p, hp, rfl⟩
      obtain ⟨more, hm⟩ := tabs p hp
      have e' := e
      rw [hT p hp] at e'
      cases e'
      exact .inr (.inl ⟨((C p hp).tab (hT p hp)).isCodeTable, rfl, #[], more, rfl, by rw [Array.empty_append]; exact hm⟩)
    · exact .inl (old z e)
  · rcases Classical.em (b ∈ cs.map (·.2)) with z | z
    · rcases List.mem_map.mp z with ⟨p, hp, rfl⟩
      obtain ⟨more, hm⟩ := tabs p hp
      exact ⟨_, hm⟩
    · exact ⟨o, old z e⟩
/-- the tables alone -/
def hpT (cs : List (Addr × Addr)) : Hp := fun b => if b ∈ cs.map (·.2) then some (.tbl #[]) else none
theorem hpT_in {b : Addr} (h : b ∈ cs.map (·.2)) : hpT cs b = some (.tbl #[]) := if_pos h
theorem hpT_out {b : Addr} (h : ¬ b ∈ cs.map (·.2)) : hpT cs b = none := if_neg h
theorem hpT_mem {p : Addr × Addr} (hp : p ∈ cs) : p.2 ∈ cs.map (·.2) := List.mem_map.mpr ⟨p, hp, rfl⟩
theorem hpT_ok (tabAt : ∀ b ∈ cs.map (·.2), s₁.heap.get? b = some emptyTab) : HOk P w (hpT cs) s₁.heap := fun b u z => by
  rcases Classical.em (b ∈ cs.map (·.2)) with m | m
  · rw [hpT_in m] at z; cases z; exact tabAt b m
  · rw [hpT_out m] at z; cases z
theorem callG (KX : K.In s₁.heap) (hns : s₁.heap.Ns mainGlobals mg) (hb : s₁.heap.Ns builtinsNs mb) (hbb : ∀ x : Str, x ≠ "__name__" → mb x = bootBuiltins x) (hlim : s₁.heap.NoLimit) (hg : s₁.gens = #[])
    (hT : ∀ p ∈ cs, s₁.heap.get? p.2 = some emptyTab) (nT : ∀ p ∈ cs, K.lookup p.2 = none) (C : ∀ p ∈ cs, PySem.W.CodeHd s₁.heap p.1 p.2)
    (hbm : ∃ (bm : Addr) (ob : Obj), mg "__builtins__" = some (.ref bm) ∧ bm ≠ builtinsNs ∧ s₁.heap.get? bm = some ob ∧ ob.cls = .type "module" ∧ ob.dict = some builtinsNs ∧ ob.data = .plain)
    (ha : s₁.heap.get? a = some { cls := .type "list", data := .seq vs.toArray }) (hi : IntsAre vs ns) (hl : ns.length ≤ sizeLine) (hr : Room k callerA)
    (F : ∀ base : Heap, K.In base → base.Ns mainGlobals mg → (∀ p ∈ cs, TabB base mg p.1 p.2) → FnG P w K mg base CX k fa fd [x] sp) (hbind : ∀ (s : Shared) (u : Value), BindsTo s fd ⟨[u], []⟩ [(x, u)])
    (hsp : ∀ H : Hp, (∀ p ∈ cs, H p.2 = some (.tbl #[])) → SqL K H a (ns.map V.int) → sp [.ref a] H (fun v _ => v = .bl true) fun _ _ _ => False)
    (hCX : ∀ H e s', CX [] H s₁ (fun _ _ _ => False) e s' → False) :
    codeAny (model P w) callerA (.call (.ref fa) ⟨[.ref a], []⟩) (fun r s' => r = .ok (.ret (.bool true)) ∧ OldK s₁.heap s'.heap ∧ s'.os = s₁.os ∧ AllBare s'.gens) s₁ := by
  have tabAt : ∀ b ∈ cs.map (·.2), s₁.heap.get? b = some emptyTab := fun b hb => by
    rcases List.mem_map.mp hb with ⟨p, hp, rfl⟩
    exact hT p hp
  have na : ¬ a ∈ cs.map (·.2) := fun z => by
    have e := tabAt a z
    rw [ha] at e
    have : Data.seq vs.toArray _ = Data.fields #[] := congrArg Obj.data (Option.some.inj e)
    cases this
  have iv := vals_ints hi
  have len : vs.length = ns.length := hi.length
  rcases hk : K.lookup a with _ | o
  · -- the script is tracked as it stands
    let H : Hp := fun b => if b = a then some (.frz { cls := .type "list", data := .seq vs.toArray } (.lst (ns.map V.int))) else hpT cs b
    have Ha : H a = some (.frz { cls := .type "list", data := .seq vs.toArray } (.lst (ns.map V.int))) := if_pos rfl
    have Hn : ∀ {b}, b ≠ a → H b = hpT cs b := fun n => if_neg n
    have m1 : ∀ p ∈ cs, H p.2 = some (.tbl #[]) := fun p hp => by rw [Hn (fun z => na (z ▸ hpT_mem hp)), hpT_in (hpT_mem hp)]
    refine callG_at KX hns hb hbb hlim hg hT nT C hbm ha hr F hbind hCX m1 (fun b => ?_) (fun b u z => ?_) (fun b z => ?_) (fun _ => hk) (hsp H m1 (.inl (.inr ⟨_, Ha⟩)))
    · rcases Classical.em (b = a) with rfl | n
      · exact .inr (.inr ⟨_, _, Ha⟩)
      · rcases Classical.em (b ∈ cs.map (·.2)) with m | m
        · exact .inr (.inl m)
        · exact .inl (by rw [Hn n, hpT_out m])
    · rcases Classical.em (b = a) with rfl | n
      · rw [Ha] at z
        cases z
        exact ⟨ha, by rw [List.length_map]; exact hl, vs, _, iv, ha⟩
      · rw [Hn n] at z
        rcases Classical.em (b ∈ cs.map (·.2)) with m | m
        · rw [hpT_in m] at z; cases z; exact tabAt b m
        · rw [hpT_out m] at z; cases z
    · rcases Classical.em (b = a) with rfl | n
      · exact .inl rfl
      · rcases Classical.em (b ∈ cs.map (·.2)) with m | m
        · exact .inr m
        · exact absurd (by rw [Hn n, hpT_out m]) z
  · have e := KX a o hk
    rw [ha] at e
    cases e
    have m1 : ∀ p ∈ cs, hpT cs p.2 = some (.tbl #[]) := fun p hp => hpT_in (hpT_mem hp)
    refine callG_at KX hns hb hbb hlim hg hT nT C hbm ha hr F hbind hCX m1 (fun b => ?_) (hpT_ok tabAt) (fun b z => ?_) (fun z => absurd (hpT_out na) z) (hsp _ m1 (.inr ⟨_, vs.toArray, _, hk, rfl, rfl, rfl, by rw [List.size_toArray, len]; exact hl, by simpa using iv⟩))
    · rcases Classical.em (b ∈ cs.map (·.2)) with m | m
      · exact .inr (.inl m)
      · exact .inl (hpT_out m)
    · rcases Classical.em (b ∈ cs.map (·.2)) with m | m
      · exact .inr m
      · exact absurd (hpT_out m) z
end
/-- the law's promise at the head's heap, where no repr is under way -/
def LawAtG (l : PySem.W.OpenLaw) (w : World) (K : PySem.W.Frag) (CX : CXT) (k n : Nat) (x : Str) (mg : Str → Option Value) (fa : Addr) (h : Heap) : Prop :=
  ∃ (fd : FuncData) (cs : List (Addr × Addr)) (sp : Sp), (∀ p ∈ cs, h.get? p.2 = some emptyTab) ∧ (∀ p ∈ cs, K.lookup p.2 = none) ∧ (∀ p ∈ cs, PySem.W.CodeHd h p.1 p.2) ∧ (∀ (s : Shared) (u : Value), BindsTo s fd ⟨[u], []⟩ [(x, u)]) ∧
    (∀ (H : Hp) (a : Addr) (ns : List Int), ns.length ≤ n → (∀ p ∈ cs, H p.2 = some (.tbl #[])) → SqL K H a (ns.map V.int) → sp [.ref a] H (fun v _ => v = .bl true) fun _ _ _ => False) ∧
    ∀ base : Heap, K.In base → base.Ns mainGlobals mg → (∀ p ∈ cs, TabB base mg p.1 p.2) → FnG l.prog w K mg base CX k fa fd [x] sp
theorem walk_ofG {l : PySem.W.OpenLaw} {n k : Nat} {q : Program} {loose : List Str} {XP : (Str → Option Value) → Heap → Prop} {YP : World → Heap → Prop} {d : DefRec} {CX : World → CXT} {x : Str}
    (hn : l.most = some n) (hn2 : n ≤ sizeLine) (hdf : d.params.defaults = []) (hr : Room k callerA)
    (F : ∀ (w : World) (mg : Str → Option Value) (fa : Addr) (h : Heap), YP w h → h.Ns mainGlobals mg → mg d.name = some (.ref fa) → ∃ K : PySem.W.Frag, K.In h ∧ LawAtG l w K (CX w) k n x mg fa h)
    (hCX : ∀ (w : World) (H : Hp) (s : Shared) (e : Value) (s' : Shared), CX w [] H s (fun _ _ _ => False) e s' → False) : PySem.W.WalkO q loose XP YP l.row.toRowW d [] (fun f vs => PySem.call f vs) := by
  refine Att.attach_callB hn hdf ?_
  intro w s₀ s₁ mg mb fa o pm cd doc a vs ns G Y ho hd hcd hmg hobj hints hlen hbits hg
  obtain ⟨K, KX, fd, cs, sp, c1, c2, c3, c4, c5, c6⟩ := F w mg fa _ Y G.T.g hmg
  exact callG KX G.T.g G.T.b G.T.builtins G.T.nolimit hg c1 c2 c3 G.T.bmain hobj hints (Nat.le_trans hlen hn2) hr c6 c4 (fun H h1 h2 => c5 H a ns hlen h1 h2) fun H e s' => hCX w H s₁ e s'
end
section
open PySem PySem.W PySem.Calls PyProof.Rows
theorem law_early (F : ∀ (w : PySem.World) (K : PySem.W.Frag) (mg : PySem.Str → Option PySem.Value) (h : PySem.Heap) (fl : PySem.Addr), K.In h → h.Ns PySem.mainGlobals mg → mg ("law" : PySem.Str) = some (.ref fl) → He.SaysX fa fn [] tfs ex w h K → LawAtG PySem.Challenge.rw_overfloors_k10_points_and_forms w K (L2.CX (PySem.Challenge.rw_overfloors_k10_points_and_forms).prog w) 11 63 "_law_script" mg fl h) : PySem.Challenge.rw_overfloors_k10_points_and_forms.Holds := by
  w_on; o_law
  refine HandSHeadRun.head_imp (r := OpenLaw.row PySem.Challenge.rw_overfloors_k10_points_and_forms) (q := view (OpenLaw.row PySem.Challenge.rw_overfloors_k10_points_and_forms).prog [0, 56]) (H := Of.hk) (ob := Of.ob) (M := 6600) (loose := Of.loose) (d := HandSHeadRun.topDef (OpenLaw.row PySem.Challenge.rw_overfloors_k10_points_and_forms).prog 56) (kwd := []) Of.ob_eq Of.run
    (by kernel_rfl) (by kernel_rfl) (by kernel_rfl) (by rfl) (by first | assumption | decide +kernel) (by decide +kernel) ⟨rfl, rfl, rfl, rfl, rfl, by decide +kernel⟩ ?hw ?hc
  case hw => w_witness2
  case hc =>
    refine Of.walk_ofG (l := PySem.Challenge.rw_overfloors_k10_points_and_forms) (n := 63) (k := 11) (x := "_law_script") (CX := fun w => L2.CX (PySem.Challenge.rw_overfloors_k10_points_and_forms).prog w) rfl (by decide) (by kernel_rfl) ⟨rfl, by decide, by decide⟩ ?F (fun _ _ _ _ _ z => by obtain ⟨_, _, _, _, _, _, _, _, _, _, _, _, z⟩ := z; exact z)
    intro w mg fa h Y G hmg0
    obtain ⟨K, KX, c⟩ := Y
    have hmg : mg ("law" : PySem.Str) = some (.ref fa) := by
      have e : (HandSHeadRun.topDef (OpenLaw.row PySem.Challenge.rw_overfloors_k10_points_and_forms).prog 56).name = ("law" : PySem.Str) := by kernel_rfl
      rw [← e]
      exact hmg0
    exact ⟨K, KX, F w K mg h fa KX G hmg c⟩
end
section
open PySem PySem.Spec PyProof.Rows L2 He
section
variable {P : Program} {w : World} {K : PySem.W.Frag} {mg : Str → Option Value} {base : Heap} {C_Ratio C_BadNumber C_Point C_Form f_Ratio_eq f_Ratio_lt f_Ratio_le f_Ratio_gt f_Ratio_ge f_Ratio_bool f_Ratio_neg f_Ratio_abs f_Ratio_str f_Ratio_add f_Ratio_radd f_Ratio_sub f_Ratio_rsub f_Ratio_mul f_Ratio_rmul f_Ratio_floordiv f_Ratio_rfloordiv f_Ratio_mod f_Ratio_rmod f_Ratio_pow f_Ratio_over f_Ratio_floor f_Ratio_ceiling f_Ratio_whole f_Ratio_sign f_Point_mul f_Point_rmul f_Form_mul f_Form_rmul : Addr}
abbrev s_Ratio_le : Stmt := (inClass (top 18) 12)
theorem sc_Ratio___le__ : FnScope ["self", "other"] ["self", "other"] (defScope s_Ratio_le) := ⟨rfl, rfl, rfl, by decide +kernel, rfl, by decide +kernel, by decide +kernel⟩
theorem ok_Ratio_le {f : Addr} {fd : FuncData} (F : FunD K "__le__" "Ratio.__le__" (defArgs s_Ratio_le) (defBody s_Ratio_le) (defScope s_Ratio_le) [] [] f fd) (g_Ratio : mg "Ratio" = some (.ref C_Ratio)) (TB : TBl mg) (TR : RT K mg C_Ratio) (c_is_int : Cl P w K mg base 1 "is_int" (spIsInt K)) : FnOk P w K mg base (L2.CX P w) 2 f fd ["self", "other"] (spRB C_Ratio (fun q r => decide (q ≤ r))) := by
  refine F.ok (CX := L2.CX P w) sc_Ratio___le__ (fun vs H Q E h => ?_) (fun cdv A outer s H vs Q E hr h => ?_)
  · obtain ⟨a, v, q, r, rfl, _⟩ := h; rfl
  · obtain ⟨a, v, q, r, rfl, ha, hv, hq, hr', k⟩ := h
    refine ⟨_, (pss_cons (ps_if (pt_val (pe_callB (kc_isi (K := K) rfl) (by rfl) TB.b_isinstance (by decide +kernel) (pa_cons (pv 1) (pa_cons (pe_glob (v := .ref C_Ratio) (by rfl) g_Ratio rfl) pa_nil)))) (pss_one (ps_ret (pe_cmpR op_le (pe_op op_mulA (kfld (K := K) rfl (pv 0) rfl) (kfld (K := K) rfl (pv 1) rfl)) (pe_op op_mulA (kfld (K := K) rfl (pv 1) rfl) (kfld (K := K) rfl (pv 0) rfl)) (nomark _)))) pss_nil) (pss_cons (ps_if (pt_val (pe_cl c_is_int hr (by decide) (by rfl) psE (pa_cons (pv 1) pa_nil))) (pss_one (ps_ret (pe_cmpR op_le (kfld (K := K) rfl (pv 0) rfl) (pe_op op_mulA (pv 1) (kfld (K := K) rfl (pv 0) rfl)) (nomark _)))) pss_nil) (pss_one (ps_ret pe_ni)))), ?_⟩
    dsimp only at k
    rcases hv with ⟨n, rfl, rfl⟩ | ⟨c, rfl, hc⟩
    · have hn : Bt n := hr'.1
      wtm_at "of_rd"
      refine r_isi (.own _) tyI (kit_int TR.k) ?_
      wtm_at "of_rd"
      refine q_isInt_i ?_
      wtm_at "of_rd"
      rw [dec_le_i] at k
      exact k.here
    · wtm_at "of_rd"
      refine r_isi (.own _) (hc.tyx TR) kit_self ?_
      wtm_at "of_rd"
      rw [dec_le] at k
      exact k.here
abbrev s_Ratio_gt : Stmt := (inClass (top 18) 13)
theorem sc_Ratio___gt__ : FnScope ["self", "other"] ["self", "other"] (defScope s_Ratio_gt) := ⟨rfl, rfl, rfl, by decide +kernel, rfl, by decide +kernel, by decide +kernel⟩
theorem ok_Ratio_gt {f : Addr} {fd : FuncData} (F : FunD K "__gt__" "Ratio.__gt__" (defArgs s_Ratio_gt) (defBody s_Ratio_gt) (defScope s_Ratio_gt) [] [] f fd) (g_Ratio : mg "Ratio" = some (.ref C_Ratio)) (TB : TBl mg) (TR : RT K mg C_Ratio) (c_is_int : Cl P w K mg base 1 "is_int" (spIsInt K)) : FnOk P w K mg base (L2.CX P w) 2 f fd ["self", "other"] (spRB C_Ratio (fun q r => decide (r < q))) := by
  refine F.ok (CX := L2.CX P w) sc_Ratio___gt__ (fun vs H Q E h => ?_) (fun cdv A outer s H vs Q E hr h => ?_)
  · obtain ⟨a, v, q, r, rfl, _⟩ := h; rfl
  · obtain ⟨a, v, q, r, rfl, ha, hv, hq, hr', k⟩ := h
    refine ⟨_, (pss_cons (ps_if (pt_val (pe_callB (kc_isi (K := K) rfl) (by rfl) TB.b_isinstance (by decide +kernel) (pa_cons (pv 1) (pa_cons (pe_glob (v := .ref C_Ratio) (by rfl) g_Ratio rfl) pa_nil)))) (pss_one (ps_ret (pe_cmpR op_gt (pe_op op_mulA (kfld (K := K) rfl (pv 0) rfl) (kfld (K := K) rfl (pv 1) rfl)) (pe_op op_mulA (kfld (K := K) rfl (pv 1) rfl) (kfld (K := K) rfl (pv 0) rfl)) (nomark _)))) pss_nil) (pss_cons (ps_if (pt_val (pe_cl c_is_int hr (by decide) (by rfl) psE (pa_cons (pv 1) pa_nil))) (pss_one (ps_ret (pe_cmpR op_gt (kfld (K := K) rfl (pv 0) rfl) (pe_op op_mulA (pv 1) (kfld (K := K) rfl (pv 0) rfl)) (nomark _)))) pss_nil) (pss_one (ps_ret pe_ni)))), ?_⟩
    dsimp only at k
    rcases hv with ⟨n, rfl, rfl⟩ | ⟨c, rfl, hc⟩
    · have hn : Bt n := hr'.1
      wtm_at "of_rd"
      refine r_isi (.own _) tyI (kit_int TR.k) ?_
      wtm_at "of_rd"
      refine q_isInt_i ?_
      wtm_at "of_rd"
      rw [dec_gt_i] at k
      exact k.here
    · wtm_at "of_rd"
      refine r_isi (.own _) (hc.tyx TR) kit_self ?_
      wtm_at "of_rd"
      rw [dec_gt] at k
      exact k.here
abbrev s_Ratio_ge : Stmt := (inClass (top 18) 14)
theorem sc_Ratio___ge__ : FnScope ["self", "other"] ["self", "other"] (defScope s_Ratio_ge) := ⟨rfl, rfl, rfl, by decide +kernel, rfl, by decide +kernel, by decide +kernel⟩
theorem ok_Ratio_ge {f : Addr} {fd : FuncData} (F : FunD K "__ge__" "Ratio.__ge__" (defArgs s_Ratio_ge) (defBody s_Ratio_ge) (defScope s_Ratio_ge) [] [] f fd) (g_Ratio : mg "Ratio" = some (.ref C_Ratio)) (TB : TBl mg) (TR : RT K mg C_Ratio) (c_is_int : Cl P w K mg base 1 "is_int" (spIsInt K)) : FnOk P w K mg base (L2.CX P w) 2 f fd ["self", "other"] (spRB C_Ratio (fun q r => decide (r ≤ q))) := by
  refine F.ok (CX := L2.CX P w) sc_Ratio___ge__ (fun vs H Q E h => ?_) (fun cdv A outer s H vs Q E hr h => ?_)
  · obtain ⟨a, v, q, r, rfl, _⟩ := h; rfl
  · obtain ⟨a, v, q, r, rfl, ha, hv, hq, hr', k⟩ := h
    refine ⟨_, (pss_cons (ps_if (pt_val (pe_callB (kc_isi (K := K) rfl) (by rfl) TB.b_isinstance (by decide +kernel) (pa_cons (pv 1) (pa_cons (pe_glob (v := .ref C_Ratio) (by rfl) g_Ratio rfl) pa_nil)))) (pss_one (ps_ret (pe_cmpR op_ge (pe_op op_mulA (kfld (K := K) rfl (pv 0) rfl) (kfld (K := K) rfl (pv 1) rfl)) (pe_op op_mulA (kfld (K := K) rfl (pv 1) rfl) (kfld (K := K) rfl (pv 0) rfl)) (nomark _)))) pss_nil) (pss_cons (ps_if (pt_val (pe_cl c_is_int hr (by decide) (by rfl) psE (pa_cons (pv 1) pa_nil))) (pss_one (ps_ret (pe_cmpR op_ge (kfld (K := K) rfl (pv 0) rfl) (pe_op op_mulA (pv 1) (kfld (K := K) rfl (pv 0) rfl)) (nomark _)))) pss_nil) (pss_one (ps_ret pe_ni)))), ?_⟩
    dsimp only at k
    rcases hv with ⟨n, rfl, rfl⟩ | ⟨c, rfl, hc⟩
    · have hn : Bt n := hr'.1
      wtm_at "of_rd"
      refine r_isi (.own _) tyI (kit_int TR.k) ?_
      wtm_at "of_rd"
      refine q_isInt_i ?_
      wtm_at "of_rd"
      rw [dec_ge_i] at k
      exact k.here
    · wtm_at "of_rd"
      refine r_isi (.own _) (hc.tyx TR) kit_self ?_
      wtm_at "of_rd"
      rw [dec_ge] at k
      exact k.here
abbrev s_Ratio_floor : Stmt := (inClass (top 18) 2)
theorem sc_Ratio_floor : FnScope ["self"] ["self"] (defScope s_Ratio_floor) := ⟨rfl, rfl, rfl, by decide +kernel, rfl, by decide +kernel, by decide +kernel⟩
theorem ok_Ratio_floor {f : Addr} {fd : FuncData} (F : FunD K "floor" "Ratio.floor" (defArgs s_Ratio_floor) (defBody s_Ratio_floor) (defScope s_Ratio_floor) [] [] f fd) (TR : RT K mg C_Ratio) : FnOk P w K mg base (L2.CX P w) 1 f fd ["self"] (spRV C_Ratio (fun q => .int q.floor)) := by
  refine F.ok (CX := L2.CX P w) sc_Ratio_floor (fun vs H Q E h => ?_) (fun cdv A outer s H vs Q E hr h => ?_)
  · obtain ⟨a, q, rfl, _⟩ := h; rfl
  · obtain ⟨a, q, rfl, ha, hq, k⟩ := h
    refine ⟨_, (pss_one (ps_ret (pe_op op_fdivZ (kfld (K := K) rfl (pv 0) rfl) (kfld (K := K) rfl (pv 0) rfl)))), ?_⟩
    wtm_at "of_rd"
    refine r_I (cdz_den hq) ?_
    rw [flo_num]; exact k
abbrev s_Ratio_bool : Stmt := (inClass (top 18) 7)
theorem sc_Ratio___bool__ : FnScope ["self"] ["self"] (defScope s_Ratio_bool) := ⟨rfl, rfl, rfl, by decide +kernel, rfl, by decide +kernel, by decide +kernel⟩
theorem ok_Ratio_bool {f : Addr} {fd : FuncData} (F : FunD K "__bool__" "Ratio.__bool__" (defArgs s_Ratio_bool) (defBody s_Ratio_bool) (defScope s_Ratio_bool) [] [] f fd) (TB : TBl mg) (TR : RT K mg C_Ratio) : FnOk P w K mg base (L2.CX P w) 1 f fd ["self"] (spRV C_Ratio (fun q => .bl (!decide (q.num = 0)))) := by
  refine F.ok (CX := L2.CX P w) sc_Ratio___bool__ (fun vs H Q E h => ?_) (fun cdv A outer s H vs Q E hr h => ?_)
  · obtain ⟨a, q, rfl, _⟩ := h; rfl
  · obtain ⟨a, q, rfl, ha, hq, k⟩ := h
    refine ⟨_, (pss_one (ps_ret (pe_callTy call_bool1 (by rfl) TB.b_bool (by decide +kernel) (pa_cons (pe_cmpR op_ne (kfld (K := K) rfl (pv 0) rfl) pe_int (nomark _)) pa_nil)))), ?_⟩
    wtm_at "of_rd"
    exact .inr ⟨_, rfl, k⟩
abbrev s_Ratio_neg : Stmt := (inClass (top 18) 8)
theorem sc_Ratio___neg__ : FnScope ["self"] ["self"] (defScope s_Ratio_neg) := ⟨rfl, rfl, rfl, by decide +kernel, rfl, by decide +kernel, by decide +kernel⟩
theorem ok_Ratio_neg {f : Addr} {fd : FuncData} (F : FunD K "__neg__" "Ratio.__neg__" (defArgs s_Ratio_neg) (defBody s_Ratio_neg) (defScope s_Ratio_neg) [] [] f fd) (TR : RT K mg C_Ratio) (c_Ratio_2 : Ck P w K mg base 4 "Ratio" C_Ratio [] (spRInit K C_Ratio C_BadNumber)) : FnOk P w K mg base (L2.CX P w) 6 f fd ["self"] (spR0 C_Ratio (fun q => -q)) := by
  refine F.ok (CX := L2.CX P w) sc_Ratio___neg__ (fun vs H Q E h => ?_) (fun cdv A outer s H vs Q E hr h => ?_)
  · obtain ⟨a, q, rfl, _⟩ := h; rfl
  · obtain ⟨a, q, rfl, ha, hq, k⟩ := h
    refine ⟨_, (pss_one (ps_ret (pe_ck c_Ratio_2 hr (by decide) (by rfl) psE (pa_cons (pe_un un_neg (kfld (K := K) rfl (pv 0) rfl)) (pa_cons (kfld (K := K) rfl (pv 0) rfl) pa_nil))))), ?_⟩
    wtm_at "of_rd"
    refine q_mk rfl (den_ne q) (pow_mono hq.2 (by decide)) ?_
    rw [rat_neg]; exact k
abbrev s_Ratio_abs : Stmt := (inClass (top 18) 9)
theorem sc_Ratio___abs__ : FnScope ["self"] ["self"] (defScope s_Ratio_abs) := ⟨rfl, rfl, rfl, by decide +kernel, rfl, by decide +kernel, by decide +kernel⟩
theorem ok_Ratio_abs {f : Addr} {fd : FuncData} (F : FunD K "__abs__" "Ratio.__abs__" (defArgs s_Ratio_abs) (defBody s_Ratio_abs) (defScope s_Ratio_abs) [] [] f fd) (TB : TBl mg) (TR : RT K mg C_Ratio) (c_Ratio_2 : Ck P w K mg base 4 "Ratio" C_Ratio [] (spRInit K C_Ratio C_BadNumber)) : FnOk P w K mg base (L2.CX P w) 6 f fd ["self"] (spR0 C_Ratio absQ) := by
  refine F.ok (CX := L2.CX P w) sc_Ratio___abs__ (fun vs H Q E h => ?_) (fun cdv A outer s H vs Q E hr h => ?_)
  · obtain ⟨a, q, rfl, _⟩ := h; rfl
  · obtain ⟨a, q, rfl, ha, hq, k⟩ := h
    refine ⟨_, (pss_one (ps_ret (pe_ck c_Ratio_2 hr (by decide) (by rfl) psE (pa_cons (pe_callB kc_abs (by rfl) TB.b_abs (by decide +kernel) (pa_cons (kfld (K := K) rfl (pv 0) rfl) pa_nil)) (pa_cons (kfld (K := K) rfl (pv 0) rfl) pa_nil))))), ?_⟩
    wtm_at "of_rd"
    refine q_absI ?_
    wtm_at "of_rd"
    refine q_mk rfl (den_ne q) (pow_mono hq.2 (by decide)) ?_
    rw [rat_abs]; exact k
abbrev s_Ratio_add : Stmt := (inClass (top 18) 15)
theorem sc_Ratio___add__ : FnScope ["self", "other"] ["self", "other"] (defScope s_Ratio_add) := ⟨rfl, rfl, rfl, by decide +kernel, rfl, by decide +kernel, by decide +kernel⟩
theorem ok_Ratio_add {f : Addr} {fd : FuncData} (F : FunD K "__add__" "Ratio.__add__" (defArgs s_Ratio_add) (defBody s_Ratio_add) (defScope s_Ratio_add) [] [] f fd) (g_Ratio : mg "Ratio" = some (.ref C_Ratio)) (TB : TBl mg) (TR : RT K mg C_Ratio) (c_is_int : Cl P w K mg base 1 "is_int" (spIsInt K)) (c_Ratio_2 : Ck P w K mg base 4 "Ratio" C_Ratio [] (spRInit K C_Ratio C_BadNumber)) : FnOk P w K mg base (L2.CX P w) 6 f fd ["self", "other"] (spR1 C_Ratio (fun q r => q + r) (fun _ _ => True)) := by
  refine F.ok (CX := L2.CX P w) sc_Ratio___add__ (fun vs H Q E h => ?_) (fun cdv A outer s H vs Q E hr h => ?_)
  · obtain ⟨a, v, q, r, rfl, _⟩ := h; rfl
  · obtain ⟨a, v, q, r, rfl, ha, hv, hq, hr', _, k⟩ := h
    refine ⟨_, (pss_cons (ps_if (pt_val (pe_callB (kc_isi (K := K) rfl) (by rfl) TB.b_isinstance (by decide +kernel) (pa_cons (pv 1) (pa_cons (pe_glob (v := .ref C_Ratio) (by rfl) g_Ratio rfl) pa_nil)))) (pss_one (ps_ret (pe_ck c_Ratio_2 hr (by decide) (by rfl) psE (pa_cons (pe_op op_add (pe_op op_mulA (kfld (K := K) rfl (pv 0) rfl) (kfld (K := K) rfl (pv 1) rfl)) (pe_op op_mulA (kfld (K := K) rfl (pv 1) rfl) (kfld (K := K) rfl (pv 0) rfl))) (pa_cons (pe_op op_mulA (kfld (K := K) rfl (pv 0) rfl) (kfld (K := K) rfl (pv 1) rfl)) pa_nil))))) pss_nil) (pss_cons (ps_if (pt_val (pe_cl c_is_int hr (by decide) (by rfl) psE (pa_cons (pv 1) pa_nil))) (pss_one (ps_ret (pe_ck c_Ratio_2 hr (by decide) (by rfl) psE (pa_cons (pe_op op_add (kfld (K := K) rfl (pv 0) rfl) (pe_op op_mulA (pv 1) (kfld (K := K) rfl (pv 0) rfl))) (pa_cons (kfld (K := K) rfl (pv 0) rfl) pa_nil))))) pss_nil) (pss_one (ps_ret pe_ni)))), ?_⟩
    rcases hv with ⟨n, rfl, rfl⟩ | ⟨c, rfl, hc⟩
    · have hn : Bt n := hr'.1
      wtm_at "of_rd"
      refine r_isi (.own _) tyI (kit_int TR.k) ?_
      wtm_at "of_rd"
      refine q_isInt_i ?_
      wtm_at "of_rd"
      refine q_mk rfl (den_ne q) (bt_9 hq.2) ?_
      rw [rat_add_i]; exact k
    · wtm_at "of_rd"
      refine r_isi (.own _) (hc.tyx TR) kit_self ?_
      wtm_at "of_rd"
      refine q_mk rfl (dd_ne q r) (dd_lt hq hr') ?_
      rw [rat_add]; exact k
abbrev s_Ratio_mul : Stmt := (inClass (top 18) 19)
theorem sc_Ratio___mul__ : FnScope ["self", "other"] ["self", "other"] (defScope s_Ratio_mul) := ⟨rfl, rfl, rfl, by decide +kernel, rfl, by decide +kernel, by decide +kernel⟩
theorem ok_Ratio_mul {f : Addr} {fd : FuncData} (F : FunD K "__mul__" "Ratio.__mul__" (defArgs s_Ratio_mul) (defBody s_Ratio_mul) (defScope s_Ratio_mul) [] [] f fd) (g_Ratio : mg "Ratio" = some (.ref C_Ratio)) (TB : TBl mg) (TR : RT K mg C_Ratio) (c_is_int : Cl P w K mg base 1 "is_int" (spIsInt K)) (c_Ratio_2 : Ck P w K mg base 4 "Ratio" C_Ratio [] (spRInit K C_Ratio C_BadNumber)) : FnOk P w K mg base (L2.CX P w) 6 f fd ["self", "other"] (spR1 C_Ratio (fun q r => q * r) (fun _ _ => True)) := by
  refine F.ok (CX := L2.CX P w) sc_Ratio___mul__ (fun vs H Q E h => ?_) (fun cdv A outer s H vs Q E hr h => ?_)
  · obtain ⟨a, v, q, r, rfl, _⟩ := h; rfl
  · obtain ⟨a, v, q, r, rfl, ha, hv, hq, hr', _, k⟩ := h
    refine ⟨_, (pss_cons (ps_if (pt_val (pe_callB (kc_isi (K := K) rfl) (by rfl) TB.b_isinstance (by decide +kernel) (pa_cons (pv 1) (pa_cons (pe_glob (v := .ref C_Ratio) (by rfl) g_Ratio rfl) pa_nil)))) (pss_one (ps_ret (pe_ck c_Ratio_2 hr (by decide) (by rfl) psE (pa_cons (pe_op op_mulA (kfld (K := K) rfl (pv 0) rfl) (kfld (K := K) rfl (pv 1) rfl)) (pa_cons (pe_op op_mulA (kfld (K := K) rfl (pv 0) rfl) (kfld (K := K) rfl (pv 1) rfl)) pa_nil))))) pss_nil) (pss_cons (ps_if (pt_val (pe_cl c_is_int hr (by decide) (by rfl) psE (pa_cons (pv 1) pa_nil))) (pss_one (ps_ret (pe_ck c_Ratio_2 hr (by decide) (by rfl) psE (pa_cons (pe_op op_mulA (kfld (K := K) rfl (pv 0) rfl) (pv 1)) (pa_cons (kfld (K := K) rfl (pv 0) rfl) pa_nil))))) pss_nil) (pss_one (ps_ret pe_ni)))), ?_⟩
    rcases hv with ⟨n, rfl, rfl⟩ | ⟨c, rfl, hc⟩
    · have hn : Bt n := hr'.1
      wtm_at "of_rd"
      refine r_isi (.own _) tyI (kit_int TR.k) ?_
      wtm_at "of_rd"
      refine q_isInt_i ?_
      wtm_at "of_rd"
      refine q_mk rfl (den_ne q) (bt_9 hq.2) ?_
      rw [rat_mul_i]; exact k
    · wtm_at "of_rd"
      refine r_isi (.own _) (hc.tyx TR) kit_self ?_
      wtm_at "of_rd"
      refine q_mk rfl (dd_ne q r) (dd_lt hq hr') ?_
      rw [rat_mul]; exact k
end
end
section
open PySem PySem.Spec PyProof.Rows L2 He
section
variable {P : Program} {w : World} {K : PySem.W.Frag} {mg : Str → Option Value} {base : Heap} {C_Ratio C_BadNumber C_Point C_Form f_Ratio_eq f_Ratio_lt f_Ratio_le f_Ratio_gt f_Ratio_ge f_Ratio_bool f_Ratio_neg f_Ratio_abs f_Ratio_str f_Ratio_add f_Ratio_radd f_Ratio_sub f_Ratio_rsub f_Ratio_mul f_Ratio_rmul f_Ratio_floordiv f_Ratio_rfloordiv f_Ratio_mod f_Ratio_rmod f_Ratio_pow f_Ratio_over f_Ratio_floor f_Ratio_ceiling f_Ratio_whole f_Ratio_sign f_Point_mul f_Point_rmul f_Form_mul f_Form_rmul : Addr}
abbrev s_Ratio_sub : Stmt := (inClass (top 18) 17)
theorem sc_Ratio___sub__ : FnScope ["self", "other"] ["self", "other"] (defScope s_Ratio_sub) := ⟨rfl, rfl, rfl, by decide +kernel, rfl, by decide +kernel, by decide +kernel⟩
theorem ok_Ratio_sub {f : Addr} {fd : FuncData} (F : FunD K "__sub__" "Ratio.__sub__" (defArgs s_Ratio_sub) (defBody s_Ratio_sub) (defScope s_Ratio_sub) [] [] f fd) (g_Ratio : mg "Ratio" = some (.ref C_Ratio)) (TB : TBl mg) (TR : RT K mg C_Ratio) (c_is_int : Cl P w K mg base 1 "is_int" (spIsInt K)) (c_Ratio_2 : Ck P w K mg base 4 "Ratio" C_Ratio [] (spRInit K C_Ratio C_BadNumber)) : FnOk P w K mg base (L2.CX P w) 6 f fd ["self", "other"] (spR1 C_Ratio (fun q r => q - r) (fun _ _ => True)) := by
  refine F.ok (CX := L2.CX P w) sc_Ratio___sub__ (fun vs H Q E h => ?_) (fun cdv A outer s H vs Q E hr h => ?_)
  · obtain ⟨a, v, q, r, rfl, _⟩ := h; rfl
  · obtain ⟨a, v, q, r, rfl, ha, hv, hq, hr', _, k⟩ := h
    refine ⟨_, (pss_cons (ps_if (pt_val (pe_callB (kc_isi (K := K) rfl) (by rfl) TB.b_isinstance (by decide +kernel) (pa_cons (pv 1) (pa_cons (pe_glob (v := .ref C_Ratio) (by rfl) g_Ratio rfl) pa_nil)))) (pss_one (ps_ret (pe_ck c_Ratio_2 hr (by decide) (by rfl) psE (pa_cons (pe_op op_sub (pe_op op_mulA (kfld (K := K) rfl (pv 0) rfl) (kfld (K := K) rfl (pv 1) rfl)) (pe_op op_mulA (kfld (K := K) rfl (pv 1) rfl) (kfld (K := K) rfl (pv 0) rfl))) (pa_cons (pe_op op_mulA (kfld (K := K) rfl (pv 0) rfl) (kfld (K := K) rfl (pv 1) rfl)) pa_nil))))) pss_nil) (pss_cons (ps_if (pt_val (pe_cl c_is_int hr (by decide) (by rfl) psE (pa_cons (pv 1) pa_nil))) (pss_one (ps_ret (pe_ck c_Ratio_2 hr (by decide) (by rfl) psE (pa_cons (pe_op op_sub (kfld (K := K) rfl (pv 0) rfl) (pe_op op_mulA (pv 1) (kfld (K := K) rfl (pv 0) rfl))) (pa_cons (kfld (K := K) rfl (pv 0) rfl) pa_nil))))) pss_nil) (pss_one (ps_ret pe_ni)))), ?_⟩
    rcases hv with ⟨n, rfl, rfl⟩ | ⟨c, rfl, hc⟩
    · have hn : Bt n := hr'.1
      wtm_at "of_rd"
      refine r_isi (.own _) tyI (kit_int TR.k) ?_
      wtm_at "of_rd"
      refine q_isInt_i ?_
      wtm_at "of_rd"
      refine q_mk rfl (den_ne q) (bt_9 hq.2) ?_
      rw [rat_sub_i]; exact k
    · wtm_at "of_rd"
      refine r_isi (.own _) (hc.tyx TR) kit_self ?_
      wtm_at "of_rd"
      refine q_mk rfl (dd_ne q r) (dd_lt hq hr') ?_
      rw [rat_sub]; exact k
abbrev s_Ratio_radd : Stmt := (inClass (top 18) 16)
theorem sc_Ratio___radd__ : FnScope ["self", "other"] ["self", "other"] (defScope s_Ratio_radd) := ⟨rfl, rfl, rfl, by decide +kernel, rfl, by decide +kernel, by decide +kernel⟩
theorem ok_Ratio_radd {f : Addr} {fd : FuncData} (F : FunD K "__radd__" "Ratio.__radd__" (defArgs s_Ratio_radd) (defBody s_Ratio_radd) (defScope s_Ratio_radd) [] [] f fd) (TR : RT K mg C_Ratio) (c_is_int : Cl P w K mg base 1 "is_int" (spIsInt K)) (c_Ratio_2 : Ck P w K mg base 4 "Ratio" C_Ratio [] (spRInit K C_Ratio C_BadNumber)) : FnOk P w K mg base (L2.CX P w) 6 f fd ["self", "other"] (spRI C_Ratio (fun q r => r + q) (fun _ _ => True)) := by
  refine F.ok (CX := L2.CX P w) sc_Ratio___radd__ (fun vs H Q E h => ?_) (fun cdv A outer s H vs Q E hr h => ?_)
  · obtain ⟨a, q, n, rfl, _⟩ := h; rfl
  · obtain ⟨a, q, n, rfl, ha, hq, hn, _, k⟩ := h
    refine ⟨_, (pss_cons (ps_if (pt_val (pe_cl c_is_int hr (by decide) (by rfl) psE (pa_cons (pv 1) pa_nil))) (pss_one (ps_ret (pe_ck c_Ratio_2 hr (by decide) (by rfl) psE (pa_cons (pe_op op_add (kfld (K := K) rfl (pv 0) rfl) (pe_op op_mulA (pv 1) (kfld (K := K) rfl (pv 0) rfl))) (pa_cons (kfld (K := K) rfl (pv 0) rfl) pa_nil))))) pss_nil) (pss_one (ps_ret pe_ni))), ?_⟩
    wtm_at "of_rd"
    refine q_isInt_i ?_
    wtm_at "of_rd"
    refine q_mk rfl (den_ne q) (bt_9 hq.2) ?_
    rw [rat_add_i, Rat.add_comm]; exact k
abbrev s_Ratio_rsub : Stmt := (inClass (top 18) 18)
theorem sc_Ratio___rsub__ : FnScope ["self", "other"] ["self", "other"] (defScope s_Ratio_rsub) := ⟨rfl, rfl, rfl, by decide +kernel, rfl, by decide +kernel, by decide +kernel⟩
theorem ok_Ratio_rsub {f : Addr} {fd : FuncData} (F : FunD K "__rsub__" "Ratio.__rsub__" (defArgs s_Ratio_rsub) (defBody s_Ratio_rsub) (defScope s_Ratio_rsub) [] [] f fd) (TR : RT K mg C_Ratio) (c_is_int : Cl P w K mg base 1 "is_int" (spIsInt K)) (c_Ratio_2 : Ck P w K mg base 4 "Ratio" C_Ratio [] (spRInit K C_Ratio C_BadNumber)) : FnOk P w K mg base (L2.CX P w) 6 f fd ["self", "other"] (spRI C_Ratio (fun q r => r - q) (fun _ _ => True)) := by
  refine F.ok (CX := L2.CX P w) sc_Ratio___rsub__ (fun vs H Q E h => ?_) (fun cdv A outer s H vs Q E hr h => ?_)
  · obtain ⟨a, q, n, rfl, _⟩ := h; rfl
  · obtain ⟨a, q, n, rfl, ha, hq, hn, _, k⟩ := h
    refine ⟨_, (pss_cons (ps_if (pt_val (pe_cl c_is_int hr (by decide) (by rfl) psE (pa_cons (pv 1) pa_nil))) (pss_one (ps_ret (pe_ck c_Ratio_2 hr (by decide) (by rfl) psE (pa_cons (pe_op op_sub (pe_op op_mulA (pv 1) (kfld (K := K) rfl (pv 0) rfl)) (kfld (K := K) rfl (pv 0) rfl)) (pa_cons (kfld (K := K) rfl (pv 0) rfl) pa_nil))))) pss_nil) (pss_one (ps_ret pe_ni))), ?_⟩
    wtm_at "of_rd"
    refine q_isInt_i ?_
    wtm_at "of_rd"
    refine q_mk rfl (den_ne q) (bt_9 hq.2) ?_
    rw [rat_rsub_i]; exact k
abbrev s_Ratio_rmul : Stmt := (inClass (top 18) 20)
theorem sc_Ratio___rmul__ : FnScope ["self", "other"] ["self", "other"] (defScope s_Ratio_rmul) := ⟨rfl, rfl, rfl, by decide +kernel, rfl, by decide +kernel, by decide +kernel⟩
theorem ok_Ratio_rmul {f : Addr} {fd : FuncData} (F : FunD K "__rmul__" "Ratio.__rmul__" (defArgs s_Ratio_rmul) (defBody s_Ratio_rmul) (defScope s_Ratio_rmul) [] [] f fd) (TR : RT K mg C_Ratio) (c_is_int : Cl P w K mg base 1 "is_int" (spIsInt K)) (c_Ratio_2 : Ck P w K mg base 4 "Ratio" C_Ratio [] (spRInit K C_Ratio C_BadNumber)) : FnOk P w K mg base (L2.CX P w) 6 f fd ["self", "other"] (spRI C_Ratio (fun q r => r * q) (fun _ _ => True)) := by
  refine F.ok (CX := L2.CX P w) sc_Ratio___rmul__ (fun vs H Q E h => ?_) (fun cdv A outer s H vs Q E hr h => ?_)
  · obtain ⟨a, q, n, rfl, _⟩ := h; rfl
  · obtain ⟨a, q, n, rfl, ha, hq, hn, _, k⟩ := h
    refine ⟨_, (pss_cons (ps_if (pt_val (pe_cl c_is_int hr (by decide) (by rfl) psE (pa_cons (pv 1) pa_nil))) (pss_one (ps_ret (pe_ck c_Ratio_2 hr (by decide) (by rfl) psE (pa_cons (pe_op op_mulA (kfld (K := K) rfl (pv 0) rfl) (pv 1)) (pa_cons (kfld (K := K) rfl (pv 0) rfl) pa_nil))))) pss_nil) (pss_one (ps_ret pe_ni))), ?_⟩
    wtm_at "of_rd"
    refine q_isInt_i ?_
    wtm_at "of_rd"
    refine q_mk rfl (den_ne q) (bt_9 hq.2) ?_
    rw [rat_mul_i, Rat.mul_comm]; exact k
abbrev s_floor_quotient : Stmt := (top 14)
theorem sc_floor_quotient : FnScope ["one", "other", "first", "second"] ["one", "other"] (defScope s_floor_quotient) := ⟨rfl, rfl, rfl, by decide +kernel, rfl, by decide +kernel, by decide +kernel⟩
theorem ok_floor_quotient {f : Addr} {fd : FuncData} (F : FunD K "floor_quotient" "floor_quotient" (defArgs s_floor_quotient) (defBody s_floor_quotient) (defScope s_floor_quotient) [] [] f fd) (TR : RT K mg C_Ratio) (c_BadNumber : Cox P w K mg base 1 "BadNumber" C_BadNumber "value") (c_ratio_of : Cl P w K mg base 6 "ratio_of" (spRatioOf K C_Ratio C_BadNumber)) : FnOk P w K mg base (L2.CX P w) 7 f fd ["one", "other"] (spFloQ K C_Ratio C_BadNumber) := by
  refine F.ok (CX := L2.CX P w) sc_floor_quotient (fun vs H Q E h => ?_) (fun cdv A outer s H vs Q E hr h => ?_)
  · obtain ⟨u, v, q, r, rfl, _⟩ := h; rfl
  · obtain ⟨u, v, q, r, rfl, hu, hv, hq, hr', h⟩ := h
    refine ⟨_, (pss_cons (ps_par (i := 2) (j := 3) rfl sc_floor_quotient.nd rfl rfl (by decide) rfl rfl (pa_cons (pe_cl c_ratio_of hr (by decide) (by rfl) psE (pa_cons (pv 0) pa_nil)) (pa_cons (pe_cl c_ratio_of hr (by decide) (by rfl) psE (pa_cons (pv 1) pa_nil)) pa_nil)) (by rfl)) (pss_cons (ps_if (pt_cmpR op_eq (kfld (K := K) rfl (pv 3) rfl) pe_int (nomark _)) (pss_one (ps_rz c_BadNumber hr (by decide) tkE rfl (pa_cons (pv 1) pa_nil))) pss_nil) (pss_one (ps_ret (pe_op op_fdivZ (pe_op op_mulA (kfld (K := K) rfl (pv 2) rfl) (kfld (K := K) rfl (pv 3) rfl)) (pe_op op_mulA (kfld (K := K) rfl (pv 2) rfl) (kfld (K := K) rfl (pv 3) rfl))))))), ?_⟩
    wtm_at "of_rd"
    wtm_at "of_rz"
    wtm_at "of_rd"
    refine q_ratioOf hu hq ?_
    intro H1 p1 e1 h1
    wtm_at "of_rd"
    wtm_at "of_rz"
    wtm_at "of_rd"
    refine q_ratioOf (hv.ex e1) hr' ?_
    intro H2 p2 e2 h2
    wtm_at "of_rd"
    wtm_at "of_rz"
    wtm_at "of_rd"
    rcases h with ⟨rfl, hz⟩ | ⟨h0, k⟩
    · refine ite2 (fun _ => ?_) (fun z => absurd rfl z)
      wtm_at "of_rd"
      wtm_at "of_rz"
      wtm_at "of_rd"
      exact (hz.ex (e1.trans e2)).at
    · refine ite2 (fun z => absurd z (num_ne h0)) (fun _ => ?_)
      wtm_at "of_rd"
      wtm_at "of_rz"
      wtm_at "of_rd"
      refine r_I ⟨Int.mul_ne_zero (den_ne q) (num_ne h0), bt_mul9 hq.2 hr'.1⟩ ?_
      wtm_at "of_rd"
      wtm_at "of_rz"
      wtm_at "of_rd"
      rw [rat_fdiv _ _ h0]; exact k _ (e1.trans e2)
abbrev s_remainder_of : Stmt := (top 15)
theorem sc_remainder_of : FnScope ["one", "other", "first", "second"] ["one", "other"] (defScope s_remainder_of) := ⟨rfl, rfl, rfl, by decide +kernel, rfl, by decide +kernel, by decide +kernel⟩
theorem ok_remainder_of {f : Addr} {fd : FuncData} (F : FunD K "remainder_of" "remainder_of" (defArgs s_remainder_of) (defBody s_remainder_of) (defScope s_remainder_of) [] [] f fd) (TR : RT K mg C_Ratio) (c_BadNumber : Cox P w K mg base 1 "BadNumber" C_BadNumber "value") (c_Ratio_2 : Ck P w K mg base 4 "Ratio" C_Ratio [] (spRInit K C_Ratio C_BadNumber)) (c_ratio_of : Cl P w K mg base 6 "ratio_of" (spRatioOf K C_Ratio C_BadNumber)) : FnOk P w K mg base (L2.CX P w) 7 f fd ["one", "other"] (spRemQ K C_Ratio C_BadNumber) := by
  refine F.ok (CX := L2.CX P w) sc_remainder_of (fun vs H Q E h => ?_) (fun cdv A outer s H vs Q E hr h => ?_)
  · obtain ⟨u, v, q, r, rfl, _⟩ := h; rfl
  · obtain ⟨u, v, q, r, rfl, hu, hv, hq, hr', h⟩ := h
    refine ⟨_, (pss_cons (ps_par (i := 2) (j := 3) rfl sc_remainder_of.nd rfl rfl (by decide) rfl rfl (pa_cons (pe_cl c_ratio_of hr (by decide) (by rfl) psE (pa_cons (pv 0) pa_nil)) (pa_cons (pe_cl c_ratio_of hr (by decide) (by rfl) psE (pa_cons (pv 1) pa_nil)) pa_nil)) (by rfl)) (pss_cons (ps_if (pt_cmpR op_eq (kfld (K := K) rfl (pv 3) rfl) pe_int (nomark _)) (pss_one (ps_rz c_BadNumber hr (by decide) tkE rfl (pa_cons (pv 1) pa_nil))) pss_nil) (pss_one (ps_ret (pe_ck c_Ratio_2 hr (by decide) (by rfl) psE (pa_cons (pe_op op_modN (pe_op op_mulA (kfld (K := K) rfl (pv 2) rfl) (kfld (K := K) rfl (pv 3) rfl)) (pe_op op_mulA (kfld (K := K) rfl (pv 2) rfl) (kfld (K := K) rfl (pv 3) rfl))) (pa_cons (pe_op op_mulA (kfld (K := K) rfl (pv 2) rfl) (kfld (K := K) rfl (pv 3) rfl)) pa_nil))))))), ?_⟩
    wtm_at "of_rd"
    wtm_at "of_rz"
    wtm_at "of_rd"
    refine q_ratioOf hu hq ?_
    intro H1 p1 e1 h1
    wtm_at "of_rd"
    wtm_at "of_rz"
    wtm_at "of_rd"
    refine q_ratioOf (hv.ex e1) hr' ?_
    intro H2 p2 e2 h2
    wtm_at "of_rd"
    wtm_at "of_rz"
    wtm_at "of_rd"
    rcases h with ⟨rfl, hz⟩ | ⟨h0, k⟩
    · refine ite2 (fun _ => ?_) (fun z => absurd rfl z)
      wtm_at "of_rd"
      wtm_at "of_rz"
      wtm_at "of_rd"
      exact (hz.ex (e1.trans e2)).at
    · refine ite2 (fun z => absurd z (num_ne h0)) (fun _ => ?_)
      wtm_at "of_rd"
      wtm_at "of_rz"
      wtm_at "of_rd"
      refine r_I (Int.mul_ne_zero (den_ne q) (num_ne h0)) ?_
      wtm_at "of_rd"
      wtm_at "of_rz"
      wtm_at "of_rd"
      refine q_mk rfl (dd_ne q r) (dd_lt hq hr') ?_
      rw [rat_rem q r h0]; exact k.ex (e1.trans e2)
abbrev s_Ratio_floordiv : Stmt := (inClass (top 18) 21)
theorem sc_Ratio___floordiv__ : FnScope ["self", "other"] ["self", "other"] (defScope s_Ratio_floordiv) := ⟨rfl, rfl, rfl, by decide +kernel, rfl, by decide +kernel, by decide +kernel⟩
theorem ok_Ratio_floordiv {f : Addr} {fd : FuncData} (F : FunD K "__floordiv__" "Ratio.__floordiv__" (defArgs s_Ratio_floordiv) (defBody s_Ratio_floordiv) (defScope s_Ratio_floordiv) [] [] f fd) (TR : RT K mg C_Ratio) (c_is_number : Cl P w K mg base 2 "is_number" (spIsNum K C_Ratio)) (c_floor_quotient : Cl P w K mg base 7 "floor_quotient" (spFloQ K C_Ratio C_BadNumber)) : FnOk P w K mg base (L2.CX P w) 8 f fd ["self", "other"] (spRF C_Ratio C_BadNumber (fun q r => (q / r).floor)) := by
  refine F.ok (CX := L2.CX P w) sc_Ratio___floordiv__ (fun vs H Q E h => ?_) (fun cdv A outer s H vs Q E hr h => ?_)
  · obtain ⟨a, v, q, r, rfl, _⟩ := h; rfl
  · obtain ⟨a, v, q, r, rfl, ha, hv, hq, hr', h⟩ := h
    refine ⟨_, (pss_cons (ps_if (pt_not (pt_val (pe_cl c_is_number hr (by decide) (by rfl) psE (pa_cons (pv 1) pa_nil)))) (pss_one (ps_ret pe_ni)) pss_nil) (pss_one (ps_ret (pe_cl c_floor_quotient hr (by decide) (by rfl) psE (pa_cons (pv 0) (pa_cons (pv 1) pa_nil)))))), ?_⟩
    wtm_at "of_rd"
    refine q_isNum hv ?_
    wtm_at "of_rd"
    exact ⟨_, v, q, r, rfl, num_r ha, hv, hq, hr', h⟩
abbrev s_Ratio_rfloordiv : Stmt := (inClass (top 18) 22)
theorem sc_Ratio___rfloordiv__ : FnScope ["self", "other"] ["self", "other"] (defScope s_Ratio_rfloordiv) := ⟨rfl, rfl, rfl, by decide +kernel, rfl, by decide +kernel, by decide +kernel⟩
theorem ok_Ratio_rfloordiv {f : Addr} {fd : FuncData} (F : FunD K "__rfloordiv__" "Ratio.__rfloordiv__" (defArgs s_Ratio_rfloordiv) (defBody s_Ratio_rfloordiv) (defScope s_Ratio_rfloordiv) [] [] f fd) (TR : RT K mg C_Ratio) (c_is_number : Cl P w K mg base 2 "is_number" (spIsNum K C_Ratio)) (c_floor_quotient : Cl P w K mg base 7 "floor_quotient" (spFloQ K C_Ratio C_BadNumber)) : FnOk P w K mg base (L2.CX P w) 8 f fd ["self", "other"] (spRFI C_Ratio C_BadNumber (fun q r => (r / q).floor)) := by
  refine F.ok (CX := L2.CX P w) sc_Ratio___rfloordiv__ (fun vs H Q E h => ?_) (fun cdv A outer s H vs Q E hr h => ?_)
  · obtain ⟨a, q, n, rfl, _⟩ := h; rfl
  · obtain ⟨a, q, n, rfl, ha, hq, hn, h⟩ := h
    refine ⟨_, (pss_cons (ps_if (pt_not (pt_val (pe_cl c_is_number hr (by decide) (by rfl) psE (pa_cons (pv 1) pa_nil)))) (pss_one (ps_ret pe_ni)) pss_nil) (pss_one (ps_ret (pe_cl c_floor_quotient hr (by decide) (by rfl) psE (pa_cons (pv 1) (pa_cons (pv 0) pa_nil)))))), ?_⟩
    wtm_at "of_rd"
    refine q_isNum num_i ?_
    wtm_at "of_rd"
    exact ⟨_, _, (n : Rat), q, rfl, num_i, num_r ha, bq_i hn, hq, h⟩
end
end
section
open PySem PySem.Spec PyProof.Rows L2 He
section
variable {P : Program} {w : World} {K : PySem.W.Frag} {mg : Str → Option Value} {base : Heap} {C_Ratio C_BadNumber C_Point C_Form f_Ratio_eq f_Ratio_lt f_Ratio_le f_Ratio_gt f_Ratio_ge f_Ratio_bool f_Ratio_neg f_Ratio_abs f_Ratio_str f_Ratio_add f_Ratio_radd f_Ratio_sub f_Ratio_rsub f_Ratio_mul f_Ratio_rmul f_Ratio_floordiv f_Ratio_rfloordiv f_Ratio_mod f_Ratio_rmod f_Ratio_pow f_Ratio_over f_Ratio_floor f_Ratio_ceiling f_Ratio_whole f_Ratio_sign f_Point_mul f_Point_rmul f_Form_mul f_Form_rmul : Addr}
abbrev s_Ratio_mod : Stmt := (inClass (top 18) 23)
theorem sc_Ratio___mod__ : FnScope ["self", "other"] ["self", "other"] (defScope s_Ratio_mod) := ⟨rfl, rfl, rfl, by decide +kernel, rfl, by decide +kernel, by decide +kernel⟩
theorem ok_Ratio_mod {f : Addr} {fd : FuncData} (F : FunD K "__mod__" "Ratio.__mod__" (defArgs s_Ratio_mod) (defBody s_Ratio_mod) (defScope s_Ratio_mod) [] [] f fd) (TR : RT K mg C_Ratio) (c_is_number : Cl P w K mg base 2 "is_number" (spIsNum K C_Ratio)) (c_remainder_of : Cl P w K mg base 7 "remainder_of" (spRemQ K C_Ratio C_BadNumber)) : FnOk P w K mg base (L2.CX P w) 8 f fd ["self", "other"] (spRM C_Ratio C_BadNumber (fun q r => q - r * ((q / r).floor : Rat))) := by
  refine F.ok (CX := L2.CX P w) sc_Ratio___mod__ (fun vs H Q E h => ?_) (fun cdv A outer s H vs Q E hr h => ?_)
  · obtain ⟨a, v, q, r, rfl, _⟩ := h; rfl
  · obtain ⟨a, v, q, r, rfl, ha, hv, hq, hr', h⟩ := h
    refine ⟨_, (pss_cons (ps_if (pt_not (pt_val (pe_cl c_is_number hr (by decide) (by rfl) psE (pa_cons (pv 1) pa_nil)))) (pss_one (ps_ret pe_ni)) pss_nil) (pss_one (ps_ret (pe_cl c_remainder_of hr (by decide) (by rfl) psE (pa_cons (pv 0) (pa_cons (pv 1) pa_nil)))))), ?_⟩
    wtm_at "of_rd"
    refine q_isNum hv ?_
    wtm_at "of_rd"
    exact ⟨_, v, q, r, rfl, num_r ha, hv, hq, hr', h.imp id fun y => ⟨y.1, y.2.2.2⟩⟩
abbrev s_Ratio_rmod : Stmt := (inClass (top 18) 24)
theorem sc_Ratio___rmod__ : FnScope ["self", "other"] ["self", "other"] (defScope s_Ratio_rmod) := ⟨rfl, rfl, rfl, by decide +kernel, rfl, by decide +kernel, by decide +kernel⟩
theorem ok_Ratio_rmod {f : Addr} {fd : FuncData} (F : FunD K "__rmod__" "Ratio.__rmod__" (defArgs s_Ratio_rmod) (defBody s_Ratio_rmod) (defScope s_Ratio_rmod) [] [] f fd) (TR : RT K mg C_Ratio) (c_is_number : Cl P w K mg base 2 "is_number" (spIsNum K C_Ratio)) (c_remainder_of : Cl P w K mg base 7 "remainder_of" (spRemQ K C_Ratio C_BadNumber)) : FnOk P w K mg base (L2.CX P w) 8 f fd ["self", "other"] (spRMI C_Ratio C_BadNumber (fun q r => r - q * ((r / q).floor : Rat))) := by
  refine F.ok (CX := L2.CX P w) sc_Ratio___rmod__ (fun vs H Q E h => ?_) (fun cdv A outer s H vs Q E hr h => ?_)
  · obtain ⟨a, q, n, rfl, _⟩ := h; rfl
  · obtain ⟨a, q, n, rfl, ha, hq, hn, h⟩ := h
    refine ⟨_, (pss_cons (ps_if (pt_not (pt_val (pe_cl c_is_number hr (by decide) (by rfl) psE (pa_cons (pv 1) pa_nil)))) (pss_one (ps_ret pe_ni)) pss_nil) (pss_one (ps_ret (pe_cl c_remainder_of hr (by decide) (by rfl) psE (pa_cons (pv 1) (pa_cons (pv 0) pa_nil)))))), ?_⟩
    wtm_at "of_rd"
    refine q_isNum num_i ?_
    wtm_at "of_rd"
    exact ⟨_, _, (n : Rat), q, rfl, num_i, num_r ha, bq_i hn, hq, h.imp id fun y => ⟨y.1, y.2.2.2⟩⟩
abbrev s_Ratio_str : Stmt := (inClass (top 18) 6)
theorem sc_Ratio___str__ : FnScope ["self"] ["self"] (defScope s_Ratio_str) := ⟨rfl, rfl, rfl, by decide +kernel, rfl, by decide +kernel, by decide +kernel⟩
theorem ok_Ratio_str {f : Addr} {fd : FuncData} (F : FunD K "__str__" "Ratio.__str__" (defArgs s_Ratio_str) (defBody s_Ratio_str) (defScope s_Ratio_str) [] [] f fd) (TB : TBl mg) (TR : RT K mg C_Ratio) : FnOk P w K mg base (L2.CX P w) 1 f fd ["self"] (spRS C_Ratio) := by
  refine F.ok (CX := L2.CX P w) sc_Ratio___str__ (fun vs H Q E h => ?_) (fun cdv A outer s H vs Q E hr h => ?_)
  · obtain ⟨a, q, rfl, _⟩ := h; rfl
  · obtain ⟨a, q, rfl, ha, b1, b2, k⟩ := h
    refine ⟨_, (pss_cons (ps_if (pt_cmpR op_eq (kfld (K := K) rfl (pv 0) rfl) pe_int (nomark _)) (pss_one (ps_ret (pe_callTy call_str_int (by rfl) TB.b_str (by decide +kernel) (pa_cons (kfld (K := K) rfl (pv 0) rfl) pa_nil)))) pss_nil) (pss_one (ps_ret (pe_joined (PJ.cons (pe_fmt (kfld (K := K) rfl (pv 0) rfl)) (PJ.cons pe_str (PJ.cons (pe_fmt (kfld (K := K) rfl (pv 0) rfl)) PJ.nil))))))), ?_⟩
    have l1 := int_text_len_1921 b1
    have l2 := int_text_len_1921 (i := (q.den : Int)) b2
    unfold strQ at k
    wtm_at "of_rd"
    refine ite2 (fun h1 => ?_) (fun h1 => ?_)
    · wtm_at "of_rd"
      refine ⟨q.num, rfl, b1, ?_⟩
      rw [if_pos h1] at k; exact k
    · wtm_at "of_rd"
      rw [if_neg h1] at k
      unfold tJs tFmt
      wtm_at "of_rd"
      refine .inr ⟨q.num, rfl, b1, _, rfl, by rw [Str.length_append, sizeLine_eq]; have : (Str.empty : Str).length = 0 := rfl; omega, ?_⟩
      unfold tJs
      wtm_at "of_rd"
      refine ⟨_, rfl, by rw [Str.length_append, Str.length_append, sizeLine_eq]; have : (Str.empty : Str).length = 0 := rfl; have : ("/" : Str).length = 1 := rfl; omega, ?_⟩
      unfold tJs
      wtm_at "of_rd"
      refine .inr ⟨(q.den : Int), rfl, b2, _, rfl, by rw [Str.length_append, Str.length_append, Str.length_append, sizeLine_eq]; have : (Str.empty : Str).length = 0 := rfl; have : ("/" : Str).length = 1 := rfl; omega, ?_⟩
      unfold tJs
      exact k
abbrev s_power_of : Stmt := (top 16)
theorem sc_power_of : FnScope ["base", "number", "unit", "found", "factor", "left"] ["base", "number", "unit"] (defScope s_power_of) := ⟨rfl, rfl, rfl, by decide +kernel, rfl, by decide +kernel, by decide +kernel⟩
theorem ok_power_of {f : Addr} {fd : FuncData} (F : FunD K "power_of" "power_of" (defArgs s_power_of) (defBody s_power_of) (defScope s_power_of) [] [] f fd) (TR : RT K mg C_Ratio) : FnOk P w K mg base (L2.CX P w) 1 f fd ["base", "number", "unit"] (spPow) := by
  refine F.ok (CX := L2.CX P w) sc_power_of (fun vs H Q E h => ?_) (fun cdv A outer s H vs Q E hr h => ?_)
  · obtain ⟨x, n, rfl, _⟩ := h; rfl
  · obtain ⟨x, n, rfl, hx, hn, k⟩ := h
    refine ⟨_, (pss_cons (ps_set (i := 3) sc_power_of.nd rfl (Or.inl rfl) (pv 2)) (pss_cons (ps_set (i := 4) sc_power_of.nd rfl (Or.inl rfl) (pv 0)) (pss_cons (ps_set (i := 5) sc_power_of.nd rfl (Or.inl rfl) (pv 1)) (pss_cons (ps_while (passes_of rfl) (pt_cmpR op_gt (pv 5) pe_int (nomark _)) (pss_cons (ps_if (pt_tr (pe_op op_and (pv 5) pe_int) (ktru (K := K) rfl) (fun _ => rfl)) (pss_one (ps_set (i := 3) sc_power_of.nd rfl (Or.inl rfl) (pe_op op_mulA (pv 3) (pv 4)))) pss_nil) (pss_cons (ps_set (i := 5) sc_power_of.nd rfl (Or.inl rfl) (pe_op op_shr (pv 5) pe_int)) (pss_one (ps_if (pt_cmpR op_gt (pv 5) pe_int (nomark _)) (pss_one (ps_set (i := 4) sc_power_of.nd rfl (Or.inl rfl) (pe_op op_mulA (pv 4) (pv 4)))) pss_nil))))) (pss_one (ps_ret (pv 3))))))), ?_⟩
    wtm_at "of_rd"
    refine r_while (fun σ H' => ∃ i j l : Nat, σ = [some (.int x), some (.int n), some (.int 1), some (.int (x ^ i)), some (.int (x ^ j)), some (.int (l : Int))] ∧ H' = H ∧ i + j * l = n) (fun σ _ => absAt 5 σ) ⟨0, 1, n, by rw [Int.pow_zero, Int.pow_one]; rfl, rfl, by omega⟩ ?_
    rintro σ H1 ⟨i, j, l, rfl, rfl, e⟩
    wtm_at "of_rd"
    refine ite2 (fun h => ?_) (fun h => ?_)
    · have l0 : 0 < l := by omega
      have jn : j ≤ n := by have := Nat.mul_le_mul_left j l0; omega
      have Sz : ∀ m : Nat, m ≤ n → (x ^ m).natAbs < 2 ^ (4000 * 120 + 1) := fun m hm => pw_lt hx (by omega)
      have M : ∀ a b : Nat, a ≤ n → b ≤ n → CMulA (x ^ a) (x ^ b) := fun a b ha hb => cmA_w (Sz a ha) (Sz b hb) (by decide)
      have half : ((l : Int)) / 2 ^ (1 : Int).toNat = ((l / 2 : Nat) : Int) := by show (l : Int) / 2 ^ 1 = _; omega
      have lt : l / 2 < l := Nat.div_lt_self l0 (by decide)
      have hd : 2 * (l / 2) + l % 2 = l := Nat.div_add_mod l 2
      refine tn ?_
      wtm_at "of_rd"
      refine q_truI ?_
      rw [bitAnd_m1]
      by_cases hodd : l % 2 = 1
      · have ho : ¬ ((l : Int) % 2 = 0) := by omega
        rw [decide_eq_true (p := (l : Int) % 2 ≠ 0) ho]
        have ij : i + j ≤ n := by have : j * l ≥ j * 1 := Nat.mul_le_mul_left j l0; omega
        wtm_at "of_rd"
        refine r_I (M i j (by omega) jn) ?_
        rw [← Int.pow_add]
        wtm_at "of_rd"
        refine r_I (by decide) ?_
        rw [half]
        wtm_at "of_rd"
        refine ite2 (fun h2 => ?_) (fun h2 => ?_)
        · wtm_at "of_rd"
          refine r_I (M j j jn jn) ?_
          rw [← Int.pow_add]
          wtm_at "of_rd"
          refine ⟨⟨i + j, j + j, l / 2, rfl, rfl, ?_⟩, ?_⟩
          · have : (j + j) * (l / 2) = j * (2 * (l / 2)) := by rw [Nat.mul_comm 2, ← Nat.mul_assoc, Nat.add_mul, Nat.mul_two]
            have e3 : j * l = j * (2 * (l / 2)) + j := by conv => lhs; rw [← hd, hodd, Nat.mul_add, Nat.mul_one]
            omega
          · show ((l / 2 : Nat) : Int).natAbs < (l : Int).natAbs; omega
        · wtm_at "of_rd"
          have z : l / 2 = 0 := by omega
          refine ⟨⟨i + j, j, l / 2, rfl, rfl, ?_⟩, ?_⟩
          · have l1 : l = 1 := by omega
            rw [z]; subst l1; omega
          · show ((l / 2 : Nat) : Int).natAbs < (l : Int).natAbs; omega
      · have ho : (l : Int) % 2 = 0 := by omega
        rw [decide_eq_false (p := (l : Int) % 2 ≠ 0) (fun c => c ho)]
        wtm_at "of_rd"
        refine r_I (by decide) ?_
        rw [half]
        wtm_at "of_rd"
        refine ite2 (fun h2 => ?_) (fun h2 => ?_)
        · wtm_at "of_rd"
          refine r_I (M j j jn jn) ?_
          rw [← Int.pow_add]
          wtm_at "of_rd"
          refine ⟨⟨i, j + j, l / 2, rfl, rfl, ?_⟩, ?_⟩
          · have : (j + j) * (l / 2) = j * (2 * (l / 2)) := by rw [Nat.mul_comm 2, ← Nat.mul_assoc, Nat.add_mul, Nat.mul_two]
            have e3 : j * l = j * (2 * (l / 2)) := by conv => lhs; rw [← hd]; rw [show l % 2 = 0 from by omega, Nat.add_zero]
            omega
          · show ((l / 2 : Nat) : Int).natAbs < (l : Int).natAbs; omega
        · exfalso; omega
    · have z : l = 0 := by omega
      subst z
      wtm_at "of_rd"
      rw [show n = i from by omega] at k
      exact k
abbrev s_Ratio_pow : Stmt := (inClass (top 18) 25)
theorem sc_Ratio___pow__ : FnScope ["self", "other"] ["self", "other"] (defScope s_Ratio_pow) := ⟨rfl, rfl, rfl, by decide +kernel, rfl, by decide +kernel, by decide +kernel⟩
theorem ok_Ratio_pow {f : Addr} {fd : FuncData} (F : FunD K "__pow__" "Ratio.__pow__" (defArgs s_Ratio_pow) (defBody s_Ratio_pow) (defScope s_Ratio_pow) [] [] f fd) (TR : RT K mg C_Ratio) (c_is_int : Cl P w K mg base 1 "is_int" (spIsInt K)) (c_Ratio_2 : Ck P w K mg base 4 "Ratio" C_Ratio [] (spRInit K C_Ratio C_BadNumber)) (c_power_of : Cl P w K mg base 1 "power_of" (spPow)) : FnOk P w K mg base (L2.CX P w) 6 f fd ["self", "other"] (spRP C_Ratio) := by
  refine F.ok (CX := L2.CX P w) sc_Ratio___pow__ (fun vs H Q E h => ?_) (fun cdv A outer s H vs Q E hr h => ?_)
  · obtain ⟨a, q, n, rfl, _⟩ := h; rfl
  · obtain ⟨a, q, n, rfl, ha, hq, hn, hb, k⟩ := h
    refine ⟨_, (pss_cons (ps_if (pw_or (pt_not (pt_val (pe_cl c_is_int hr (by decide) (by rfl) psE (pa_cons (pv 1) pa_nil)))) (pw_or1 (pt_cmpR op_lt (pv 1) pe_int (nomark _)))).pt (pss_one (ps_ret pe_ni)) pss_nil) (pss_one (ps_ret (pe_ck c_Ratio_2 hr (by decide) (by rfl) psE (pa_cons (pe_cl c_power_of hr (by decide) (by rfl) psE (pa_cons (kfld (K := K) rfl (pv 0) rfl) (pa_cons (pv 1) (pa_cons pe_int pa_nil)))) (pa_cons (pe_cl c_power_of hr (by decide) (by rfl) psE (pa_cons (kfld (K := K) rfl (pv 0) rfl) (pa_cons (pv 1) (pa_cons pe_int pa_nil)))) pa_nil)))))), ?_⟩
    wtm_at "of_rd"
    refine q_isInt_i ?_
    wtm_at "of_rd"
    refine ite2 (fun h => ?_) (fun h => ?_)
    · exfalso; omega
    · wtm_at "of_rd"
      refine ⟨q.num, n, rfl, hq.1, hn, ?_⟩
      wtm_at "of_rd"
      refine ⟨(q.den : Int), n, rfl, hq.2, hn, ?_⟩
      wtm_at "of_rd"
      refine q_mk rfl (Int.pow_ne_zero (den_ne q)) hb ?_
      rw [rat_pow]; exact k
end
end
section
open PySem PySem.Spec PyProof.Rows L2 He
section
variable {P : Program} {w : World} {K : PySem.W.Frag} {mg : Str → Option Value} {base : Heap} {C_Ratio C_BadNumber C_Point C_Form f_Ratio_eq f_Ratio_lt f_Ratio_le f_Ratio_gt f_Ratio_ge f_Ratio_bool f_Ratio_neg f_Ratio_abs f_Ratio_str f_Ratio_add f_Ratio_radd f_Ratio_sub f_Ratio_rsub f_Ratio_mul f_Ratio_rmul f_Ratio_floordiv f_Ratio_rfloordiv f_Ratio_mod f_Ratio_rmod f_Ratio_pow f_Ratio_over f_Ratio_floor f_Ratio_ceiling f_Ratio_whole f_Ratio_sign f_Point_mul f_Point_rmul f_Form_mul f_Form_rmul : Addr}
abbrev s__law_begin : Stmt := (top 31)
theorem sc__law_begin : FnScope ["_law_script"] ["_law_script"] (defScope s__law_begin) := ⟨rfl, rfl, rfl, by decide +kernel, rfl, by decide +kernel, by decide +kernel⟩
theorem ok__law_begin {f : Addr} {fd : FuncData} (F : FunD K "_law_begin" "_law_begin" (defArgs s__law_begin) (defBody s__law_begin) (defScope s__law_begin) [] [] f fd) (TB : TBl mg) (TR : RT K mg C_Ratio) : FnOk P w K mg base (L2.CX P w) 1 f fd ["_law_script"] (spBegin K) := by
  refine F.ok (CX := L2.CX P w) sc__law_begin (fun vs H Q E h => ?_) (fun cdv A outer s H vs Q E hr h => ?_)
  · obtain ⟨a, ns, rfl, _⟩ := h; rfl
  · obtain ⟨a, ns, rfl, ha, hn, k⟩ := h
    refine ⟨_, (pss_one (ps_ret (pe_disp (pps_cons pe_str (pe_op op_cat (pe_callTy (kc_listof (K := K) rfl) (by rfl) TB.b_list (by decide +kernel) (pa_cons (pe_slice (ksl_l (K := K) rfl) (pv 0) po_none (po_some pe_int)) pa_nil)) (pe_op op_rep (pe_lst (pa_cons pe_int pa_nil)) (pe_callTy kc_int1 (by rfl) TB.b_int (by decide +kernel) (pa_cons (pe_cmpR op_eq (pe_callB (kc_len (K := K) rfl) (by rfl) TB.b_len PySem.boot_len (pa_cons (pv 0) pa_nil)) pe_int (nomark _)) pa_nil)))) (pps_cons pe_str pe_int (pps_cons pe_str pe_int pps_nil))) (by rfl) (by rfl) (fun z => by cases z) (by decide)))), ?_⟩
    have hl : (ns.map V.int).length = ns.length := List.length_map _
    wtm_at "of_rd"
    refine r_disp ?_
    intro p H1 e1 n1 h1
    refine r_pairs ?_
    wtm_at "of_rd"
    refine r_slS (by with_unfolding_all rfl) (e1.seq ha) ?_
    intro p2 H2 e2 n2 h2
    have cu : cutV (ns.map V.int) none (some (63 : Int)) = ns.map V.int := cutV_upto (n := 63) (by rw [hl]; exact hn)
    rw [cu] at h2
    wtm_at "of_rd"
    refine q_listL h2 ?_
    intro p3 H3 e3 n3 h3
    wtm_at "of_rd"
    refine r_laidL (by show 1 ≤ 1000; decide) ?_
    intro p4 H4 e4 n4 h4
    wtm_at "of_rd"
    refine q_lenS (by with_unfolding_all rfl) ((((e1.trans e2).trans e3).trans e4).seq ha) ?_
    wtm_at "of_rd"
    refine r_rep h4 (by split <;> decide) (by split <;> decide) (by show 1 ≤ 1000; decide) ?_
    intro p5 H5 e5 n5 h5
    obtain ⟨ms, hm, hm1, hm2⟩ : ∃ ms : List Int, (List.replicate (if decide ((((ns.map V.int).length : Nat) : Int) = 0) = true then (1 : Int) else 0).toNat [V.int 0]).flatten = ms.map V.int ∧ 0 < ns.length + ms.length ∧ ns.length + ms.length ≤ 63 := by
      by_cases hz : ns = []
      · subst hz; exact ⟨[0], rfl, by decide, by decide⟩
      · have h0 : 0 < ns.length := List.length_pos_iff.mpr hz
        refine ⟨[], ?_, by simpa using h0, by simpa using hn⟩
        rw [decide_eq_false (by rw [hl]; omega)]; rfl
    rw [hm] at h5
    refine r_cat ((e4.trans e5) _ _ h3) h5 (by rw [hl, List.length_map]; omega) ?_
    intro p6 H6 e6 n6 h6
    have hp5 := (((e2.trans e3).trans e4).trans e5) _ _ h1
    have np : p6 ≠ p := fun z => by subst z; rw [hp5] at n6; cases n6
    refine r_pairs ?_
    wtm_at "of_rd"
    refine r_pairs ?_
    wtm_at "of_rd"
    refine r_pairs0 ?_
    refine disp_end (kvs := tpK p6 0 0) (e6 _ _ hp5) (by show 3 ≤ 15; decide) tp_new ?_ rfl
    exact k _ p p6 ((((((e1.trans e2).trans e3).trans e4).trans e5).trans e6).put n1) n1 (none_of ((((e1.trans e2).trans e3).trans e4).trans e5) n6) ⟨0, 0, ns ++ ms, upd_same, by rw [upd_ne np, h6, List.map_append], by rw [List.length_append]; exact hm1, by rw [List.length_append]; exact hm2, Int.le_refl _, Int.le_refl _⟩
abbrev s__law_draw : Stmt := (top 32)
theorem sc__law_draw : FnScope ["_law_tape", "_law_limit", "_law_mixed", "_law_found", "_law_at_here", "_law_span", "_law_cell"] ["_law_tape", "_law_limit"] (defScope s__law_draw) := ⟨rfl, rfl, rfl, by decide +kernel, rfl, by decide +kernel, by decide +kernel⟩
theorem ok__law_draw {f : Addr} {fd : FuncData} (F : FunD K "_law_draw" "_law_draw" (defArgs s__law_draw) (defBody s__law_draw) (defScope s__law_draw) [] [] f fd) (TB : TBl mg) (TR : RT K mg C_Ratio) : FnOk P w K mg base (L2.CX P w) 1 f fd ["_law_tape", "_law_limit"] (spDraw) := by
  refine F.ok (CX := L2.CX P w) sc__law_draw (fun vs H Q E h => ?_) (fun cdv A outer s H vs Q E hr h => ?_)
  · obtain ⟨p, m, n, rfl, _⟩ := h; rfl
  · obtain ⟨p, m, n, rfl, c, ⟨a, r, ns, h1, h2, h3, h4, h5, h6⟩, hn, hm, hm4, k⟩ := h
    refine ⟨_, (pss_cons (ps_if (pt_cmpR op_lt (pe_dget (hu_of hr) (pv 0) pe_str (fun _ _ => rfl)) (pv 1) (nomark _)) (pss_cons (ps_par (i := 4) (j := 5) rfl sc__law_draw.nd rfl rfl (by decide) rfl rfl (pa_cons (pe_dget (hu_of hr) (pv 0) pe_str (fun _ _ => rfl)) (pa_cons (pe_callB (kc_len (K := K) rfl) (by rfl) TB.b_len PySem.boot_len (pa_cons (pe_dget (hu_of hr) (pv 0) pe_str (fun _ _ => rfl)) pa_nil)) pa_nil)) (by rfl)) (pss_cons (ps_asg (pe_tup (pa_cons (pe_ix (kix_l (K := K) rfl) (pe_dget (hu_of hr) (pv 0) pe_str (fun _ _ => rfl)) (pe_op op_mod (pe_callTy kc_int1 (by rfl) TB.b_int (by decide +kernel) (pa_cons (pv 4) pa_nil)) (pv 5)) (fun _ _ => rfl)) (pa_cons (pe_op op_add (pv 4) pe_int) pa_nil))) (kpg_tup (K := K) 2 rfl rfl (pgs_cons (pg_name (i := 6) sc__law_draw.nd rfl (Or.inl rfl)) (pgs_cons (pg_sub (pv 0) pe_str (set_dict (hu_of hr))) pgs_nil)))) (pss_cons (ps_set (i := 2) sc__law_draw.nd rfl (Or.inl rfl) (pe_op op_add (pe_op op_add (pe_op op_mulA (pe_callTy kc_int1 (by rfl) TB.b_int (by decide +kernel) (pa_cons (pv 6) pa_nil)) pe_int) (pe_op op_mulA (pe_op op_mulA pe_int (pv 4)) (pv 4))) pe_int)) (pss_cons (ps_set (i := 2) sc__law_draw.nd rfl (Or.inl rfl) (pe_op op_mod (pe_callTy kc_int1 (by rfl) TB.b_int (by decide +kernel) (pa_cons (pv 2) pa_nil)) pe_int)) (pss_cons (ps_dput (hu_of hr) (pv 0) pe_str (pe_op op_mod (pe_callTy kc_int1 (by rfl) TB.b_int (by decide +kernel) (pa_cons (pe_op op_add (pe_op op_pow (pv 2) pe_int) (pe_op op_mulA (pe_op op_mulA (pe_op op_mulA pe_int (pv 4)) (pv 2)) (pv 2))) pa_nil)) (pe_op op_add (pe_op op_pow pe_int pe_int) pe_int)) rfl) (pss_one (ps_if (pw_and (pt_cmpR op_ge (pv 6) (pe_op op_pow pe_int pe_int) (nomark _)) (pw_and1 (pt_cmpR op_lt (pv 4) (pv 5) (nomark _)))).pt (pss_one (ps_dput (hu_of hr) (pv 0) pe_str (pe_op op_sub (pv 6) (pe_op op_pow pe_int pe_int)) rfl)) pss_nil))))))) pss_nil) (pss_cons (ps_asg (pe_tup (pa_cons (pe_op op_mod (pe_callTy kc_int1 (by rfl) TB.b_int (by decide +kernel) (pa_cons (pe_dget (hu_of hr) (pv 0) pe_str (fun _ _ => rfl)) pa_nil)) (pv 1)) (pa_cons (pe_op op_fdivW (pe_dget (hu_of hr) (pv 0) pe_str (fun _ _ => rfl)) (pv 1)) pa_nil))) (kpg_tup (K := K) 2 rfl rfl (pgs_cons (pg_name (i := 3) sc__law_draw.nd rfl (Or.inl rfl)) (pgs_cons (pg_sub (pv 0) pe_str (set_dict (hu_of hr))) pgs_nil)))) (pss_one (ps_ret (pv 3))))), ?_⟩
    wtm_at "of_rd"
    refine dAt h1 tp_rest ?_
    wtm_at "of_rd"
    have hc : c ≠ p := ne_of h2 h1 (by intro z; cases z)
    refine ite2 (fun hlt => ?_) (fun hge => ?_)
    · wtm_at "of_rd"
      refine dAt h1 tp_at ?_
      wtm_at "of_rd"
      refine dAt h1 tp_cells ?_
      wtm_at "of_rd"
      refine q_lenL h2 ?_
      wtm_at "of_rd"
      refine dAt h1 tp_cells ?_
      wtm_at "of_rd"
      refine r_I (by rw [List.length_map]; omega) ?_
      obtain ⟨z, hz⟩ := at_mod (a := a) h3
      refine r_iL1 h2 hz ?_
      wtm_at "of_rd"
      refine r_laidT (by show 2 ≤ 1000; decide) ?_
      intro t H1 e1 n1 g1
      have h1' := e1 _ _ h1
      refine r_gTup g1 rfl ?_
      wtm_at "of_rd"
      refine dPut h1' (by show 3 ≤ 1000; decide) tp_putAt ?_
      have L1 : Le H (upd H1 p (.dK (tpK c (a + 1) r))) := e1.le.trans (Le.dict h1')
      have g2 := L1.lst h2
      have a64 : a.natAbs < 2 ^ 64 := by
        have e : (2 : Nat) ^ 64 = 18446744073709551616 := by decide
        omega
      wtm_at "of_rd"
      refine r_I (cmA_r a64) ?_
      wtm_at "of_rd"
      refine r_I (by decide) ?_
      generalize hM : (_ % (2305843009213693907 : Int)) = M
      have M0 : 0 ≤ M := by rw [← hM]; exact Int.emod_nonneg _ (by decide)
      have M1 : M < 2305843009213693907 := by rw [← hM]; exact Int.emod_lt_of_pos _ (by decide)
      have M2 : M.natAbs < 2 ^ 64 := by
        have e : (2 : Nat) ^ 64 = 18446744073709551616 := by decide
        omega
      wtm_at "of_rd"
      refine r_I ⟨by decide, by decide, M2⟩ ?_
      wtm_at "of_rd"
      refine r_I (cmA_r M2) ?_
      wtm_at "of_rd"
      refine r_I (cmA_r M2) ?_
      wtm_at "of_rd"
      refine r_I ⟨by decide, by decide, by decide⟩ ?_
      wtm_at "of_rd"
      refine r_I (by decide) ?_
      generalize (_ % ((10 : Int) ^ (47 : Int).toNat + 9)) = R0
      wtm_at "of_rd"
      refine dPut upd_same (by show 3 ≤ 1000; decide) tp_putRest ?_
      have L2 := L1.trans (Le.dict (o := .dK (tpK c (a + 1) R0)) upd_same)
      wtm_at "of_rd"
      refine r_I ⟨by decide, by decide, by decide⟩ ?_
      wtm_at "of_rd"
      refine ite2 (fun hz => ?_) (fun hz => ?_)
      · wtm_at "of_rd"
        refine ite2 (fun hs => ?_) (fun hs => ?_)
        · wtm_at "of_rd"
          refine r_I ⟨by decide, by decide, by decide⟩ ?_
          wtm_at "of_rd"
          refine dPut upd_same (by show 3 ≤ 1000; decide) tp_putRest ?_
          have L3 := L2.trans (Le.dict (o := .dK (tpK c (a + 1) (z - 10 ^ (18 : Int).toNat))) upd_same)
          wtm_at "of_rd"
          refine dAt upd_same tp_rest ?_
          wtm_at "of_rd"
          refine r_I hm ?_
          wtm_at "of_rd"
          refine dAt upd_same tp_rest ?_
          wtm_at "of_rd"
          refine r_I ⟨hm, PySem.Flt.log2_lt_of (by decide) (pow_mono hm4 (by decide))⟩ ?_
          wtm_at "of_rd"
          refine r_laidT (by show 2 ≤ 1000; decide) ?_
          intro t2 H2 e2 n2 g3
          refine r_gTup g3 rfl ?_
          wtm_at "of_rd"
          refine dPut (e2 _ _ upd_same) (by show 3 ≤ 1000; decide) tp_putRest ?_
          have L9 : ∀ o, Le H (upd H2 p o) := fun o => (L3.trans e2.le).trans (Le.dict (e2 _ _ upd_same))
          wtm_at "of_rd"
          exact k _ _ (L9 _) ⟨a + 1, _, ns, upd_same, (L9 _).lst h2, h3, h4, by omega, by omega⟩ (Int.emod_nonneg _ (by omega)) (Int.emod_lt_of_pos _ hm)
        · wtm_at "of_rd"
          refine dAt upd_same tp_rest ?_
          wtm_at "of_rd"
          refine r_I hm ?_
          wtm_at "of_rd"
          refine dAt upd_same tp_rest ?_
          wtm_at "of_rd"
          refine r_I ⟨hm, PySem.Flt.log2_lt_of (by decide) (pow_mono hm4 (by decide))⟩ ?_
          wtm_at "of_rd"
          refine r_laidT (by show 2 ≤ 1000; decide) ?_
          intro t2 H2 e2 n2 g3
          refine r_gTup g3 rfl ?_
          wtm_at "of_rd"
          refine dPut (e2 _ _ upd_same) (by show 3 ≤ 1000; decide) tp_putRest ?_
          have L9 : ∀ o, Le H (upd H2 p o) := fun o => (L2.trans e2.le).trans (Le.dict (e2 _ _ upd_same))
          wtm_at "of_rd"
          exact k _ _ (L9 _) ⟨a + 1, _, ns, upd_same, (L9 _).lst h2, h3, h4, by omega, by omega⟩ (Int.emod_nonneg _ (by omega)) (Int.emod_lt_of_pos _ hm)
      · wtm_at "of_rd"
        refine dAt upd_same tp_rest ?_
        wtm_at "of_rd"
        refine r_I hm ?_
        wtm_at "of_rd"
        refine dAt upd_same tp_rest ?_
        wtm_at "of_rd"
        refine r_I ⟨hm, PySem.Flt.log2_lt_of (by decide) (pow_mono hm4 (by decide))⟩ ?_
        wtm_at "of_rd"
        refine r_laidT (by show 2 ≤ 1000; decide) ?_
        intro t2 H2 e2 n2 g3
        refine r_gTup g3 rfl ?_
        wtm_at "of_rd"
        refine dPut (e2 _ _ upd_same) (by show 3 ≤ 1000; decide) tp_putRest ?_
        have L9 : ∀ o, Le H (upd H2 p o) := fun o => (L2.trans e2.le).trans (Le.dict (e2 _ _ upd_same))
        wtm_at "of_rd"
        exact k _ _ (L9 _) ⟨a + 1, _, ns, upd_same, (L9 _).lst h2, h3, h4, by omega, by omega⟩ (Int.emod_nonneg _ (by omega)) (Int.emod_lt_of_pos _ hm)
    · wtm_at "of_rd"
      refine dAt h1 tp_rest ?_
      wtm_at "of_rd"
      refine r_I hm ?_
      wtm_at "of_rd"
      refine dAt h1 tp_rest ?_
      wtm_at "of_rd"
      refine r_I ⟨hm, PySem.Flt.log2_lt_of (by decide) (pow_mono hm4 (by decide))⟩ ?_
      wtm_at "of_rd"
      refine r_laidT (by show 2 ≤ 1000; decide) ?_
      intro t H1 e1 n1 g1
      have h1' := e1 _ _ h1
      refine r_gTup g1 rfl ?_
      wtm_at "of_rd"
      refine dPut h1' (by show 3 ≤ 1000; decide) tp_putRest ?_
      have L1 : Le H (upd H1 p (.dK (tpK c a (r / m)))) := e1.le.trans (Le.dict h1')
      wtm_at "of_rd"
      exact k _ _ L1 ⟨a, _, ns, upd_same, L1.lst h2, h3, h4, h5, by omega⟩ (Int.emod_nonneg _ (by omega)) (Int.emod_lt_of_pos _ hm)
abbrev s__law_pick : Stmt := (top 33)
theorem sc__law_pick : FnScope ["_law_tape", "_law_some"] ["_law_tape", "_law_some"] (defScope s__law_pick) := ⟨rfl, rfl, rfl, by decide +kernel, rfl, by decide +kernel, by decide +kernel⟩
theorem ok__law_pick {f : Addr} {fd : FuncData} (F : FunD K "_law_pick" "_law_pick" (defArgs s__law_pick) (defBody s__law_pick) (defScope s__law_pick) [] [] f fd) (TB : TBl mg) (TR : RT K mg C_Ratio) (c__law_draw : Cl P w K mg base 1 "_law_draw" (spDraw)) : FnOk P w K mg base (L2.CX P w) 2 f fd ["_law_tape", "_law_some"] (spPick) := by
  refine F.ok (CX := L2.CX P w) sc__law_pick (fun vs H Q E h => ?_) (fun cdv A outer s H vs Q E hr h => ?_)
  · obtain ⟨p, k, xs, n, rfl, _⟩ := h; rfl
  · obtain ⟨p, k, xs, n, rfl, c, hT, hn, hk, h0, h1, kont⟩ := h
    refine ⟨_, (pss_one (ps_ret (pe_ix (kix_l (K := K) rfl) (pv 1) (pe_cl c__law_draw hr (by decide) (by rfl) psE (pa_cons (pv 0) (pa_cons (pe_callB (kc_len (K := K) rfl) (by rfl) TB.b_len PySem.boot_len (pa_cons (pv 1) pa_nil)) pa_nil))) (fun _ _ => rfl)))), ?_⟩
    wtm_at "of_rd"
    refine q_lenL hk ?_
    wtm_at "of_rd"
    refine ⟨p, _, n, rfl, _, hT, hn, by omega, ?_, ?_⟩
    · rw [Int.natAbs_natCast]
      exact pow_mono (n := 30) (Nat.lt_of_le_of_lt h1 (by decide)) (by decide)
    intro H1 d L1 T1 d0 d1
    obtain ⟨j, rfl⟩ : ∃ j : Nat, d = j := ⟨d.toNat, by omega⟩
    have hj : j < xs.length := by omega
    refine r_iL1 (L1.lst hk) (atI_nat (List.getElem?_eq_getElem hj)) ?_
    exact kont H1 j _ L1 T1 (List.getElem?_eq_getElem hj)
abbrev s__law_ten : Stmt := (top 34)
theorem sc__law_ten : FnScope ["_law_figures"] ["_law_figures"] (defScope s__law_ten) := ⟨rfl, rfl, rfl, by decide +kernel, rfl, by decide +kernel, by decide +kernel⟩
theorem ok__law_ten {f : Addr} {fd : FuncData} (F : FunD K "_law_ten" "_law_ten" (defArgs s__law_ten) (defBody s__law_ten) (defScope s__law_ten) [] [] f fd) (TB : TBl mg) (TR : RT K mg C_Ratio) : FnOk P w K mg base (L2.CX P w) 1 f fd ["_law_figures"] (spTen) := by
  refine F.ok (CX := L2.CX P w) sc__law_ten (fun vs H Q E h => ?_) (fun cdv A outer s H vs Q E hr h => ?_)
  · obtain ⟨f, rfl, _⟩ := h; rfl
  · obtain ⟨f, rfl, hf, k⟩ := h
    refine ⟨_, (pss_one (ps_ret (pe_callTy kc_intS (by rfl) TB.b_int (by decide +kernel) (pa_cons (pe_op kop_addS pe_str (pe_op op_mul_str pe_str (pv 0))) pa_nil)))), ?_⟩
    wtm_at "of_rd"
    refine ⟨_, f, rfl, rfl, by omega, by decide +kernel, ?_⟩
    refine q_addS (by rw [reps_len, show ("1" : Str).length = 1 from by decide +kernel, sizeLine_eq]; omega) ?_
    wtm_at "of_rd"
    exact q_intS (ten_ok hf).1 (ten_ok hf).2 k
abbrev s__law_long : Stmt := (top 35)
theorem sc__law_long : FnScope ["_law_tape", "_law_figures", "_law_found", "_law_k"] ["_law_tape", "_law_figures"] (defScope s__law_long) := ⟨rfl, rfl, rfl, by decide +kernel, rfl, by decide +kernel, by decide +kernel⟩
theorem ok__law_long {f : Addr} {fd : FuncData} (F : FunD K "_law_long" "_law_long" (defArgs s__law_long) (defBody s__law_long) (defScope s__law_long) [] [] f fd) (TB : TBl mg) (TR : RT K mg C_Ratio) (c__law_draw : Cl P w K mg base 1 "_law_draw" (spDraw)) (c__law_ten : Cl P w K mg base 1 "_law_ten" (spTen)) : FnOk P w K mg base (L2.CX P w) 2 f fd ["_law_tape", "_law_figures"] (spNum 40 0 false) := by
  refine F.ok (CX := L2.CX P w) sc__law_long (fun vs H Q E h => ?_) (fun cdv A outer s H vs Q E hr h => ?_)
  · obtain ⟨p, f, n, rfl, _⟩ := h; rfl
  · obtain ⟨p, f, n, rfl, c, hT, hn, hlo, hf, k⟩ := h
    refine ⟨_, (pss_cons (ps_set (i := 2) sc__law_long.nd rfl (Or.inl rfl) pe_int) (pss_cons (ps_for (passes_of rfl) rfl (pi_range1 (by rfl) TB.b_range (pa_cons (pe_op op_fdivW (pe_op op_add (pv 1) pe_int) pe_int) pa_nil)) (pg_name (i := 3) sc__law_long.nd rfl (Or.inl rfl)) (pss_one (ps_set (i := 2) sc__law_long.nd rfl (Or.inl rfl) (pe_op op_add (pe_op op_mulA (pv 2) (pe_op op_pow pe_int pe_int)) (pe_cl c__law_draw hr (by decide) (by rfl) psE (pa_cons (pv 0) (pa_cons (pe_op op_pow pe_int pe_int) pa_nil))))))) (pss_one (ps_ret (pe_op op_mod (pe_callTy kc_int1 (by rfl) TB.b_int (by decide +kernel) (pa_cons (pv 2) pa_nil)) (pe_cl c__law_ten hr (by decide) (by rfl) psE (pa_cons (pv 1) pa_nil))))))), ?_⟩
    wtm_at "of_rd"
    refine r_I ⟨by decide, by decide⟩ ?_
    wtm_at "of_rd"
    refine i_R (n := (f + 14) / 15) (by omega) (by omega) ?_
    refine fR' (fun i σ H' => ∃ (x : Int) (v : Option V), σ = [some (.ref p), some (.int f), some (.int x), v] ∧ Le H H' ∧ Tape H' p c (n + i)) ⟨0, none, rfl, Le.refl H, hT⟩ ?_ ?_
    · rintro i σ H1 hi ⟨x, v, rfl, L1, T1⟩
      wtm_at "of_rd"
      refine r_I ⟨by decide, by decide, by decide⟩ ?_
      wtm_at "of_rd"
      refine r_I ⟨by decide, by decide, by decide⟩ ?_
      wtm_at "of_rd"
      refine ⟨p, _, n + i, rfl, _, T1, by omega, by decide, pow_mono (n := 64) (by decide) (by decide), ?_⟩
      intro H2 d L2 T2 d0 d1
      wtm_at "of_rd"
      exact ⟨_, _, rfl, L1.trans L2, T2⟩
    · rintro σ H1 ⟨x, v, rfl, L1, T1⟩
      wtm_at "of_rd"
      refine ⟨f, rfl, by omega, ?_⟩
      have hp : (0 : Int) < ((10 ^ f : Nat) : Int) := by
        have := Nat.pow_pos (n := f) (show 0 < 10 by decide)
        omega
      refine r_I hp ?_
      have m0 := Int.emod_nonneg x (show ((10 ^ f : Nat) : Int) ≠ 0 by omega)
      have m1 := Int.emod_lt_of_pos x hp
      exact k H1 _ L1 (T1.mono (by omega)) (fun _ => m0) (by omega)
abbrev s__law_size : Stmt := (top 36)
theorem sc__law_size : FnScope ["_law_tape", "_law_figures", "_law_sort"] ["_law_tape", "_law_figures"] (defScope s__law_size) := ⟨rfl, rfl, rfl, by decide +kernel, rfl, by decide +kernel, by decide +kernel⟩
theorem ok__law_size {f : Addr} {fd : FuncData} (F : FunD K "_law_size" "_law_size" (defArgs s__law_size) (defBody s__law_size) (defScope s__law_size) [] [] f fd) (TB : TBl mg) (TR : RT K mg C_Ratio) (c__law_draw : Cl P w K mg base 1 "_law_draw" (spDraw)) (c__law_ten : Cl P w K mg base 1 "_law_ten" (spTen)) (c__law_long : Cl P w K mg base 2 "_law_long" (spNum 40 0 false)) : FnOk P w K mg base (L2.CX P w) 3 f fd ["_law_tape", "_law_figures"] (spNum 50 2 false) := by
  refine F.ok (CX := L2.CX P w) sc__law_size (fun vs H Q E h => ?_) (fun cdv A outer s H vs Q E hr h => ?_)
  · obtain ⟨p, f, n, rfl, _⟩ := h; rfl
  · obtain ⟨p, f, n, rfl, c, hT, hn, hlo, hf, k⟩ := h
    refine ⟨_, (pss_cons (ps_set (i := 2) sc__law_size.nd rfl (Or.inl rfl) (pe_cl c__law_draw hr (by decide) (by rfl) psE (pa_cons (pv 0) (pa_cons pe_int pa_nil)))) (pss_cons (ps_if (pt_cmpR op_lt (pv 2) pe_int (nomark _)) (pss_one (ps_ret (pe_cl c__law_draw hr (by decide) (by rfl) psE (pa_cons (pv 0) (pa_cons (pe_ix (kix_l (K := K) rfl) (pe_lst (pa_cons pe_int (pa_cons pe_int (pa_cons pe_int pa_nil)))) (pv 2) (fun _ _ => rfl)) pa_nil))))) pss_nil) (pss_cons (ps_if (pt_cmpR op_eq (pv 2) pe_int (nomark _)) (pss_one (ps_ret (pe_cl c__law_long hr (by decide) (by rfl) psE (pa_cons (pv 0) (pa_cons (pe_op op_add pe_int (pe_cl c__law_draw hr (by decide) (by rfl) psE (pa_cons (pv 0) (pa_cons (pv 1) pa_nil)))) pa_nil))))) pss_nil) (pss_cons (ps_if (pt_cmpR op_eq (pv 2) pe_int (nomark _)) (pss_one (ps_ret (pe_cl c__law_long hr (by decide) (by rfl) psE (pa_cons (pv 0) (pa_cons (pv 1) pa_nil))))) pss_nil) (pss_one (ps_ret (pe_callB (kc_max rfl) (by rfl) TB.b_max (by decide +kernel) (pa_cons pe_int (pa_cons (pe_op op_sub (pe_op op_sub (pe_cl c__law_ten hr (by decide) (by rfl) psE (pa_cons (pe_op op_add pe_int (pe_cl c__law_draw hr (by decide) (by rfl) psE (pa_cons (pv 0) (pa_cons (pv 1) pa_nil)))) pa_nil)) (pe_cl c__law_draw hr (by decide) (by rfl) psE (pa_cons (pv 0) (pa_cons pe_int pa_nil)))) pe_int) pa_nil))))))))), ?_⟩
    have p90 : 90 < 10 ^ f := Nat.lt_of_lt_of_le (by decide : 90 < 10 ^ 2) (Nat.pow_le_pow_right (by decide) hlo)
    have sm : ∀ m : Int, m.natAbs < 2 ^ 64 → m.natAbs < 2 ^ 4000 := fun m h => pow_mono h (by decide)
    have e64 : (2 : Nat) ^ 64 = 18446744073709551616 := by decide
    wtm_at "of_rd"
    refine ⟨p, 6, n, rfl, _, hT, by omega, by decide, sm _ (by decide), ?_⟩
    intro H1 d L1 T1 d0 d1
    wtm_at "of_rd"
    refine ite2 (fun h3 => ?_) (fun h3 => ?_)
    · wtm_at "of_rd"
      refine r_laidL (by show 3 ≤ 1000; decide) ?_
      intro l H2 e2 n2 h2
      wtm_at "of_rd"
      obtain ⟨j, rfl⟩ : ∃ j : Nat, d = j := ⟨d.toNat, by omega⟩
      obtain ⟨z, hz, z0, z1⟩ : ∃ z : Int, ([V.int 5, V.int 13, V.int 90])[j]? = some (V.int z) ∧ 0 < z ∧ z ≤ 90 := by
        match j, h3 with
        | 0, _ => exact ⟨5, rfl, by decide, by decide⟩
        | 1, _ => exact ⟨13, rfl, by decide, by decide⟩
        | 2, _ => exact ⟨90, rfl, by decide, by decide⟩
        | j + 3, h => omega
      refine r_iL1 h2 (atI_nat hz) ?_
      wtm_at "of_rd"
      refine ⟨p, z, n + 1, rfl, _, T1.ex e2, by omega, z0, sm _ (by omega), ?_⟩
      intro H3 d' L3 T3 c0 c1
      exact k H3 d' ((L1.trans e2.le).trans L3) (T3.mono (by omega)) (fun _ => c0) (by omega)
    · wtm_at "of_rd"
      refine ite2 (fun h4 => ?_) (fun h4 => ?_)
      · wtm_at "of_rd"
        refine ⟨p, f, n + 1, rfl, _, T1, by omega, by omega, sm _ (by omega), ?_⟩
        intro H2 d2 L2 T2 c0 c1
        wtm_at "of_rd"
        obtain ⟨j, rfl⟩ : ∃ j : Nat, d2 = j := ⟨d2.toNat, by omega⟩
        refine ⟨p, 1 + j, n + 2, by rw [show (1 : Int) + (j : Int) = ((1 + j : Nat) : Int) from by omega], _, T2, by omega, by omega, by omega, ?_⟩
        intro H3 d3 L3 T3 b0 b1
        exact k H3 d3 ((L1.trans L2).trans L3) (T3.mono (by omega)) b0 (Nat.lt_of_lt_of_le b1 (Nat.pow_le_pow_right (by decide) (by omega)))
      · wtm_at "of_rd"
        refine ite2 (fun h5 => ?_) (fun h5 => ?_)
        · wtm_at "of_rd"
          refine ⟨p, f, n + 1, rfl, _, T1, by omega, by omega, hf, ?_⟩
          intro H3 d3 L3 T3 b0 b1
          exact k H3 d3 (L1.trans L3) (T3.mono (by omega)) b0 b1
        · wtm_at "of_rd"
          refine ⟨p, f, n + 1, rfl, _, T1, by omega, by omega, sm _ (by omega), ?_⟩
          intro H2 d2 L2 T2 c0 c1
          wtm_at "of_rd"
          obtain ⟨j, rfl⟩ : ∃ j : Nat, d2 = j := ⟨d2.toNat, by omega⟩
          refine ⟨1 + j, by rw [show (1 : Int) + (j : Int) = ((1 + j : Nat) : Int) from by omega], by omega, ?_⟩
          wtm_at "of_rd"
          refine ⟨p, 4, n + 2, rfl, _, T2, by omega, by decide, sm _ (by decide), ?_⟩
          intro H3 d3 L3 T3 b0 b1
          wtm_at "of_rd"
          refine q_max ?_
          have pj : 10 ^ (1 + j) ≤ 10 ^ f := Nat.pow_le_pow_right (by decide) (by omega)
          have pp : 0 < 10 ^ (1 + j) := Nat.pow_pos (by decide)
          exact k H3 _ ((L1.trans L2).trans L3) (T3.mono (by omega)) (fun _ => by omega) (by omega)
abbrev s__law_number : Stmt := (top 37)
theorem sc__law_number : FnScope ["_law_tape", "_law_figures", "_law_found"] ["_law_tape", "_law_figures"] (defScope s__law_number) := ⟨rfl, rfl, rfl, by decide +kernel, rfl, by decide +kernel, by decide +kernel⟩
theorem ok__law_number {f : Addr} {fd : FuncData} (F : FunD K "_law_number" "_law_number" (defArgs s__law_number) (defBody s__law_number) (defScope s__law_number) [] [] f fd) (TR : RT K mg C_Ratio) (c__law_draw : Cl P w K mg base 1 "_law_draw" (spDraw)) (c__law_size : Cl P w K mg base 3 "_law_size" (spNum 50 2 false)) : FnOk P w K mg base (L2.CX P w) 4 f fd ["_law_tape", "_law_figures"] (spNum 51 2 true) := by
  refine F.ok (CX := L2.CX P w) sc__law_number (fun vs H Q E h => ?_) (fun cdv A outer s H vs Q E hr h => ?_)
  · obtain ⟨p, f, n, rfl, _⟩ := h; rfl
  · obtain ⟨p, f, n, rfl, c, hT, hn, hlo, hf, k⟩ := h
    refine ⟨_, (pss_cons (ps_set (i := 2) sc__law_number.nd rfl (Or.inl rfl) (pe_cl c__law_size hr (by decide) (by rfl) psE (pa_cons (pv 0) (pa_cons (pv 1) pa_nil)))) (pss_one (ps_ret (pe_ifExp (pt_tr (pe_cl c__law_draw hr (by decide) (by rfl) psE (pa_cons (pv 0) (pa_cons pe_int pa_nil))) (ktru (K := K) rfl) (fun _ => rfl)) (pe_un un_neg (pv 2)) (pv 2))))), ?_⟩
    wtm_at "of_rd"
    refine ⟨p, f, n, rfl, _, hT, by omega, hlo, hf, ?_⟩
    intro H1 d L1 T1 d0 d1
    wtm_at "of_rd"
    refine ⟨p, 2, n + 50, rfl, _, T1, by omega, by decide, pow_mono (n := 64) (by decide) (by decide), ?_⟩
    intro H2 e L2 T2 c0 c1
    refine q_truI ?_
    refine ite2 (fun h => ?_) (fun h => ?_)
    · wtm_at "of_rd"
      exact k H2 _ (L1.trans L2) (T2.mono (by omega)) (fun z => by cases z) (by omega)
    · wtm_at "of_rd"
      exact k H2 _ (L1.trans L2) (T2.mono (by omega)) (fun z => by cases z) d1
abbrev s__law_gcd : Stmt := (top 38)
theorem sc__law_gcd : FnScope ["_law_one", "_law_other", "_law_k"] ["_law_one", "_law_other"] (defScope s__law_gcd) := ⟨rfl, rfl, rfl, by decide +kernel, rfl, by decide +kernel, by decide +kernel⟩
theorem ok__law_gcd {f : Addr} {fd : FuncData} (F : FunD K "_law_gcd" "_law_gcd" (defArgs s__law_gcd) (defBody s__law_gcd) (defScope s__law_gcd) [] [] f fd) (TB : TBl mg) (TR : RT K mg C_Ratio) : FnOk P w K mg base (L2.CX P w) 1 f fd ["_law_one", "_law_other"] (spII (fun a b => ((Int.gcd a b : Nat) : Int))) := by
  refine F.ok (CX := L2.CX P w) sc__law_gcd (fun vs H Q E h => ?_) (fun cdv A outer s H vs Q E hr h => ?_)
  · obtain ⟨a, b, rfl, _⟩ := h; rfl
  · obtain ⟨a, b, rfl, ha, hb, k⟩ := h
    refine ⟨_, (pss_cons (ps_par (i := 0) (j := 1) rfl sc__law_gcd.nd rfl rfl (by decide) rfl rfl (pa_cons (pe_callB kc_abs (by rfl) TB.b_abs (by decide +kernel) (pa_cons (pv 0) pa_nil)) (pa_cons (pe_callB kc_abs (by rfl) TB.b_abs (by decide +kernel) (pa_cons (pv 1) pa_nil)) pa_nil)) (by rfl)) (pss_cons (ps_for (passes_of rfl) rfl (pi_range1 (by rfl) TB.b_range (pa_cons (pe_op op_pow pe_int pe_int) pa_nil)) (pg_name (i := 2) sc__law_gcd.nd rfl (Or.inl rfl)) (pss_cons (ps_if (pt_cmpR op_eq (pv 1) pe_int (nomark _)) (pss_one ps_break) pss_nil) (pss_one (ps_par (i := 0) (j := 1) rfl sc__law_gcd.nd rfl rfl (by decide) rfl rfl (pa_cons (pv 1) (pa_cons (pe_op op_mod (pe_callTy kc_int1 (by rfl) TB.b_int (by decide +kernel) (pa_cons (pv 0) pa_nil)) (pv 1)) pa_nil)) (by rfl))))) (pss_one (ps_ret (pv 0))))), ?_⟩
    wtm_at "of_rd"
    refine q_abs ?_
    wtm_at "of_rd"
    refine q_abs ?_
    wtm_at "of_rd"
    refine r_I ⟨by decide, by decide, by decide⟩ ?_
    wtm_at "of_rd"
    refine i_R (n := 1000000) (by decide) (by decide) ?_
    refine fR' (fun i σ H' => ∃ (u l : Nat) (v : Option V), σ = [some (nat u), some (nat l), v] ∧ H' = H ∧ Euc a.natAbs b.natAbs i u l) ⟨_, _, none, rfl, rfl, rfl, .inl ⟨rfl, rfl, rfl⟩⟩ ?_ ?_
    · rintro i σ H1 hi ⟨u, l, v, rfl, rfl, e⟩
      wtm_at "of_rd"
      refine ite2 (fun h => ?_) (fun h => ?_)
      · have hl : l = 0 := by omega
        subst hl
        have := e.g
        rw [Nat.gcd_zero_right] at this
        refine r_break ?_
        wtm_at "of_rd"
        rw [this]; exact k
      · wtm_at "of_rd"
        refine r_I (by omega) ?_
        wtm_at "of_rd"
        rw [show ((u : Int) % (l : Int)) = ((u % l : Nat) : Int) from (Int.natCast_emod u l).symm]
        exact ⟨l, u % l, _, rfl, rfl, e.step (by omega)⟩
    · rintro σ H1 ⟨u, l, v, rfl, rfl, e⟩
      have hl := e.done ha hb
      subst hl
      have := e.g
      rw [Nat.gcd_zero_right] at this
      wtm_at "of_rd"
      rw [this]; exact k
abbrev s__law_whole_is : Stmt := (top 40)
theorem sc__law_whole_is : FnScope ["_law_value", "_law_due"] ["_law_value", "_law_due"] (defScope s__law_whole_is) := ⟨rfl, rfl, rfl, by decide +kernel, rfl, by decide +kernel, by decide +kernel⟩
theorem ok__law_whole_is {f : Addr} {fd : FuncData} (F : FunD K "_law_whole_is" "_law_whole_is" (defArgs s__law_whole_is) (defBody s__law_whole_is) (defScope s__law_whole_is) [] [] f fd) (TB : TBl mg) (TR : RT K mg C_Ratio) : FnOk P w K mg base (L2.CX P w) 1 f fd ["_law_value", "_law_due"] (spWhole K) := by
  refine F.ok (CX := L2.CX P w) sc__law_whole_is (fun vs H Q E h => ?_) (fun cdv A outer s H vs Q E hr h => ?_)
  · obtain ⟨a, b, rfl, _⟩ := h; rfl
  · obtain ⟨a, b, rfl, k⟩ := h
    refine ⟨_, (pss_one (ps_ret (pe_and (pe_callB (kc_isi (K := K) rfl) (by rfl) TB.b_isinstance (by decide +kernel) (pa_cons (pv 0) (pa_cons (pe_bltn (v := .ty "int") (u := .type "int") (by rfl) TB.b_int (by decide +kernel) rfl) pa_nil))) (pe_and (pe_not (pe_callB (kc_isi (K := K) rfl) (by rfl) TB.b_isinstance (by decide +kernel) (pa_cons (pv 0) (pa_cons (pe_bltn (v := .ty "bool") (u := .type "bool") (by rfl) TB.b_bool (by decide +kernel) rfl) pa_nil)))) (pe_one (pe_cmpR op_eq (pv 0) (pv 1) (nomark _))))))), ?_⟩
    wtm_at "of_rd"
    refine r_isi (.ty _) tyI ki_ii ?_
    wtm_at "of_rd"
    refine r_isi (.ty _) tyI ki_ib ?_
    wtm_at "of_rd"
    exact k
abbrev s__law_ratio_is : Stmt := (top 41)
theorem sc__law_ratio_is : FnScope ["_law_value", "_law_top", "_law_bottom"] ["_law_value", "_law_top", "_law_bottom"] (defScope s__law_ratio_is) := ⟨rfl, rfl, rfl, by decide +kernel, rfl, by decide +kernel, by decide +kernel⟩
theorem ok__law_ratio_is {f : Addr} {fd : FuncData} (F : FunD K "_law_ratio_is" "_law_ratio_is" (defArgs s__law_ratio_is) (defBody s__law_ratio_is) (defScope s__law_ratio_is) [] [] f fd) (g_Ratio : mg "Ratio" = some (.ref C_Ratio)) (TB : TBl mg) (TR : RT K mg C_Ratio) (c__law_gcd : Cl P w K mg base 1 "_law_gcd" (spII (fun a b => ((Int.gcd a b : Nat) : Int)))) (c__law_whole_is : Cl P w K mg base 1 "_law_whole_is" (spWhole K)) : FnOk P w K mg base (L2.CX P w) 2 f fd ["_law_value", "_law_top", "_law_bottom"] (spRatioIs C_Ratio) := by
  refine F.ok (CX := L2.CX P w) sc__law_ratio_is (fun vs H Q E h => ?_) (fun cdv A outer s H vs Q E hr h => ?_)
  · obtain ⟨p, q, t, b, rfl, _⟩ := h; rfl
  · obtain ⟨p, q, t, b, rfl, hp, hq, ht, hb, k⟩ := h
    refine ⟨_, (pss_cons (ps_if (pw_or (pt_not (pt_val (pe_callB (kc_isi (K := K) rfl) (by rfl) TB.b_isinstance (by decide +kernel) (pa_cons (pv 0) (pa_cons (pe_glob (v := .ref C_Ratio) (by rfl) g_Ratio rfl) pa_nil))))) (pw_or (pt_not (pt_val (pe_cl c__law_whole_is hr (by decide) (by rfl) psE (pa_cons (kfld (K := K) rfl (pv 0) rfl) (pa_cons (kfld (K := K) rfl (pv 0) rfl) pa_nil))))) (pw_or1 (pt_cmpR op_lt (kfld (K := K) rfl (pv 0) rfl) pe_int (nomark _))))).pt (pss_one (ps_ret pe_bl)) pss_nil) (pss_cons (ps_if (pw_or (pt_not (pt_val (pe_cl c__law_whole_is hr (by decide) (by rfl) psE (pa_cons (kfld (K := K) rfl (pv 0) rfl) (pa_cons (kfld (K := K) rfl (pv 0) rfl) pa_nil))))) (pw_or1 (pt_cmpR op_ne (pe_cl c__law_gcd hr (by decide) (by rfl) psE (pa_cons (kfld (K := K) rfl (pv 0) rfl) (pa_cons (kfld (K := K) rfl (pv 0) rfl) pa_nil))) pe_int (nomark _)))).pt (pss_one (ps_ret pe_bl)) pss_nil) (pss_one (ps_ret (pe_cmpR op_eq (pe_op op_mulA (kfld (K := K) rfl (pv 0) rfl) (pv 2)) (pe_op op_mulA (pv 1) (kfld (K := K) rfl (pv 0) rfl)) (nomark _)))))), ?_⟩
    wtm_at "of_rd"
    refine r_isi (.own _) (hp.tyx TR) kit_self ?_
    wtm_at "of_rd"
    refine ⟨_, _, rfl, ?_⟩
    rw [decide_eq_true rfl]
    wtm_at "of_rd"
    rw [decide_eq_false (by have := den_pos q; omega)]
    wtm_at "of_rd"
    refine ⟨_, _, rfl, ?_⟩
    rw [decide_eq_true rfl]
    wtm_at "of_rd"
    refine ⟨_, _, rfl, hq.n, hq.d, ?_⟩
    wtm_at "of_rd"
    have hg : ((Int.gcd q.num (q.den : Int) : Nat) : Int) = 1 := by
      have := q.reduced
      show ((Nat.gcd q.num.natAbs ((q.den : Int)).natAbs : Nat) : Int) = 1
      rw [Int.natAbs_natCast]; exact_mod_cast this
    refine iteN hg ?_
    wtm_at "of_rd"
    exact k
abbrev s__law_truth : Stmt := (top 39)
theorem sc__law_truth : FnScope ["_law_value", "_law_due"] ["_law_value", "_law_due"] (defScope s__law_truth) := ⟨rfl, rfl, rfl, by decide +kernel, rfl, by decide +kernel, by decide +kernel⟩
theorem ok__law_truth {f : Addr} {fd : FuncData} (F : FunD K "_law_truth" "_law_truth" (defArgs s__law_truth) (defBody s__law_truth) (defScope s__law_truth) [] [] f fd) (TR : RT K mg C_Ratio) : FnOk P w K mg base (L2.CX P w) 1 f fd ["_law_value", "_law_due"] (spTruth) := by
  refine F.ok (CX := L2.CX P w) sc__law_truth (fun vs H Q E h => ?_) (fun cdv A outer s H vs Q E hr h => ?_)
  · obtain ⟨a, b, rfl, _⟩ := h; rfl
  · obtain ⟨a, b, rfl, k⟩ := h
    refine ⟨_, (pss_one (ps_ret (pe_ifExp (pt_val (pv 1)) (pe_cmpR op_isBl (pv 0) pe_bl (nomark _)) (pe_cmpR op_isBl (pv 0) pe_bl (nomark _))))), ?_⟩
    wtm_at "of_rd"
    cases b <;> cases a <;> (wtm_at "of_rd"; exact ⟨_, _, rfl, rfl, k⟩)
end
end
section
open PySem PySem.Spec PyProof.Rows
section
variable {prog : Program} {w : World} {A : Around} {E : Value → Shared → Prop} {s : Shared} {K : PySem.W.Frag} {x y C D f g dx dy : Addr} {od od' : Option Obj}
theorem bin2_K {op : Operator} {Q : Value → Shared → Prop} (X : K.In s.heap) (I : PySem.W.InstAt s.heap x (PySem.W.instObj C dx) C od) (J : PySem.W.InstAt s.heap y (PySem.W.instObj D dy) D od') (hc : PySem.W.selfFirst K C = true) (hd : PySem.W.selfFirst K D = true)
    (hs : PySem.W.findIn K (.ref C) (PySem.dunder op.info.2) = some (some (.ref f))) (hf : PySem.W.isFn K (.ref f) = true) (hs2 : PySem.W.findIn K (.ref D) (PySem.dunder op.info.2) = some (some (.ref g))) {rc rcd : Option Value} (hr : PySem.W.findIn K (.ref C) (dunderR op.info.2) = some rc) (hp : rc = none ∨ ∃ g : Addr, rc = some (.ref g)) (hr2 : PySem.W.findIn K (.ref D) (dunderR op.info.2) = some rcd) (hp2 : rcd = none ∨ ∃ g : Addr, rcd = some (.ref g)) (hsub : PySem.W.subIn K (.ref D) (.ref C) = some false) (hne : D ≠ C)
    (h : wpAny (model prog w) A (call (.ref f) [.ref x, .ref y]) (PySem.W.CmpBack Q) E s) : wpAny (model prog w) A (binaryOp op (.ref x) (.ref y)) Q E s := by
  obtain ⟨cd, rest, hcd, hm⟩ := PySem.W.ksp_first hc
  obtain ⟨ce, rest', hce, hm'⟩ := PySem.W.ksp_first hd
  rcases hi : op.info with ⟨sym, nm'⟩
  rw [hi] at hs hs2 hr hr2
  dsimp only at hs hs2 hr hr2
  have one := PySem.W.ksp_try X I hs hf h
  obtain ⟨hh, gg, d, tt, os⟩ := s
  have L1 : PySem.W.Looks (model prog w) hh (typeOf (.ref x)) (.ref C) := I.type
  have L2 : PySem.W.Looks (model prog w) hh (typeOf (.ref y)) (.ref D) := J.type
  have L3 : PySem.W.Looks (model prog w) hh (fillsNumberSlot (.ref C) nm') true := PySem.W.fills_K X hcd hm hs
  have L4 : PySem.W.Looks (model prog w) hh (fillsNumberSlot (.ref D) nm') true := PySem.W.fills_K X hce hm' hs2
  have L5 : PySem.W.Looks (model prog w) hh (isSubtype (.ref D) (.ref C)) false := PySem.W.looks_subIn X hsub
  have L6 : PySem.W.Looks (model prog w) hh (numberSlotInPython (.ref C) nm') true := PySem.W.ksp_inPy X hs hr hp
  have L7 : PySem.W.Looks (model prog w) hh (numberSlotInPython (.ref D) nm') true := PySem.W.ksp_inPy X hs2 hr2 hp2
  have h1 : (Value.ref C == Value.ref D) = false := Bool.eq_false_iff.mpr fun q => hne (Value.ref.inj (beq_iff_eq.mp q)).symm
  have h2 : (Value.ref D == Value.ref C) = false := Bool.eq_false_iff.mpr fun q => hne (Value.ref.inj (beq_iff_eq.mp q))
  simp only [binaryOp, hi]
  refine wpAny_holding (wpAny_bind ?_)
  unfold binaryOp1
  refine wpAny_bind (L1.at (wpAny_bind (L2.at (wpAny_bind (L3.at ?_)))))
  simp only [h1, Bool.false_eq_true, if_false]
  ksp_lk
  refine wpAny_mono one (fun r s' hr' => ?_) fun _ _ e => e
  obtain ⟨v, rfl, hq⟩ := hr'
  ksp_lk
  exact hq
end
end
section
open PySem PySem.Spec PyProof.Rows L2
def rOD (C D : Addr) (sp : Sp) (E : XK) : R2 := fun x y H Q => ∃ a dx fs b dy gs, x = .ref a ∧ H a = some (.ins C dx fs) ∧ y = .ref b ∧ H b = some (.ins D dy gs) ∧ sp [.ref a, .ref b] H Q E
section
variable {X : Cx} {op : Operator} {C D f g : Addr} {m m' : Str} {k j : Nat} {sp : Sp} {E : XK} {rc rcd : Option Value}
theorem op2D (d : PySem.dunder op.info.2 = m) (dr : dunderR op.info.2 = m') (kc : ClsO X.K C) (kd : ClsO X.K D) (c : Cm X.prog X.w X.K X.mg X.base k C m f sp) (hs2 : PySem.W.findIn X.K (.ref D) m = some (some (.ref g)))
    (hr1 : PySem.W.findIn X.K (.ref C) m' = some rc) (hp : rc = none ∨ ∃ g : Addr, rc = some (.ref g)) (hr2 : PySem.W.findIn X.K (.ref D) m' = some rcd) (hp2 : rcd = none ∨ ∃ g : Addr, rcd = some (.ref g)) (hsub : PySem.W.subIn X.K (.ref D) (.ref C) = some false) (hne : D ≠ C)
    (hr : Room j X.A) (hk : k ≤ j) (hx : Passes (L2.CX X.prog X.w) X E) : OpR X (binaryOp op) (rOD C D sp E) := by
  intro pins s σ H x y v u Q I rx ry h
  obtain ⟨a, dx, fs, b, dy, gs, rfl, ha, rfl, hb, q⟩ := h
  cases (show v = Value.ref a from rx)
  cases (show u = Value.ref b from ry)
  obtain ⟨od, J⟩ := ins_inst I ha
  obtain ⟨od', J'⟩ := ins_inst I hb
  exact bin2_K I.kIn J J' kc.sf kd.sf (by rw [d]; exact c.at_) c.fn (by rw [d]; exact hs2) (by rw [dr]; exact hr1) hp (by rw [dr]; exact hr2) hp2 hsub hne
    (thn (wpAny_call (run_fnR (us := [.ref a, .ref b]) (vs := [.ref a, .ref b]) c.fnr (hr.mono hk) hx I (.cons rfl (.cons rfl .nil)) q)) fun _ _ z => cb_of z)
end
end
section
open PySem PySem.Spec PyProof.Rows
section
variable {prog : Program} {w : World} {A : Around} {E : Value → Shared → Prop} {s : Shared} {K : PySem.W.Frag} {x y C D f g g2 dx dy : Addr} {od od' : Option Obj}
theorem ksp_tryN {Q : Shared → Prop} {name : Str} {b : Value} {ox : Obj} (X : K.In s.heap) (I : PySem.W.InstAt s.heap x ox C od) (hs : PySem.W.findIn K (.ref C) name = some (some (.ref f))) (hf : PySem.W.isFn K (.ref f) = true)
    (h : wpAny (model prog w) A (call (.ref f) [.ref x, b]) (fun v s' => v = .notImplemented ∧ Q s') E s) : wpAny (model prog w) A (tryMethod (.ref x) name b) (fun r s' => r = none ∧ Q s') E s := by
  unfold tryMethod
  refine wpAny_bind (PySem.W.special_fn X I hs (beq_iff_eq.mp hf) (wpAny_mono h (fun v s' hv => ?_) fun _ _ e => e))
  obtain ⟨rfl, q⟩ := hv
  exact wpAny_pure ⟨rfl, q⟩
theorem bin3_K {op : Operator} {Q : Value → Shared → Prop} (X : K.In s.heap) (I : PySem.W.InstAt s.heap x (PySem.W.instObj C dx) C od) (J : PySem.W.InstAt s.heap y (PySem.W.instObj D dy) D od') (hc : PySem.W.selfFirst K C = true) (hd : PySem.W.selfFirst K D = true)
    (hs : PySem.W.findIn K (.ref C) (PySem.dunder op.info.2) = some (some (.ref f))) (hf : PySem.W.isFn K (.ref f) = true) (hs2 : PySem.W.findIn K (.ref D) (PySem.dunder op.info.2) = some (some (.ref g))) {rc : Option Value} (hr : PySem.W.findIn K (.ref C) (dunderR op.info.2) = some rc) (hp : rc = none ∨ ∃ g : Addr, rc = some (.ref g))
    (hr2 : PySem.W.findIn K (.ref D) (dunderR op.info.2) = some (some (.ref g2))) (hg2 : PySem.W.isFn K (.ref g2) = true) (hsub : PySem.W.subIn K (.ref D) (.ref C) = some false) (hne : D ≠ C)
    (h : wpAny (model prog w) A (call (.ref f) [.ref x, .ref y]) (fun v s1 => v = .notImplemented ∧ K.In s1.heap ∧ (∃ od1, PySem.W.InstAt s1.heap x (PySem.W.instObj C dx) C od1) ∧ (∃ od1, PySem.W.InstAt s1.heap y (PySem.W.instObj D dy) D od1) ∧
      wpAny (model prog w) A (call (.ref g2) [.ref y, .ref x]) (PySem.W.CmpBack Q) E s1) E s) : wpAny (model prog w) A (binaryOp op (.ref x) (.ref y)) Q E s := by
  obtain ⟨cd, rest, hcd, hm⟩ := PySem.W.ksp_first hc
  obtain ⟨ce, rest', hce, hm'⟩ := PySem.W.ksp_first hd
  rcases hi : op.info with ⟨sym, nm'⟩
  rw [hi] at hs hs2 hr hr2
  dsimp only at hs hs2 hr hr2
  have one := ksp_tryN X I hs hf h
  obtain ⟨hh, gg, d, tt, os⟩ := s
  have L1 : PySem.W.Looks (model prog w) hh (typeOf (.ref x)) (.ref C) := I.type
  have L2 : PySem.W.Looks (model prog w) hh (typeOf (.ref y)) (.ref D) := J.type
  have L3 : PySem.W.Looks (model prog w) hh (fillsNumberSlot (.ref C) nm') true := PySem.W.fills_K X hcd hm hs
  have L4 : PySem.W.Looks (model prog w) hh (fillsNumberSlot (.ref D) nm') true := PySem.W.fills_K X hce hm' hs2
  have L5 : PySem.W.Looks (model prog w) hh (isSubtype (.ref D) (.ref C)) false := PySem.W.looks_subIn X hsub
  have L6 : PySem.W.Looks (model prog w) hh (numberSlotInPython (.ref C) nm') true := PySem.W.ksp_inPy X hs hr hp
  have L7 : PySem.W.Looks (model prog w) hh (numberSlotInPython (.ref D) nm') true := PySem.W.ksp_inPy X hs2 hr2 (.inr ⟨_, rfl⟩)
  have h1 : (Value.ref C == Value.ref D) = false := Bool.eq_false_iff.mpr fun q => hne (Value.ref.inj (beq_iff_eq.mp q)).symm
  have h2 : (Value.ref D == Value.ref C) = false := Bool.eq_false_iff.mpr fun q => hne (Value.ref.inj (beq_iff_eq.mp q))
  simp only [binaryOp, hi]
  refine wpAny_holding (wpAny_bind ?_)
  unfold binaryOp1
  refine wpAny_bind (L1.at (wpAny_bind (L2.at (wpAny_bind (L3.at ?_)))))
  simp only [h1, Bool.false_eq_true, if_false]
  ksp_lk
  refine wpAny_mono one (fun r s1 hr' => ?_) fun _ _ e => e
  obtain ⟨rfl, X1, ⟨_, I1⟩, ⟨_, J1⟩, k⟩ := hr'
  have two := PySem.W.ksp_try X1 J1 hr2 hg2 k
  obtain ⟨hh1, gg1, d1, tt1, os1⟩ := s1
  have M1 : PySem.W.Looks (model prog w) hh1 (typeOf (.ref x)) (.ref C) := I1.type
  have M2 : PySem.W.Looks (model prog w) hh1 (typeOf (.ref y)) (.ref D) := J1.type
  dsimp only
  rw [if_pos rfl]
  refine wpAny_bind (M1.at (wpAny_bind (M2.at ?_)))
  simp only [h1, Bool.false_eq_true, if_false]
  ksp_lk
  refine wpAny_mono two (fun r s2 hr' => ?_) fun _ _ e => e
  obtain ⟨v, rfl, hq⟩ := hr'
  ksp_lk
  exact hq
end
end
section
open PySem PySem.Spec PyProof.Rows L2
abbrev Spd := List V → Hp → (Hp → Prop) → Prop
/-- the def at f hands NotImplemented back -/
def DclR (P : Program) (w : World) (K : PySem.W.Frag) (mg : Str → Option Value) (base : Heap) (CX : CXT) (k : Nat) (f : Addr) (sp : Spd) : Prop :=
  ∀ (A : Around) (outer : List Env) (s : Shared) (H : Hp) (us : List Value) (vs : List V) (Q : Hp → Prop) (E : XK), Room k A → Env0 P w K mg base A outer s H → Vals vs us → sp vs H Q →
    codeAny (model P w) A (.call (.ref f) ⟨us, []⟩) (fun r s' => match r with | .ok (.ret u) => u = .notImplemented ∧ CE outer P w H s (fun _ H' => Q H') Value.none s' | .ok _ => False | .error e => CX outer H s E e s') s
theorem DclR.mono {P : Program} {w : World} {K : PySem.W.Frag} {mg : Str → Option Value} {base : Heap} {CX : CXT} {j k : Nat} {f : Addr} {sp : Spd} (F : DclR P w K mg base CX j f sp) (h : j ≤ k) : DclR P w K mg base CX k f sp :=
  fun A outer s H us vs Q E hr => F A outer s H us vs Q E (hr.mono h)
theorem dcl_of {CX : CXT} {P : Program} {w : World} {K : PySem.W.Frag} {mg : Str → Option Value} {base : Heap} {k : Nat} {f : Addr} {name qual : Str} {params : Arguments} {scope : Scope} {dV kV doc pm cdv ct oc : Value} {an od : Option Addr}
    {osl : Array (Option Value)} {N ps : List Str} {sp : Spd} {c : Expr} {p1 p2 p3 : Pos} {rest : List Stmt} (lk : K.lookup f = some ⟨oc, od, .func (PySem.W.fnOf name qual params (.If c [.Return (some (.Name "NotImplemented" p1)) p2] [] p3 :: rest) scope dV kV doc pm an cdv ct), osl⟩) (hcd : PySem.W.codeIn K cdv qual = true) (S : FnScope N ps scope)
    (hgl : ∀ (A : Around) (outer : List Env) (s : Shared) (H : Hp) (E : XK), Gl (cxOf CX P w K mg base N qual scope f cdv A outer s H E) "NotImplemented") (hni : mg "NotImplemented" = none)
    (len : ∀ vs H Q, sp vs H Q → vs.length = ps.length) (hB : L2.Binds K (PySem.W.fnOf name qual params (.If c [.Return (some (.Name "NotImplemented" p1)) p2] [] p3 :: rest) scope dV kV doc pm an cdv ct) ps [])
    (hbody : ∀ (A : Around) (outer : List Env) (s : Shared) (H : Hp) (vs : List V) (Q : Hp → Prop) (E : XK), Room k (A.deeper (envOfC qual scope s.heap.objs.size f cdv)) → sp vs H Q →
      ∃ t, L2.PT (cxOf CX P w K mg base N qual scope f cdv A outer s H E) c t ∧ t (start N vs) H (fun b H' => b = true ∧ Q H')) :
    DclR P w K mg base CX (k + 1) f sp := by
  intro A outer s H us vs Q E hr e0 r hsp
  have hl := len _ _ _ hsp
  have KX : K.In s.heap := e0.mod.kin.keeps fun b o e => (e0.bs b o e).1
  have lim : s.heap.NoLimit := e0.mod.nolimit.keeps fun b o e => (e0.bs b o e).1
  have hb := hB s us KX (by rw [List.append_nil, ← r.length]; exact hl)
  rw [List.append_nil] at hb
  have hkind : ∀ y ∈ ps.zip us, scope.names.lookup y.1 = some .local ∨ (scope.names.lookup y.1 = some .cell ∧ ((cellsFrom (s.heap.objs.size + 1) scope.names []).lookup y.1).isSome = true) := fun ⟨n, v⟩ hy => by
    rcases S.par n (List.of_mem_zip hy).1 with q | q
    · exact .inl q
    · exact .inr ⟨q, PySem.W.cellsFrom_some _ _ _ (.inl q)⟩
  refine codeAny_call_function hr.depth (KX _ _ lk) rfl S.co S.gen rfl (PySem.W.codeRec_of KX hcd) (hb _ _ _ _ ?_)
  refine wpAny_newFunctionEnv_cells S.kind hkind fun env he s1 x => ?_
  subst he
  refine ⟨lim.keeps x.toInCall.keep, codeAny_func ?_⟩
  obtain ⟨t, ht, hq⟩ := hbody A outer s H vs Q E (hr.deeper _) hsp
  have I : Inv (cxOf CX P w K mg base N qual scope f cdv A outer s H E) [] (start N vs) H s1 := inv_start S hr.hd e0 hl r x
  refine wpAny_mono (Q := fun fl s' => fl = .ret .notImplemented ∧ ∃ σ' H', Inv (cxOf CX P w K mg base N qual scope f cdv A outer s H E) [] σ' H' s' ∧ Q H') ?_ (fun fl s' hs => ?_) fun e s' hs => hs
  · refine wpAny_execs_cons (wpAny_If (thn (ht.run [] s1 (start N vs) H _ I hq) fun b s2 z => ?_))
    obtain ⟨H2, I2, rfl, q⟩ := z
    exact wpAny_execs_cons (wpAny_Return_some (ld_blt I2 (hgl A outer s H E) hni (by decide +kernel) ⟨rfl, _, H2, I2, q⟩))
  · obtain ⟨rfl, σ', H', J, q⟩ := hs
    exact ⟨rfl, V.non, H', J.os, J.bare, J.base, J.hok, rfl, q⟩
section
variable {X : Cx} {pins : List (Addr × Obj)} {σ : L2.St} {H : Hp} {s : Shared}
theorem run_dcl {CX : CXT} {k : Nat} {f : Addr} {sp : Spd} {E : XK} {Q : Hp → Prop} {us : List Value} {vs : List V} (F : DclR X.prog X.w X.K X.mg X.base CX k f sp) (hr : Room k X.A) (hx : Passes CX X E) (I : Inv X pins σ H s) (r : Vals vs us) (h : sp vs H Q) :
    codeAny (model X.prog X.w) X.A (.call (.ref f) ⟨us, []⟩) (fun r s' => match r with | .ok (.ret v) => v = .notImplemented ∧ ∃ H', Inv X pins σ H' s' ∧ Q H' | .ok _ => False | .error e => X.xe e s') s := by
  refine codeAny_mono (F X.A X.stack s H us vs Q E hr I.env0 r h) fun r s' hq => ?_
  cases r with
  | error e => exact hx pins σ H s e s' I hq
  | ok fl =>
    cases fl with
    | ret u =>
      obtain ⟨rfl, hc⟩ := hq
      obtain ⟨v, H', I', _, q⟩ := I.after hc
      exact ⟨rfl, H', I', q⟩
    | next => exact False.elim hq
    | brk => exact False.elim hq
    | cont => exact False.elim hq
end
structure Cdc (P : Program) (w : World) (K : PySem.W.Frag) (mg : Str → Option Value) (base : Heap) (k : Nat) (C : Addr) (m : Str) (f : Addr) (sp : Spd) : Prop where
  at_ : PySem.W.findIn K (.ref C) m = some (some (.ref f))
  fn : PySem.W.isFn K (.ref f) = true
  fnr : DclR P w K mg base (L2.CX P w) k f sp
/-- a op b, where a's class declines b and b's class takes a -/
def rODn (C D : Addr) (spd : Spd) (sp : Sp) (E : XK) : R2 := fun x y H Q => ∃ a dx fs b dy gs, x = .ref a ∧ H a = some (.ins C dx fs) ∧ y = .ref b ∧ H b = some (.ins D dy gs) ∧ spd [.ref a, .ref b] H (fun H1 => H1 = H ∧ sp [.ref b, .ref a] H Q E)
section
variable {X : Cx} {op : Operator} {C D f g g2 : Addr} {m m' : Str} {k k' j : Nat} {spd : Spd} {sp : Sp} {E : XK} {rc : Option Value}
theorem op3D (d : PySem.dunder op.info.2 = m) (dr : dunderR op.info.2 = m') (kc : ClsO X.K C) (kd : ClsO X.K D) (c : Cdc X.prog X.w X.K X.mg X.base k C m f spd) (hs2 : PySem.W.findIn X.K (.ref D) m = some (some (.ref g)))
    (hr1 : PySem.W.findIn X.K (.ref C) m' = some rc) (hp : rc = none ∨ ∃ g : Addr, rc = some (.ref g)) (c2 : Cm X.prog X.w X.K X.mg X.base k' D m' g2 sp) (hsub : PySem.W.subIn X.K (.ref D) (.ref C) = some false) (hne : D ≠ C)
    (hr : Room j X.A) (hk : k ≤ j) (hk' : k' ≤ j) (hx : Passes (L2.CX X.prog X.w) X E) : OpR X (binaryOp op) (rODn C D spd sp E) := by
  intro pins s σ H x y v u Q I rx ry h
  obtain ⟨a, dx, fs, b, dy, gs, rfl, ha, rfl, hb, q⟩ := h
  cases (show v = Value.ref a from rx)
  cases (show u = Value.ref b from ry)
  obtain ⟨od, J⟩ := ins_inst I ha
  obtain ⟨od', J'⟩ := ins_inst I hb
  refine bin3_K I.kIn J J' kc.sf kd.sf (by rw [d]; exact c.at_) c.fn (by rw [d]; exact hs2) (by rw [dr]; exact hr1) hp (by rw [dr]; exact c2.at_) c2.fn hsub hne
    (thn (wpAny_call (run_dcl (us := [.ref a, .ref b]) (vs := [.ref a, .ref b]) c.fnr (hr.mono hk) hx I (.cons rfl (.cons rfl .nil)) q)) fun v s1 z => ?_)
  obtain ⟨rfl, H1, I1, rfl, q2⟩ := z
  obtain ⟨o1, J1⟩ := ins_inst I1 ha
  obtain ⟨o2, J2⟩ := ins_inst I1 hb
  exact ⟨rfl, I1.kIn, ⟨_, J1⟩, ⟨_, J2⟩, thn (wpAny_call (run_fnR (us := [.ref b, .ref a]) (vs := [.ref b, .ref a]) c2.fnr (hr.mono hk') hx I1 (.cons rfl (.cons rfl .nil)) q2)) fun _ _ z => cb_of z⟩
end
end
section
open PySem PySem.Spec PyProof.Rows L2
theorem dcl_of2 {CX : CXT} {P : Program} {w : World} {K : PySem.W.Frag} {mg : Str → Option Value} {base : Heap} {k : Nat} {f : Addr} {name qual : Str} {params : Arguments} {scope : Scope} {dV kV doc pm cdv ct oc : Value} {an od : Option Addr}
    {osl : Array (Option Value)} {N ps : List Str} {sp : Spd} {c c2 : Expr} {b b2 : List Stmt} {p1 p2 p3 p4 : Pos} {rest : List Stmt} (lk : K.lookup f = some ⟨oc, od, .func (PySem.W.fnOf name qual params (.If c b [] p3 :: .If c2 b2 [] p4 :: .Return (some (.Name "NotImplemented" p1)) p2 :: rest) scope dV kV doc pm an cdv ct), osl⟩) (hcd : PySem.W.codeIn K cdv qual = true) (S : FnScope N ps scope)
    (hgl : ∀ (A : Around) (outer : List Env) (s : Shared) (H : Hp) (E : XK), Gl (cxOf CX P w K mg base N qual scope f cdv A outer s H E) "NotImplemented") (hni : mg "NotImplemented" = none)
    (len : ∀ vs H Q, sp vs H Q → vs.length = ps.length) (hB : L2.Binds K (PySem.W.fnOf name qual params (.If c b [] p3 :: .If c2 b2 [] p4 :: .Return (some (.Name "NotImplemented" p1)) p2 :: rest) scope dV kV doc pm an cdv ct) ps [])
    (hbody : ∀ (A : Around) (outer : List Env) (s : Shared) (H : Hp) (vs : List V) (Q : Hp → Prop) (E : XK), Room k (A.deeper (envOfC qual scope s.heap.objs.size f cdv)) → sp vs H Q →
      ∃ t t2, L2.PT (cxOf CX P w K mg base N qual scope f cdv A outer s H E) c t ∧ L2.PT (cxOf CX P w K mg base N qual scope f cdv A outer s H E) c2 t2 ∧ t (start N vs) H (fun b H1 => b = false ∧ t2 (start N vs) H1 fun b2 H' => b2 = false ∧ Q H')) :
    DclR P w K mg base CX (k + 1) f sp := by
  intro A outer s H us vs Q E hr e0 r hsp
  have hl := len _ _ _ hsp
  have KX : K.In s.heap := e0.mod.kin.keeps fun b o e => (e0.bs b o e).1
  have lim : s.heap.NoLimit := e0.mod.nolimit.keeps fun b o e => (e0.bs b o e).1
  have hb := hB s us KX (by rw [List.append_nil, ← r.length]; exact hl)
  rw [List.append_nil] at hb
  have hkind : ∀ y ∈ ps.zip us, scope.names.lookup y.1 = some .local ∨ (scope.names.lookup y.1 = some .cell ∧ ((cellsFrom (s.heap.objs.size + 1) scope.names []).lookup y.1).isSome = true) := fun ⟨n, v⟩ hy => by
    rcases S.par n (List.of_mem_zip hy).1 with q | q
    · exact .inl q
    · exact .inr ⟨q, PySem.W.cellsFrom_some _ _ _ (.inl q)⟩
  refine codeAny_call_function hr.depth (KX _ _ lk) rfl S.co S.gen rfl (PySem.W.codeRec_of KX hcd) (hb _ _ _ _ ?_)
  refine wpAny_newFunctionEnv_cells S.kind hkind fun env he s1 x => ?_
  subst he
  refine ⟨lim.keeps x.toInCall.keep, codeAny_func ?_⟩
  obtain ⟨t, t2, ht, ht2, hq⟩ := hbody A outer s H vs Q E (hr.deeper _) hsp
  have I : Inv (cxOf CX P w K mg base N qual scope f cdv A outer s H E) [] (start N vs) H s1 := inv_start S hr.hd e0 hl r x
  refine wpAny_mono (Q := fun fl s' => fl = .ret .notImplemented ∧ ∃ σ' H', Inv (cxOf CX P w K mg base N qual scope f cdv A outer s H E) [] σ' H' s' ∧ Q H') ?_ (fun fl s' hs => ?_) fun e s' hs => hs
  · refine wpAny_execs_cons (wpAny_If (thn (ht.run [] s1 (start N vs) H _ I hq) fun b s2 z => ?_))
    obtain ⟨H2, I2, rfl, q⟩ := z
    refine wpAny_execs_nil ?_
    refine wpAny_execs_cons (wpAny_If (thn (ht2.run [] s2 (start N vs) H2 _ I2 q) fun b s3 z => ?_))
    obtain ⟨H3, I3, rfl, q⟩ := z
    refine wpAny_execs_nil ?_
    exact wpAny_execs_cons (wpAny_Return_some (ld_blt I3 (hgl A outer s H E) hni (by decide +kernel) ⟨rfl, _, H3, I3, q⟩))
  · obtain ⟨rfl, σ', H', J, q⟩ := hs
    exact ⟨rfl, V.non, H', J.os, J.bare, J.base, J.hok, rfl, q⟩
end
section
open PySem PySem.Spec PyProof.Rows L2
section
variable {M : Model} {A : Around} {E : Value → Shared → Prop} {s : Shared} {K : PySem.W.Frag} {env : Env} {pos : Pos} {x C dx : Addr} {Q : Value → Shared → Prop}
/-- the call of an instance, its dict known where the call begins -/
theorem co_with {e : Expr} (hplain : ((backTo pos (starEach [e] env)).any (·.1) || ([] : List (Option Str × Sem Value)).any (·.1.isNone)) = false)
    (h : wpAny M A (evalArgs (.ref x) true (backTo pos (starEach [e] env)) []) (fun a s1 => (∃ od, PySem.W.InstAt s1.heap x (PySem.W.instObj C dx) C od) ∧ wpAny M A (call (.ref x) a.pos a.kw) Q E s1) E s) : wpAny M A (callWith pos (.ref x) [] (backTo pos (starEach [e] env)) []) Q E s := by
  unfold callWith
  refine wpAny_bind (wpAny_holding (wpAny_mono h (fun a s1 z => ?_) fun _ _ z => z))
  obtain ⟨⟨od, J⟩, z⟩ := z
  have L := PySem.W.kco_keeper (M := M) J rfl
  refine wpAny_bind (wpAny_standAt ?_)
  simp only [hplain]
  refine wpAny_bind (L.here ?_)
  exact wpAny_bind (wpAny_mono (wpAny_operateT z) (fun r s2 hq => wpAny_bind (wpAny_holding (wpAny_point (wpAny_pure hq)))) fun _ _ z => z)
end
section
variable {X : Cx} {C f : Addr} {k j : Nat} {sp : Sp} {E : XK} {te t1 : TE} {nm : Str} {p pos : Pos} {e : Expr}
def tCo (C : Addr) (sp : Sp) (E : XK) (te t1 : TE) : TE := fun σ H Q => te σ H fun v H1 => ∃ a dx fs, v = .ref a ∧ H1 a = some (.ins C dx fs) ∧ t1 σ H1 fun y H2 => H2 a = some (.ins C dx fs) ∧ sp [.ref a, y] H2 Q E
theorem pe_co1 (c : Cm X.prog X.w X.K X.mg X.base k C "__call__" f sp) (hfn : PySem.W.fnIn X.K f = true) (hr : Room j X.A) (hk : k ≤ j) (hx : Passes (L2.CX X.prog X.w) X E) (hf : PE X (.Name nm p) te) (he : PE X e t1)
    (hst : starEach [e] X.env = (false, eval e X.env) :: starEach [] X.env := by rfl) : PE X (.Call (.Name nm p) [e] [] pos) (tCo C sp E te t1) := by
  refine ⟨fun pins s σ H Q I h => ?_⟩
  refine wpAny_Call_Name_kw (thn (hf.run pins s σ H _ I h) fun u s1 z => ?_)
  obtain ⟨v, H1, I1, r1, a, dx, fs, rfl, ha, q⟩ := z
  obtain rfl : u = Value.ref a := r1
  refine co_with (C := C) (dx := dx) (by rw [hst]; rfl) ?_
  rw [hst]
  refine Calls.evalArgs_plain ?_
  refine Calls.spliced_cons (thn (he.run pins s1 σ H1 _ I1 q) fun u2 s2 z => ?_)
  obtain ⟨y, H2, I2, r2, ha2, q2⟩ := z
  obtain ⟨od, J⟩ := ins_inst I2 ha2
  refine Calls.spliced_nil ⟨⟨_, J⟩, ?_⟩
  exact wpAny_call (PySem.W.kco_code I2.kIn J rfl c.at_ c.fn hfn (run_fnR (us := [.ref a, u2]) (vs := [.ref a, y]) c.fnr (hr.mono hk) hx I2 (.cons rfl (.cons r2 .nil)) q2))
end
end
section
open PySem PySem.Spec PyProof.Rows L2
def fP (a b : Addr) : List (Str × V) := [("x", .ref a), ("y", .ref b)]
/-- at p stands an object of the class C with the fractions x, y -/
def IsP (C CR : Addr) (H : Hp) (p : Addr) (x y : Rat) : Prop := ∃ dx a b, H p = some (.ins C dx (fP a b)) ∧ IsR CR H a x ∧ IsR CR H b y
def StayP (p : Addr) (H H' : Hp) : Prop := ∀ c o, H c = some o → c ≠ p → H' c = some o
def spPInit (K : PySem.W.Frag) (C CR CB : Addr) : Sp := fun vs H Q E => ∃ p dx u v, vs = [.ref p, u, v] ∧ H p = some (.ins C dx []) ∧
  ((∃ x y, NumV CR H u x ∧ NumV CR H v y ∧ Bq x ∧ Bq y ∧ ∀ H', StayP p H H' → IsP C CR H' p x y → Q .non H') ∨
   (Wrong K CR H u ∧ Rz E CB "value" u H) ∨
   (∃ x, NumV CR H u x ∧ Bq x ∧ (∀ H', StayP p H H' → Wrong K CR H' v) ∧ ∀ d H', StayP p H H' → H' d = some (.xd [("value", v)]) → H d = none → E (.ref CB) (some d) H'))
section
variable {K : PySem.W.Frag} {C CR a p CB : Addr} {H H' : Hp} {Q : VK} {q r x y x' y' : Rat} {v u : V} {E : XK}
theorem IsR.stay (h : IsR CR H a q) (s : StayP p H H') (hp : ∃ dx, H p = some (.ins C dx [])) : IsR CR H' a q := by
  obtain ⟨dx, h⟩ := h
  obtain ⟨dy, hp⟩ := hp
  refine ⟨dx, s _ _ h fun e => ?_⟩
  subst e
  rw [h] at hp
  cases hp
theorem NumV.stay (h : NumV CR H v q) (s : StayP p H H') (hp : ∃ dx, H p = some (.ins C dx [])) : NumV CR H' v q := by
  rcases h with ⟨n, rfl, e⟩ | ⟨a, rfl, h⟩
  · exact .inl ⟨n, rfl, e⟩
  · exact .inr ⟨a, rfl, h.stay s hp⟩
theorem IsP.ex (h : IsP C CR H p x y) (e : Ex H H') : IsP C CR H' p x y := by
  obtain ⟨dx, a, b, h1, h2, h3⟩ := h
  exact ⟨dx, a, b, e _ _ h1, h2.ex e, h3.ex e⟩
theorem lk_x {a b : Addr} : (fP a b).lookup ("x" : Str) = some (.ref a) := by unfold fP; rw [List.lookup_cons]; simp
theorem xy_ne : ¬ (("x" : Str) = "y") := by decide +kernel
theorem xy_ne' : ¬ (("y" : Str) = "x") := by decide +kernel
theorem lk_y {a b : Addr} : (fP a b).lookup ("y" : Str) = some (.ref b) := by
  unfold fP
  rw [List.lookup_cons, show (("y" : Str) == "x") = false from by simpa using xy_ne', List.lookup_cons]
  simp
end
end
section
open PySem PySem.Spec PyProof.Rows L2
structure PT (K : PySem.W.Frag) (C : Addr) : Prop where
  k : ClsP K C
  nX : NoAttr K C "x"
  nY : NoAttr K C "y"
def NewP (C CR : Addr) (Q : VK) (H : Hp) (x y : Rat) : Prop := ∀ H' p, Ex H H' → IsP C CR H' p x y → Q (.ref p) H'
section
variable {K K' : PySem.W.Frag} {C CR a p CB : Addr} {H H' : Hp} {Q : VK} {q r x y x' y' : Rat} {v u : V} {E : XK}
theorem NewP.ex (k : NewP C CR Q H x y) (e : Ex H H') : NewP C CR Q H' x y := fun H2 p e2 h => k H2 p (e.trans e2) h
theorem r_x (T : PT K C) (e : K' = K) (h : IsP C CR H p x y) (k : ∀ a, IsR CR H a x → Q (.ref a) H) : FldAt K' "x" (.ref p) H Q := by
  subst e
  obtain ⟨dx, a, b, h1, h2, h3⟩ := h
  exact ⟨p, C, dx, _, _, rfl, h1, T.k.o.cl, T.nX, lk_x, k a h2⟩
theorem r_y (T : PT K C) (e : K' = K) (h : IsP C CR H p x y) (k : ∀ b, IsR CR H b y → Q (.ref b) H) : FldAt K' "y" (.ref p) H Q := by
  subst e
  obtain ⟨dx, a, b, h1, h2, h3⟩ := h
  exact ⟨p, C, dx, _, _, rfl, h1, T.k.o.cl, T.nY, lk_y, k b h3⟩
theorem q_mkP {dvs vs : List V} (e : vs ++ dvs = [u, v]) (hu : NumV CR H u x) (hv : NumV CR H v y) (bx : Bq x) (b_y : Bq y) (k : NewP C CR Q H x y) : MkAt C (spPInit K C CR CB) dvs E vs H Q := by
  intro p dx hp hdx hne
  have e1 : Ex H (upd (upd H dx (.own p)) p (.ins C dx [])) := Ex.new2 hdx (by exact hp)
  rw [e]
  exact ⟨p, dx, u, v, rfl, upd_same, .inl ⟨x, y, hu.ex e1, hv.ex e1, bx, b_y, fun H' st h => ⟨rfl, k H' p (fun c o hc => st c o (e1 c o hc) (ne_of_none hc hp)) h⟩⟩⟩
theorem putF_xy {a b : V} : putF "y" b (putF "x" a []) = [(("x" : Str), a), (("y" : Str), b)] := by
  show (if ("x" : Str) = "y" then _ else (("x" : Str), a) :: putF "y" b []) = _
  rw [if_neg xy_ne]; rfl
end
end
section
open PySem PySem.Spec PyProof.Rows L2
theorem StayP.put {H : Hp} {p : Addr} {o : HO} : StayP p H (upd H p o) := fun c u hc hn => by rw [upd_ne hn]; exact hc
theorem StayP.trans {H H1 H2 : Hp} {p : Addr} (a : StayP p H H1) (b : StayP p H1 H2) : StayP p H H2 := fun c o hc hn => b c o (a c o hc hn) hn
theorem ex_stay {H H' : Hp} {p : Addr} (e : Ex H H') : StayP p H H' := fun c o hc _ => e c o hc
theorem IsR.putI {CR C a p dx : Addr} {H : Hp} {q : Rat} {fs : List (Str × V)} {o : HO} (h : IsR CR H a q) (hp : H p = some (.ins C dx fs)) (hf : fs.lookup ("top" : Str) = none) : IsR CR (upd H p o) a q := by
  obtain ⟨dy, h⟩ := h
  refine ⟨dy, ?_⟩
  rw [upd_ne (fun e => by
    subst e
    rw [h] at hp
    cases hp
    rw [lk_top] at hf
    cases hf)]
  exact h
end
section
open PySem PySem.Spec PyProof.Rows L2
section
variable {K : PySem.W.Frag} {C CR p : Addr} {H : Hp} {x y : Rat}
theorem IsP.tyx (T : PT K C) (h : IsP C CR H p x y) : TyX K H (.ref p) (.ref C) := by
  obtain ⟨dx, a, b, h1, _⟩ := h
  exact T.k.o.ty h1
def spPP (C CR : Addr) (g : Rat → Rat → Rat) : Sp := fun vs H Q _ => ∃ a b x y x' y', vs = [.ref a, .ref b] ∧ IsP C CR H a x y ∧ IsP C CR H b x' y' ∧ Bq x ∧ Bq y ∧ Bq x' ∧ Bq y' ∧ Bq (g x x') ∧ Bq (g y y') ∧ NewP C CR Q H (g x x') (g y y')
def spP0 (C CR : Addr) (g : Rat → Rat) : Sp := fun vs H Q _ => ∃ a x y, vs = [.ref a] ∧ IsP C CR H a x y ∧ Bq x ∧ Bq y ∧ Bq (g x) ∧ Bq (g y) ∧ NewP C CR Q H (g x) (g y)
def spPN (C CR : Addr) (g : Rat → Rat → Rat) : Sp := fun vs H Q _ => ∃ a v x y r, vs = [.ref a, v] ∧ IsP C CR H a x y ∧ NumV CR H v r ∧ Bq x ∧ Bq y ∧ Bq r ∧ Bq (g x r) ∧ Bq (g y r) ∧ NewP C CR Q H (g x r) (g y r)
def spPB (C CR : Addr) (g : Rat → Rat → Bool) : Sp := fun vs H Q _ => ∃ a x y, vs = [.ref a] ∧ IsP C CR H a x y ∧ Bq x ∧ Bq y ∧ Q (.bl (g x y)) H
def spPE (C CR : Addr) : Sp := fun vs H Q _ => ∃ a b x y x' y', vs = [.ref a, .ref b] ∧ IsP C CR H a x y ∧ IsP C CR H b x' y' ∧ Bq x ∧ Bq y ∧ Bq x' ∧ Bq y' ∧ NewV Q H (.bl (decide (x = x' ∧ y = y')))
end
end
section
open PySem PySem.Spec PyProof.Rows L2
def spCross (C CR : Addr) : Sp := fun vs H Q _ => ∃ a b x y z t, vs = [.ref a, .ref b] ∧ IsP C CR H a x y ∧ IsP C CR H b z t ∧ Sr 1950 x ∧ Sr 1950 y ∧ Sr 1950 z ∧ Sr 1950 t ∧ NewR CR Q H (x * t - y * z)
def spValue (CF C CR : Addr) : Sp := fun vs H Q _ => ∃ a b x y z t, vs = [.ref a, .ref b] ∧ IsP CF CR H a x y ∧ IsP C CR H b z t ∧ Sr 1950 x ∧ Sr 1950 y ∧ Sr 1950 z ∧ Sr 1950 t ∧ NewR CR Q H (x * z + y * t)
end
section
open PySem PySem.Spec PyProof.Rows L2
/-- v is no object of the class C -/
def NotC (K : PySem.W.Frag) (C : Addr) (H : Hp) (v : V) : Prop := ∃ t, TyX K H v t ∧ PySem.W.kitOne K t (.ref C) = some false
def spPEq (K : PySem.W.Frag) (C CR : Addr) : Sp := fun vs H Q _ => ∃ a v x y, vs = [.ref a, v] ∧ IsP C CR H a x y ∧ ((∃ b z t, v = .ref b ∧ IsP C CR H b z t ∧ Q (.bl (decide (x = z ∧ y = t))) H) ∨ (NotC K C H v ∧ Q (.bl false) H))
end
section
open PySem PySem.Spec PyProof.Rows L2 He
/-- self * other, other no number -/
def spDcl (K : PySem.W.Frag) (C : Addr) : Spd := fun vs H Q => ∃ (a : Addr) (v : V), vs = [.ref a, v] ∧ Wrong K C H v ∧ Q H
/-- the truth of a point -/
def spPTr (C CR : Addr) : Sp := fun vs H Q _ => ∃ a x y, vs = [.ref a] ∧ IsP C CR H a x y ∧ Bq x ∧ Bq y ∧ Q (.bl (!decide (x = 0 ∧ y = 0))) H
/-- the points of a list -/
def PtsL (C CR : Addr) (H : Hp) (xs : List V) (ps : List (Rat × Rat)) : Prop := xs.length = ps.length ∧ ∀ (i : Nat) (q : Rat × Rat), ps[i]? = some q → ∃ p : Addr, xs[i]? = some (V.ref p) ∧ IsP C CR H p q.1 q.2
def keysP (ps : List (Rat × Rat)) : List (List Rat) := ps.map fun q => [q.1, q.2]
def spAscP (C CR : Addr) : Sp := fun vs H Q _ => ∃ (k : Addr) (xs : List V) (ps : List (Rat × Rat)), vs = [.ref k] ∧ SeqAt1 H k xs ∧ PtsL C CR H xs ps ∧ (∀ q ∈ ps, Bq q.1 ∧ Bq q.2) ∧ ps.length ≤ 1000 ∧
  ∀ (H' : Hp) (p : Addr) (idx : List Nat), Ex H H' → H p = none → H' p = some (.lst (idx.map fun i => xs.getD i .non)) → idx.Perm (List.range ps.length) → idx.Pairwise (fun i j => leK (keysP ps) i j = true) → Q (.ref p) H'
theorem two_key {C : Addr} {H : Hp} {t a b : Addr} {x y : Rat} (h : H t = some (.tup [.ref a, .ref b])) (ha : IsR C H a x) (hb : IsR C H b y) : KeyT C H t [x, y] :=
  ⟨_, h, rfl, fun i q hq => by
    match i, hq with
    | 0, e => cases e; exact ⟨a, rfl, ha⟩
    | 1, e => cases e; exact ⟨b, rfl, hb⟩
    | i + 2, e => cases e⟩
end
section
open PySem PySem.Spec PyProof.Rows L2 He
section
variable {P : Program} {w : World} {K : PySem.W.Frag} {mg : Str → Option Value} {base : Heap} {C_Ratio C_BadNumber : Addr}
/-- Ratio * other, other no number: NotImplemented -/
theorem dcl_Ratio_mul {f : Addr} {fd : FuncData} (F : FunD K "__mul__" "Ratio.__mul__" (defArgs s_Ratio_mul) (defBody s_Ratio_mul) (defScope s_Ratio_mul) [] [] f fd) (g_Ratio : mg "Ratio" = some (.ref C_Ratio)) (TB : TBl mg) (TR : RT K mg C_Ratio) (c_is_int : Cl P w K mg base 1 "is_int" (spIsInt K)) (hB : L2.Binds K fd ["self", "other"] []) : DclR P w K mg base (L2.CX P w) 3 f (spDcl K C_Ratio) := by
  obtain ⟨oc, od, dV, kV, doc, pm, an, cdv, ct, osl, rfl, lk, hcd, _, _⟩ := F.ex
  refine dcl_of2 lk hcd sc_Ratio___mul__ (fun _ _ _ _ _ => rfl) TB.b_NotImplemented (fun vs H Q h => by obtain ⟨a, b, rfl, _⟩ := h; rfl) hB (fun A outer s H vs Q E hr h => ?_)
  obtain ⟨a, v, rfl, hw, q⟩ := h
  refine ⟨_, _, (pt_val (pe_callB (kc_isi (K := K) rfl) (by rfl) TB.b_isinstance (by decide +kernel) (pa_cons (pv 1) (pa_cons (pe_glob (v := .ref C_Ratio) (by rfl) g_Ratio rfl) pa_nil)))), (pt_val (pe_cl c_is_int hr (by decide) (by rfl) psE (pa_cons (pv 1) pa_nil))), ?_⟩
  wtm_at "of_rd"
  obtain ⟨t, ht, hc, hi⟩ := _root_.id hw
  refine r_isi (.own _) ht hc ?_
  refine ⟨false, rfl, rfl, ?_⟩
  wtm_at "of_rd"
  refine q_isInt_w hw ?_
  exact ⟨false, rfl, rfl, q⟩
end
end
section
open PySem PySem.Spec PyProof.Rows L2
/-- the order of rows, item by item -/
def lexI : List Int → List Int → Bool
  | a :: as, b :: bs => if a = b then lexI as bs else decide (a < b)
  | [], _ :: _ => true
  | _, [] => false
theorem lexI_irr : ∀ a : List Int, lexI a a = false
  | [] => rfl
  | a :: as => by unfold lexI; rw [if_pos rfl]; exact lexI_irr as
theorem lexI_asymm : ∀ a b : List Int, lexI a b = true → lexI b a = false
  | [], [], h => by cases h
  | [], _ :: _, _ => rfl
  | _ :: _, [], h => by cases h
  | a :: as, b :: bs, h => by
    unfold lexI at h ⊢
    by_cases e : a = b
    · rw [if_pos e] at h; rw [if_pos e.symm]; exact lexI_asymm as bs h
    · rw [if_neg e] at h; rw [if_neg (fun z => e z.symm)]
      rw [decide_eq_true_iff] at h; rw [decide_eq_false_iff_not]; omega
theorem lexI_step : ∀ a b c : List Int, lexI c a = true → lexI c b = true ∨ lexI b a = true
  | [], _, [], h => by cases h
  | [], _, _ :: _, h => by cases h
  | _ :: _, [], [], _ => .inr rfl
  | _ :: _, _ :: _, [], _ => .inl rfl
  | _ :: _, [], _ :: _, _ => .inr rfl
  | a :: as, b :: bs, c :: cs, h => by
    unfold lexI at h ⊢
    by_cases e : c = a
    · rw [if_pos e] at h
      subst e
      by_cases e2 : c = b
      · rw [if_pos e2, if_pos e2.symm]; exact lexI_step as bs cs h
      · rw [if_neg e2, if_neg (fun z => e2 z.symm), decide_eq_true_iff, decide_eq_true_iff]; omega
    · rw [if_neg e, decide_eq_true_iff] at h
      by_cases e2 : c = b
      · subst e2; rw [if_neg e, decide_eq_true_iff]; exact .inr h
      · rw [if_neg e2, decide_eq_true_iff]
        by_cases z : c < b
        · exact .inl z
        · right
          rw [if_neg (by omega), decide_eq_true_iff]; omega
/-- not after -/
def leI (a b : List Int) : Bool := !lexI b a
theorem leI_refl (a : List Int) : leI a a = true := by unfold leI; rw [lexI_irr]; rfl
theorem leI_trans {a b c : List Int} (h : leI a b = true) (h' : leI b c = true) : leI a c = true := by
  unfold leI at *
  rw [Bool.not_eq_true'] at *
  cases e : lexI c a with
  | false => rfl
  | true =>
    rcases lexI_step a b c e with z | z
    · rw [h'] at z; cases z
    · rw [h] at z; cases z
theorem leI_of_lt {a b : List Int} (h : lexI a b = true) : leI a b = true := by unfold leI; rw [lexI_asymm a b h]; rfl
theorem leI_of_nlt {a b : List Int} (h : lexI a b = false) : leI b a = true := by unfold leI; rw [h]; rfl
/-- one more item told by a key -/
theorem key_step {M a b x y : Int} (hx : -M ≤ x ∧ x ≤ M) (hy : -M ≤ y ∧ y ≤ M) : (a * (2 * M + 1) + x < b * (2 * M + 1) + y) ↔ (a < b ∨ (a = b ∧ x < y)) := by
  have up : ∀ {a b x y : Int}, (-M ≤ x ∧ x ≤ M) → (-M ≤ y ∧ y ≤ M) → a < b → a * (2 * M + 1) + x < b * (2 * M + 1) + y := by
    intro a b x y hx hy h
    obtain ⟨d, hd, rfl⟩ : ∃ d : Int, 0 ≤ d ∧ b = a + 1 + d := ⟨b - a - 1, by omega, by omega⟩
    have z : (a + 1 + d) * (2 * M + 1) = a * (2 * M + 1) + (2 * M + 1) + d * (2 * M + 1) := by rw [Int.add_mul, Int.add_mul, Int.one_mul]
    have n : 0 ≤ d * (2 * M + 1) := Int.mul_nonneg hd (by omega)
    rw [z]; omega
  constructor
  · intro h
    rcases Int.lt_trichotomy a b with z | z | z
    · exact .inl z
    · subst z; exact .inr ⟨rfl, by omega⟩
    · have := up hy hx z; omega
  · rintro (z | ⟨rfl, z⟩)
    · exact up hx hy z
    · omega
theorem key_step_eq {M a b x y : Int} (hx : -M ≤ x ∧ x ≤ M) (hy : -M ≤ y ∧ y ≤ M) : (a * (2 * M + 1) + x = b * (2 * M + 1) + y) ↔ (a = b ∧ x = y) := by
  constructor
  · intro h
    rcases Int.lt_trichotomy a b with z | z | z
    · have := (key_step hx hy).mpr (.inl z); omega
    · subst z; exact ⟨rfl, by omega⟩
    · have := (key_step hy hx).mpr (.inl z); omega
  · rintro ⟨rfl, rfl⟩; rfl
/-- rows' first n items are ordered as their keys -/
def KeysOf (ks : List (List Int)) (n : Nat) (key : List Int) : Prop := key.length = ks.length ∧ ∀ i j : Nat, i < ks.length → j < ks.length →
  ((key.getD i 0 < key.getD j 0) ↔ lexI ((ks.getD i []).take n) ((ks.getD j []).take n) = true) ∧ ((key.getD i 0 = key.getD j 0) ↔ (ks.getD i []).take n = (ks.getD j []).take n)
theorem lexI_snoc : ∀ (a b : List Int) (x y : Int), a.length = b.length → (lexI (a ++ [x]) (b ++ [y]) = true ↔ lexI a b = true ∨ (a = b ∧ x < y))
  | [], [], x, y, _ => by
    unfold lexI
    by_cases e : x = y
    · subst e; simp [lexI]
    · simp [lexI, e]
  | a :: as, b :: bs, x, y, h => by
    have ih := lexI_snoc as bs x y (by simpa using h)
    show lexI (a :: (as ++ [x])) (b :: (bs ++ [y])) = true ↔ lexI (a :: as) (b :: bs) = true ∨ (a :: as = b :: bs ∧ x < y)
    unfold lexI
    by_cases e : a = b
    · subst e
      rw [if_pos rfl, if_pos rfl, ih]
      simp
    · rw [if_neg e, if_neg e]
      simp [e]
  | [], _ :: _, _, _, h => by cases h
  | _ :: _, [], _, _, h => by cases h
/-- the floor of a ratio with 2*B more bits keeps the order -/
theorem fdiv_lt {a b : Int} {t : Int} (hb : 0 < b) : a.fdiv b < t ↔ a < t * b := by
  rw [Int.fdiv_eq_ediv_of_nonneg _ (by omega)]; exact Int.ediv_lt_iff_lt_mul hb
theorem le_fdiv {a b : Int} {t : Int} (hb : 0 < b) : t ≤ a.fdiv b ↔ t * b ≤ a := by
  rw [Int.fdiv_eq_ediv_of_nonneg _ (by omega)]; exact Int.le_ediv_iff_mul_le hb
/-- two ratios a/b < c/d with b d ≤ S: the floors of S times them differ the same way -/
theorem floor_key {a b c d S : Int} (hb : 0 < b) (hd : 0 < d) (hS : b * d ≤ S) (h : a * d < c * b) : (a * S).fdiv b < (c * S).fdiv d := by
  -- with t the right floor: t * d > c S - d; want a S < t b
  rw [fdiv_lt hb]
  have hS0 : 0 < S := Int.lt_of_lt_of_le (Int.mul_pos hb hd) hS
  generalize ht : (c * S).fdiv d = t
  have h1 : c * S < (t + 1) * d := by
    rw [← fdiv_lt hd, ht]; omega
  -- a S d < t b d: a d ≤ c b - 1, so a d S ≤ c b S - S, c S ≤ t d + d - 1
  have h2 : a * d * S ≤ (c * b - 1) * S := Int.mul_le_mul_of_nonneg_right (by omega) (by omega)
  have h3 : b * (c * S) ≤ b * ((t + 1) * d - 1) := Int.mul_le_mul_of_nonneg_left (by omega) (by omega)
  have h4 : a * d * S = (a * S) * d := by grind
  have h5 : (c * b - 1) * S = b * (c * S) - S := by grind
  have h6 : b * ((t + 1) * d - 1) = (t * b) * d + b * d - b := by grind
  have h7 : (a * S) * d < (t * b) * d := by omega
  exact Int.lt_of_mul_lt_mul_right h7 (by omega)
end
section
open PySem PySem.Spec PyProof.Rows L2
section
variable {K : PySem.W.Frag} {g : TG} {ts : TS} {D : Ends} {σ : L2.St} {H : Hp} {a : Addr} {xs : List V}
/-- the turns over the rest xs of a list that stays ys -/
def FL (a : Addr) (ys : List V) (g : TG) (ts : TS) (D : Ends) : List V → L2.St → Hp → Prop
  | [], σ, H => D.nx σ H
  | x :: xs, σ, H => Turn1 g ts D (fun σ' H' => H' a = some (.lst ys) ∧ FL a ys g ts D xs σ' H') x σ H
theorem f_unroll (h : H a = some (.lst xs)) (k : FL a xs g ts D xs σ H) : ForIt (Itl K a) g ts D σ H := by
  refine fL (fun i σ H => H a = some (.lst xs) ∧ FL a xs g ts D (xs.drop i) σ H) ⟨h, k⟩ (fun i σ H _ h => h.1) ?_ ?_
  · intro i x σ H hx ⟨h1, h2⟩
    obtain ⟨hi, rfl⟩ := List.getElem?_eq_some_iff.mp hx
    rw [List.drop_eq_getElem_cons hi] at h2
    exact h2
  · intro σ H ⟨h1, h2⟩
    rw [List.drop_eq_nil_of_le (Nat.le_refl _)] at h2
    exact h2
theorem fl_cons {ys : List V} {x : V} (k : g x σ H fun σ2 H2 => ts { D with nx := fun σ' H' => H' a = some (.lst ys) ∧ FL a ys g ts D xs σ' H', ct := fun σ' H' => H' a = some (.lst ys) ∧ FL a ys g ts D xs σ' H', bk := D.nx } σ2 H2) : FL a ys g ts D (x :: xs) σ H := k
theorem fl_nil {ys : List V} (k : D.nx σ H) : FL a ys g ts D [] σ H := k
theorem fl_go {ys : List V} (h : H a = some (.lst ys)) (k : FL a ys g ts D xs σ H) : H a = some (.lst ys) ∧ FL a ys g ts D xs σ H := ⟨h, k⟩
theorem a_cat {b : Addr} {zs : List V} {Q : VK} (h : H a = some (.lst xs)) (h' : H b = some (.lst zs)) (hn : Nat.ble (xs.length + zs.length) 1000 = true) (k : ∀ p H', Ex H H' → H p = none → H' p = some (.lst (xs ++ zs)) → Q (.ref p) H') : rCat (.ref a) (.ref b) H Q := r_cat h h' (Nat.le_trans (Nat.le_of_ble_eq_true hn) (by decide)) k
theorem a_trT {x y : Bool} {Q : VK} {E : XK} (e : x = y) (k : Q (.bl true) H) : spTruth [.bl x, .bl y] H Q E := ⟨x, y, rfl, by rw [decide_eq_true e]; exact k⟩
theorem a_trB {b : Bool} {QT : Bool → Hp → Prop} (k : QT b H) : rTru K (.bl b) H QT := q_truB k
theorem a_trD {x y : Bool} {Q : VK} {E : XK} (k : Q (.bl (decide (x = y))) H) : spTruth [.bl x, .bl y] H Q E := ⟨x, y, rfl, k⟩
end
section
variable {q r : Rat} {n d m e : Int}
theorem rat_sgn (h : FrQ q n d) (d0 : 0 < d) : (q < 0 ↔ n < 0) ∧ (0 < q ↔ 0 < n) ∧ (q = 0 ↔ n = 0) := by
  unfold FrQ at h
  have dp : (0 : Rat) < (d : Rat) := by exact_mod_cast d0
  have key : ∀ x : Rat, (x < 0 → x * (d : Rat) < 0) ∧ (0 < x → 0 < x * (d : Rat)) := fun x =>
    ⟨fun z => by have := Rat.mul_lt_mul_of_pos_right z dp; rw [Rat.zero_mul] at this; exact this, fun z => Rat.mul_pos z dp⟩
  have k1 := (key q).1
  have k2 := (key q).2
  rw [h] at k1 k2
  have t : q < 0 ∨ q = 0 ∨ 0 < q := by
    by_cases h1 : q < 0
    · exact .inl h1
    · by_cases h2 : q = 0
      · exact .inr (.inl h2)
      · exact .inr (.inr (by grind))
  have c1 : q < 0 → n < 0 := fun z => by exact_mod_cast k1 z
  have c2 : 0 < q → 0 < n := fun z => by exact_mod_cast k2 z
  have c3 : q = 0 → n = 0 := fun z => by
    rw [z, Rat.zero_mul] at h
    exact_mod_cast h.symm
  refine ⟨⟨c1, fun z => ?_⟩, ⟨c2, fun z => ?_⟩, ⟨c3, fun z => ?_⟩⟩
  · rcases t with t | t | t
    · exact t
    · have := c3 t; omega
    · have := c2 t; omega
  · rcases t with t | t | t
    · have := c1 t; omega
    · have := c3 t; omega
    · exact t
  · rcases t with t | t | t
    · have := c1 t; omega
    · exact t
    · have := c2 t; omega
section
variable (h : FrQ q n d) (d0 : 0 < d)
include h d0
theorem cmp_eqI : decide (q = (m : Rat)) = decide (n = m * d) := by
  rw [decide_eq_decide]
  have z := (rat_sgn (frq_subI (m := m) h) d0).2.2
  constructor
  · intro e; have := z.mp (by rw [e]; exact Rat.sub_self); omega
  · intro e; have := z.mpr (by omega); grind
theorem cmp_ltI : decide (q < (m : Rat)) = decide (n < m * d) := by
  rw [decide_eq_decide]
  have z := (rat_sgn (frq_subI (m := m) h) d0).1
  constructor
  · intro e; have := z.mp (by grind); omega
  · intro e; have := z.mpr (by omega); grind
theorem cmp_gtI : decide ((m : Rat) < q) = decide (m * d < n) := by
  rw [decide_eq_decide]
  have z := (rat_sgn (frq_subI (m := m) h) d0).2.1
  constructor
  · intro e; have := z.mp (by grind); omega
  · intro e; have := z.mpr (by omega); grind
theorem cmp_leI : decide (q ≤ (m : Rat)) = decide (n ≤ m * d) := by
  have z := cmp_gtI (m := m) h d0
  rw [decide_eq_decide] at *
  rw [← Rat.not_lt, z]; omega
theorem cmp_geI : decide ((m : Rat) ≤ q) = decide (m * d ≤ n) := by
  have z := cmp_ltI (m := m) h d0
  rw [decide_eq_decide] at *
  rw [← Rat.not_lt, z]; omega
end
section
variable (h : FrQ q n d) (g : FrQ r m e) (d0 : 0 < d) (e0 : 0 < e)
include h g d0 e0
theorem cmp_eq : decide (q = r) = decide (n * e = m * d) := by
  rw [decide_eq_decide]
  have z := (rat_sgn (frq_sub h g) (Int.mul_pos d0 e0)).2.2
  constructor
  · intro e; have := z.mp (by rw [e]; exact Rat.sub_self); omega
  · intro e; have := z.mpr (by omega); grind
theorem cmp_lt : decide (q < r) = decide (n * e < m * d) := by
  rw [decide_eq_decide]
  have z := (rat_sgn (frq_sub h g) (Int.mul_pos d0 e0)).1
  constructor
  · intro e; have := z.mp (by grind); omega
  · intro e; have := z.mpr (by omega); grind
theorem cmp_gt : decide (r < q) = decide (m * d < n * e) := by
  rw [decide_eq_decide]
  have z := (rat_sgn (frq_sub h g) (Int.mul_pos d0 e0)).2.1
  constructor
  · intro e; have := z.mp (by grind); omega
  · intro e; have := z.mpr (by omega); grind
theorem cmp_le : decide (q ≤ r) = decide (n * e ≤ m * d) := by
  have z := cmp_gt h g d0 e0
  rw [decide_eq_decide] at *
  rw [← Rat.not_lt, z]; omega
theorem cmp_ge : decide (r ≤ q) = decide (m * d ≤ n * e) := by
  have z := cmp_lt h g d0 e0
  rw [decide_eq_decide] at *
  rw [← Rat.not_lt, z]; omega
theorem cmp_ne : (!decide (q = r)) = !decide (n * e = m * d) := by rw [cmp_eq h g d0 e0]
end
end
theorem r_seqL {ts us : TS} {D : Ends} {σ : L2.St} {H : Hp} (P : L2.St → Hp → Prop) (k : ∀ N : L2.St → Hp → Prop, (∀ σ' H', P σ' H' → N σ' H') → ts { D with nx := N } σ H) (hP : ∀ σ' H', P σ' H' → us D σ' H') : tSeq ts us D σ H := k (us D) hP
theorem frq_neg2 {q : Rat} {n d : Int} (h : FrQ q n d) : FrQ q (-n) (-d) := by
  unfold FrQ at *; push_cast; grind
theorem frq_floor' {q : Rat} {n d : Int} (h : FrQ q n d) (d0 : d ≠ 0) : q.floor = n.fdiv d := by
  rcases Int.lt_or_gt_of_ne d0 with z | z
  · rw [frq_floor (frq_neg2 h) (by omega), Int.neg_fdiv_neg]
  · exact frq_floor h z
theorem frq_ne {q : Rat} {n d : Int} (h : FrQ q n d) (n0 : n ≠ 0) : q ≠ 0 := fun z => by
  unfold FrQ at h
  rw [z, Rat.zero_mul] at h
  exact n0 (by exact_mod_cast h.symm)
theorem frq_div {q r : Rat} {n d m e : Int} (h : FrQ q n d) (g : FrQ r m e) (m0 : m ≠ 0) : FrQ (q / r) (n * e) (d * m) := by
  have r0 := frq_ne g m0
  unfold FrQ at *; push_cast; grind
theorem frq_divI {q : Rat} {n d m : Int} (h : FrQ q n d) (m0 : m ≠ 0) : FrQ (q / (m : Rat)) n (d * m) := by
  have r0 : (m : Rat) ≠ 0 := by exact_mod_cast m0
  unfold FrQ at *; push_cast; grind
theorem frq_Idiv {q : Rat} {n d m : Int} (h : FrQ q n d) (n0 : n ≠ 0) : FrQ ((m : Rat) / q) (m * d) n := by
  have q0 := frq_ne h n0
  unfold FrQ at *; push_cast; grind
theorem frq_mod {q r : Rat} {n d m e f : Int} (h : FrQ q n d) (g : FrQ r m e) : FrQ (q - r * (f : Rat)) (n * e - f * m * d) (d * e) := by
  unfold FrQ at *; push_cast; grind
theorem frq_modI {q : Rat} {n d m f : Int} (h : FrQ q n d) : FrQ (q - (m : Rat) * (f : Rat)) (n - f * m * d) d := by
  unfold FrQ at *; push_cast; grind
theorem frq_Imod {q : Rat} {n d m f : Int} (h : FrQ q n d) : FrQ ((m : Rat) - q * (f : Rat)) (m * d - f * n) d := by
  unfold FrQ at *; push_cast; grind
theorem Sr.floor {n : Nat} {q : Rat} (h : Sr n q) : Sb (n + 1) q.floor := by
  rw [Rat.floor_def]
  exact Nat.lt_of_le_of_lt (Int.natAbs_ediv_le_natAbs _ _) h.1
section
variable {K : PySem.W.Frag} {C CB a p : Addr} {H : Hp} {Q : VK} {q r : Rat} {E : XK} {n : Int} {v : V}
theorem a_RF {g : Rat → Rat → Int} (h : IsR C H a q) (hv : NumV C H v r) (b : Bq q) (b' : Bq r) (h0 : r ≠ 0) (k : ∀ H', Ex H H' → Q (.int (g q r)) H') : spRF C CB g [.ref a, v] H Q E := ⟨a, v, q, r, rfl, h, hv, b, b', .inr ⟨h0, k⟩⟩
theorem a_RFI {g : Rat → Rat → Int} (h : IsR C H a q) (b : Bq q) (b' : Bt n) (h0 : q ≠ 0) (k : ∀ H', Ex H H' → Q (.int (g q (n : Rat))) H') : spRFI C CB g [.ref a, .int n] H Q E := ⟨a, q, n, rfl, h, b, b', .inr ⟨h0, k⟩⟩
theorem a_RM {g : Rat → Rat → Rat} (h : IsR C H a q) (hv : NumV C H v r) (b : Bq q) (b' : Bq r) (h0 : r ≠ 0) (b1 : Bq (r * ((q / r).floor : Rat))) (b2 : Bt (q / r).floor) (k : ∀ H' p, Ex H H' → IsR C H' p (g q r) → Q (.ref p) H') : spRM C CB g [.ref a, v] H Q E := ⟨a, v, q, r, rfl, h, hv, b, b', .inr ⟨h0, b1, b2, k⟩⟩
theorem a_RMI {g : Rat → Rat → Rat} (h : IsR C H a q) (b : Bq q) (b' : Bt n) (h0 : q ≠ 0) (b1 : Bq (q * (((n : Rat) / q).floor : Rat))) (b2 : Bt ((n : Rat) / q).floor) (k : ∀ H' p, Ex H H' → IsR C H' p (g q (n : Rat)) → Q (.ref p) H') : spRMI C CB g [.ref a, .int n] H Q E := ⟨a, q, n, rfl, h, b, b', .inr ⟨h0, b1, b2, k⟩⟩
theorem a_ov (h : IsR C H a q) (hv : NumV C H v r) (b : Bq q) (b' : Bq r) (h0 : r ≠ 0) (k : ∀ H' p, Ex H H' → IsR C H' p (q / r) → Q (.ref p) H') : spOver K C CB [.ref a, v] H Q E := ⟨a, v, q, rfl, h, b, .inr ⟨r, hv, b', .inr ⟨h0, k⟩⟩⟩
end
theorem Sb.pow {x : Int} {a : Nat} (h : Sb a x) : ∀ i : Nat, Sb (a * i + 1) (x ^ i) := fun i => by
  unfold Sb at *
  rw [Int.natAbs_pow]
  have h1 : x.natAbs ^ i ≤ (2 ^ a) ^ i := Nat.pow_le_pow_left (Nat.le_of_lt h) i
  rw [← Nat.pow_mul] at h1
  exact Nat.lt_of_le_of_lt h1 (Nat.pow_lt_pow_right (by decide) (by omega))
theorem frq_pow {q : Rat} {n d : Int} (h : FrQ q n d) : ∀ k : Nat, FrQ (q ^ k) (n ^ k) (d ^ k)
  | 0 => by unfold FrQ; rw [Rat.pow_zero, Int.pow_zero, Int.pow_zero]; grind
  | k + 1 => by rw [Rat.pow_succ, Int.pow_succ, Int.pow_succ]; exact frq_mul (frq_pow h k) h
theorem Sr.pow {q : Rat} {a : Nat} (h : Sr a q) (k : Nat) : Sr ((a + 1) * k + 1) (q ^ k) := by
  rw [← rat_pow]
  exact Sz.divInt (Nat.lt_of_lt_of_le (Sb.pow h.num k) (Nat.pow_le_pow_right (by decide) (by omega))) (Nat.lt_of_lt_of_le (Sb.pow h.den k) (Nat.pow_le_pow_right (by decide) (by omega))) (by omega)
section
variable {K : PySem.W.Frag} {C CB a p : Addr} {H : Hp} {Q : VK} {q r : Rat} {E : XK} {n : Int} {v : V} {s : Str}
theorem a_RP {m : Nat} (e : n = (m : Int)) (h : IsR C H a q) (b : Bq q) (hm : Nat.ble (m + 1) 120 = true) (hb : (((q.den : Int)) ^ m).natAbs < 2 ^ 9000) (k : ∀ H' p, Ex H H' → IsR C H' p (q ^ m) → Q (.ref p) H') : spRP C [.ref a, .int n] H Q E := by
  subst e; exact ⟨a, q, m, rfl, h, b, Nat.le_of_ble_eq_true hm, hb, k⟩
theorem a_cS {sp : Sp} (h : IsR C H a q) (k : sp [.ref a, .str s] H Q E) : rO C sp E (isAny K C) (.ref a) (.str s) H Q := o_O h (o_any tyS (nf_of sub_str)) k
theorem a_cN {sp : Sp} (h : IsR C H a q) (k : sp [.ref a, .non] H Q E) : rO C sp E (isAny K C) (.ref a) .non H Q := o_O h (o_any tyN (nf_of sub_none)) k
theorem a_cT {sp : Sp} {xs : List V} (h : IsR C H a q) (h' : H p = some (.tup xs)) (k : sp [.ref a, .ref p] H Q E) : rO C sp E (isAny K C) (.ref a) (.ref p) H Q := o_O h (o_any (tyT h') (nf_of sub_tuple)) k
theorem a_nS {sp : Sp} (h : IsR C H a q) (k : sp [.ref a, .str s] H (kNB Q) E) : rNO C sp E (isAny K C) (.ref a) (.str s) H Q := o_NO h (o_any tyS (nf_of sub_str)) k
theorem wrS (T : ClsP K C) : Wrong K C H (.str s) := ⟨_, tyS, kit_str T, .inl ki_si⟩
theorem wrN (T : ClsP K C) : Wrong K C H .non := ⟨_, tyN, kit_none T, .inl ki_ni⟩
theorem wrT (T : ClsP K C) {xs : List V} (h' : H p = some (.tup xs)) : Wrong K C H (.ref p) := ⟨_, tyT h', kit_tup T, .inl ki_ti⟩
theorem wrL (T : ClsP K C) {xs : List V} (h' : H p = some (.lst xs)) : Wrong K C H (.ref p) := ⟨_, tyL h', kit_lst T, .inl ki_li⟩
theorem a_sl {xs : List V} {lo hi : Option Int} (h : H a = some (.lst xs)) (k : ∀ p H', Ex H H' → H p = none → H' p = some (.lst (cutV xs lo hi)) → Q (.ref p) H') : rSlL K (.ref a) lo hi H Q := r_slL h k
end
theorem Le.get {H H' : Hp} {a : Addr} {o : HO} (e : Le H H') (h : H a = some o) (s : Stab o) : H' a = some o := e a o h s
theorem Fr.le {C o a : Addr} {H H' : Hp} {n d : Int} {q : Rat} (h : Fr C H o a n d q) (e : Le H H') : Fr C H' o a n d q := ⟨e _ _ h.t trivial, h.r.le e, h.e, h.d0, h.sn, h.sd⟩
end
open PySem PySem.Spec PyProof.Rows L2
local macro_rules | `(tactic| wtm_at "of_uqx") => `(tactic| fail)
section
open PySem PySem.Spec PyProof.Rows L2
end
open PySem PySem.Spec PyProof.Rows L2
local macro_rules | `(tactic| wtm_at "of_uq") => `(tactic| first
  | assumption | (apply IsR.ex; assumption; wtm_at "of_uq") | (apply NumV.ex; assumption; wtm_at "of_uq") | (apply num_r; wtm_at "of_uq") | exact num_i | (apply Ex.get; assumption; wtm_at "of_uq") | (apply Le.tup; assumption; wtm_at "of_uq") | (apply Le.lst; assumption; wtm_at "of_uq") | (apply IsR.le; assumption; wtm_at "of_uq") | wtm_at "of_uqx")
section
open PySem PySem.Spec PyProof.Rows L2
theorem st_go {σ τ : L2.St} {i : Nat} {v : Option V} {H : Hp} {QS : L2.St → Hp → Prop} (e : σ.set i v = τ) (k : QS τ H) : QS (σ.set i v) H := by rw [e]; exact k
theorem st_go0 {N : List Str} {vs : List V} {τ : L2.St} {H : Hp} {QS : L2.St → Hp → Prop} (e : L2.start N vs = τ) (k : QS τ H) : QS (L2.start N vs) H := by rw [e]; exact k
section
variable {K : PySem.W.Frag} {mg : Str → Option Value} {C CB a b p l : Addr} {H : Hp} {Q : VK} {q r : Rat} {E : XK} {sp : Sp} {n i j : Int} {m s : Str} {xs ys zs : List V} {v : V} {σ : L2.St} {g : TG} {gs : TGs} {ts : TS} {D : Ends} {QS : L2.St → Hp → Prop} {R : It → Hp → Prop} {RP : Addr → Prop}
theorem x_var {i : Nat} (k : ∃ v, σ[i]? = some (some v) ∧ Q v H) : tVar i σ H Q := k
theorem x_iT (k : ∃ xs v, H p = some (.tup xs) ∧ atI xs j = some v ∧ Q v H) : rIxT K (.ref p) (.int j) H Q := by obtain ⟨xs, v, h, e, k⟩ := k; exact r_iT1 h e k
theorem x_iL (k : ∃ xs v, H p = some (.lst xs) ∧ atI xs j = some v ∧ Q v H) : rIxL K (.ref p) (.int j) H Q := by obtain ⟨xs, v, h, e, k⟩ := k; exact r_iL1 h e k
theorem x_lt (k : Nat.ble xs.length 1000 = true ∧ ∀ p H', Ex H H' → H p = none → H' p = some (.tup xs) → Q (.ref p) H') : LaidT xs H Q := r_lq k.1 k.2
theorem x_ll (k : Nat.ble xs.length 1000 = true ∧ ∀ p H', Ex H H' → H p = none → H' p = some (.lst xs) → Q (.ref p) H') : LaidL xs H Q := r_ll k.1 k.2
theorem x_gT {n : Nat} (k : ∃ xs, H a = some (.tup xs) ∧ xs.length = n ∧ gs xs σ H QS) : gTup K n gs (.ref a) σ H QS := by obtain ⟨xs, h, e, k⟩ := k; exact r_gTup h e k
theorem x_cat (k : ∃ xs zs, H a = some (.lst xs) ∧ H b = some (.lst zs) ∧ Nat.ble (xs.length + zs.length) 1000 = true ∧ ∀ p H', Ex H H' → H p = none → H' p = some (.lst (xs ++ zs)) → Q (.ref p) H') : rCat (.ref a) (.ref b) H Q := by obtain ⟨xs, zs, h, e, c, k⟩ := k; exact a_cat h e c k
theorem x_itL (k : ∃ xs, H a = some (.lst xs) ∧ R (Itl K a) H) : ItL K (.ref a) H R := by obtain ⟨xs, h, k⟩ := k; exact i_L h k
theorem x_un (k : ∃ xs, H a = some (.lst xs) ∧ FL a xs g ts D xs σ H) : ForIt (Itl K a) g ts D σ H := by obtain ⟨xs, h, k⟩ := k; exact f_unroll h k
theorem x_go (k : H a = some (.lst ys) ∧ FL a ys g ts D xs σ H) : H a = some (.lst ys) ∧ FL a ys g ts D xs σ H := k
theorem x_mul (k : Bt i ∧ Bt j ∧ Q (.int (i * j)) H) : rI CMulA (fun i j => .int (i * j)) (.int i) (.int j) H Q := r_Ibt k.1 k.2.1 k.2.2
theorem x_dz (k : j ≠ 0 ∧ j.natAbs < 2 ^ 9000 ∧ Q (.int (i.fdiv j)) H) : rI CDivZ (fun i j => .int (i.fdiv j)) (.int i) (.int j) H Q := a_dz k.1 k.2.1 k.2.2
theorem x_top (k : ∃ mg C q, RT K mg C ∧ IsR C H a q ∧ Q (.int q.num) H) : FldAt K "top" (.ref a) H Q := by obtain ⟨mg, C, q, T, h, k⟩ := k; exact r_top T rfl h k
theorem x_bot (k : ∃ mg C q, RT K mg C ∧ IsR C H a q ∧ Q (.int (q.den : Int)) H) : FldAt K "bottom" (.ref a) H Q := by obtain ⟨mg, C, q, T, h, k⟩ := k; exact r_bot T rfl h k
theorem x_trT {x y : Bool} (k : x = y ∧ Q (.bl true) H) : spTruth [.bl x, .bl y] H Q E := a_trT k.1 k.2
theorem x_2 (k : ∃ q r, IsR C H a q ∧ IsR C H p r ∧ sp [.ref a, .ref p] H Q E) : rO C sp E (isIns C) (.ref a) (.ref p) H Q := by obtain ⟨q, r, h, h', k⟩ := k; exact a_2 h h' k
theorem x_I (k : ∃ q, IsR C H a q ∧ sp [.ref a, .int n] H Q E) : rO C sp E isInt (.ref a) (.int n) H Q := by obtain ⟨q, h, k⟩ := k; exact a_I h k
theorem x_c2 (k : ∃ mg q r, RT K mg C ∧ IsR C H a q ∧ IsR C H p r ∧ sp [.ref a, .ref p] H Q E) : rO C sp E (isAny K C) (.ref a) (.ref p) H Q := by obtain ⟨mg, q, r, T, h, h', k⟩ := k; exact a_c2 T h h' k
theorem x_cI (k : ∃ q, IsR C H a q ∧ sp [.ref a, .int n] H Q E) : rO C sp E (isAny K C) (.ref a) (.int n) H Q := by obtain ⟨q, h, k⟩ := k; exact a_cI h k
theorem x_cS (k : ∃ q, IsR C H a q ∧ sp [.ref a, .str s] H Q E) : rO C sp E (isAny K C) (.ref a) (.str s) H Q := by obtain ⟨q, h, k⟩ := k; exact a_cS h k
theorem x_cN (k : ∃ q, IsR C H a q ∧ sp [.ref a, .non] H Q E) : rO C sp E (isAny K C) (.ref a) .non H Q := by obtain ⟨q, h, k⟩ := k; exact a_cN h k
theorem x_cT (k : ∃ q xs, IsR C H a q ∧ H p = some (.tup xs) ∧ sp [.ref a, .ref p] H Q E) : rO C sp E (isAny K C) (.ref a) (.ref p) H Q := by obtain ⟨q, xs, h, h', k⟩ := k; exact a_cT h h' k
theorem x_n2 (k : ∃ mg q r, RT K mg C ∧ IsR C H a q ∧ IsR C H p r ∧ sp [.ref a, .ref p] H (kNB Q) E) : rNO C sp E (isAny K C) (.ref a) (.ref p) H Q := by obtain ⟨mg, q, r, T, h, h', k⟩ := k; exact a_n2 T h h' k
theorem x_nS (k : ∃ q, IsR C H a q ∧ sp [.ref a, .str s] H (kNB Q) E) : rNO C sp E (isAny K C) (.ref a) (.str s) H Q := by obtain ⟨q, h, k⟩ := k; exact a_nS h k
theorem x_Or (k : ∃ q, IsR C H a q ∧ sp [.ref a, .int n] H Q E) : rOr C sp E (.int n) (.ref a) H Q := by obtain ⟨q, h, k⟩ := k; exact o_Or h k
theorem x_U (k : ∃ q, IsR C H a q ∧ sp [.ref a] H Q E) : rU1 C sp E (.ref a) H Q := by obtain ⟨q, h, k⟩ := k; exact o_U h k
theorem x_C {kk : VK → VK} (k : ∃ q, IsR C H a q ∧ sp [.ref a] H (kk Q) E) : rC1 C sp E kk [.ref a] H Q := by obtain ⟨q, h, k⟩ := k; exact o_C h k
theorem x_T {QT : Bool → Hp → Prop} (k : ∃ q, IsR C H a q ∧ sp [.ref a] H (fun v H' => ∃ b, v = .bl b ∧ QT b H') E) : ∃ a' dx fs, V.ref a = .ref a' ∧ H a' = some (.ins C dx fs) ∧ sp [.ref a'] H (fun v H' => ∃ b, v = .bl b ∧ QT b H') E := by obtain ⟨q, h, k⟩ := k; exact o_T h k
theorem x_M (k : ∃ q, IsR C H a q ∧ (!(m == ("top" : Str)) && !(m == ("bottom" : Str))) = true ∧ RP a) : ∃ a' dx fs, V.ref a = .ref a' ∧ H a' = some (.ins C dx fs) ∧ fs.lookup m = none ∧ RP a' := by obtain ⟨q, h, e, k⟩ := k; exact a_M h e k
theorem x_R1 {g : Rat → Rat → Rat} (k : ∃ q r, IsR C H a q ∧ NumV C H v r ∧ Bq q ∧ Bq r ∧ ∀ H' p, Ex H H' → IsR C H' p (g q r) → Q (.ref p) H') : spR1 C g (fun _ _ => True) [.ref a, v] H Q E := by obtain ⟨q, r, h, h', b, b', k⟩ := k; exact a_R1 h h' b b' k
theorem x_RI {g : Rat → Rat → Rat} (k : ∃ q, IsR C H a q ∧ Bq q ∧ Bt n ∧ ∀ H' p, Ex H H' → IsR C H' p (g q (n : Rat)) → Q (.ref p) H') : spRI C g (fun _ _ => True) [.ref a, .int n] H Q E := by obtain ⟨q, h, b, b', k⟩ := k; exact a_RI h b b' k
theorem x_R0 {g : Rat → Rat} (k : ∃ q, IsR C H a q ∧ Bq q ∧ ∀ H' p, Ex H H' → IsR C H' p (g q) → Q (.ref p) H') : spR0 C g [.ref a] H Q E := by obtain ⟨q, h, b, k⟩ := k; exact a_R0 h b k
theorem x_RV {g : Rat → V} (k : ∃ q, IsR C H a q ∧ Bq q ∧ Q (g q) H) : spRV C g [.ref a] H Q E := by obtain ⟨q, h, b, k⟩ := k; exact a_RV h b k
theorem x_RB {g : Rat → Rat → Bool} (k : ∃ q r, IsR C H a q ∧ NumV C H v r ∧ Bq q ∧ Bq r ∧ ∀ H', Ex H H' → Q (.bl (g q r)) H') : spRB C g [.ref a, v] H Q E := by obtain ⟨q, r, h, h', b, b', k⟩ := k; exact a_lt h h' b b' k
theorem x_Eq (k : ∃ q r, IsR C H a q ∧ NumV C H v r ∧ Q (.bl (decide (q = r))) H) : spREq K C [.ref a, v] H Q E := by obtain ⟨q, r, h, h', k⟩ := k; exact q_REq h h' k
theorem x_EqS (k : ∃ q, IsR C H a q ∧ ClsP K C ∧ Q (.bl false) H) : spREq K C [.ref a, .str s] H Q E := by obtain ⟨q, h, T, k⟩ := k; exact q_REqW h (wrS T) k
theorem x_EqN (k : ∃ q, IsR C H a q ∧ ClsP K C ∧ Q (.bl false) H) : spREq K C [.ref a, .non] H Q E := by obtain ⟨q, h, T, k⟩ := k; exact q_REqW h (wrN T) k
theorem x_EqT (k : ∃ q xs, IsR C H a q ∧ ClsP K C ∧ H p = some (.tup xs) ∧ Q (.bl false) H) : spREq K C [.ref a, .ref p] H Q E := by obtain ⟨q, xs, h, T, h', k⟩ := k; exact q_REqW h (wrT T h') k
theorem x_RF {g : Rat → Rat → Int} (k : ∃ q r, IsR C H a q ∧ NumV C H v r ∧ Bq q ∧ Bq r ∧ r ≠ 0 ∧ ∀ H', Ex H H' → Q (.int (g q r)) H') : spRF C CB g [.ref a, v] H Q E := by obtain ⟨q, r, h, h', b, b', z, k⟩ := k; exact a_RF h h' b b' z k
theorem x_RFI {g : Rat → Rat → Int} (k : ∃ q, IsR C H a q ∧ Bq q ∧ Bt n ∧ q ≠ 0 ∧ ∀ H', Ex H H' → Q (.int (g q (n : Rat))) H') : spRFI C CB g [.ref a, .int n] H Q E := by obtain ⟨q, h, b, b', z, k⟩ := k; exact a_RFI h b b' z k
theorem x_RM {g : Rat → Rat → Rat} (k : ∃ q r, IsR C H a q ∧ NumV C H v r ∧ Bq q ∧ Bq r ∧ r ≠ 0 ∧ Bq (r * ((q / r).floor : Rat)) ∧ Bt (q / r).floor ∧ ∀ H' p, Ex H H' → IsR C H' p (g q r) → Q (.ref p) H') : spRM C CB g [.ref a, v] H Q E := by obtain ⟨q, r, h, h', b, b', z, b1, b2, k⟩ := k; exact a_RM h h' b b' z b1 b2 k
theorem x_RMI {g : Rat → Rat → Rat} (k : ∃ q, IsR C H a q ∧ Bq q ∧ Bt n ∧ q ≠ 0 ∧ Bq (q * (((n : Rat) / q).floor : Rat)) ∧ Bt ((n : Rat) / q).floor ∧ ∀ H' p, Ex H H' → IsR C H' p (g q (n : Rat)) → Q (.ref p) H') : spRMI C CB g [.ref a, .int n] H Q E := by obtain ⟨q, h, b, b', z, b1, b2, k⟩ := k; exact a_RMI h b b' z b1 b2 k
theorem x_ov (k : ∃ q r, IsR C H a q ∧ NumV C H v r ∧ Bq q ∧ Bq r ∧ r ≠ 0 ∧ ∀ H' p, Ex H H' → IsR C H' p (q / r) → Q (.ref p) H') : spOver K C CB [.ref a, v] H Q E := by obtain ⟨q, r, h, h', b, b', z, k⟩ := k; exact a_ov h h' b b' z k
theorem x_RP (k : ∃ q : Rat, 0 ≤ n ∧ IsR C H a q ∧ Bq q ∧ Nat.ble (n.toNat + 1) 120 = true ∧ (((q.den : Int)) ^ n.toNat).natAbs < 2 ^ 9000 ∧ ∀ H' p, Ex H H' → IsR C H' p (q ^ n.toNat) → Q (.ref p) H') : spRP C [.ref a, .int n] H Q E := by obtain ⟨q, h0, h, b, hm, hb, k⟩ := k; exact a_RP (Int.toNat_of_nonneg h0).symm h b hm hb k
theorem x_LP {x : Int} (k : 0 ≤ n ∧ Sb 400 x ∧ Nat.ble n.toNat 7 = true ∧ Q (.int (x ^ n.toNat)) H) : spLPow [.int x, .int n] H Q E := ⟨x, n.toNat, by rw [Int.toNat_of_nonneg k.1], k.2.1, Nat.le_of_ble_eq_true k.2.2.1, k.2.2.2⟩
theorem sb_log {x : Int} {a : Nat} (h : Sb a x) (ha : a < 1920) : x.natAbs.log2 < 1920 := PySem.Flt.log2_lt_of (by decide) (h.lt (by omega))
theorem x_RS (k : ∃ q, IsR C H a q ∧ q.num.natAbs.log2 < 1920 ∧ q.den.log2 < 1920 ∧ Q (.str (strQ q)) H) : spRS C [.ref a] H Q E := by obtain ⟨q, h, b1, b2, k⟩ := k; exact ⟨a, q, rfl, h, b1, b2, k⟩
theorem a_kS {x : Str} (k : Q (.str x) H) : kS Q (.str x) H := ⟨x, rfl, k⟩
theorem a_neSS {x : Str} (k : Q (.bl false) H) : rNe (.str x) (.str x) H Q := r_neS (by rw [decide_eq_true rfl]; exact k)
theorem x_rOf (k : ∃ q, NumV C H v q ∧ Bq q ∧ ∀ H' p, Ex H H' → IsR C H' p q → Q (.ref p) H') : spRatioOf K C CB [v] H Q E := by obtain ⟨q, h, b, k⟩ := k; exact q_ratioOf h b k
theorem x_num (k : ∃ q, NumV C H v q ∧ Q (.bl true) H) : spIsNum K C [v] H Q E := by obtain ⟨q, h, k⟩ := k; exact q_isNum h k
theorem a_nnF {A B : Prop} (h : B) : if (!!false) = true then A else B := h
theorem a_nnT {A B : Prop} (h : A) : if (!!true) = true then A else B := h
theorem x_mk {dvs vs : List V} (k : ∃ i j : Int, vs ++ dvs = [.int i, .int j] ∧ j ≠ 0 ∧ j.natAbs < 2 ^ 9000 ∧ ∀ H' p, Ex H H' → IsR C H' p (Rat.divInt i j) → Q (.ref p) H') : MkAt C (spRInit K C CB) dvs E vs H Q := by obtain ⟨i, j, e, h0, h1, k⟩ := k; exact q_mk e h0 h1 k
theorem x_rIs {t b : Int} (k : ∃ q, IsR C H p q ∧ Bq q ∧ Bt t ∧ Bt b ∧ FrQ q t b ∧ Q (.bl true) H) : spRatioIs C [.ref p, .int t, .int b] H Q E := by obtain ⟨q, h, hq, ht, hb, e, k⟩ := k; exact q_rIs h hq ht hb e k
theorem x_wh (k : i = j ∧ Q (.bl true) H) : spWhole K [.int i, .int j] H Q E := q_whT k.1 k.2
theorem x_gcd {a b : Int} (k : Bt a ∧ Bt b ∧ Q (.int (Int.gcd a b : Int)) H) : spII (fun a b => ((Int.gcd a b : Nat) : Int)) [.int a, .int b] H Q E := ⟨a, b, rfl, k.1, k.2.1, k.2.2⟩
theorem x_addS {x y : Str} (k : x.length + y.length ≤ sizeLine ∧ Q (.str (x ++ y)) H) : rAddS (.str x) (.str y) H Q := q_addS k.1 k.2
end
end
open PySem PySem.Spec PyProof.Rows L2
local macro_rules | `(tactic| wtm_at "of_nst") => `(tactic| (simp only [L2.start, List.set_cons_zero, List.set_cons_succ, List.map_cons, List.map_nil, List.length_cons, List.length_nil, Nat.reduceAdd, Nat.reduceSub, List.replicate_succ, List.replicate_zero, List.cons_append, List.nil_append]; rfl))
section
open PySem PySem.Spec PyProof.Rows L2
end
open PySem PySem.Spec PyProof.Rows L2
local macro_rules | `(tactic| wtm_at "of_szi") => `(tactic| with_reducible first | assumption | (apply Sr.floor; wtm_at "of_szi") | exact Sb.one | (apply Sb.mul <;> wtm_at "of_szi") | (apply Sb.add <;> wtm_at "of_szi") | (apply Sb.sub <;> wtm_at "of_szi") | (apply Sb.neg; wtm_at "of_szi") | (apply Sb.abs; wtm_at "of_szi") | (apply Sb.absi; wtm_at "of_szi") | (apply Sb.fdiv; wtm_at "of_szi") | (apply Sb.pow; wtm_at "of_szi") | (refine Sb.small ?_; decide) | (apply Sr.num; wtm_at "of_szi") | (apply Sr.den; wtm_at "of_szi") | (apply Sr.int; wtm_at "of_szi") | (apply Sr.add <;> wtm_at "of_szi") | (apply Sr.sub <;> wtm_at "of_szi") | (apply Sr.mul <;> wtm_at "of_szi") | (apply Sr.neg; wtm_at "of_szi") | (apply Sr.abs; wtm_at "of_szi") | (apply Sr.div <;> wtm_at "of_szi") | (apply Sr.pow; wtm_at "of_szi") | (apply Sr.divInt <;> wtm_at "of_szi"))
section
open PySem PySem.Spec PyProof.Rows L2
end
open PySem PySem.Spec PyProof.Rows L2
local macro_rules | `(tactic| wtm_at "of_cx") => `(tactic| with_unfolding_all rfl)
section
open PySem PySem.Spec PyProof.Rows L2
end
open PySem PySem.Spec PyProof.Rows L2
local macro_rules | `(tactic| wtm_at "of_ra1") => `(tactic| first
  | with_reducible refine st_go (by wtm_at "of_nst") ?_
  | with_reducible refine st_go0 (by wtm_at "of_nst") ?_
  | with_reducible first
    | refine r_cons ?_ | refine r_nil ?_ | refine r_op ?_ | refine r_seq ?_ | refine r_asg ?_ | refine r_ret ?_ | refine r_name ?_ | refine r_c1 ?_ | refine r_c ?_
    | refine r_test ?_ | refine r_B ?_ | refine r_and ?_ | refine r_or ?_ | refine r_not ?_ | refine r_blP ?_ | refine r_tup ?_ | refine r_lst ?_ | refine r_gCons ?_ | refine r_gNil ?_
    | refine iteT ?_ | refine iteF ?_ | refine iteNT ?_ | refine iteNF ?_
    | refine r_ifS ?_ | refine r_next ?_ | refine r_un ?_ | refine r_cb ?_ | refine r_ck ?_ | refine r_cm ?_ | refine r_fld ?_
    | refine r_I0 ?_ | refine r_U ?_ | refine r_eqI ?_ | refine r_neI ?_ | refine r_drop ?_ | refine r_retN ?_ | refine r_gcd ?_ | refine r_sfld ?_
    | refine r_andV ?_ | refine r_orV ?_ | refine r_notV ?_ | refine r_ifE ?_ | refine r_tr ?_ | refine r_rz ?_
    | refine r_par ?_ | refine r_par3 ?_ | refine r_parP ?_ | refine r_parP3 ?_ | refine r_part ?_ | refine r_nopart ?_ | refine r_intP ?_ | refine r_for ?_ | refine r_iL ?_ | refine r_iT ?_ | refine r_iR1 ?_ | refine r_iR2 ?_ | refine r_iR3 ?_ | refine r_iZ ?_ | refine r_lc ?_ | refine r_sl ?_ | refine r_bm ?_ | refine r_turn1 ?_ | refine r_lturn ?_ | refine r_yes ?_
    | refine r_dget ?_ | refine r_dput ?_ | refine r_gsub ?_ | refine q_intI ?_ | refine q_intB ?_
    | refine a_nnF ?_ | refine a_nnT ?_ | refine a_kS ?_ | refine a_neSS ?_ | refine fl_cons ?_ | refine fl_nil ?_ | refine a_kNB ?_ | refine a_id ?_ | refine a_kB ?_ | refine q_absI ?_ | refine r_eqS ?_ | refine r_neS ?_ | refine a_trB ?_
  | ((with_reducible refine x_var ?_); refine ⟨_, by wtm_at "of_cx", ?_⟩)
  | ((with_reducible refine x_mul ?_); refine ⟨by wtm_at "of_szb", by wtm_at "of_szb", ?_⟩)
  | ((with_reducible refine x_iT ?_); refine ⟨_, _, by wtm_at "of_uq", by wtm_at "of_cx", ?_⟩)
  | ((with_reducible refine x_iL ?_); refine ⟨_, _, by wtm_at "of_uq", by wtm_at "of_cx", ?_⟩)
  | ((with_reducible refine x_lt ?_); refine ⟨by wtm_at "of_cx", ?_⟩; intro _ _ _ _ _)
  | ((with_reducible refine x_ll ?_); refine ⟨by wtm_at "of_cx", ?_⟩; intro _ _ _ _ _)
  | ((with_reducible refine x_gT ?_); refine ⟨_, by wtm_at "of_uq", by wtm_at "of_cx", ?_⟩)
  | ((with_reducible refine x_go ?_); refine ⟨by wtm_at "of_uq", ?_⟩)
  | ((with_reducible refine x_top ?_); refine ⟨_, _, _, by assumption, by wtm_at "of_uq", ?_⟩)
  | ((with_reducible refine x_bot ?_); refine ⟨_, _, _, by assumption, by wtm_at "of_uq", ?_⟩)
  | ((with_reducible refine x_2 ?_); refine ⟨_, _, by wtm_at "of_uq", by wtm_at "of_uq", ?_⟩)
  | ((with_reducible refine x_I ?_); refine ⟨_, by wtm_at "of_uq", ?_⟩)
  | ((with_reducible refine x_cI ?_); refine ⟨_, by wtm_at "of_uq", ?_⟩)
  | ((with_reducible refine x_c2 ?_); refine ⟨_, _, _, by assumption, by wtm_at "of_uq", by wtm_at "of_uq", ?_⟩)
  | ((with_reducible refine x_cT ?_); refine ⟨_, _, by wtm_at "of_uq", by wtm_at "of_uq", ?_⟩)
  | ((with_reducible refine x_cS ?_); refine ⟨_, by wtm_at "of_uq", ?_⟩)
  | ((with_reducible refine x_cN ?_); refine ⟨_, by wtm_at "of_uq", ?_⟩)
  | ((with_reducible refine x_n2 ?_); refine ⟨_, _, _, by assumption, by wtm_at "of_uq", by wtm_at "of_uq", ?_⟩)
  | ((with_reducible refine x_nS ?_); refine ⟨_, by wtm_at "of_uq", ?_⟩)
  | ((with_reducible refine x_Or ?_); refine ⟨_, by wtm_at "of_uq", ?_⟩)
  | ((with_reducible refine x_U ?_); refine ⟨_, by wtm_at "of_uq", ?_⟩)
  | ((with_reducible refine x_C ?_); refine ⟨_, by wtm_at "of_uq", ?_⟩)
  | ((with_reducible refine x_T ?_); refine ⟨_, by wtm_at "of_uq", ?_⟩)
  | ((with_reducible refine x_M ?_); refine ⟨_, by wtm_at "of_uq", by decide +kernel, ?_⟩)
  | ((with_reducible refine x_R1 ?_); refine ⟨_, _, by wtm_at "of_uq", by wtm_at "of_uq", by wtm_at "of_szb", by wtm_at "of_szb", ?_⟩; intro _ _ _ _)
  | ((with_reducible refine x_RI ?_); refine ⟨_, by wtm_at "of_uq", by wtm_at "of_szb", by wtm_at "of_szb", ?_⟩; intro _ _ _ _)
  | ((with_reducible refine x_R0 ?_); refine ⟨_, by wtm_at "of_uq", by wtm_at "of_szb", ?_⟩; intro _ _ _ _)
  | ((with_reducible refine x_RV ?_); refine ⟨_, by wtm_at "of_uq", by wtm_at "of_szb", ?_⟩)
  | ((with_reducible refine x_RB ?_); refine ⟨_, _, by wtm_at "of_uq", by wtm_at "of_uq", by wtm_at "of_szb", by wtm_at "of_szb", ?_⟩; intro _ _)
  | ((with_reducible refine x_EqS ?_); refine ⟨_, by wtm_at "of_uq", by assumption, ?_⟩)
  | ((with_reducible refine x_EqN ?_); refine ⟨_, by wtm_at "of_uq", by assumption, ?_⟩)
  | ((with_reducible refine x_Eq ?_); refine ⟨_, _, by wtm_at "of_uq", by wtm_at "of_uq", ?_⟩)
  | ((with_reducible refine x_EqT ?_); refine ⟨_, _, by wtm_at "of_uq", by assumption, by wtm_at "of_uq", ?_⟩)
  | ((with_reducible refine x_dz ?_); refine ⟨by omega, by wtm_at "of_szb", ?_⟩)
  | ((with_reducible refine x_RF ?_); refine ⟨_, _, by wtm_at "of_uq", by wtm_at "of_uq", by wtm_at "of_szb", by wtm_at "of_szb", by assumption, ?_⟩; intro _ _)
  | ((with_reducible refine x_RFI ?_); refine ⟨_, by wtm_at "of_uq", by wtm_at "of_szb", by wtm_at "of_szb", by assumption, ?_⟩; intro _ _)
  | ((with_reducible refine x_RM ?_); refine ⟨_, _, by wtm_at "of_uq", by wtm_at "of_uq", by wtm_at "of_szb", by wtm_at "of_szb", by assumption, by wtm_at "of_szb", by wtm_at "of_szb", ?_⟩; intro _ _ _ _)
  | ((with_reducible refine x_RMI ?_); refine ⟨_, by wtm_at "of_uq", by wtm_at "of_szb", by wtm_at "of_szb", by assumption, by wtm_at "of_szb", by wtm_at "of_szb", ?_⟩; intro _ _ _ _)
  | ((with_reducible refine x_ov ?_); refine ⟨_, _, by wtm_at "of_uq", by wtm_at "of_uq", by wtm_at "of_szb", by wtm_at "of_szb", by assumption, ?_⟩; intro _ _ _ _)
  | ((with_reducible refine x_RP ?_); refine ⟨_, by decide, by wtm_at "of_uq", by wtm_at "of_szb", by wtm_at "of_cx", by wtm_at "of_szb", ?_⟩; intro _ _ _ _)
  | ((with_reducible refine x_LP ?_); refine ⟨by decide, by assumption, by wtm_at "of_cx", ?_⟩)
  | ((with_reducible refine x_RS ?_); refine ⟨_, by wtm_at "of_uq", by assumption, by assumption, ?_⟩)
  | ((with_reducible refine x_mk ?_); refine ⟨_, _, by wtm_at "of_cx", by first | decide | omega | assumption, by wtm_at "of_szb", ?_⟩; intro _ _ _ _)
  | ((with_reducible refine x_rOf ?_); refine ⟨_, by wtm_at "of_uq", by wtm_at "of_szb", ?_⟩; intro _ _ _ _)
  | ((with_reducible refine x_num ?_); refine ⟨_, by wtm_at "of_uq", ?_⟩)
  | ((with_reducible refine x_rIs ?_); refine ⟨_, by wtm_at "of_uq", by wtm_at "of_szb", by wtm_at "of_szb", by wtm_at "of_szb", by assumption, ?_⟩)
  | ((with_reducible refine x_wh ?_); refine ⟨by assumption, ?_⟩)
  | ((with_reducible refine x_gcd ?_); refine ⟨by wtm_at "of_szb", by wtm_at "of_szb", ?_⟩)
  | ((with_reducible refine x_trT ?_); refine ⟨by first | assumption | rfl, ?_⟩)
  | ((with_reducible refine x_cat ?_); refine ⟨_, _, by wtm_at "of_uq", by wtm_at "of_uq", by wtm_at "of_cx", ?_⟩; intro _ _ _ _ _; try dsimp only [List.cons_append, List.nil_append] at *)
  | ((with_reducible refine x_itL ?_); refine ⟨_, by wtm_at "of_uq", ?_⟩)
  | ((with_reducible refine x_un ?_); refine ⟨_, by wtm_at "of_uq", ?_⟩))
section
open PySem PySem.Spec PyProof.Rows L2
def PowRows (C : Addr) (H : Hp) (p : Addr) (q : Rat) : Prop := ∃ a0 a1 a2 a3 a7 b0 b1 b2 b3 b7 : Addr, H p = some (.lst [.ref a0, .ref a1, .ref a2, .ref a3, .ref a7]) ∧ H a0 = some (.tup [.ref b0, .int 0]) ∧ H a1 = some (.tup [.ref b1, .int 1]) ∧ H a2 = some (.tup [.ref b2, .int 2]) ∧ H a3 = some (.tup [.ref b3, .int 3]) ∧ H a7 = some (.tup [.ref b7, .int 7]) ∧
  IsR C H b0 (q ^ Int.toNat 0) ∧ IsR C H b1 (q ^ Int.toNat 1) ∧ IsR C H b2 (q ^ Int.toNat 2) ∧ IsR C H b3 (q ^ Int.toNat 3) ∧ IsR C H b7 (q ^ Int.toNat 7)
theorem str_empty_app (x : Str) : Str.empty ++ x = x := by
  obtain ⟨c⟩ := x
  show Str.mk (#[] ++ c) = ⟨c⟩
  rw [Array.empty_append]
theorem frq_num_den {q : Rat} {n d : Int} (h : FrQ q n d) (d0 : 0 < d) : q.num = n.fdiv ((Int.gcd n d : Nat) : Int) ∧ (q.den : Int) = d.fdiv ((Int.gcd n d : Nat) : Int) := by
  have e := h.eq (by omega)
  have a := made_num (a := n) (b := d) (by omega)
  have b := made_den (a := n) (b := d) (by omega)
  rw [if_neg (by omega)] at a b
  rw [e]
  exact ⟨a.symm, b.symm⟩
theorem den_one_iff {q : Rat} {n d : Int} (h : FrQ q n d) (d0 : 0 < d) : ((q.den : Int) = 1) ↔ (d = ((Int.gcd n d : Nat) : Int)) := by
  have e := (frq_num_den h d0).2
  have g0 : (Int.gcd n d : Int) ≠ 0 := by
    have := Int.gcd_ne_zero_right (a := n) (b := d) (by omega); omega
  obtain ⟨c, hc⟩ := Int.gcd_dvd_right (a := n) (b := d)
  have e2 : (q.den : Int) = c := by
    rw [e]; conv => lhs; arg 1; rw [hc]
    exact Int.mul_fdiv_cancel_left _ g0
  rw [e2]
  constructor
  · intro z; rw [z, Int.mul_one] at hc; exact hc
  · intro z
    have : ((Int.gcd n d : Nat) : Int) * c = ((Int.gcd n d : Nat) : Int) * 1 := by rw [← hc, Int.mul_one, ← z]
    exact Int.eq_of_mul_eq_mul_left g0 this
theorem sgn_int {q : Rat} {n d : Int} (h : FrQ q n d) (d0 : 0 < d) : (if q.num < 0 then (-1 : Int) else if 0 < q.num then 1 else 0) = (if decide (0 < n) = true then 1 else 0) - (if decide (n < 0) = true then 1 else 0) := by
  obtain ⟨a, b, c⟩ := rat_sgn h d0
  have z := rat_sgn (frq_self q) (den_pos q)
  rw [z.1] at a
  rw [z.2.1] at b
  simp only [decide_eq_true_eq]
  by_cases z : n < 0
  · rw [if_pos (a.mpr z), if_pos z, if_neg (by omega)]; rfl
  · rw [if_neg (fun y => z (a.mp y)), if_neg z]
    by_cases y : 0 < n
    · rw [if_pos (b.mpr y), if_pos y]; rfl
    · rw [if_neg (fun x => y (b.mp x)), if_neg y]; rfl
def spMixed (C : Addr) : Sp := fun vs H Q _ => ∃ o a m n d q, vs = [.ref o, .int m, .ref a] ∧ Fr C H o a n d q ∧ Sb 400 m ∧ ∀ H', Ex H H' → Q (.bl true) H'
def spFew : Sp := fun vs H Q _ => ∃ o n d, vs = [.ref o] ∧ H o = some (.tup [.int n, .int d]) ∧ (∀ f : Int, f = 5 ∨ f = 4 → Q (.int f) H)
def spShown (C : Addr) : Sp := fun vs H Q _ => ∃ o a n d q, vs = [.ref o, .ref a] ∧ Fr C H o a n d q ∧ ∀ H', Ex H H' → Q (.bl true) H'
def spFloors (C : Addr) : Sp := fun vs H Q _ => ∃ o t a b i n d m e qa qb, vs = [.ref o, .ref t, .int i, .ref a, .ref b] ∧ Fr C H o a n d qa ∧ Fr C H t b m e qb ∧ Sb 400 i ∧ ∀ H', Ex H H' → Q (.bl true) H'
end
section
open PySem PySem.Spec PyProof.Rows L2
section
variable {X : Cx} {K : PySem.W.Frag}
theorem kc_maxL (h : X.K = K) (hc : X.calm = true) : CallR X (.builtin "max") (rMax K) := by subst h; exact cr_max hc
theorem kc_sortedI (h : X.K = K) : CallR X (.builtin "sorted") (rSortedI K) := by subst h; exact cr_sortedI
theorem kop_ltT (h : X.K = K) (hu : X.A.units < cLine) : OpR X (compareOp .Lt) (rLtT K) := by subst h; exact op_ltT hu
theorem kpi_enum {e : Expr} {ta : TA} {p pos tpos : Pos} {elts : List Expr} {kk : Nat} (h : X.K = K) (hg : Gl X "enumerate") (hm : X.mg "enumerate" = none) (ha : PA X [e] ta) (hs : starEach [e] X.env = [(false, eval e X.env)] := by rfl) :
    L2.PI X (.Tuple elts kk tpos) (.Call (.Name "enumerate" p) [e] [] pos) (iEnum K ta) := by subst h; exact pi_enum hg hm ha hs
end
end
section
open PySem PySem.Spec PyProof.Rows L2
/-- rows of whole numbers -/
def RowsI (H : Hp) (k : Addr) (ks : List (List Int)) : Prop := ∃ xs, H k = some (.lst xs) ∧ xs.length = ks.length ∧ ∀ (i : Nat) (r : List Int), ks[i]? = some r → ∃ p : Addr, xs[i]? = some (V.ref p) ∧ H p = some (.tup (r.map V.int))
/-- rows of one length, not of great numbers -/
def IOk (m B : Nat) (ks : List (List Int)) : Prop := ∀ r ∈ ks, r.length = m ∧ ∀ x ∈ r, Sb B x
abbrev leR (ks : List (List Int)) (i j : Nat) : Bool := leI (ks.getD i []) (ks.getD j [])
/-- places in order -/
def Sorted (ks : List (List Int)) (idx : List Nat) : Prop := idx.Perm (List.range ks.length) ∧ idx.Pairwise (fun i j => leR ks i j = true)
def spRowKeys : Sp := fun vs H Q _ => ∃ (k : Addr) (ks : List (List Int)) (m B : Nat), vs = [.ref k] ∧ RowsI H k ks ∧ IOk m B ks ∧ 1 ≤ m ∧ m ≤ 2 ∧ B ≤ 20000 ∧ 0 < ks.length ∧ ks.length ≤ 1000 ∧
  ∀ (H' : Hp) (p : Addr) (key : List Int), Ex H H' → H' p = some (.lst (key.map V.int)) → KeysOf ks m key → Q (.ref p) H'
def spOrd : Sp := fun vs H Q _ => ∃ (k : Addr) (ks : List (List Int)) (m B : Nat), vs = [.ref k] ∧ RowsI H k ks ∧ IOk m B ks ∧ 1 ≤ m ∧ m ≤ 2 ∧ B ≤ 20000 ∧ ks.length ≤ 1000 ∧
  ∀ (H' : Hp) (p : Addr) (idx : List Nat), Ex H H' → H' p = some (.lst (idx.map nat)) → Sorted ks idx → Q (.ref p) H'
/-- keys of Ratios -/
def RKeys (qs : List Rat) (key : List Int) : Prop := key.length = qs.length ∧ (∀ x ∈ key, Sb 20000 x) ∧ ∀ i j : Nat, i < qs.length → j < qs.length → ((key.getD i 0 < key.getD j 0) ↔ qs.getD i 0 < qs.getD j 0) ∧ ((key.getD i 0 = key.getD j 0) ↔ qs.getD i 0 = qs.getD j 0)
def spOrderKeys (C : Addr) : Sp := fun vs H Q _ => ∃ (k : Addr) (xs : List V) (qs : List Rat), vs = [.ref k] ∧ H k = some (.lst xs) ∧ RsL C H xs qs ∧ (∀ q ∈ qs, Bq q) ∧ 0 < qs.length ∧ qs.length ≤ 1000 ∧
  ∀ (H' : Hp) (p : Addr) (key : List Int), Ex H H' → H' p = some (.lst (key.map V.int)) → RKeys qs key → Q (.ref p) H'
end
section
open PySem PySem.Spec PyProof.Rows L2
section
variable {K : PySem.W.Frag} {σ : L2.St} {H : Hp} {Q : VK} {te : TE} {g : TG} {tt : TT} {vs : List Nat} {a b : Addr} {xs ys : List V}
/-- what is made so far: the first i of f -/
def PI (f : Nat → Int) (H : Hp) (i : Nat) (acc : List V) (H2 : Hp) : Prop := Ex H H2 ∧ acc = ((List.range i).map f).map V.int
theorem lputI {f : Nat → Int} {L : Addr} {acc : List V} {i : Nat} {z : Int} {H2 : Hp} (h : H2 L = some (.lst acc)) (e : Ex H H2) (hL : H L = none) (ha : acc = ((List.range i).map f).map V.int) (hz : z = f i) (hi : i ≤ 1000) : LPut L (PI f H (i + 1)) (.int z) H2 :=
  lput h (by rw [ha]; simp; omega) ⟨e.put hL, by rw [ha, hz, List.range_succ, List.map_append, List.map_append]; rfl⟩
theorem lLI (f : Nat → Int) (ha : H a = some (.lst xs))
    (hs : ∀ L i x acc H', H L = none → Ex H H' → H' L = some (.lst acc) → acc = ((List.range i).map f).map V.int → xs[i]? = some x → LTurn g tt te vs σ L (PI f H (i + 1)) x H')
    (hd : ∀ L H', H L = none → Ex H H' → H' L = some (.lst (((List.range xs.length).map f).map V.int)) → Q (.ref L) H') : LcIt (Itl K a) g tt te vs σ H Q := by
  refine lL (fun L i acc H' => PI f H i acc H') (fun L hL H' e h => ⟨e, rfl⟩) (fun L i acc H' hL hi h => h.1 _ _ ha) (fun L i x acc H' hL hx h hacc => hs L i x acc H' hL h.1 hacc h.2 hx) (fun L acc H' hL h1 h2 => hd L H' hL h2.1 (by rw [← h2.2]; exact h1))
/-- over zip(xs, ys) -/
theorem lZI (f : Nat → Int) (ha : H a = some (.lst xs)) (hb : H b = some (.lst ys)) (hl : xs.length = ys.length)
    (hs : ∀ L i x y T acc H', H L = none → Ex H H' → H' L = some (.lst acc) → acc = ((List.range i).map f).map V.int → xs[i]? = some x → ys[i]? = some y → H' T = some (.tup [x, y]) → LTurn g tt te vs σ L (PI f H (i + 1)) (.ref T) H')
    (hd : ∀ L H', H L = none → Ex H H' → H' L = some (.lst (((List.range xs.length).map f).map V.int)) → Q (.ref L) H') : LcIt (Itz K a b) g tt te vs σ H Q := by
  intro L hL
  refine lc_it (walk_zip (xs := xs) (ys := ys) (n := xs.length) (by rw [hl]; exact (Nat.min_self _).symm)) (fun i H' => ∃ acc, H' L = some (.lst acc) ∧ PI f H i acc H') ⟨[], upd_same, Ex.new hL, rfl⟩
    (fun i H' hi ⟨acc, h1, h2⟩ => ⟨SqL.of (h2.1 _ _ ha), SqL.of (h2.1 _ _ hb)⟩) (fun i x H1 H' hi ⟨acc, h1, h2⟩ hy => ?_) (fun H' ⟨acc, h1, h2⟩ => hd L H' hL h2.1 (by rw [← h2.2]; exact h1))
  obtain ⟨T, x1, y1, rfl, hT, rfl, hx, hy⟩ := hy
  exact hs L i x1 y1 T acc _ hL (h2.1.trans (Ex.new hT)) (by rw [upd_ne (ne_of_none h1 hT)]; exact h1) h2.2 hx hy upd_same
theorem q_maxL {f : Nat → Int} {n : Nat} (h : H a = some (.lst (((List.range n).map f).map V.int))) (hn : 0 < n) (k : ∀ m, (∃ i, i < n ∧ m = f i) → (∀ i, i < n → f i ≤ m) → Q (.int m) H) : rMax K [.ref a] H Q :=
  ⟨a, _, rfl, SqL.of h, by simpa using hn, fun m hm hy => k m (by obtain ⟨i, hi, e⟩ := List.mem_map.mp hm; exact ⟨i, List.mem_range.mp hi, e.symm⟩) (fun i hi => hy _ (List.mem_map.mpr ⟨i, List.mem_range.mpr hi, rfl⟩))⟩
theorem r_bits {to : TE} (k : to σ H fun x H1 => ∃ i : Int, x = .int i ∧ Q (.int (Builtin.Int.intBits i : Nat)) H1) : tBits to σ H Q := k
theorem nat_len {n : Nat} {f : Nat → Int} : ((List.range n).map f).length = n := by simp
theorem getD_range {n i : Nat} {f : Nat → Int} (h : i < n) : ((List.range n).map f).getD i 0 = f i := by simp [List.getD, h]
end
end
section
open PySem PySem.Spec PyProof.Rows L2
theorem rs_at {C : Addr} {H : Hp} {xs : List V} {qs : List Rat} {i : Nat} {x : V} (h : RsL C H xs qs) (hx : xs[i]? = some x) : ∃ p, x = .ref p ∧ i < qs.length ∧ IsR C H p (qs.getD i 0) := by
  have hi : i < qs.length := by rw [← h.1]; exact (List.getElem?_eq_some_iff.mp hx).1
  obtain ⟨p, h1, h2⟩ := h.2 i _ (List.getElem?_eq_getElem hi)
  rw [hx] at h1; cases h1
  exact ⟨p, rfl, hi, by rw [List.getD_eq_getElem?_getD, List.getElem?_eq_getElem hi]; exact h2⟩
/-- the key of a Ratio: its floor with n more bits -/
def rkey (n : Nat) (q : Rat) : Int := (q.num * 2 ^ n).fdiv (q.den : Int)
theorem rkey_lt {n B : Nat} {q r : Rat} (hn : n = 2 * B) (hq : q.den < 2 ^ B) (hr : r.den < 2 ^ B) : rkey n q < rkey n r ↔ q < r := by
  have P : ∀ {q r : Rat}, q.den < 2 ^ B → r.den < 2 ^ B → q < r → rkey n q < rkey n r := by
    intro q r hq hr h
    refine floor_key (by exact_mod_cast q.den_pos) (by exact_mod_cast r.den_pos) ?_ ?_
    · subst hn
      have : q.den * r.den ≤ 2 ^ B * 2 ^ B := Nat.mul_le_mul (Nat.le_of_lt hq) (Nat.le_of_lt hr)
      rw [show 2 * B = B + B from by omega, Int.pow_add]
      exact_mod_cast this
    · exact (Rat.lt_iff _ _).mp h
  constructor
  · intro h
    by_cases z : q = r
    · subst z; omega
    · rcases rlt_tri z with z | z
      · exact z
      · have := P hr hq z; omega
  · exact P hq hr
theorem rkey_eq {n B : Nat} {q r : Rat} (hn : n = 2 * B) (hq : q.den < 2 ^ B) (hr : r.den < 2 ^ B) : rkey n q = rkey n r ↔ q = r := by
  constructor
  · intro h
    by_cases z : q = r
    · exact z
    · rcases rlt_tri z with z | z
      · have := (rkey_lt hn hq hr).mpr z; omega
      · have := (rkey_lt hn hr hq).mpr z; omega
  · intro h; rw [h]
theorem den_bits {q : Rat} {B : Nat} (h : Builtin.Int.intBits (q.den : Int) ≤ B) : q.den < 2 ^ B := by
  have d0 : q.den ≠ 0 := q.den_nz
  unfold Builtin.Int.intBits at h
  rw [if_neg (by simp [d0])] at h
  rw [← Nat.log2_lt d0]
  have : ((q.den : Int)).natAbs = q.den := rfl
  rw [this] at h
  omega
theorem fdiv_sb {a b : Int} {n : Nat} (hb : 0 < b) (h : Sb n a) : Sb n (a.fdiv b) := by
  unfold Sb at *
  generalize hM : (2 : Nat) ^ n = M at *
  have p1 : a.fdiv b < (M : Int) := by
    rw [fdiv_lt hb]
    have : (M : Int) * 1 ≤ (M : Int) * b := Int.mul_le_mul_of_nonneg_left (by omega) (by omega)
    omega
  have p2 : -(M : Int) + 1 ≤ a.fdiv b := by
    rw [le_fdiv hb]
    have : (-(M : Int) + 1) * b ≤ (-(M : Int) + 1) * 1 := by
      have : ((M : Int) - 1) * 1 ≤ ((M : Int) - 1) * b := Int.mul_le_mul_of_nonneg_left (by omega) (by omega)
      have e1 : (-(M : Int) + 1) * b = -(((M : Int) - 1) * b) := by rw [← Int.neg_mul]; congr 1; omega
      omega
    omega
  omega
theorem rkey_sb {n : Nat} {q : Rat} (hq : Bq q) (hn : n ≤ 8000) : Sb 20000 (rkey n q) := by
  refine fdiv_sb (by exact_mod_cast q.den_pos) ?_
  have h1 := hq.1
  unfold Bt at h1
  unfold Sb
  rw [Int.natAbs_mul, Int.natAbs_pow]
  have : q.num.natAbs * 2 ^ n < 2 ^ 4000 * 2 ^ n := Nat.mul_lt_mul_of_pos_right h1 (Nat.pow_pos (by decide))
  refine Nat.lt_of_lt_of_le this ?_
  rw [← Nat.pow_add]
  exact Nat.pow_le_pow_right (by decide) (by omega)
end
section
open PySem PySem.Spec PyProof.Rows L2
theorem getD_mem {ks : List (List Int)} {i : Nat} (h : i < ks.length) : ks.getD i [] ∈ ks := by rw [List.getD_eq_getElem?_getD, List.getElem?_eq_getElem h]; exact List.getElem_mem h
theorem row_at {H : Hp} {xs : List V} {ks : List (List Int)} {m B i : Nat} {x : V} (hl : xs.length = ks.length) (hat : ∀ (i : Nat) (r : List Int), ks[i]? = some r → ∃ p : Addr, xs[i]? = some (V.ref p) ∧ H p = some (.tup (r.map V.int))) (ok : IOk m B ks) (hx : xs[i]? = some x) :
    ∃ p, x = .ref p ∧ i < ks.length ∧ H p = some (.tup ((ks.getD i []).map V.int)) ∧ (ks.getD i []).length = m ∧ ∀ z ∈ ks.getD i [], Sb B z := by
  have hi : i < ks.length := by rw [← hl]; exact (List.getElem?_eq_some_iff.mp hx).1
  have e : ks[i]? = some (ks.getD i []) := by rw [List.getD_eq_getElem?_getD, List.getElem?_eq_getElem hi]; rfl
  obtain ⟨p, h1, h2⟩ := hat i _ e
  rw [hx] at h1; cases h1
  exact ⟨p, rfl, hi, h2, ok _ (getD_mem hi)⟩
theorem ent_mem {r : List Int} {j : Nat} (h : j < r.length) : r.getD j 0 ∈ r := by rw [List.getD_eq_getElem?_getD, List.getElem?_eq_getElem h]; exact List.getElem_mem h
theorem ent_at {r : List Int} {j : Nat} (h : j < r.length) : atI (r.map V.int) (j : Int) = some (V.int (r.getD j 0)) := by
  refine atI_nat ?_
  rw [List.getElem?_map, List.getElem?_eq_getElem h, List.getD_eq_getElem?_getD, List.getElem?_eq_getElem h]; rfl
/-- keys given by f order the rows' first n items -/
def KF (ks : List (List Int)) (n : Nat) (f : Nat → Int) : Prop := ∀ i j : Nat, i < ks.length → j < ks.length →
  ((f i < f j) ↔ lexI ((ks.getD i []).take n) ((ks.getD j []).take n) = true) ∧ ((f i = f j) ↔ (ks.getD i []).take n = (ks.getD j []).take n)
theorem take_one {r : List Int} (h : 1 ≤ r.length) : r.take 1 = [r.getD 0 0] := by
  cases r with
  | nil => simp at h
  | cons a as => rfl
theorem take_more {r : List Int} {n : Nat} (h : n < r.length) : r.take (n + 1) = r.take n ++ [r.getD n 0] := by
  rw [List.take_succ, List.getD_eq_getElem?_getD, List.getElem?_eq_getElem h]; rfl
theorem KF.one {ks : List (List Int)} {m B : Nat} (ok : IOk m B ks) (h : 1 ≤ m) : KF ks 1 (fun i => (ks.getD i []).getD 0 0) := by
  intro i j hi hj
  rw [take_one (by rw [(ok _ (getD_mem hi)).1]; exact h), take_one (by rw [(ok _ (getD_mem hj)).1]; exact h)]
  constructor
  · unfold lexI
    by_cases e : (ks.getD i []).getD 0 0 = (ks.getD j []).getD 0 0
    · rw [if_pos e]; show ((ks.getD i []).getD 0 0 < (ks.getD j []).getD 0 0) ↔ _; rw [e]; simp [lexI]
    · rw [if_neg e, decide_eq_true_iff]
  · simp
theorem KF.step {ks : List (List Int)} {m B n : Nat} {M : Int} {f : Nat → Int} (ok : IOk m B ks) (hn : n < m) (h : KF ks n f) (hM : ∀ i, i < ks.length → -M ≤ (ks.getD i []).getD n 0 ∧ (ks.getD i []).getD n 0 ≤ M) :
    KF ks (n + 1) (fun i => f i * (2 * M + 1) + (ks.getD i []).getD n 0) := by
  intro i j hi hj
  have li := (ok _ (getD_mem hi)).1
  have lj := (ok _ (getD_mem hj)).1
  obtain ⟨h1, h2⟩ := h i j hi hj
  rw [take_more (by rw [li]; exact hn), take_more (by rw [lj]; exact hn)]
  constructor
  · show (f i * (2 * M + 1) + _ < f j * (2 * M + 1) + _) ↔ _
    rw [key_step (hM i hi) (hM j hj), lexI_snoc _ _ _ _ (by rw [List.length_take, List.length_take, li, lj]), h1, h2]
  · show (f i * (2 * M + 1) + _ = f j * (2 * M + 1) + _) ↔ _
    rw [key_step_eq (hM i hi) (hM j hj), h2]
    constructor
    · rintro ⟨e1, e2⟩; rw [e1, e2]
    · intro e
      have := List.append_inj e (by rw [List.length_take, List.length_take, li, lj])
      exact ⟨this.1, by simpa using this.2⟩
theorem KF.keys {ks : List (List Int)} {n : Nat} {f : Nat → Int} (h : KF ks n f) : KeysOf ks n ((List.range ks.length).map f) :=
  ⟨by simp, fun i j hi hj => by rw [getD_range hi, getD_range hj]; exact h i j hi hj⟩
end
section
open PySem PySem.Spec PyProof.Rows L2
theorem i_R2 {H : Hp} {R : It → Hp → Prop} {i j : Int} {n : Nat} (hi : 0 ≤ i ∧ i ≤ 1000000) (e : j = i + (n : Int)) (hn : n ≤ 1000000) (k : R (Itr i n) H) : ItR2 [.int i, .int j] H R := by
  have e62 : (2 : Int) ^ 62 = 4611686018427387904 := by decide
  refine ⟨i, j, rfl, by rw [e62]; omega, ?_⟩
  rw [show (j - i).toNat = n from by omega]
  exact k
end
section
open PySem PySem.Spec PyProof.Rows L2
section
variable {K : PySem.W.Frag} {σ : L2.St} {H : Hp} {ta : TA} {g : TG} {ts : TS} {D : Ends} {a : Addr} {xs : List V} {R : It → Hp → Prop}
theorem r_iE (k : ta σ H fun vs H1 => ∃ (a : Addr) (xs : List V), vs = [.ref a] ∧ SqL K H1 a xs ∧ R (Ite K a) H1) : iEnum K ta σ H R := k
/-- for over enumerate(xs) -/
theorem fE (Pv : Nat → L2.St → Hp → Prop) (h0 : Pv 0 σ H) (hq : ∀ i σ H, Pv i σ H → H a = some (.lst xs))
    (hs : ∀ (i : Nat) (x : V) (T : Addr) (σ : L2.St) (H H' : Hp), xs[i]? = some x → Pv i σ H → Ex H H' → H' T = some (.tup [.int (i : Nat), x]) → Turn1 g ts D (Pv (i + 1)) (.ref T) σ H') (hd : ∀ σ H, Pv xs.length σ H → D.nx σ H) : ForIt (Ite K a) g ts D σ H := by
  refine for_it (walk_enum (xs := xs)) Pv h0 (fun i σ H hi h => SqL.of (hq i σ H h)) (fun i x σ H H' hi h hy => ?_) hd
  obtain ⟨T, x1, y1, rfl, hT, rfl, hx, hy⟩ := hy
  cases hx
  exact hs i y1 T σ H _ hy h (Ex.new hT) upd_same
end
/-- HT's order of rows is ours -/
theorem lexLt_eq : ∀ a b : List Int, HT.lexLt a b = lexI a b
  | [], [] => rfl
  | [], _ :: _ => rfl
  | _ :: _, [] => rfl
  | a :: as, b :: bs => by
    unfold HT.lexLt lexI
    rw [lexLt_eq as bs]
end
section
open PySem PySem.Spec PyProof.Rows L2
/-- order so far: the places below n, in order -/
def SortedN (ks : List (List Int)) (n : Nat) (idx : List Nat) : Prop := idx.Perm (List.range n) ∧ idx.Pairwise (fun i j => leR ks i j = true)
theorem SortedN.len {ks : List (List Int)} {n : Nat} {idx : List Nat} (h : SortedN ks n idx) : idx.length = n := by rw [h.1.length_eq, List.length_range]
theorem SortedN.lt {ks : List (List Int)} {n : Nat} {idx : List Nat} (h : SortedN ks n idx) {i : Nat} (hi : i ∈ idx) : i < n := List.mem_range.mp (h.1.mem_iff.mp hi)
/-- one more, put at its place -/
theorem SortedN.insert {ks : List (List Int)} {n a : Nat} {idx : List Nat} (h : SortedN ks n idx) (ha : a ≤ n)
    (hlo : ∀ j, 0 < a → idx[a - 1]? = some j → lexI (ks.getD n []) (ks.getD j []) = false) (hhi : ∀ k j, a ≤ k → idx[k]? = some j → lexI (ks.getD n []) (ks.getD j []) = true) : SortedN ks (n + 1) (idx.take a ++ [n] ++ idx.drop a) := by
  obtain ⟨hp, hs⟩ := h
  refine ⟨?_, ?_⟩
  · rw [List.range_succ]
    have e1 : (idx.take a ++ [n] ++ idx.drop a).Perm (idx ++ [n]) := by
      have : (idx.take a ++ [n] ++ idx.drop a).Perm (idx.take a ++ idx.drop a ++ [n]) := by
        rw [List.append_assoc, List.append_assoc]
        exact (List.Perm.refl _).append List.perm_append_comm
      rw [List.take_append_drop] at this
      exact this
    exact e1.trans (hp.append (List.Perm.refl _))
  · have hst : (idx.take a).Pairwise (fun i j => leR ks i j = true) := hs.sublist (List.take_sublist _ _)
    have hsd : (idx.drop a).Pairwise (fun i j => leR ks i j = true) := hs.sublist (List.drop_sublist _ _)
    have hcross : ∀ x ∈ idx.take a, ∀ y ∈ idx.drop a, leR ks x y = true := by
      have := hs
      rw [← List.take_append_drop a idx, List.pairwise_append] at this
      exact this.2.2
    have hup : ∀ y ∈ idx.drop a, leR ks n y = true := by
      intro y hy
      obtain ⟨k, hk, e⟩ := List.mem_iff_getElem.mp hy
      rw [List.getElem_drop] at e
      exact leI_of_lt (hhi (a + k) y (by omega) (by rw [← e]; exact List.getElem?_eq_getElem _))
    have hdn : ∀ x ∈ idx.take a, leR ks x n = true := by
      intro x hx
      have hla : (idx.take a).length ≤ a := by rw [List.length_take]; omega
      obtain ⟨k, hk, e⟩ := List.mem_iff_getElem.mp hx
      have hk2 : k < a := by omega
      have hki : k < idx.length := by rw [List.length_take] at hk; omega
      rw [List.getElem_take] at e
      have hlen : idx.length = n := by rw [hp.length_eq, List.length_range]
      have h1 : idx[a - 1]? = some (idx[a - 1]'(by omega)) := List.getElem?_eq_getElem _
      have l1 : leR ks (idx[a - 1]'(by omega)) n = true := leI_of_nlt (hlo _ (by omega) h1)
      by_cases z : k = a - 1
      · subst z; rw [← e]; exact l1
      · have := List.pairwise_iff_getElem.mp hs k (a - 1) hki (by omega) (by omega)
        rw [e] at this
        exact leI_trans this l1
    rw [List.append_assoc, List.pairwise_append]
    refine ⟨hst, ?_, ?_⟩
    · rw [List.singleton_append, List.pairwise_cons]
      exact ⟨hup, hsd⟩
    · intro x hx y hy
      rw [List.singleton_append, List.mem_cons] at hy
      rcases hy with rfl | hy
      · exact hdn x hx
      · exact hcross x hx y hy
end
section
open PySem PySem.Spec PyProof.Rows L2
def downOf (i : Nat) (σ : L2.St) : Nat := match σ[i]? with
  | some (some (V.int a)) => a.toNat
  | _ => 0
end
section
open PySem PySem.Spec PyProof.Rows L2
theorem ins_map {idx : List Nat} {a n : Nat} : (idx.map nat).take ((a : Int).toNat) ++ [nat n] ++ (idx.map nat).drop ((a : Int).toNat) = (idx.take a ++ [n] ++ idx.drop a).map nat := by
  rw [Int.toNat_natCast, List.map_append, List.map_append, List.map_take, List.map_drop]; rfl
end
section
open PySem PySem.Spec PyProof.Rows L2
theorem i63 {n : Nat} (h : n ≤ 1000000) : 0 ≤ (n : Int) ∧ (n : Int) < 2 ^ 63 := by
  have : (2 : Int) ^ 63 = 9223372036854775808 := by decide
  rw [this]; omega
end
section
open PySem PySem.Spec PyProof.Rows L2 He
section
variable {P : Program} {w : World} {K : PySem.W.Frag} {mg : Str → Option Value} {base : Heap} {C_Ratio C_BadNumber C_Point C_Form f_Ratio_eq f_Ratio_lt f_Ratio_le f_Ratio_gt f_Ratio_ge f_Ratio_bool f_Ratio_neg f_Ratio_abs f_Ratio_str f_Ratio_add f_Ratio_radd f_Ratio_sub f_Ratio_rsub f_Ratio_mul f_Ratio_rmul f_Ratio_floordiv f_Ratio_rfloordiv f_Ratio_mod f_Ratio_rmod f_Ratio_pow f_Ratio_over f_Ratio_floor f_Ratio_ceiling f_Ratio_whole f_Ratio_sign f_Point_mul f_Point_rmul f_Form_mul f_Form_rmul : Addr}
abbrev s_order_keys : Stmt := (top 19)
theorem sc_order_keys : FnScope ["ratios", "bits", "ratio"] ["ratios"] (defScope s_order_keys) := ⟨rfl, rfl, rfl, by decide +kernel, rfl, by decide +kernel, by decide +kernel⟩
theorem ok_order_keys {f : Addr} {fd : FuncData} (F : FunD K "order_keys" "order_keys" (defArgs s_order_keys) (defBody s_order_keys) (defScope s_order_keys) [] [] f fd) (TB : TBl mg) (TR : RT K mg C_Ratio) : FnOk P w K mg base (L2.CX P w) 1 f fd ["ratios"] (spOrderKeys C_Ratio) := by
  refine F.ok (CX := L2.CX P w) sc_order_keys (fun vs H Q E h => ?_) (fun cdv A outer s H vs Q E hr h => ?_)
  · obtain ⟨k, xs, qs, rfl, _⟩ := h; rfl
  · obtain ⟨k, xs, qs, rfl, hk, hx, hb, h0, hn, kont⟩ := h
    refine ⟨_, (pss_cons (ps_set (i := 1) sc_order_keys.nd rfl (Or.inr rfl) (pe_op op_mulA pe_int (pe_callB (kc_maxL (K := K) rfl rfl) (by rfl) TB.b_max (by decide +kernel) (pa_cons (pe_lc (own := [("ratio", 2)]) (tt := tYes) (by rfl) sc_order_keys.nd (kpi_l (K := K) rfl (pv 0)) (blkOk_by (own := [("ratio", 2)]) (N := ["ratios", "bits", "ratio"]) (sc := defScope s_order_keys) (by decide +kernel)) (fun _ _ _ _ _ => (pg_name (i := 2) sc_order_keys.nd rfl (Or.inl rfl))) (fun _ _ _ _ _ => pts_nil) (fun _ _ _ _ _ => (pe_callTy kc_int1 (by rfl) TB.b_int (by decide +kernel) (pa_cons (pe_bits (kfld (K := K) rfl (pv 2) rfl)) pa_nil)))) pa_nil)))) (pss_one (ps_ret (pe_lc (own := [("ratio", 2)]) (tt := tYes) (by rfl) sc_order_keys.nd (kpi_l (K := K) rfl (pv 0)) (blkOk_by (own := [("ratio", 2)]) (N := ["ratios", "bits", "ratio"]) (sc := defScope s_order_keys) (by decide +kernel)) (fun _ _ _ _ _ => (pg_name (i := 2) sc_order_keys.nd rfl (Or.inl rfl))) (fun _ _ _ _ _ => pts_nil) (fun _ _ _ _ _ => (pe_op op_fdivZ (pe_op op_shlW (kfld (K := K) rfl (pv 2) rfl) (pv 1)) (kfld (K := K) rfl (pv 2) rfl))))))), ?_⟩
    wtm_at "of_rd"
    refine i_L hk ?_
    refine lLI (fun i => ((Builtin.Int.intBits ((qs.getD i 0).den : Int) : Nat) : Int)) hk ?_ ?_
    · intro L i x acc H' hL e hacc ha hxi
      obtain ⟨p, rfl, hi, hp⟩ := rs_at hx hxi
      have hp' := hp.ex e
      wtm_at "of_rd"
      refine ⟨rfl, ?_⟩
      wtm_at "of_rd"
      refine r_bits ?_
      wtm_at "of_rd"
      exact lputI hacc e hL ha rfl (by omega)
    intro L H1 hL e1 h1
    wtm_at "of_rd"
    refine q_maxL h1 (by rw [hx.1]; exact h0) ?_
    rintro mb ⟨im, him, rfl⟩ hmax
    generalize hB : Builtin.Int.intBits ((qs.getD im 0).den : Int) = BB at *
    have bm : BB ≤ 4000 := by
      rw [← hB]
      rw [hx.1] at him
      have := (hb (qs.getD im 0) (by rw [List.getD_eq_getElem?_getD, List.getElem?_eq_getElem him]; exact List.getElem_mem him)).2
      exact intBits_le this
    wtm_at "of_rd"
    refine i_L (e1 _ _ hk) ?_
    refine lLI (fun i => rkey (2 * BB) (qs.getD i 0)) (e1 _ _ hk) ?_ ?_
    · intro L2 i x acc H' hL2 e hacc ha hxi
      obtain ⟨p, rfl, hi, hp⟩ := rs_at hx hxi
      have hp' := hp.ex (e1.trans e)
      have bq := hb (qs.getD i 0) (by rw [List.getD_eq_getElem?_getD, List.getElem?_eq_getElem hi]; exact List.getElem_mem hi)
      wtm_at "of_rd"
      refine ⟨rfl, ?_⟩
      wtm_at "of_rd"
      refine r_I ⟨by omega, ?_⟩ ?_
      · have := intBits_le bq.1
        omega
      wtm_at "of_rd"
      refine r_I ⟨by exact_mod_cast (qs.getD i 0).den_nz, ?_⟩ ?_
      · exact Nat.lt_of_lt_of_le bq.2 (Nat.pow_le_pow_right (by decide) (by decide))
      wtm_at "of_rd"
      refine lputI hacc e hL2 ha ?_ (by omega)
      show _ = rkey (2 * BB) (qs.getD i 0)
      unfold rkey
      congr 3
    intro L2 H2 hL2 e2 h2
    wtm_at "of_rd"
    have hd : ∀ i, i < qs.length → (qs.getD i 0).den < 2 ^ BB := fun i hi => by
      have := hmax i (by rw [hx.1]; exact hi)
      exact den_bits (by omega)
    refine kont H2 L2 _ (e1.trans e2) h2 ⟨by rw [nat_len]; exact hx.1, fun z hz => ?_, fun i j hi hj => ?_⟩
    · obtain ⟨i, hi, rfl⟩ := List.mem_map.mp hz
      have hi := List.mem_range.mp hi
      rw [hx.1] at hi
      exact rkey_sb (hb _ (by rw [List.getD_eq_getElem?_getD, List.getElem?_eq_getElem hi]; exact List.getElem_mem hi)) (by omega)
    · rw [getD_range (by rw [hx.1]; exact hi), getD_range (by rw [hx.1]; exact hj)]
      exact ⟨rkey_lt rfl (hd i hi) (hd j hj), rkey_eq rfl (hd i hi) (hd j hj)⟩
abbrev s_row_keys : Stmt := (top 4)
theorem sc_row_keys : FnScope ["rows", "keys", "at", "span", "row", "key"] ["rows"] (defScope s_row_keys) := ⟨rfl, rfl, rfl, by decide +kernel, rfl, by decide +kernel, by decide +kernel⟩
theorem ok_row_keys {f : Addr} {fd : FuncData} (F : FunD K "row_keys" "row_keys" (defArgs s_row_keys) (defBody s_row_keys) (defScope s_row_keys) [] [] f fd) (TB : TBl mg) (TR : RT K mg C_Ratio) : FnOk P w K mg base (L2.CX P w) 1 f fd ["rows"] (spRowKeys) := by
  refine F.ok (CX := L2.CX P w) sc_row_keys (fun vs H Q E h => ?_) (fun cdv A outer s H vs Q E hr h => ?_)
  · obtain ⟨k, ks, m, B, rfl, _⟩ := h; rfl
  · obtain ⟨k, ks, m, B, rfl, hk, ok, m1, m2, hB, h0, hn, kont⟩ := h
    refine ⟨_, (pss_cons (ps_setLc (i := 1) (own := [("row", 4)]) (tt := tYes) (by rfl) sc_row_keys.nd rfl rfl (sw_true rfl rfl rfl (by decide +kernel)) (kpi_l (K := K) rfl (pv 0)) (blkOk_by (own := [("row", 4)]) (N := ["rows", "keys", "at", "span", "row", "key"]) (sc := defScope s_row_keys) (by decide +kernel)) (fun _ _ _ _ _ => (pg_name (i := 4) sc_row_keys.nd rfl (Or.inl rfl))) (fun _ _ _ _ _ => pts_nil) (fun _ _ _ _ _ => (pe_ix (kix_t (K := K) rfl) (pv 4) pe_int (fun _ _ => rfl)))) (pss_cons (ps_for (passes_of rfl) rfl (pi_range2 (by rfl) TB.b_range (pa_cons pe_int (pa_cons (pe_callB (kc_len (K := K) rfl) (by rfl) TB.b_len PySem.boot_len (pa_cons (pe_ix (kix_l (K := K) rfl) (pv 0) pe_int (fun _ _ => rfl)) pa_nil)) pa_nil))) (pg_name (i := 2) sc_row_keys.nd rfl (Or.inr rfl)) (pss_cons (ps_set (i := 3) sc_row_keys.nd rfl (Or.inr rfl) (pe_op op_add (pe_op op_mulA pe_int (pe_callB (kc_maxL (K := K) rfl rfl) (by rfl) TB.b_max (by decide +kernel) (pa_cons (pe_lc (own := [("row", 4)]) (tt := tYes) (by rfl) sc_row_keys.nd (kpi_l (K := K) rfl (pv 0)) (blkOk_by (own := [("row", 4)]) (N := ["rows", "keys", "at", "span", "row", "key"]) (sc := defScope s_row_keys) (by decide +kernel)) (fun _ _ _ _ _ => (pg_name (i := 4) sc_row_keys.nd rfl (Or.inl rfl))) (fun _ _ _ _ _ => pts_nil) (fun _ _ _ _ _ => (pe_callTy kc_int1 (by rfl) TB.b_int (by decide +kernel) (pa_cons (pe_callB kc_abs (by rfl) TB.b_abs (by decide +kernel) (pa_cons (pe_ix (kix_t (K := K) rfl) (pv 4) (pv 2) (fun _ _ => rfl)) pa_nil)) pa_nil)))) pa_nil))) pe_int)) (pss_one (ps_setLc (i := 1) (own := [("key", 5), ("row", 4)]) (tt := tYes) (by rfl) sc_row_keys.nd rfl rfl (sw_true rfl rfl rfl (by decide +kernel)) (kpi_zip (K := K) rfl (by rfl) TB.b_zip (pa_cons (pv 1) (pa_cons (pv 0) pa_nil))) (blkOk_by (own := [("key", 5), ("row", 4)]) (N := ["rows", "keys", "at", "span", "row", "key"]) (sc := defScope s_row_keys) (by decide +kernel)) (fun _ _ _ _ _ => (kpg_tup (K := K) 2 rfl rfl (pgs_cons (pg_name (i := 5) sc_row_keys.nd rfl (Or.inl rfl)) (pgs_cons (pg_name (i := 4) sc_row_keys.nd rfl (Or.inl rfl)) pgs_nil)))) (fun _ _ _ _ _ => pts_nil) (fun _ _ _ _ _ => (pe_op op_add (pe_op op_mulA (pv 5) (pv 3)) (pe_ix (kix_t (K := K) rfl) (pv 4) (pv 2) (fun _ _ => rfl)))))))) (pss_one (ps_ret (pv 1))))), ?_⟩
    obtain ⟨xs, hx, hl, hat⟩ := hk
    wtm_at "of_rd"
    refine i_L hx ?_
    refine lLI (fun i => (ks.getD i []).getD 0 0) hx ?_ ?_
    · intro L i x acc H' hL e hacc ha hxi
      obtain ⟨p, rfl, hi, hp, hm, hs⟩ := row_at hl hat ok hxi
      wtm_at "of_rd"
      refine ⟨rfl, ?_⟩
      wtm_at "of_rd"
      refine r_iT1 (e _ _ hp) (ent_at (by rw [hm]; exact m1)) ?_
      wtm_at "of_rd"
      exact lputI hacc e hL ha rfl (by omega)
    intro L H1 hL e1 h1
    wtm_at "of_rd"
    obtain ⟨p0, z0, g0⟩ := hat 0 _ (by rw [List.getElem?_eq_getElem h0])
    refine r_iL1 (e1 _ _ hx) (j := 0) (atI_nat (j := 0) z0) ?_
    wtm_at "of_rd"
    have hm0 : (ks[0]'h0).length = m := (ok _ (List.getElem_mem h0)).1
    refine q_lenT (e1 _ _ g0) ?_
    wtm_at "of_rd"
    refine i_R2 (n := m - 1) (by omega) (by rw [List.length_map, hm0]; omega) (by omega) ?_
    refine fR' (fun i σ H' => ∃ (L : Addr) (f : Nat → Int) (v2 v3 v4 v5 : Option V), σ = [some (.ref k), some (.ref L), v2, v3, v4, v5] ∧ Ex H H' ∧ H' L = some (.lst (((List.range ks.length).map f).map V.int)) ∧ KF ks (i + 1) f ∧ ∀ j, j < ks.length → Sb (B + i * (B + 3)) (f j))
      ⟨L, _, none, none, none, none, rfl, e1, by rw [← hl]; exact h1, KF.one ok m1, fun j hj => by rw [Nat.zero_mul]; exact (ok _ (getD_mem hj)).2 _ (ent_mem (by rw [(ok _ (getD_mem hj)).1]; omega))⟩ ?_ ?_
    · rintro i σ H2 hi ⟨L2, f, v2, v3, v4, v5, rfl, e2, h2, kf, hf⟩
      rw [show (1 + (i : Int)) = ((i + 1 : Nat) : Int) from by omega]
      wtm_at "of_rd"
      refine i_L (e2 _ _ hx) ?_
      refine lLI (fun j => (((ks.getD j []).getD (i + 1) 0).natAbs : Int)) (e2 _ _ hx) ?_ ?_
      · intro L3 j x acc H' hL3 e hacc ha hxi
        obtain ⟨p, rfl, hj, hp, hm, hs⟩ := row_at hl hat ok hxi
        wtm_at "of_rd"
        refine ⟨rfl, ?_⟩
        wtm_at "of_rd"
        refine r_iT1 ((e2.trans e) _ _ hp) (ent_at (by rw [hm]; omega)) ?_
        wtm_at "of_rd"
        refine ⟨_, rfl, ?_⟩
        wtm_at "of_rd"
        exact lputI hacc e hL3 ha (by split <;> omega) (by omega)
      intro L3 H3 hL3 e3 h3
      wtm_at "of_rd"
      refine q_maxL h3 (by rw [hl]; exact h0) ?_
      rintro M ⟨iM, hiM, rfl⟩ hmax
      rw [hl] at hiM
      have sM : Sb B (((ks.getD iM []).getD (i + 1) 0).natAbs : Int) := by
        have := (ok _ (getD_mem hiM)).2 _ (ent_mem (j := i + 1) (by rw [(ok _ (getD_mem hiM)).1]; omega))
        unfold Sb at *; simpa using this
      generalize hMM : (((ks.getD iM []).getD (i + 1) 0).natAbs : Int) = M at *
      have M0 : 0 ≤ M := by rw [← hMM]; omega
      have sp : Sb (B + 2) (2 * M + 1) := by
        unfold Sb at *
        rw [Nat.pow_add]
        omega
      wtm_at "of_rd"
      refine i_ZL (e3 _ _ h2) ((e2.trans e3) _ _ hx) ?_
      refine lZI (fun j => f j * (2 * M + 1) + (ks.getD j []).getD (i + 1) 0) (e3 _ _ h2) ((e2.trans e3) _ _ hx) (by rw [List.length_map, List.length_map, List.length_range, hl]) ?_ ?_
      · intro L4 j x y T acc H' hL4 e hacc ha hxi hyi hT
        obtain ⟨p, rfl, hj, hp, hm, hs⟩ := row_at hl hat ok hyi
        have hxf : x = .int (f j) := by
          rw [List.getElem?_map, List.getElem?_map, List.getElem?_range hj] at hxi
          simpa using hxi.symm
        subst hxf
        refine r_gTup hT rfl ?_
        wtm_at "of_rd"
        refine ⟨rfl, ?_⟩
        wtm_at "of_rd"
        refine r_I (cmA_w (hf j hj) sp (by have : i * (B + 3) ≤ 1 * (B + 3) := Nat.mul_le_mul_right _ (by omega); omega)) ?_
        wtm_at "of_rd"
        refine r_iT1 ((e2.trans (e3.trans e)) _ _ hp) (ent_at (by rw [hm]; omega)) ?_
        wtm_at "of_rd"
        exact lputI hacc e hL4 ha rfl (by omega)
      intro L4 H4 hL4 e4 h4
      wtm_at "of_rd"
      rw [List.length_map, List.length_map, List.length_range] at h4
      refine ⟨L4, _, _, _, _, _, rfl, (e2.trans e3).trans e4, h4, KF.step ok (by omega) kf (fun j hj => ?_), fun j hj => ?_⟩
      · have := hmax j (by rw [hl]; exact hj)
        omega
      · have s1 := hf j hj
        have s2 := (ok _ (getD_mem hj)).2 _ (ent_mem (j := i + 1) (by rw [(ok _ (getD_mem hj)).1]; omega))
        have s3 := s1.mul sp
        rw [show B + (i + 1) * (B + 3) = (B + i * (B + 3) + (B + 2)) + 1 from by rw [Nat.succ_mul]; omega]
        exact (s3.add s2).mono (by omega)
    · rintro σ H2 ⟨L2, f, v2, v3, v4, v5, rfl, e2, h2, kf, hf⟩
      wtm_at "of_rd"
      rw [show m - 1 + 1 = m from by omega] at kf
      exact kont H2 L2 _ e2 h2 kf.keys
abbrev s_inserted : Stmt := (top 5)
theorem sc_inserted : FnScope ["rows", "order", "index", "row", "at"] ["rows"] (defScope s_inserted) := ⟨rfl, rfl, rfl, by decide +kernel, rfl, by decide +kernel, by decide +kernel⟩
theorem ok_inserted {f : Addr} {fd : FuncData} (F : FunD K "inserted" "inserted" (defArgs s_inserted) (defBody s_inserted) (defScope s_inserted) [] [] f fd) (TB : TBl mg) (TR : RT K mg C_Ratio) : FnOk P w K mg base (L2.CX P w) 1 f fd ["rows"] (spOrd) := by
  refine F.ok (CX := L2.CX P w) sc_inserted (fun vs H Q E h => ?_) (fun cdv A outer s H vs Q E hr h => ?_)
  · obtain ⟨k, ks, m, B, rfl, _⟩ := h; rfl
  · obtain ⟨k, ks, m, B, rfl, hk, ok, m1, m2, hB, hn, kont⟩ := h
    refine ⟨_, (pss_cons (ps_set (i := 1) sc_inserted.nd rfl (Or.inl rfl) (pe_lst pa_nil)) (pss_cons (ps_for (passes_of rfl) rfl (kpi_enum (K := K) rfl (by rfl) TB.b_enumerate (pa_cons (pv 0) pa_nil)) (kpg_tup (K := K) 2 rfl rfl (pgs_cons (pg_name (i := 2) sc_inserted.nd rfl (Or.inl rfl)) (pgs_cons (pg_name (i := 3) sc_inserted.nd rfl (Or.inl rfl)) pgs_nil))) (pss_cons (ps_set (i := 4) sc_inserted.nd rfl (Or.inl rfl) (pv 2)) (pss_cons (ps_while (passes_of rfl) (pw_and (pt_cmpR op_gt (pv 4) pe_int (nomark _)) (pw_and1 (pt_cmpR (kop_ltT (K := K) rfl hr.units0) (pv 3) (pe_ix (kix_l (K := K) rfl) (pv 0) (pe_ix (kix_l (K := K) rfl) (pv 1) (pe_op op_sub (pv 4) pe_int) (fun _ _ => rfl)) (fun _ _ => rfl)) (nomark _)))).pt (pss_one (ps_set (i := 4) sc_inserted.nd rfl (Or.inl rfl) (pe_op op_sub (pv 4) pe_int)))) (pss_one (ps_expr (kapp (K := K) rfl PySem.F.plainAttrs_list PySem.F.slot_list_insert PySem.F.type_list_insert mt_insert (pv 1) (pa_cons (pv 4) (pa_cons (pv 2) pa_nil)))))))) (pss_one (ps_ret (pv 1))))), ?_⟩
    obtain ⟨xs, hx, hl, hat⟩ := hk
    wtm_at "of_rd"
    refine r_laidL (by decide) ?_
    intro o H1 e1 n1 h1
    wtm_at "of_rd"
    refine r_iE ?_
    wtm_at "of_rd"
    refine ⟨k, xs, rfl, SqL.of (e1 _ _ hx), ?_⟩
    refine fE (xs := xs) (fun i σ H' => ∃ (idx : List Nat) (v2 v3 v4 : Option V), σ = [some (.ref k), some (.ref o), v2, v3, v4] ∧ Ex H H' ∧ H' o = some (.lst (idx.map nat)) ∧ SortedN ks i idx)
      ⟨[], none, none, none, rfl, e1, h1, .refl _, .nil⟩ (fun i σ H' ⟨idx, _, _, _, _, e, _⟩ => e _ _ hx) ?_ ?_
    · rintro i x T σ H2 H3 hxi ⟨idx, v2, v3, v4, rfl, e2, h2, so⟩ e3 hT
      obtain ⟨p, rfl, hi, hp, hm, hs⟩ := row_at hl hat ok hxi
      refine r_gTup hT rfl ?_
      wtm_at "of_rd"
      have h3 := e3 _ _ h2
      refine r_while (fun σ H' => ∃ a : Nat, σ = [some (.ref k), some (.ref o), some (nat i), some (.ref p), some (nat a)] ∧ H' = H3 ∧ a ≤ i ∧ ∀ kk j, a ≤ kk → idx[kk]? = some j → lexI (ks.getD i []) (ks.getD j []) = true)
        (fun σ _ => downOf 4 σ) ⟨i, rfl, rfl, Nat.le_refl _, fun kk j hk hj => ?_⟩ ?_
      · have := (List.getElem?_eq_some_iff.mp hj).1
        rw [so.len] at this; omega
      rintro σ H4 ⟨a, rfl, rfl, ha, hhi⟩
      wtm_at "of_rd"
      refine ite2 (fun hpos => ?_) (fun hpos => ?_)
      · wtm_at "of_rd"
        obtain ⟨a', rfl⟩ : ∃ a', a = a' + 1 := ⟨a - 1, by omega⟩
        rw [show (((a' + 1 : Nat) : Int) - 1) = (a' : Int) from by omega]
        have ha2 : a' < idx.length := by rw [so.len]; omega
        have hj : idx[a']? = some idx[a'] := List.getElem?_eq_getElem ha2
        generalize idx[a'] = j at hj
        have hjl : j < ks.length := Nat.lt_of_lt_of_le (so.lt (List.mem_of_getElem? hj)) (by omega)
        refine r_iL1 h3 (atI_nat (j := a') (by rw [List.getElem?_map, hj]; rfl)) ?_
        wtm_at "of_rd"
        obtain ⟨pj, zj, gj⟩ := hat j _ (List.getElem?_eq_getElem hjl)
        refine r_iL1 ((e2.trans e3) _ _ hx) (atI_nat (j := j) zj) ?_
        wtm_at "of_rd"
        refine ⟨p, pj, ks.getD i [], ks[j], rfl, rfl, SqT.of ((e2.trans e3) _ _ hp), SqT.of ((e2.trans e3) _ _ gj), ?_⟩
        rw [lexLt_eq, show ks[j] = ks.getD j [] from by rw [List.getD_eq_getElem?_getD, List.getElem?_eq_getElem hjl]; rfl]
        refine ⟨_, rfl, ?_⟩
        split
        · rename_i hlt
          refine tn ?_
          wtm_at "of_rd"
          refine ⟨⟨a', by rw [show (((a' + 1 : Nat) : Int) - 1) = (a' : Int) from by omega]; rfl, rfl, by omega, fun kk j2 hk hj2 => ?_⟩, ?_⟩
          · by_cases z : kk = a'
            · subst z; rw [hj] at hj2; cases hj2; exact hlt
            · exact hhi kk j2 (by omega) hj2
          · show downOf 4 _ < downOf 4 _
            show ((((a' + 1 : Nat) : Int) - 1)).toNat < (((a' + 1 : Nat) : Int)).toNat
            omega
        · rename_i hlt
          wtm_at "of_rd"
          refine ⟨ty_l h3, ?_⟩
          wtm_at "of_rd"
          refine ⟨o, _, _, _, rfl, rfl, h3, by rw [List.length_map, so.len, sizeLine_eq]; omega, (i63 (by omega)).1, (i63 (by omega)).2, ?_⟩
          wtm_at "of_rd"
          exact ⟨_, _, _, _, rfl, (e2.trans e3).put n1, by rw [upd_same, ins_map], so.insert ha (fun j2 _ hj2 => by rw [show a' + 1 - 1 = a' from rfl, hj] at hj2; cases hj2; simpa using hlt) hhi⟩
      · wtm_at "of_rd"
        refine ⟨ty_l h3, ?_⟩
        wtm_at "of_rd"
        refine ⟨o, _, _, _, rfl, rfl, h3, by rw [List.length_map, so.len, sizeLine_eq]; omega, (i63 (by omega)).1, (i63 (by omega)).2, ?_⟩
        wtm_at "of_rd"
        exact ⟨_, _, _, _, rfl, (e2.trans e3).put n1, by rw [upd_same, ins_map], so.insert ha (fun j2 h0 _ => by omega) hhi⟩
    · rintro σ H2 ⟨idx, v2, v3, v4, rfl, e2, h2, so⟩
      wtm_at "of_rd"
      rw [hl] at so
      exact kont H2 o idx e2 h2 so
end
end
section
open PySem PySem.Spec PyProof.Rows L2
/-- the places below n whose key is z -/
def buck (key : List Int) (n : Nat) (z : Int) : List Nat := (List.range n).filter fun j => decide (key.getD j 0 = z)
theorem mem_buck {key : List Int} {n j : Nat} {z : Int} : j ∈ buck key n z ↔ j < n ∧ key.getD j 0 = z := by
  unfold buck
  rw [List.mem_filter, List.mem_range, decide_eq_true_iff]
theorem buck_same {key : List Int} {n : Nat} : buck key (n + 1) (key.getD n 0) = buck key n (key.getD n 0) ++ [n] := by
  unfold buck
  rw [List.range_succ, List.filter_append]
  congr 1
  simp
theorem buck_ne {key : List Int} {n : Nat} {z : Int} (h : key.getD n 0 ≠ z) : buck key (n + 1) z = buck key n z := by
  unfold buck
  rw [List.range_succ, List.filter_append]
  have : List.filter (fun j => decide (key.getD j 0 = z)) [n] = [] := by
    rw [List.filter_cons, if_neg (by simpa using h)]; rfl
  rw [this, List.append_nil]
theorem buck_len {key : List Int} {n : Nat} {z : Int} : (buck key n z).length ≤ n := by
  unfold buck
  have := List.length_filter_le (fun j => decide (key.getD j 0 = z)) (List.range n)
  rwa [List.length_range] at this
theorem filter_two {α : Type} {p q : α → Bool} : ∀ l : List α, (∀ x, p x = true → q x = false) → (l.filter p ++ l.filter q).Perm (l.filter fun x => p x || q x)
  | [], _ => .refl _
  | x :: l, h => by
    have ih := filter_two l h
    cases e : p x with
    | true =>
      have e2 := h x e
      simp only [List.filter_cons, e, e2, Bool.true_or, if_true, List.cons_append]
      exact ih.cons x
    | false =>
      cases e2 : q x with
      | true =>
        simp only [List.filter_cons, e, e2, Bool.false_or, if_true]
        exact List.perm_middle.trans (ih.cons x)
      | false =>
        simp only [List.filter_cons, e, e2, Bool.false_or]
        exact ih
theorem buck_perm {key : List Int} {n : Nat} : ∀ zs : List Int, zs.Nodup → (zs.flatMap (buck key n)).Perm ((List.range n).filter fun j => decide (key.getD j 0 ∈ zs))
  | [], _ => by
    have : (List.range n).filter (fun j => decide (key.getD j 0 ∈ ([] : List Int))) = [] := by
      rw [List.filter_eq_nil_iff]; intro a _; simp
    rw [this]; exact .refl _
  | z :: zs, h => by
    rw [List.flatMap_cons]
    have hn := List.nodup_cons.mp h
    have ih := buck_perm (key := key) (n := n) zs hn.2
    refine ((List.Perm.refl _).append ih).trans ?_
    have := filter_two (p := fun j => decide (key.getD j 0 = z)) (q := fun j => decide (key.getD j 0 ∈ zs)) (List.range n) fun x e => by
      have e := of_decide_eq_true e
      rw [e]; exact decide_eq_false hn.1
    refine this.trans ?_
    have e : (fun j => decide (key.getD j 0 = z) || decide (key.getD j 0 ∈ zs)) = fun j => decide (key.getD j 0 ∈ z :: zs) := by
      funext j
      rw [Bool.eq_iff_iff]; simp
    rw [e]
theorem lex_same {ks : List (List Int)} {i j : Nat} (h : ks.getD i [] = ks.getD j []) : leR ks i j = true := by
  show leI (ks.getD i []) (ks.getD j []) = true
  rw [h]; exact leI_refl _
theorem buck_sorted {ks : List (List Int)} {m B : Nat} {key zs : List Int} (hk : KeysOf ks m key) (ok : IOk m B ks) (hs : zs.Pairwise (· < ·)) (hall : ∀ j, j < ks.length → key.getD j 0 ∈ zs) : Sorted ks (zs.flatMap (buck key ks.length)) := by
  have tk : ∀ i, i < ks.length → (ks.getD i []).take m = ks.getD i [] := fun i hi => List.take_of_length_le (by rw [(ok _ (getD_mem hi)).1]; exact Nat.le_refl _)
  refine ⟨(buck_perm zs (hs.imp fun h => by omega)).trans ?_, ?_⟩
  · have : (List.range ks.length).filter (fun j => decide (key.getD j 0 ∈ zs)) = List.range ks.length := by
      rw [List.filter_eq_self]
      intro a ha
      exact decide_eq_true (hall a (List.mem_range.mp ha))
    rw [this]
  · rw [List.pairwise_flatMap]
    refine ⟨fun z _ => ?_, hs.imp fun {z1 z2} hz x hx y hy => ?_⟩
    · rw [List.pairwise_iff_forall_sublist]
      intro a b hab
      have ha := mem_buck.mp (hab.subset (List.mem_cons_self))
      have hb := mem_buck.mp (hab.subset (List.mem_cons_of_mem _ (List.mem_cons_self)))
      refine lex_same ?_
      have := (hk.2 a b ha.1 hb.1).2.mp (by rw [ha.2, hb.2])
      rwa [tk a ha.1, tk b hb.1] at this
    · have hx := mem_buck.mp hx
      have hy := mem_buck.mp hy
      have := (hk.2 x y hx.1 hy.1).1.mp (by rw [hx.2, hy.2]; exact hz)
      rw [tk x hx.1, tk y hy.1] at this
      exact leI_of_lt this
/-- the dict of buckets, behind the first n places -/
def Bks (H0 H : Hp) (d : Addr) (key : List Int) (n : Nat) : Prop := ∃ kvs : List (Key × V), H d = some (.dK kvs) ∧ kvs.length ≤ n ∧ (kvs.map (·.1)).Nodup ∧ (∀ kv ∈ kvs, ∃ z : Int, kv.1 = Sum.inl z ∧ ∃ j, j < n ∧ key.getD j 0 = z) ∧
  ∀ j, j < n → ∃ a, valV kvs (Sum.inl (key.getD j 0)) = some (.ref a) ∧ H0 a = none ∧ H a = some (.lst ((buck key n (key.getD j 0)).map nat))
theorem Bks.zero {H0 H : Hp} {d : Addr} {key : List Int} (h : H d = some (.dK [])) : Bks H0 H d key 0 := ⟨[], h, Nat.le_refl _, List.nodup_nil, (fun kv h => by cases h), fun j h => by omega⟩
theorem nat_inj {a b : List Nat} (h : a.map nat = b.map nat) : a = b := by
  refine (List.map_inj_right (f := nat) fun x y e => ?_).mp h
  unfold nat at e
  have := V.int.inj e
  omega
/-- one more place in a bucket that is there -/
theorem Bks.more {H0 H H1 : Hp} {d : Addr} {key : List Int} {n : Nat} (h : Bks H0 H d key n) (e : Ex H H1) {kvs : List (Key × V)} {v : V} (hk : H1 d = some (.dK kvs)) (hv : valV kvs (Sum.inl (key.getD n 0)) = some v) :
    ∃ a, v = .ref a ∧ H0 a = none ∧ H1 a = some (.lst ((buck key n (key.getD n 0)).map nat)) ∧ ∀ o, o = HO.lst ((buck key n (key.getD n 0)).map nat ++ [nat n]) → Bks H0 (upd H1 a o) d key (n + 1) := by
  obtain ⟨kvs', h1, h2, h3, h4, h5⟩ := h
  have h1' := e _ _ h1
  rw [hk] at h1'
  cases h1'
  have hin := valV_in hv
  obtain ⟨kv, hm, ek⟩ := List.mem_map.mp hin
  obtain ⟨z, ez, j, hj, ej⟩ := h4 kv hm
  rw [ek] at ez
  have ez : key.getD n 0 = z := Sum.inl.inj ez
  obtain ⟨a, g1, g2, g3⟩ := h5 j hj
  rw [ej, ← ez] at g1 g3
  rw [hv] at g1
  cases g1
  refine ⟨a, rfl, g2, e _ _ g3, ?_⟩
  rintro o rfl
  have da : d ≠ a := fun z => by rw [z] at h1; rw [g3] at h1; cases h1
  refine ⟨kvs, by rw [upd_ne da]; exact hk, by omega, h3, fun kv hm => ?_, fun i hi => ?_⟩
  · obtain ⟨z, e1, j, e2, e3⟩ := h4 kv hm
    exact ⟨z, e1, j, by omega, e3⟩
  · by_cases hz : key.getD i 0 = key.getD n 0
    · refine ⟨a, by rw [hz]; exact hv, g2, ?_⟩
      rw [upd_same, hz, buck_same, List.map_append]; rfl
    · have hi2 : i < n := by
        rcases Nat.lt_or_ge i n with q | q
        · exact q
        · exact (hz (by rw [show i = n from by omega])).elim
      obtain ⟨b, k1, k2, k3⟩ := h5 i hi2
      have ba : b ≠ a := fun z => by
        rw [z, g3] at k3
        have := nat_inj (HO.lst.inj (Option.some.inj k3)).symm
        have m1 : i ∈ buck key n (key.getD i 0) := mem_buck.mpr ⟨hi2, rfl⟩
        rw [this] at m1
        exact hz (mem_buck.mp m1).2
      exact ⟨b, k1, k2, by rw [upd_ne ba, buck_ne (fun q => hz q.symm)]; exact e _ _ k3⟩
/-- a new bucket -/
theorem Bks.new {H0 H H1 : Hp} {d o : Addr} {key : List Int} {n : Nat} (h : Bks H0 H d key n) (e : Ex H H1) {kvs : List (Key × V)} (hk : H1 d = some (.dK kvs)) (hv : valV kvs (Sum.inl (key.getD n 0)) = none) (ho : H o = none) (ho0 : H0 o = none) {x : HO} (hx : x = HO.lst [nat n]) :
    Bks H0 (upd (upd H1 d (.dK (putK kvs (Sum.inl (key.getD n 0)) (.ref o)))) o x) d key (n + 1) := by
  subst hx
  obtain ⟨kvs', h1, h2, h3, h4, h5⟩ := h
  have h1' := e _ _ h1
  rw [hk] at h1'
  cases h1'
  have od : o ≠ d := fun z => by rw [z, h1] at ho; cases ho
  have hno : ∀ i, i < n → key.getD i 0 ≠ key.getD n 0 := fun i hi z => by
    obtain ⟨a, g1, _⟩ := h5 i hi
    rw [z, hv] at g1; cases g1
  refine ⟨_, by rw [upd_ne (Ne.symm od)]; exact upd_same, ?_, nd_putK _ h3 hv, fun kv hm => ?_, fun i hi => ?_⟩
  · have := length_putK kvs (Sum.inl (key.getD n 0)) (.ref o)
    omega
  · rw [putK_new _ hv, List.mem_append, List.mem_singleton] at hm
    rcases hm with hm | rfl
    · obtain ⟨z, e1, j, e2, e3⟩ := h4 kv hm
      exact ⟨z, e1, j, by omega, e3⟩
    · exact ⟨_, rfl, n, by omega, rfl⟩
  · by_cases hi2 : i < n
    · obtain ⟨b, k1, k2, k3⟩ := h5 i hi2
      have ne := hno i hi2
      have bo : b ≠ o := fun z => by rw [z, ho] at k3; cases k3
      have bd : b ≠ d := fun z => by rw [z, h1] at k3; cases k3
      refine ⟨b, by rw [valV_put, if_neg (fun z => ne (Sum.inl.inj z))]; exact k1, k2, ?_⟩
      rw [upd_ne bo, upd_ne bd, buck_ne (fun q => ne q.symm)]; exact e _ _ k3
    · have : i = n := by omega
      subst this
      refine ⟨o, by rw [valV_put, if_pos rfl], ho0, ?_⟩
      have hb : buck key i (key.getD i 0) = [] := by
        rw [List.eq_nil_iff_forall_not_mem]
        intro j hj
        have := mem_buck.mp hj
        exact hno j this.1 this.2
      rw [upd_same, buck_same, hb]; rfl
end
section
open PySem PySem.Spec PyProof.Rows L2
def keyI : Key → Int
  | .inl z => z
  | .inr _ => 0
def fK (kvs : List (Key × V)) (i : Nat) : Int := match kvs[i]? with
  | some kv => keyI kv.1
  | none => 0
theorem fK_map (kvs : List (Key × V)) : (List.range kvs.length).map (fK kvs) = kvs.map fun kv => keyI kv.1 := by
  apply List.ext_getElem?
  intro i
  rw [List.getElem?_map, List.getElem?_map]
  by_cases h : i < kvs.length
  · rw [List.getElem?_range h, List.getElem?_eq_getElem h]
    show some (fK kvs i) = some _
    unfold fK
    rw [List.getElem?_eq_getElem h]
  · rw [List.getElem?_eq_none (by rw [List.length_range]; omega), List.getElem?_eq_none (by omega)]; rfl
theorem keys_nodup {kvs : List (Key × V)} (h : (kvs.map (·.1)).Nodup) (hk : ∀ kv ∈ kvs, ∃ z : Int, kv.1 = Sum.inl z) : (kvs.map fun kv => keyI kv.1).Nodup := by
  have h : List.Pairwise (· ≠ ·) (kvs.map (·.1)) := h
  rw [List.pairwise_map] at h
  show List.Pairwise (· ≠ ·) _
  rw [List.pairwise_map]
  refine h.imp_of_mem fun {a b} ha hb ne e => ne ?_
  obtain ⟨x, hx⟩ := hk a ha
  obtain ⟨y, hy⟩ := hk b hb
  rw [hx, hy] at e ⊢
  have e : x = y := e
  rw [e]
theorem key_in {kvs : List (Key × V)} {z : Int} {v : V} (h : valV kvs (Sum.inl z) = some v) : z ∈ kvs.map fun kv => keyI kv.1 := by
  obtain ⟨kv, hm, e⟩ := List.mem_map.mp (valV_in h)
  exact List.mem_map.mpr ⟨kv, hm, by rw [e]; rfl⟩
theorem int_at {key : List Int} {i : Nat} {x : V} (h : (key.map V.int)[i]? = some x) : ∃ z, key[i]? = some z ∧ key.getD i 0 = z ∧ x = .int z := by
  rw [List.getElem?_map] at h
  cases e : key[i]? with
  | none => rw [e] at h; cases h
  | some z => rw [e] at h; exact ⟨z, rfl, by rw [List.getD_eq_getElem?_getD, e]; rfl, (Option.some.inj h).symm⟩
theorem lock_ex {H H' : Hp} {d : Addr} {u : HO} {od : Obj} (h : H d = some u) (e : Ex (upd H d (.frz od u)) H') : Ex H (upd H' d u) := by
  intro a o ha
  by_cases z : a = d
  · subst z; rw [upd_same]; rw [h] at ha; exact ha
  · rw [upd_ne z]; exact e _ _ (by rw [upd_ne z]; exact ha)
theorem lt_of_le_ne {ns ns' : List Int} (hp : ns'.Perm ns) (hs : ns'.Pairwise (· ≤ ·)) (hn : ns.Nodup) : ns'.Pairwise (· < ·) := by
  have h2 : ns'.Pairwise (· ≠ ·) := hp.symm.nodup hn
  exact (hs.and h2).imp fun ⟨a, b⟩ => by omega
section
variable {K : PySem.W.Frag} {σ : L2.St} {H : Hp} {Q : VK} {wi wi1 : TI} {te td ty tx : TE} {g g1 : TG} {tt tt1 : TT} {vs vs1 : List Nat} {a d : Addr} {xs : List V}
/-- d.setdefault(y, z) -/
theorem r_dsetd (k : td σ H fun x H1 => ∃ a, x = .ref a ∧ IsD H1 a ∧ ty σ H1 fun y H2 => tx σ H2 fun z H3 => ∃ (kvs : List (Key × V)) (k : Key), H3 a = some (.dK kvs) ∧ y = kV k ∧ kvs.length < sizeLine ∧
  (∀ v, valV kvs k = some v → Q v H3) ∧ (valV kvs k = none → Q z (upd H3 a (.dK (putK kvs k z))))) : tDSetd td ty tx σ H Q := k
theorem r_iK {R : It → Hp → Prop} (k : td σ H fun x H1 => ∃ d o, x = .ref d ∧ ((∃ kvs, H1 d = some (.frz o (.dK kvs)) ∧ R (Itk d o kvs) H1) ∨ ∃ kvs, H1 d = some (.frz o (.dT kvs)) ∧ R (Itkt d o kvs) H1)) : iKeys td σ H R := k
theorem isD_k {kvs : List (Key × V)} (h : H a = some (.dK kvs)) : IsD H a := .inl ⟨kvs, .inl h⟩
/-- over the keys of a dict that is locked -/
theorem lKeysI {od : Obj} {kvs : List (Key × V)} (f : Nat → Int) (hd : H d = some (.frz od (.dK kvs)))
    (hs : ∀ L i k v acc H', H L = none → Ex H H' → H' L = some (.lst acc) → acc = ((List.range i).map f).map V.int → kvs[i]? = some (k, v) → LTurn g tt te vs σ L (PI f H (i + 1)) (kV k) H')
    (he : ∀ L H', H L = none → Ex H H' → H' L = some (.lst (((List.range kvs.length).map f).map V.int)) → Q (.ref L) H') : LcIt (Itk d od kvs) g tt te vs σ H Q := by
  intro L hL
  refine lc_it (walk_keys (kvs := kvs)) (fun i H' => ∃ acc, H' L = some (.lst acc) ∧ PI f H i acc H') ⟨[], upd_same, Ex.new hL, rfl⟩
    (fun i H' hi ⟨acc, h1, h2⟩ => h2.1 _ _ hd) (fun i x H1 H' hi ⟨acc, h1, h2⟩ hy => ?_) (fun H' ⟨acc, h1, h2⟩ => he L H' hL h2.1 (by rw [← h2.2]; exact h1))
  obtain ⟨rfl, k, v, hk, rfl⟩ := hy
  exact hs L i k v acc _ hL h2.1 h1 h2.2 hk
/-- the inner loop of a comprehension with two fors -/
def InIt (J1 : It) (g1 : TG) (tt1 : TT) (te : TE) (vs1 : List Nat) (σ2 : L2.St) (D : Addr) (Nx : Hp → Prop) (H4 : Hp) : Prop := ∃ W1 : Nat → Nat → Hp → Prop, (∃ m, W1 0 m H4) ∧ ∀ j k H, W1 j k H →
  (J1.stop j H ∧ Nx H) ∨ (J1.go j H ∧ ∃ Nx1 : Hp → Prop, (∀ H', Nx1 H' → ∃ k', k' < k ∧ W1 (j + 1) k' H') ∧ ∀ x H', J1.yld j H x H' → g1 x (wipe σ2 vs1) H' fun σ3 H5 => wipe σ3 vs1 = wipe σ2 vs1 ∧ tt1 σ3 H5 fun b H6 =>
    if b = true then te σ3 H6 fun y H7 => ∃ acc, H7 D = some (.lst acc) ∧ acc.length < sizeLine ∧ Nx1 (upd H7 D (.lst (acc ++ [y]))) else Nx1 H6)
def Lc2It (J : It) (g : TG) (tt : TT) (wi1 : TI) (g1 : TG) (tt1 : TT) (te : TE) (vs vs1 : List Nat) (σ : L2.St) (H1 : Hp) (Q : VK) : Prop := ∀ D, H1 D = none → ∃ W : Nat → Nat → Hp → Prop, (∃ m, W 0 m (upd H1 D (.lst []))) ∧ ∀ i m H, W i m H →
  (J.stop i H ∧ Q (.ref D) H) ∨ (J.go i H ∧ ∃ Nx : Hp → Prop, (∀ H', Nx H' → ∃ m', m' < m ∧ W (i + 1) m' H') ∧ ∀ x H', J.yld i H x H' → g x (wipe σ vs) H' fun σ2 H2 => wipe σ2 vs = wipe σ vs ∧ tt σ2 H2 fun b H3 =>
    if b = true then wi1 σ2 H3 fun J1 H4 => InIt J1 g1 tt1 te vs1 σ2 D Nx H4
    else Nx H3)
theorem r_lc2 (k : wi σ H fun J H1 => Lc2It J g tt wi1 g1 tt1 te vs vs1 σ H1 Q) : tLc2 wi g tt wi1 g1 tt1 te vs vs1 σ H Q := k
theorem inL {D : Addr} {Nx : Hp → Prop} (Pv : Nat → List V → Hp → Prop) (h0 : ∃ acc, H D = some (.lst acc) ∧ Pv 0 acc H) (hl : ∀ i acc H', i ≤ xs.length → Pv i acc H' → H' a = some (.lst xs))
    (hs : ∀ i x acc H', xs[i]? = some x → Pv i acc H' → H' D = some (.lst acc) → LTurn g1 tt1 te vs1 σ D (Pv (i + 1)) x H') (hd : ∀ acc H', H' D = some (.lst acc) → Pv xs.length acc H' → Nx H') : InIt (Itl K a) g1 tt1 te vs1 σ D Nx H := by
  refine ⟨fun i m H' => m = xs.length - i ∧ i ≤ xs.length ∧ ∃ acc, H' D = some (.lst acc) ∧ Pv i acc H', ⟨xs.length, by simp, Nat.zero_le _, h0⟩, ?_⟩
  rintro i m H' ⟨rfl, hi, acc, h1, h2⟩
  have q := SqL.of (K := K) (hl i acc H' hi h2)
  by_cases hlt : i < xs.length
  · refine .inr ⟨walk_list.goes i H' hlt q, fun H' => ∃ acc, H' D = some (.lst acc) ∧ Pv (i + 1) acc H', fun H' p' => ⟨xs.length - (i + 1), by omega, rfl, hlt, p'⟩, fun x H'' y => ?_⟩
    obtain ⟨rfl, hx⟩ := walk_list.yields i H' x H'' hlt q y
    exact hs i x acc _ hx h2 h1
  · have e : i = xs.length := by omega
    subst e
    exact .inl ⟨walk_list.stops H' q, hd acc H' h1 h2⟩
theorem lc2L (Pv : Addr → Nat → List V → Hp → Prop) (h0 : ∀ L, H L = none → ∀ H', Ex H H' → H' L = some (.lst []) → Pv L 0 [] H')
    (hl : ∀ L i acc H', H L = none → i ≤ xs.length → Pv L i acc H' → H' a = some (.lst xs))
    (hs : ∀ L i x acc H', H L = none → xs[i]? = some x → Pv L i acc H' → H' L = some (.lst acc) → g x (wipe σ vs) H' fun σ2 H2 => wipe σ2 vs = wipe σ vs ∧ tt σ2 H2 fun b H3 =>
      if b = true then wi1 σ2 H3 fun J1 H4 => InIt J1 g1 tt1 te vs1 σ2 L (fun H' => ∃ acc, H' L = some (.lst acc) ∧ Pv L (i + 1) acc H') H4 else ∃ acc, H3 L = some (.lst acc) ∧ Pv L (i + 1) acc H3)
    (hd : ∀ L acc H', H L = none → H' L = some (.lst acc) → Pv L xs.length acc H' → Q (.ref L) H') : Lc2It (Itl K a) g tt wi1 g1 tt1 te vs vs1 σ H Q := by
  intro L hL
  refine ⟨fun i m H' => m = xs.length - i ∧ i ≤ xs.length ∧ ∃ acc, H' L = some (.lst acc) ∧ Pv L i acc H', ⟨xs.length, by simp, Nat.zero_le _, [], upd_same, h0 L hL _ (Ex.new hL) upd_same⟩, ?_⟩
  rintro i m H' ⟨rfl, hi, acc, h1, h2⟩
  have q := SqL.of (K := K) (hl L i acc H' hL hi h2)
  by_cases hlt : i < xs.length
  · refine .inr ⟨walk_list.goes i H' hlt q, fun H' => ∃ acc, H' L = some (.lst acc) ∧ Pv L (i + 1) acc H', fun H' p' => ⟨xs.length - (i + 1), by omega, rfl, hlt, p'⟩, fun x H'' y => ?_⟩
    obtain ⟨rfl, hx⟩ := walk_list.yields i H' x H'' hlt q y
    exact hs L i x acc _ hL hx h2 h1
  · have e : i = xs.length := by omega
    subst e
    exact .inl ⟨walk_list.stops H' q, hd L acc H' hL h1 h2⟩
end
theorem flat_take {α β : Type} (f : α → List β) (zs : List α) (i : Nat) : ((zs.take i).flatMap f).length ≤ (zs.flatMap f).length := by
  have : (zs.flatMap f).length = ((zs.take i).flatMap f).length + ((zs.drop i).flatMap f).length := by
    rw [← List.length_append, ← List.flatMap_append, List.take_append_drop]
  omega
theorem pw_few {qs : List Rat} (h : qs.length < 2) : qs.Pairwise (· ≤ ·) := by
  match qs, h with
  | [], _ => exact .nil
  | [a], _ => exact List.pairwise_singleton _ _
  | a :: b :: t, h => exact absurd h (by simp)
theorem ord_sortedI {qs : List Rat} {key : List Int} {idx : List Nat} (rk : RKeys qs key) (hlt : ∀ i ∈ idx, i < qs.length) (h : idx.Pairwise (fun i j => leR (key.map fun z => [z]) i j = true)) : (idx.map fun i => qs.getD i 0).Pairwise (· ≤ ·) := by
  rw [List.pairwise_map]
  refine List.Pairwise.imp_of_mem (fun {a b} ha hb z => ?_) h
  have la := hlt a ha
  have lb := hlt b hb
  have ka : a < key.length := by rw [rk.1]; exact la
  have kb : b < key.length := by rw [rk.1]; exact lb
  have ea : (key.map fun z => [z]).getD a [] = [key.getD a 0] := by
    rw [List.getD_eq_getElem?_getD, List.getElem?_map, List.getD_eq_getElem?_getD, List.getElem?_eq_getElem ka]; rfl
  have eb : (key.map fun z => [z]).getD b [] = [key.getD b 0] := by
    rw [List.getD_eq_getElem?_getD, List.getElem?_map, List.getD_eq_getElem?_getD, List.getElem?_eq_getElem kb]; rfl
  have z : leI ((key.map fun z => [z]).getD a []) ((key.map fun z => [z]).getD b []) = true := z
  rw [ea, eb] at z
  unfold leI lexI at z
  have hab := (rk.2.2 b a lb la)
  by_cases e : key.getD b 0 = key.getD a 0
  · rw [hab.2.mp e]; exact Rat.le_refl
  · rw [if_neg e, Bool.not_eq_true', decide_eq_false_iff_not, hab.1, Rat.not_lt] at z; exact z
end
section
open PySem PySem.Spec PyProof.Rows L2 He
section
variable {P : Program} {w : World} {K : PySem.W.Frag} {mg : Str → Option Value} {base : Heap} {C_Ratio C_BadNumber C_Point C_Form f_Ratio_eq f_Ratio_lt f_Ratio_le f_Ratio_gt f_Ratio_ge f_Ratio_bool f_Ratio_neg f_Ratio_abs f_Ratio_str f_Ratio_add f_Ratio_radd f_Ratio_sub f_Ratio_rsub f_Ratio_mul f_Ratio_rmul f_Ratio_floordiv f_Ratio_rfloordiv f_Ratio_mod f_Ratio_rmod f_Ratio_pow f_Ratio_over f_Ratio_floor f_Ratio_ceiling f_Ratio_whole f_Ratio_sign f_Point_mul f_Point_rmul f_Form_mul f_Form_rmul : Addr}
abbrev s_ranked : Stmt := (top 6)
theorem sc_ranked : FnScope ["rows", "places", "index", "key"] ["rows"] (defScope s_ranked) := ⟨rfl, rfl, rfl, by decide +kernel, rfl, by decide +kernel, by decide +kernel⟩
theorem ok_ranked {f : Addr} {fd : FuncData} (F : FunD K "ranked" "ranked" (defArgs s_ranked) (defBody s_ranked) (defScope s_ranked) [] [] f fd) (TB : TBl mg) (TR : RT K mg C_Ratio) (g_FEW : mg "FEW" = some (.int 8 t_FEW)) (c_row_keys : Cl P w K mg base 1 "row_keys" (spRowKeys)) (c_inserted : Cl P w K mg base 1 "inserted" (spOrd)) : FnOk P w K mg base (L2.CX P w) 2 f fd ["rows"] (spOrd) := by
  refine F.ok (CX := L2.CX P w) sc_ranked (fun vs H Q E h => ?_) (fun cdv A outer s H vs Q E hr h => ?_)
  · obtain ⟨k, ks, m, B, rfl, _⟩ := h; rfl
  · obtain ⟨k, ks, m, B, rfl, hk, ok, m1, m2, hB, hn, kont⟩ := h
    have gf := g_FEW
    refine ⟨_, (pss_cons (ps_if (pt_cmpR op_le (pe_callB (kc_len (K := K) rfl) (by rfl) TB.b_len PySem.boot_len (pa_cons (pv 0) pa_nil)) (pe_glob (v := .int 8) (by rfl) g_FEW ⟨_, rfl⟩) (nomark _)) (pss_one (ps_ret (pe_cl c_inserted hr (by decide) (by rfl) psE (pa_cons (pv 0) pa_nil)))) pss_nil) (pss_cons (ps_set (i := 1) sc_ranked.nd rfl (Or.inr rfl) pe_dnewK) (pss_cons (ps_for (passes_of rfl) rfl (kpi_enum (K := K) rfl (by rfl) TB.b_enumerate (pa_cons (pe_cl c_row_keys hr (by decide) (by rfl) psE (pa_cons (pv 0) pa_nil)) pa_nil)) (kpg_tup (K := K) 2 rfl rfl (pgs_cons (pg_name (i := 2) sc_ranked.nd rfl (Or.inl rfl)) (pgs_cons (pg_name (i := 3) sc_ranked.nd rfl (Or.inl rfl)) pgs_nil))) (pss_one (ps_expr (kapp (K := K) rfl PySem.F.plainAttrs_list PySem.F.slot_list_append PySem.F.type_list_append mt_append (pe_dsetd (pv 1) (pv 3) (pe_lst pa_nil) ⟨by rfl, by rfl, by rfl, by rfl⟩) (pa_cons (pv 2) pa_nil))))) (pss_one (ps_ret (pe_lc2 (own := [("key", 3), ("index", 2)]) (vs1 := [2]) (by rfl) sc_ranked.nd (kpi_l (K := K) rfl (pe_callB (kc_sortedI (K := K) rfl) (by rfl) TB.b_sorted (by decide +kernel) (pa_cons (pe_lock (pe_lc (own := [("key", 3)]) (tt := tYes) (by rfl) sc_ranked.nd (pi_keys (pv 1)) (blkOk_by (own := [("key", 3)]) (N := ["rows", "places", "index", "key"]) (sc := defScope s_ranked) (by decide +kernel)) (fun _ _ _ _ _ => (pg_name (i := 3) sc_ranked.nd rfl (Or.inl rfl))) (fun _ _ _ _ _ => pts_nil) (fun _ _ _ _ _ => (pe_callTy kc_int1 (by rfl) TB.b_int (by decide +kernel) (pa_cons (pv 3) pa_nil))))) pa_nil))) (blkOk_by (own := [("key", 3), ("index", 2)]) (N := ["rows", "places", "index", "key"]) (sc := defScope s_ranked) (by decide +kernel)) (by decide) (fun _ _ _ _ _ => (pg_name (i := 3) sc_ranked.nd rfl (Or.inl rfl))) (fun _ _ _ _ _ => pts_nil) (fun _ _ _ _ _ => (kpi_l (K := K) rfl (pe_dget (hu_of hr) (pv 1) (pv 3) (fun _ _ => rfl)))) (fun _ _ _ _ _ => (pg_name (i := 2) sc_ranked.nd rfl (Or.inl rfl))) (fun _ _ _ _ _ => pts_nil) (fun _ _ _ _ _ => (pv 2)))))))), ?_⟩
    have hk0 := hk
    obtain ⟨xs, hx, hl, hat⟩ := hk
    wtm_at "of_rd"
    refine q_lenL hx ?_
    wtm_at "of_rd"
    refine ite2 (fun hle => ?_) (fun hgt => ?_)
    · wtm_at "of_rd"
      refine ⟨k, ks, m, B, rfl, hk0, ok, m1, m2, hB, hn, fun H' p idx e h s => ?_⟩
      wtm_at "of_rd"
      exact kont H' p idx e h s
    have h8 : 0 < ks.length := by omega
    wtm_at "of_rd"
    intro d hd
    have ed := Ex.new (o := HO.dK []) hd
    wtm_at "of_rd"
    refine r_iE ?_
    wtm_at "of_rd"
    refine ⟨k, ks, m, B, rfl, ⟨xs, ed _ _ hx, hl, fun i r hr => by
      obtain ⟨p, z1, z2⟩ := hat i r hr
      exact ⟨p, z1, ed _ _ z2⟩⟩, ok, m1, m2, hB, h8, hn, ?_⟩
    intro H1 Lk key e1 h1 hkey
    wtm_at "of_rd"
    have hd1 := e1 _ _ (upd_same (H := H) (a := d) (o := HO.dK []))
    have e01 := ed.trans e1
    refine ⟨Lk, key.map V.int, rfl, SqL.of h1, ?_⟩
    refine fE (xs := key.map V.int) (fun i σ H' => ∃ (v2 v3 : Option V), σ = [some (.ref k), some (.ref d), v2, v3] ∧ Ex H H' ∧ H' Lk = some (.lst (key.map V.int)) ∧ (∀ b, H' b = none → H1 b = none) ∧ Bks H1 H' d key i)
      ⟨none, none, rfl, e01, h1, fun _ z => z, Bks.zero hd1⟩ (fun i σ H' ⟨_, _, _, _, h, _⟩ => h) ?_ ?_
    · rintro i x T σ H2 H3 hxi ⟨v2, v3, rfl, e2, h2, nn, bk⟩ e3 hT
      obtain ⟨z, hz, ez, rfl⟩ := int_at hxi
      have hik : i < key.length := (List.getElem?_eq_some_iff.mp hz).1
      have hkl := hkey.1
      refine r_gTup hT rfl ?_
      wtm_at "of_rd"
      refine r_dsetd ?_
      wtm_at "of_rd"
      have bk0 := bk
      obtain ⟨kvs, hk2, hkl2, _⟩ := bk0
      refine ⟨d, rfl, isD_k (e3 _ _ hk2), ?_⟩
      wtm_at "of_rd"
      refine r_laidL (by decide) ?_
      intro o H4 e4 n4 h4
      have e34 := e3.trans e4
      have hk4 := e34 _ _ hk2
      refine ⟨kvs, Sum.inl z, hk4, rfl, by rw [sizeLine_eq]; omega, fun v hv => ?_, fun hv => ?_⟩
      · obtain ⟨a, rfl, ha0, ha, hB⟩ := bk.more e34 hk4 (by rw [ez]; exact hv)
        wtm_at "of_rd"
        refine ⟨ty_l ha, ?_⟩
        wtm_at "of_rd"
        refine r_app ha (by rw [List.length_map]; exact Nat.le_trans buck_len (by omega)) ?_
        wtm_at "of_rd"
        exact ⟨_, _, rfl, (e2.trans e34).put (none_of e01 ha0), by rw [upd_ne (fun q => by rw [q, ha0] at h1; cases h1)]; exact e34 _ _ h2, fun b hb => by
          by_cases q : b = a
          · rw [q]; exact ha0
          · rw [upd_ne q] at hb; exact nn b (none_of e34 hb), hB _ rfl⟩
      · have no2 := none_of e3 n4
        have od : o ≠ d := fun q => by rw [q, hk2] at no2; cases no2
        wtm_at "of_rd"
        refine ⟨ty_l (xs := []) (by rw [upd_ne od]; exact h4), ?_⟩
        wtm_at "of_rd"
        refine r_app (xs := []) (by rw [upd_ne od]; exact h4) (by decide) ?_
        wtm_at "of_rd"
        refine ⟨_, _, rfl, ((e2.trans e34).put hd).put (none_of e2 no2), ?_, fun b hb => ?_, by
          have q := bk.new e34 hk4 (by rw [ez]; exact hv) no2 (nn o no2) rfl
          rw [ez] at q; exact q⟩
        · rw [upd_ne (fun q => by rw [q, no2] at h2; cases h2), upd_ne (fun q => by rw [q, hk2] at h2; cases h2)]; exact e34 _ _ h2
        · by_cases q : b = o
          · rw [q]; exact nn o no2
          · rw [upd_ne q] at hb
            by_cases q2 : b = d
            · subst q2; rw [upd_same] at hb; cases hb
            · rw [upd_ne q2] at hb; exact nn b (none_of e34 hb)
    · rintro σ H2 ⟨v2, v3, rfl, e2, h2, nn, kvs, hd2, hkl, nd, hks, hbk⟩
      rw [List.length_map, hkey.1] at hkl hks hbk
      wtm_at "of_rd"
      refine r_lc2 ?_
      wtm_at "of_rd"
      refine ⟨d, _, hd2, trivial, fun od => ?_⟩
      wtm_at "of_rd"
      refine r_iK ?_
      wtm_at "of_rd"
      refine ⟨d, od, rfl, .inl ⟨kvs, upd_same, ?_⟩⟩
      refine lKeysI (fK kvs) upd_same ?_ ?_
      · intro L i kk v acc H' hL e hacc ha hkv
        obtain ⟨z, ez, _⟩ := hks _ (List.mem_of_getElem? hkv)
        have ez : kk = Sum.inl z := ez
        subst ez
        show LTurn _ _ _ _ _ L _ (V.int z) H'
        wtm_at "of_rd"
        refine ⟨rfl, ?_⟩
        wtm_at "of_rd"
        refine lputI hacc e hL ha ?_ (by have := (List.getElem?_eq_some_iff.mp hkv).1; omega)
        unfold fK
        rw [hkv]; rfl
      intro L H3 hL e3 h3
      rw [fK_map] at h3
      refine ⟨e3 _ _ upd_same, ?_⟩
      have e23 := lock_ex hd2 e3
      have Ld : L ≠ d := fun q => by rw [q, upd_same] at hL; cases hL
      wtm_at "of_rd"
      refine ⟨L, _, rfl, SqL.of (by rw [upd_ne Ld]; exact h3), fun ns' p hp hs hpn => ?_⟩
      have e24 := e23.trans (Ex.new (o := HO.lst (ns'.map V.int)) hpn)
      have lt := lt_of_le_ne hp hs (keys_nodup nd fun kv hm => by
        obtain ⟨z, ez, _⟩ := hks kv hm
        exact ⟨z, ez⟩)
      have hin : ∀ j, j < ks.length → key.getD j 0 ∈ ns' := fun j hj => by
        obtain ⟨a, g1, _⟩ := hbk j hj
        exact hp.mem_iff.mpr (key_in g1)
      have hmem : ∀ z ∈ ns', ∃ j, j < ks.length ∧ key.getD j 0 = z := fun z hz => by
        obtain ⟨kv, hm, e⟩ := List.mem_map.mp (hp.mem_iff.mp hz)
        obtain ⟨z', e1, j, hj, ej⟩ := hks kv hm
        rw [e1] at e
        exact ⟨j, hj, by rw [ej]; exact e⟩
      have so := buck_sorted hkey ok lt hin
      have hlen : (ns'.flatMap (buck key ks.length)).length = ks.length := by rw [so.1.length_eq, List.length_range]
      generalize hH5 : upd (upd H3 d (HO.dK kvs)) p (HO.lst (ns'.map V.int)) = H5 at *
      refine i_L (by rw [← hH5]; exact upd_same) ?_
      have h5 : H5 p = some (.lst (ns'.map V.int)) := by rw [← hH5]; exact upd_same
      refine lc2L (fun D i acc H' => Ex H5 H' ∧ acc = ((ns'.take i).flatMap (buck key ks.length)).map nat) (fun L hL H' e h => ⟨e, rfl⟩) (fun L i acc H' hL hi ⟨e, _⟩ => e _ _ h5) ?_ ?_
      · rintro D i x acc H6 hD hxi ⟨e, rfl⟩ hacc
        obtain ⟨z, hz, ez, rfl⟩ := int_at hxi
        obtain ⟨j, hj, ej⟩ := hmem z (List.mem_of_getElem? hz)
        obtain ⟨b, g1, g2, g3⟩ := hbk j hj
        rw [ej] at g1 g3
        have tk : ns'.take (i + 1) = ns'.take i ++ [z] := by rw [List.take_add_one, hz]; rfl
        wtm_at "of_rd"
        refine ⟨rfl, ?_⟩
        wtm_at "of_rd"
        refine ⟨d, _, rfl, by
          have := DGet.k (k := Sum.inl z) ((e24.trans e) _ _ hd2)
          rw [g1] at this; exact this, ?_⟩
        refine i_L ((e24.trans e) _ _ g3) ?_
        refine inL (fun j acc H' => Ex H5 H' ∧ acc = ((ns'.take i).flatMap (buck key ks.length) ++ (buck key ks.length z).take j).map nat) ⟨_, hacc, e, by rw [List.take_zero, List.append_nil]⟩ (fun i acc H' hi ⟨e, _⟩ => (e24.trans e) _ _ g3) ?_ ?_
        · rintro j2 x2 acc2 H7 hx2 ⟨e7, rfl⟩ hacc2
          obtain ⟨w, hw, rfl⟩ := nat_at hx2
          have ltot : ((ns'.take i).flatMap (buck key ks.length) ++ (buck key ks.length z).take j2).length ≤ ks.length + ks.length := by
            rw [List.length_append]
            have q1 : ((ns'.take i).flatMap (buck key ks.length)).length ≤ ks.length := by
              have := flat_take (buck key ks.length) ns' i
              omega
            have q2 : ((buck key ks.length z).take j2).length ≤ ks.length := Nat.le_trans (List.length_take_le' _ _) buck_len
            omega
          wtm_at "of_rd"
          refine ⟨rfl, ?_⟩
          wtm_at "of_rd"
          refine lput hacc2 (by rw [List.length_map]; omega) ⟨e7.put hD, ?_⟩
          rw [List.take_add_one, hw]
          simp
        · rintro acc2 H7 h7 ⟨e7, rfl⟩
          refine ⟨_, h7, e7, ?_⟩
          rw [tk, List.flatMap_append, List.length_map, List.take_length]
          simp
      · rintro D acc H6 hD h6 ⟨e, rfl⟩
        rw [List.length_map, List.take_length] at h6
        wtm_at "of_rd"
        exact kont H6 D _ (e2.trans (e24.trans e)) h6 so
end
end
namespace L2
open PySem PySem.Spec PyProof.Rows
/-- what the clauses wish of an exception of the body, one after the other; some i: slot i is the clause's name's -/
def wMix (K : PySem.W.Frag) (Wout : WX) (D : Ends) : List (Value × Option Nat × (Addr → Value → Option Addr → TS)) → WX
  | [] => Wout
  | (c, none, ts) :: r => fun cls d σ H => ∃ b, PySem.W.exmOne K cls c = some b ∧ (b = true → ∀ a, H a = none → ts a cls d D σ H) ∧ (b = false → wMix K Wout D r cls d σ H)
  | (c, some i, ts) :: r => fun cls d σ H => ∃ b, PySem.W.exmOne K cls c = some b ∧
      (b = true → ∀ a, H a = none → ts a cls d { nx := fun σ' H' => D.nx (σ'.set i none) H', rt := D.rt, bk := fun σ' H' => D.bk (σ'.set i none) H', ct := fun σ' H' => D.ct (σ'.set i none) H' } (σ.set i (some (.ref a))) H) ∧
      (b = false → wMix K Wout D r cls d σ H)
inductive HdsX (X : Cx) : List ExceptHandler → List (Value × Option Nat × (Addr → Value → Option Addr → TS)) → Prop
  | nil : HdsX X [] []
  | cons {x : Str} {c : Value} {ts : Addr → Value → Option Addr → TS} {b₀ : Stmt} {suite : List Stmt} {np pos' : Pos} {hds : List ExceptHandler} {l : List (Value × Option Nat × (Addr → Value → Option Addr → TS))} (hc : Names X x c)
      (hsu : ∀ (a : Addr) (oe : Obj) (cls : Value) (d : Option Addr) (pn : List (Addr × Obj)), Zc cls d oe → (∃ vs, oe.data = .fields vs) → PSs (X.suite a ((a, oe) :: pn)) (b₀ :: suite) (ts a cls d)) (r : HdsX X hds l) :
      HdsX X (.ExceptHandler (some (.Name x np)) none (b₀ :: suite) pos' :: hds) ((c, none, ts) :: l)
  | named {x n : Str} {i : Nat} {c : Value} {ts : Addr → Value → Option Addr → TS} {b₀ : Stmt} {suite : List Stmt} {np pos' : Pos} {hds : List ExceptHandler} {l : List (Value × Option Nat × (Addr → Value → Option Addr → TS))} (hc : Names X x c)
      (hi : X.N[i]? = some n) (hln : X.env.kindOf n = some .local)
      (hsu : ∀ (a : Addr) (oe : Obj) (cls : Value) (d : Option Addr) (pn : List (Addr × Obj)), Zc cls d oe → (∃ vs, oe.data = .fields vs) → PSs (X.suite a ((a, oe) :: pn)) (b₀ :: suite) (ts a cls d)) (r : HdsX X hds l) :
      HdsX X (.ExceptHandler (some (.Name x np)) (some n) (b₀ :: suite) pos' :: hds) ((c, some i, ts) :: l)
section
variable {X : Cx} {body : List Stmt} {h₀ : ExceptHandler} {hds : List ExceptHandler} {l : List (Value × Option Nat × (Addr → Value → Option Addr → TS))} {pos : Pos} {tb : WX → TS} {Wout : WX}
theorem ps_try_mix (hs : X.stack = X.env :: X.outer) (hf : X.env.frame = some X.env.locals) (hN : X.N.Nodup) (tk : Takes X Wout)
    (hb : ∀ (W : WX) (pn : List (Addr × Obj)) (xe : Value → Shared → Prop), Takes (X.tr pn xe) W → PassesOwn (model X.prog X.w) X.A X.env xe → PSs (X.tr pn xe) body (tb W))
    (hh : HdsX X (h₀ :: hds) l) : PS X (.Try body (h₀ :: hds) [] [] pos) (fun D σ H => tb (wMix X.K Wout D l) D σ H) := by
  refine ⟨fun pins s σ H D I h => ?_⟩
  have ok := I.ok
  have hfr : X.A.frames = some (X.env :: X.outer) := by rw [ok.frames, hs]
  refine wpAny_Try_except ?_
  refine wpAny_mono ((hb (wMix X.K Wout D l) (X.pn ++ pins) (fun e s₁ => wpAny (model X.prog X.w) X.A (noteFrame e X.env) (fun _ s₂ => wpAny (model X.prog X.w) X.A (setFlight e none) (fun _ s₃ =>
    wpAny (model X.prog X.w) X.A (handleBy e X.env (h₀ :: hds)) (SP X pins D) X.xe s₃) X.xe s₂) X.xe s₁) (fun u s' xx => ?_) PassesOwn.looking).run [] s σ H D (I.toTry _) h) (fun f s1 hsp => ?_) (fun e s1 he => he)
  · -- the catch
    obtain ⟨a, B, sI, pins', σ', H', cls, d, rfl, J', nb, up, sky, na, os, ag, w⟩ := xx
    have J : Inv X pins σ' H' sI := J'.ofTry ok
    have sky' : Sky B (X.env :: X.outer) a (Zc cls d) X.env.locals s'.heap := by rw [← hs]; exact sky
    show wpAny (model X.prog X.w) X.A (noteFrame (.ref a) X.env) _ _ _
    refine Sky.land Zc.steady hfr hf sky' fun h3 fl3 up3 => ?_
    have J3 : Inv X pins σ' H' { s' with heap := h3 } := J.landed nb fl3.1 (up.trans up3) os ag
    obtain ⟨oe3, vs3, he3, hz3, hd3⟩ := fl3.there
    have notFr : ∀ {h : Heap} {o : Obj} {vs : Array Value}, h.FunFrames B (X.env :: X.outer) → h.get? a = some o → o.data = .fields vs → a ∉ frs (X.env :: X.outer) := fun {h o vs} ff e dd hm => by
      obtain ⟨_, o', e', hnf⟩ := ff.mem hm
      rw [e] at e'; cases e'
      exact hnf _ dd
    have nfr := notFr fl3.2.2.1 he3 hd3
    have nL : a ≠ X.env.locals := fun z => nfr (List.mem_filterMap.mpr ⟨X.env, List.mem_cons_self, by rw [hf, z]⟩)
    have nF : a ∉ X.fs := fun hm => by
      obtain ⟨e, he, q⟩ := List.mem_filterMap.mp hm
      exact nfr (List.mem_filterMap.mpr ⟨e, List.mem_cons_of_mem _ he, q⟩)
    have S3 := J3.suite he3 hd3 na nL nF
    have LT : PySem.W.Looks (model X.prog X.w) h3 (typeOf (.ref a)) cls := fun A Q E s k q => wpAny_typeOf_ref (k _ _ he3) (by rw [hz3.1]; exact q)
    have test : ∀ {x : Str} {c : Value} {np : Pos}, Names X x c → ∀ {Q : Value → Shared → Prop} {E : Value → Shared → Prop}, Q c { s' with heap := h3 } → wpAny (model X.prog X.w) (X.A.mark (some (.ref a))) (eval (.Name x np) X.env) Q E { s' with heap := h3 } := fun {x c np} hc {Q E} q => by
      obtain ⟨hg, hdbg, hm | ⟨hm, hv, hnn⟩⟩ := hc
      · exact ld_glob (X := X.suite a ((a, oe3) :: (X.pn ++ pins))) S3 hg hm q hdbg
      · exact ld_blt (X := X.suite a ((a, oe3) :: (X.pn ++ pins))) S3 hg hm hv q hnn hdbg
    have go : ∀ {hds' : List ExceptHandler} {l' : List (Value × Option Nat × (Addr → Value → Option Addr → TS))}, HdsX X hds' l' → wMix X.K Wout D l' cls d σ' H' →
        wpAny (model X.prog X.w) X.A (handleBy (.ref a) X.env hds') (SP X pins D) X.xe { s' with heap := h3 } := by
      intro hds' l' hk
      induction hk with
      | nil =>
        intro w
        refine wpAny_handleBy_nil ?_
        obtain ⟨k1, k2, k3, oe, vs, T, oT, ts', he, hz, hd, h1, hr⟩ := id fl3
        unfold PySem.passOn
        refine wpAny_bind (wpAny_field he hd h1 ?_)
        rw [if_neg (show ¬ ((Value.ref T == Value.none) = true) from by simp)]
        have fin : wpAny (model X.prog X.w) X.A (setFlight (.ref a) X.env.frame) (fun _ s4 => wpAny (model X.prog X.w) X.A (throw (.ref a) : Sem Flow) (SP X pins D) X.xe s4) X.xe { s' with heap := h3 } := by
          rw [hf]
          refine HandSPX.setFlight_upZ fl3 fun h4 hh4 up4 => wpAny_throw (tk _ _ ?_)
          exact ⟨a, B, sI, pins, σ', H', cls, d, rfl, J, nb, (up.trans up3).trans up4, .inr (.inr (by rw [hs]; exact hh4)), na, os, ag, w⟩
        first
          | exact wpAny_bind (wpAny_pure (wpAny_bind fin))
          | exact wpAny_bind fin
      | @cons x c ts b₀ suite np pos' hds2 l2 hc hsu r ih =>
        intro w
        obtain ⟨b, hb1, hyes, hno⟩ := w
        refine wpAny_handleBy_cons (codeAny_handlers_test ?_) (by intro q; cases q)
        have LM := PySem.W.exm_one (M := model X.prog X.w) (J3.kIn) LT hb1
        refine test hc (LM.here ?_)
        cases b with
        | true =>
          refine codeAny_handlers_suite ?_
          refine HandSPX.lands_againZ fl3 fun h4 fl4 up4 => ?_
          have J4 : Inv X pins σ' H' { s' with heap := h4 } := J.landed nb fl4.1 ((up.trans up3).trans up4) os ag
          obtain ⟨oe4, vs4, he4, hz4, hd4⟩ := fl4.there
          have S4 := J4.suite he4 hd4 na nL nF
          refine wpAny_mono ((hsu a oe4 cls d (X.pn ++ pins) hz4 ⟨_, hd4⟩).run [] _ _ H' _ S4 (hyes rfl a na)) (fun f s6 hsp => ?_) (fun _ _ z => False.elim z)
          cases f with
          | next =>
            obtain ⟨σ6, H6, S6, q6⟩ := hsp
            exact ⟨_, _, S6.unsuite ok, q6⟩
          | brk =>
            obtain ⟨σ6, H6, S6, q6⟩ := hsp
            exact ⟨_, _, S6.unsuite ok, q6⟩
          | cont =>
            obtain ⟨σ6, H6, S6, q6⟩ := hsp
            exact ⟨_, _, S6.unsuite ok, q6⟩
          | ret u =>
            obtain ⟨v6, σ6, H6, S6, r6, q6⟩ := hsp
            exact ⟨_, _, _, S6.unsuite ok, r6, q6⟩
        | false =>
          show wpAny _ X.A (handleBy (.ref a) X.env hds2) _ _ _
          exact ih (hno rfl)
      | @named x n i c ts b₀ suite np pos' hds2 l2 hc hi hln hsu r ih =>
        intro w
        obtain ⟨b, hb1, hyes, hno⟩ := w
        have hloc : Loc X.env.scope n := .inl hln
        refine wpAny_handleBy_cons (codeAny_handlers_test ?_) (by intro q; cases q)
        have LM := PySem.W.exm_one (M := model X.prog X.w) (J3.kIn) LT hb1
        refine test hc (LM.here ?_)
        cases b with
        | true =>
          refine codeAny_handlers_suite_as ?_
          refine HandSPX.lands_againZ fl3 fun h4 fl4 up4 => ?_
          have J4 : Inv X pins σ' H' { s' with heap := h4 } := J.landed nb fl4.1 ((up.trans up3).trans up4) os ag
          obtain ⟨oe4, vs4, he4, hz4, hd4⟩ := fl4.there
          have S4 := J4.suite he4 hd4 na nL nF
          refine store_ok (X := X.suite a ((a, oe4) :: (X.pn ++ pins))) (v := .ref a) S4 hN hi hloc rfl (fun s5 S5 => ?_) (.inr hln)
          refine wpAny_mono ((hsu a oe4 cls d (X.pn ++ pins) hz4 ⟨_, hd4⟩).run [] s5 _ H' _ S5 (hyes rfl a na)) (fun f s6 hsp => ?_) (fun _ _ z => False.elim z)
          have end_ : ∀ {σ6 : L2.St} {H6 : Hp} {Q : Shared → Prop}, Inv (X.suite a ((a, oe4) :: (X.pn ++ pins))) [] σ6 H6 s6 → (∀ s7, Inv X pins (σ6.set i none) H6 s7 → Q s7) →
              wpAny (model X.prog X.w) X.A (do bindName X.env n .none; unbindBehindTheSuite X.env n pos') (fun _ s7 => Q s7) X.xe s6 := fun {σ6 H6 Q} S6 hq => gone_ok (S6.unsuite ok) hN hi hln hq
          cases f with
          | next =>
            obtain ⟨σ6, H6, S6, q6⟩ := hsp
            exact end_ S6 fun s7 J7 => ⟨_, _, J7, q6⟩
          | brk =>
            obtain ⟨σ6, H6, S6, q6⟩ := hsp
            exact end_ S6 fun s7 J7 => ⟨_, _, J7, q6⟩
          | cont =>
            obtain ⟨σ6, H6, S6, q6⟩ := hsp
            exact end_ S6 fun s7 J7 => ⟨_, _, J7, q6⟩
          | ret u =>
            obtain ⟨v6, σ6, H6, S6, r6, q6⟩ := hsp
            exact end_ S6 fun s7 J7 => ⟨_, _, _, J7, r6, q6⟩
        | false =>
          show wpAny _ X.A (handleBy (.ref a) X.env hds2) _ _ _
          exact ih (hno rfl)
    exact go hh w
  · cases f with
    | next =>
      obtain ⟨σ', H', J', q⟩ := hsp
      exact wpAny_execs_nil ⟨σ', H', J'.ofTry ok, q⟩
    | brk =>
      obtain ⟨σ', H', J', q⟩ := hsp
      exact ⟨σ', H', J'.ofTry ok, q⟩
    | cont =>
      obtain ⟨σ', H', J', q⟩ := hsp
      exact ⟨σ', H', J'.ofTry ok, q⟩
    | ret u =>
      obtain ⟨v, σ', H', J', r, q⟩ := hsp
      exact ⟨v, σ', H', J'.ofTry ok, r, q⟩
end
end L2
section
open PySem PySem.Spec PyProof.Rows L2
/-- at d stand the fields of an exception -/
def FsAt (H : Hp) (d : Addr) (fs : List (Str × V)) : Prop := H d = some (.xd fs) ∨ H d = some (exd d fs)
theorem FsAt.ex {H H' : Hp} {d : Addr} {fs : List (Str × V)} (h : FsAt H d fs) (e : Ex H H') : FsAt H' d fs := by
  rcases h with h | h
  · exact .inl (e _ _ h)
  · exact .inr (e _ _ h)
def tXfE (a : Addr) (cls : Value) (d : Option Addr) (C : Addr) (f : Str) (te : TE) : TE := fun σ H Q => te σ H fun x H1 => x = .ref a ∧ cls = .ref C ∧ ∃ (dd : Addr) (fs : List (Str × V)) (v : V), d = some dd ∧ FsAt H1 dd fs ∧ fs.lookup f = some v ∧ Q v H1
theorem pe_xfE {X : Cx} {a C : Addr} {oe : Obj} {cls : Value} {d : Option Addr} {pn : List (Addr × Obj)} {e : Expr} {te : TE} {pos : Pos} {n : Str} (T : XfC X.K C) (hno : PySem.W.findIn X.K (.ref C) n = some none)
    (hz : Zc cls d oe) (hf : ∃ vs, oe.data = .fields vs) (he : PE (X.suite a ((a, oe) :: pn)) e te) (hb : attributeBase e n X.env (eval e X.env) = eval e X.env := by rfl) :
    PE (X.suite a ((a, oe) :: pn)) (.Attribute e n pos) (tXfE a cls d C n te) := by
  refine ⟨fun pins s σ H Q I h => ?_⟩
  refine attr_of hb (thn (he.run pins s σ H _ I h) fun u s1 hh => ?_)
  obtain ⟨x, H1, I1, rx, ex, ec, dd, fs, v, ed, ea, l, q⟩ := hh
  subst ex
  obtain rfl : u = Value.ref a := rx
  subst ec
  subst ed
  obtain ⟨ha, _⟩ := I1.pin (a, oe) (List.mem_append_left _ List.mem_cons_self)
  obtain ⟨vs, hd⟩ := hf
  have hx : ObjOk X.prog X.w H1 s1.heap dd (.xd fs) := by
    rcases ea with ea | ea
    · exact I1.hok dd _ ea
    · have z : ObjOk X.prog X.w H1 s1.heap dd (exd dd fs) := I1.hok dd _ ea
      exact z.1
  obtain ⟨mA, hns, hr⟩ := hx
  obtain ⟨od, ho, hl⟩ := lookIn_ns hns
  obtain ⟨u, hu, ru⟩ := RelO.some_of (v := v) (o := mA n) (by rw [← l]; exact hr n)
  have J : PySem.W.InstAt s1.heap a oe C (some od) := ⟨ha, hz.1, by unfold PySem.W.notCls; rw [hd] <;> rfl, by rw [hz.2]; exact ho⟩
  exact PySem.HandSPX.exc_get I1.kIn J T.ga T.gg T.exC (PySem.W.findObj_own T.hdC hno rfl (by rw [hl, hu])) (handed_of ru) ⟨v, H1, I1.tok _, ru, q⟩
end
section
open PySem PySem.Spec PyProof.Rows L2 He
section
variable {K : PySem.W.Frag} {C CR CB CN a p : Addr} {H H' : Hp} {Q : VK} {x y : Rat} {v u w : V} {E : XK} {g : TG} {ts : TS} {D : Ends} {σ : L2.St} {xs ys : List V} {R : It → Hp → Prop}
/-- turns over a written tuple -/
def FT (a : Addr) (ys : List V) (g : TG) (ts : TS) (D : Ends) : List V → L2.St → Hp → Prop
  | [], σ, H => D.nx σ H
  | x :: xs, σ, H => Turn1 g ts D (fun σ' H' => H' a = some (.tup ys) ∧ FT a ys g ts D xs σ' H') x σ H
theorem f_unrollT (h : H a = some (.tup xs)) (k : FT a xs g ts D xs σ H) : ForIt (Itt K a) g ts D σ H := by
  refine for_tup (xs := xs) (fun i σ H => H a = some (.tup xs) ∧ FT a xs g ts D (xs.drop i) σ H) ⟨h, k⟩ (fun i σ H _ h => SqT.of h.1) ?_ ?_
  · intro i x σ H hx ⟨h1, h2⟩
    obtain ⟨hi, rfl⟩ := List.getElem?_eq_some_iff.mp hx
    rw [List.drop_eq_getElem_cons hi] at h2
    exact h2
  · intro σ H ⟨h1, h2⟩
    rw [List.drop_eq_nil_of_le (Nat.le_refl _)] at h2
    exact h2
theorem ft_cons {x : V} (k : g x σ H fun σ2 H2 => ts { D with nx := fun σ' H' => H' a = some (.tup ys) ∧ FT a ys g ts D xs σ' H', ct := fun σ' H' => H' a = some (.tup ys) ∧ FT a ys g ts D xs σ' H', bk := D.nx } σ2 H2) : FT a ys g ts D (x :: xs) σ H := k
theorem ft_nil (k : D.nx σ H) : FT a ys g ts D [] σ H := k
theorem x_itT (k : ∃ xs, H p = some (.tup xs) ∧ R (Itt K p) H) : ItT K (.ref p) H R := by obtain ⟨xs, h, k⟩ := k; exact i_T h k
theorem x_unT (k : ∃ xs, H a = some (.tup xs) ∧ FT a xs g ts D xs σ H) : ForIt (Itt K a) g ts D σ H := by obtain ⟨xs, h, k⟩ := k; exact f_unrollT h k
theorem x_goT (k : H a = some (.tup ys) ∧ FT a ys g ts D xs σ H) : H a = some (.tup ys) ∧ FT a ys g ts D xs σ H := k
/-- v is no whole number -/
def WrI (K : PySem.W.Frag) (H : Hp) (v : V) : Prop := ∃ t, TyX K H v t ∧ (PySem.W.kitOne K t (.type "int") = some false ∨ (PySem.W.kitOne K t (.type "int") = some true ∧ PySem.W.kitOne K t (.type "bool") = some true))
theorem q_isInt_wI (h : WrI K H v) (k : Q (.bl false) H) : spIsInt K [v] H Q E := by
  obtain ⟨t, ht, h | ⟨h1, h2⟩⟩ := h
  · exact ⟨v, t, false, false, rfl, ht, h, (fun z => nomatch z), k⟩
  · exact ⟨v, t, true, true, rfl, ht, h1, (fun _ => h2), k⟩
theorem Wrong.wrI (h : Wrong K C H v) : WrI K H v := by obtain ⟨t, h1, _, h2⟩ := h; exact ⟨t, h1, h2⟩
theorem tyX_ex {t : Value} (e : Ex H H') (h : TyX K H v t) : TyX K H' v t := by
  cases h with
  | base h =>
    refine .base ?_
    cases h with
    | non => exact .non
    | bl x => exact .bl x
    | int i => exact .int i
    | str x => exact .str x
    | flt x => exact .flt x
    | lst h => exact .lst (e _ _ h)
    | frz h => exact .frz (e _ _ h)
    | tup h => exact .tup (e _ _ h)
    | dK h => exact .dK (e _ _ h)
    | dT h => exact .dT (e _ _ h)
    | ins h a b c d f => exact .ins (e _ _ h) a b c d f
  | byt b => exact .byt b
  | set h => exact .set (e _ _ h)
  | kList h c => exact .kList h c
  | kTuple h c => exact .kTuple h c
  | kDict h c => exact .kDict h c
  | fTuple h => exact .fTuple (e _ _ h)
  | fDict h => exact .fDict (e _ _ h)
theorem NotC.ex (h : NotC K C H v) (e : Ex H H') : NotC K C H' v := by
  obtain ⟨t, h1, h2⟩ := h
  exact ⟨t, tyX_ex e h1, h2⟩
theorem WrI.ex (h : WrI K H v) (e : Ex H H') : WrI K H' v := by
  obtain ⟨t, h1, h2⟩ := h
  exact ⟨t, tyX_ex e h1, h2⟩
theorem x_isI {n : Int} (k : Q (.bl true) H) : spIsInt K [.int n] H Q E := q_isInt_i k
def fG (a b c : Int) : List (Str × V) := [("a", .int a), ("b", .int b), ("c", .int c)]
/-- at p stands an object of the class C with the whole numbers a, b, c -/
def IsG (C : Addr) (H : Hp) (p : Addr) (a b c : Int) : Prop := ∃ dx, H p = some (.ins C dx (fG a b c))
structure GT (K : PySem.W.Frag) (C : Addr) : Prop where
  k : ClsP K C
  nA : NoAttr K C "a"
  nB : NoAttr K C "b"
  nC : NoAttr K C "c"
theorem IsG.ex {a b c : Int} (h : IsG C H p a b c) (e : Ex H H') : IsG C H' p a b c := by obtain ⟨dx, h⟩ := h; exact ⟨dx, e _ _ h⟩
theorem IsG.le {a b c : Int} (h : IsG C H p a b c) (e : Le H H') : IsG C H' p a b c := by obtain ⟨dx, h⟩ := h; exact ⟨dx, e _ _ h trivial⟩
theorem IsP.le (h : IsP C CR H p x y) (e : Le H H') : IsP C CR H' p x y := by
  obtain ⟨dx, a, b, h1, h2, h3⟩ := h
  exact ⟨dx, a, b, e _ _ h1 trivial, h2.le e, h3.le e⟩
theorem IsG.tyx {a b c : Int} (T : GT K C) (h : IsG C H p a b c) : TyX K H (.ref p) (.ref C) := by
  obtain ⟨dx, h1⟩ := h
  exact T.k.o.ty h1
theorem IsP.exA (e : Ex H H') (h : IsP C CR H p x y) : IsP C CR H' p x y := h.ex e
theorem IsP.leA (e : Le H H') (h : IsP C CR H p x y) : IsP C CR H' p x y := h.le e
theorem IsG.exA {a b c : Int} (e : Ex H H') (h : IsG C H p a b c) : IsG C H' p a b c := h.ex e
theorem IsG.leA {a b c : Int} (e : Le H H') (h : IsG C H p a b c) : IsG C H' p a b c := h.le e
theorem ab_ne : ¬ (("a" : Str) = "b") := by decide +kernel
theorem ab_ne' : ¬ (("b" : Str) = "a") := by decide +kernel
theorem ac_ne : ¬ (("a" : Str) = "c") := by decide +kernel
theorem ac_ne' : ¬ (("c" : Str) = "a") := by decide +kernel
theorem bc_ne : ¬ (("b" : Str) = "c") := by decide +kernel
theorem bc_ne' : ¬ (("c" : Str) = "b") := by decide +kernel
theorem lk_ga {a b c : Int} : (fG a b c).lookup ("a" : Str) = some (.int a) := by unfold fG; rw [List.lookup_cons]; simp
theorem lk_gb {a b c : Int} : (fG a b c).lookup ("b" : Str) = some (.int b) := by
  unfold fG
  rw [List.lookup_cons, show (("b" : Str) == "a") = false from by simpa using ab_ne', List.lookup_cons]
  simp
theorem lk_gc {a b c : Int} : (fG a b c).lookup ("c" : Str) = some (.int c) := by
  unfold fG
  rw [List.lookup_cons, show (("c" : Str) == "a") = false from by simpa using ac_ne', List.lookup_cons, show (("c" : Str) == "b") = false from by simpa using bc_ne', List.lookup_cons]
  simp
theorem putF_abc {a b c : V} : putF "c" c (putF "b" b (putF "a" a [])) = [(("a" : Str), a), (("b" : Str), b), (("c" : Str), c)] := by
  have h1 : putF "b" b (putF "a" a []) = [(("a" : Str), a), (("b" : Str), b)] := by
    show (if ("a" : Str) = "b" then _ else (("a" : Str), a) :: putF "b" b []) = _
    rw [if_neg ab_ne]; rfl
  rw [h1]
  show (if ("a" : Str) = "c" then _ else (("a" : Str), a) :: (if ("b" : Str) = "c" then _ else (("b" : Str), b) :: putF "c" c [])) = _
  rw [if_neg ac_ne, if_neg bc_ne]; rfl
theorem x_ga (k : ∃ C a b c, GT K C ∧ IsG C H p a b c ∧ Q (.int a) H) : FldAt K "a" (.ref p) H Q := by
  obtain ⟨C, a, b, c, T, ⟨dx, h⟩, k⟩ := k
  exact ⟨p, C, dx, _, _, rfl, h, T.k.o.cl, T.nA, lk_ga, k⟩
theorem x_gb (k : ∃ C a b c, GT K C ∧ IsG C H p a b c ∧ Q (.int b) H) : FldAt K "b" (.ref p) H Q := by
  obtain ⟨C, a, b, c, T, ⟨dx, h⟩, k⟩ := k
  exact ⟨p, C, dx, _, _, rfl, h, T.k.o.cl, T.nB, lk_gb, k⟩
theorem x_gc (k : ∃ C a b c, GT K C ∧ IsG C H p a b c ∧ Q (.int c) H) : FldAt K "c" (.ref p) H Q := by
  obtain ⟨C, a, b, c, T, ⟨dx, h⟩, k⟩ := k
  exact ⟨p, C, dx, _, _, rfl, h, T.k.o.cl, T.nC, lk_gc, k⟩
theorem x_px (k : ∃ C CR x y, PT K C ∧ IsP C CR H p x y ∧ ∀ a, IsR CR H a x → Q (.ref a) H) : FldAt K "x" (.ref p) H Q := by
  obtain ⟨C, CR, x, y, T, h, k⟩ := k; exact r_x T rfl h k
theorem x_py (k : ∃ C CR x y, PT K C ∧ IsP C CR H p x y ∧ ∀ a, IsR CR H a y → Q (.ref a) H) : FldAt K "y" (.ref p) H Q := by
  obtain ⟨C, CR, x, y, T, h, k⟩ := k; exact r_y T rfl h k
theorem x_mkP {dvs vs : List V} (k : ∃ u v x y, vs ++ dvs = [u, v] ∧ NumV CR H u x ∧ NumV CR H v y ∧ Bq x ∧ Bq y ∧ ∀ H' p, Ex H H' → IsP C CR H' p x y → Q (.ref p) H') : MkAt C (spPInit K C CR CB) dvs E vs H Q := by
  obtain ⟨u, v, x, y, e, h1, h2, b1, b2, k⟩ := k; exact q_mkP e h1 h2 b1 b2 k
/-- which of three is no whole number first -/
def FirstW (K : PySem.W.Frag) (H : Hp) (x u v w : V) : Prop := (WrI K H u ∧ x = u) ∨ (∃ a, u = .int a ∧ WrI K H v ∧ x = v) ∨ (∃ a b, u = .int a ∧ v = .int b ∧ WrI K H w ∧ x = w)
theorem FirstW.ex {z : V} (h : FirstW K H v u w z) (e : Ex H H') : FirstW K H' v u w z := by
  rcases h with ⟨h, z⟩ | ⟨a, z1, h, z⟩ | ⟨a, b, z1, z2, h, z⟩
  · exact .inl ⟨h.ex e, z⟩
  · exact .inr (.inl ⟨a, z1, h.ex e, z⟩)
  · exact .inr (.inr ⟨a, b, z1, z2, h.ex e, z⟩)
/-- raises the own error CN with the fields fs (the last first) -/
def Rzs (E : XK) (CN : Addr) (fs : List (Str × V)) (H : Hp) : Prop := ∀ d H', Ex H H' → FsAt H' d fs → E (.ref CN) (some d) H'
theorem Rzs.ex {fs : List (Str × V)} (h : Rzs E CN fs H) (e : Ex H H') : Rzs E CN fs H' := fun d H2 e2 hd => h d H2 (e.trans e2) hd
def spGInit (K : PySem.W.Frag) (C CB CN : Addr) : Sp := fun vs H Q E => ∃ p dx u v w, vs = [.ref p, u, v, w] ∧ H p = some (.ins C dx []) ∧
  ((∃ a b c : Int, u = .int a ∧ v = .int b ∧ w = .int c ∧ Sb 400 a ∧ Sb 400 b ∧ Sb 400 c ∧
    ((0 < a ∧ b * b < 4 * a * c ∧ ∀ H', StayP p H H' → IsG C H' p a b c → Q .non H') ∨
     (¬ (0 < a ∧ b * b < 4 * a * c) ∧ Rzs E CN [("c", w), ("b", v), ("a", u)] H))) ∨
   (∃ x, FirstW K H x u v w ∧ Rz E CB "value" x H))
def spGEq (K : PySem.W.Frag) (C : Addr) : Sp := fun vs H Q _ => ∃ p v a b c, vs = [.ref p, v] ∧ IsG C H p a b c ∧ ((∃ q a' b' c', v = .ref q ∧ IsG C H q a' b' c' ∧ Q (.bl (decide (a = a' ∧ b = b' ∧ c = c'))) H) ∨ (NotC K C H v ∧ Q (.bl false) H))
/-- the sizes that a form takes: numbers to 2 ^ 400, fractions alike -/
def spMeasure (K : PySem.W.Frag) (CG CP CR CX : Addr) : Sp := fun vs H Q E => ∃ g a b c v, vs = [.ref g, v] ∧ IsG CG H g a b c ∧ Sb 400 a ∧ Sb 400 b ∧ Sb 400 c ∧
  ((∃ p x y, v = .ref p ∧ IsP CP CR H p x y ∧ Sr 400 x ∧ Sr 400 y ∧ ∀ H' q, Ex H H' → IsR CR H' q ((a : Rat) * x * x + (b : Rat) * x * y + (c : Rat) * y * y) → Q (.ref q) H') ∨ (NotC K CP H v ∧ Rz E CX "value" v H))
def spWhM (CG : Addr) : Sp := fun vs H Q _ => ∃ g a b c x y, vs = [.ref g, .int x, .int y] ∧ IsG CG H g a b c ∧ Sb 400 a ∧ Sb 400 b ∧ Sb 400 c ∧ Sb 900 x ∧ Sb 900 y ∧ Q (.int ((a * x + b * y) * x + c * y * y)) H
def spWhP (CG : Addr) : Sp := fun vs H Q _ => ∃ g a b c r u x y z w, vs = [.ref g, .ref r, .ref u] ∧ IsG CG H g a b c ∧ H r = some (.tup [.int x, .int y]) ∧ H u = some (.tup [.int z, .int w]) ∧ Sb 400 a ∧ Sb 400 b ∧ Sb 400 c ∧ Sb 900 x ∧ Sb 900 y ∧ Sb 900 z ∧ Sb 900 w ∧ Q (.int (2 * a * x * z + b * (x * w + y * z) + 2 * c * y * w)) H
theorem x_whm {g : Addr} {i j : Int} (k : ∃ a b c, IsG C H g a b c ∧ Sb 400 a ∧ Sb 400 b ∧ Sb 400 c ∧ Sb 900 i ∧ Sb 900 j ∧ Q (.int ((a * i + b * j) * i + c * j * j)) H) : spWhM C [.ref g, .int i, .int j] H Q E := by
  obtain ⟨a, b, c, h⟩ := k; exact ⟨g, a, b, c, i, j, rfl, h⟩
theorem x_whp {g r u : Addr} (k : ∃ a b c x y z w, IsG C H g a b c ∧ H r = some (.tup [.int x, .int y]) ∧ H u = some (.tup [.int z, .int w]) ∧ Sb 400 a ∧ Sb 400 b ∧ Sb 400 c ∧ Sb 900 x ∧ Sb 900 y ∧ Sb 900 z ∧ Sb 900 w ∧ Q (.int (2 * a * x * z + b * (x * w + y * z) + 2 * c * y * w)) H) : spWhP C [.ref g, .ref r, .ref u] H Q E := by
  obtain ⟨a, b, c, x, y, z, w, h⟩ := k; exact ⟨g, a, b, c, r, u, x, y, z, w, rfl, h⟩
theorem x_mG {R : Addr → Prop} {m : Str} {g : Addr} (k : ∃ a b c, IsG C H g a b c ∧ (!(m == ("a" : Str)) && !(m == ("b" : Str)) && !(m == ("c" : Str))) = true ∧ R g) : ∃ a' dx fs, V.ref g = V.ref a' ∧ H a' = some (.ins C dx fs) ∧ fs.lookup m = none ∧ R a' := by
  obtain ⟨a, b, c, ⟨dx, h⟩, hm, k⟩ := k
  obtain ⟨h1, h3⟩ := Bool.and_eq_true_iff.mp hm
  obtain ⟨h1, h2⟩ := Bool.and_eq_true_iff.mp h1
  refine ⟨g, dx, _, rfl, h, ?_, k⟩
  unfold fG
  rw [List.lookup_cons, show (m == ("a" : Str)) = false from by simpa using h1, List.lookup_cons, show (m == ("b" : Str)) = false from by simpa using h2, List.lookup_cons, show (m == ("c" : Str)) = false from by simpa using h3]
  rfl
theorem frq_meas {a b c : Int} {x y : Rat} : FrQ ((a : Rat) * x * x + (b : Rat) * x * y + (c : Rat) * y * y) ((a * (x.num * (y.den : Int)) + b * (y.num * (x.den : Int))) * (x.num * (y.den : Int)) + c * (y.num * (x.den : Int)) * (y.num * (x.den : Int))) ((x.den : Int) * (x.den : Int) * (y.den : Int) * (y.den : Int)) := by
  have h1 := rat_nd x
  have h2 := rat_nd y
  unfold FrQ
  simp only [Rat.intCast_mul, Rat.intCast_add]
  rw [h1, h2]
  generalize ((x.den : Int) : Rat) = d
  generalize ((y.den : Int) : Rat) = e
  grind
theorem frq_pairG {a b c : Int} {x y s t : Rat} : FrQ ((2 : Rat) * (a : Rat) * x * s + (b : Rat) * (x * t + y * s) + (2 : Rat) * (c : Rat) * y * t) (2 * a * (x.num * (y.den : Int)) * (s.num * (t.den : Int)) + b * ((x.num * (y.den : Int)) * (t.num * (s.den : Int)) + (y.num * (x.den : Int)) * (s.num * (t.den : Int))) + 2 * c * (y.num * (x.den : Int)) * (t.num * (s.den : Int))) ((x.den : Int) * (y.den : Int) * (s.den : Int) * (t.den : Int)) := by
  have h1 := rat_nd x
  have h2 := rat_nd y
  have h3 := rat_nd s
  have h4 := rat_nd t
  unfold FrQ
  simp only [Rat.intCast_mul, Rat.intCast_add]
  rw [h1, h2, h3, h4, show ((2 : Int) : Rat) = 2 from rfl]
  generalize ((x.den : Int) : Rat) = d
  generalize ((y.den : Int) : Rat) = e
  generalize ((s.den : Int) : Rat) = d'
  generalize ((t.den : Int) : Rat) = e'
  grind
theorem den4 {x y s t : Rat} : (x.den : Int) * (y.den : Int) * (s.den : Int) * (t.den : Int) ≠ 0 := by
  have h1 := x.den_nz
  have h2 := y.den_nz
  have h3 := s.den_nz
  have h4 := t.den_nz
  have h5 : x.den * y.den * s.den * t.den ≠ 0 := by
    intro z
    rcases Nat.mul_eq_zero.mp z with z | z
    · rcases Nat.mul_eq_zero.mp z with z | z
      · rcases Nat.mul_eq_zero.mp z with z | z
        · exact h1 z
        · exact h2 z
      · exact h3 z
    · exact h4 z
  exact_mod_cast h5
def spPairG (K : PySem.W.Frag) (CG CP CR CX : Addr) : Sp := fun vs H Q E => ∃ g a b c u v, vs = [.ref g, u, v] ∧ IsG CG H g a b c ∧ Sb 400 a ∧ Sb 400 b ∧ Sb 400 c ∧
  ((∃ p x y q s t, u = .ref p ∧ v = .ref q ∧ IsP CP CR H p x y ∧ IsP CP CR H q s t ∧ Sr 400 x ∧ Sr 400 y ∧ Sr 400 s ∧ Sr 400 t ∧ ∀ H' r, Ex H H' → IsR CR H' r ((2 : Rat) * (a : Rat) * x * s + (b : Rat) * (x * t + y * s) + (2 : Rat) * (c : Rat) * y * t) → Q (.ref r) H') ∨
   (∃ x, ((NotC K CP H u ∧ x = u) ∨ (∃ p s t, u = .ref p ∧ IsP CP CR H p s t ∧ NotC K CP H v ∧ x = v)) ∧ Rz E CX "value" x H))
end
end
section
open PySem PySem.Spec PyProof.Rows L2 He
end
open PySem PySem.Spec PyProof.Rows L2 He
local macro_rules | `(tactic| wtm_at "of_ra1") => `(tactic| first
  | with_reducible first | refine ft_cons ?_ | refine ft_nil ?_ | refine x_isI ?_
  | ((with_reducible refine x_goT ?_); refine ⟨by wtm_at "of_uq", ?_⟩)
  | ((with_reducible refine x_itT ?_); refine ⟨_, by wtm_at "of_uq", ?_⟩)
  | ((with_reducible refine x_unT ?_); refine ⟨_, by wtm_at "of_uq", ?_⟩)
  | ((with_reducible refine x_ga ?_); refine ⟨_, _, _, _, by assumption, by wtm_at "of_uq", ?_⟩)
  | ((with_reducible refine x_gb ?_); refine ⟨_, _, _, _, by assumption, by wtm_at "of_uq", ?_⟩)
  | ((with_reducible refine x_gc ?_); refine ⟨_, _, _, _, by assumption, by wtm_at "of_uq", ?_⟩)
  | ((with_reducible refine x_px ?_); refine ⟨_, _, _, _, by assumption, by wtm_at "of_uq", ?_⟩; intro _ _)
  | ((with_reducible refine x_py ?_); refine ⟨_, _, _, _, by assumption, by wtm_at "of_uq", ?_⟩; intro _ _)
  | ((with_reducible refine x_mG ?_); refine ⟨_, _, _, by wtm_at "of_uq", by decide +kernel, ?_⟩)
  | ((with_reducible refine x_whm ?_); refine ⟨_, _, _, by wtm_at "of_uq", by assumption, by assumption, by assumption, Sb.mono (by wtm_at "of_szi") (by decide), Sb.mono (by wtm_at "of_szi") (by decide), ?_⟩)
  | ((with_reducible refine x_whp ?_); refine ⟨_, _, _, _, _, _, _, by wtm_at "of_uq", by wtm_at "of_uq", by wtm_at "of_uq", by assumption, by assumption, by assumption, Sb.mono (by wtm_at "of_szi") (by decide), Sb.mono (by wtm_at "of_szi") (by decide), Sb.mono (by wtm_at "of_szi") (by decide), Sb.mono (by wtm_at "of_szi") (by decide), ?_⟩)
  | ((with_reducible refine x_mkP ?_); refine ⟨_, _, _, _, by wtm_at "of_cx", by wtm_at "of_uq", by wtm_at "of_uq", by wtm_at "of_szb", by wtm_at "of_szb", ?_⟩; intro _ _ _ _))
section
open PySem PySem.Spec PyProof.Rows L2 He
end
open PySem PySem.Spec PyProof.Rows L2 He
local macro_rules | `(tactic| wtm_at "of_uqx") => `(tactic| first
  | (apply IsP.exA; assumption; wtm_at "of_uq") | (apply IsG.exA; assumption; wtm_at "of_uq") | (apply IsP.leA; assumption; wtm_at "of_uq") | (apply IsG.leA; assumption; wtm_at "of_uq"))
section
open PySem PySem.Spec PyProof.Rows L2 He
end
section
open PySem PySem.Spec PyProof.Rows L2 He LamX
theorem lam_memQ {q q' : Str} {PT : Addr} (e : q ++ ("<lambda>" : Str) = q') : (PT, q ++ ("<lambda>" : Str)) ∈ [(PT, q')] := by rw [e]; exact List.mem_singleton.mpr rfl
theorem lam_uniQ {q q' : Str} {PT : Addr} (e : q ++ ("<lambda>" : Str) = q') : ∀ p ∈ [(PT, q')], p.1 = PT → p.2 = q ++ ("<lambda>" : Str) := by
  rw [e]
  intro p hp _
  rw [List.mem_singleton.mp hp]
theorem Ex.toN {H H' : Hp} (e : Ex H H') : ExtN H H' := fun a o h _ => e a o h
/-- what a value must not be to stay under all -/
theorem exn_x {H H' : Hp} {a : Addr} {φ : Heap → Prop} (e : ExtN H H') (h : H a = some (.ext φ)) : H' a = some (.ext φ) := e _ _ h fun _ z => nomatch z
theorem exn_t {H H' : Hp} {a : Addr} {xs : List V} (e : ExtN H H') (h : H a = some (.tup xs)) : H' a = some (.tup xs) := e _ _ h fun _ z => nomatch z
theorem exn_l {H H' : Hp} {a : Addr} {xs : List V} (e : ExtN H H') (h : H a = some (.lst xs)) : H' a = some (.lst xs) := e _ _ h fun _ z => nomatch z
theorem IsR.exN {C p : Addr} {H H' : Hp} {q : Rat} (e : ExtN H H') (h : IsR C H p q) : IsR C H' p q := by
  obtain ⟨dx, h⟩ := h; exact ⟨dx, e _ _ h fun _ z => nomatch z⟩
theorem NumV.exN {C : Addr} {v : V} {H H' : Hp} {q : Rat} (e : ExtN H H') (h : NumV C H v q) : NumV C H' v q := by
  rcases h with ⟨n, rfl, z⟩ | ⟨p, rfl, h⟩
  · exact .inl ⟨n, rfl, z⟩
  · exact .inr ⟨p, rfl, h.exN e⟩
theorem IsLam.exN {X : Cx} {k : Nat} {q : Str} {H H' : Hp} {f : Addr} {t : XK → TE} (h : IsLam X k q H f t) (e : ExtN H H') : IsLam X k q H' f t := by
  obtain ⟨c', p, b, sc, B, h1, h2⟩ := h
  exact ⟨c', p, b, sc, B, exn_x e h1, exn_x e h2⟩
/-- values that are no number, by kinds -/
inductive OddK (H : Hp) : Nat → V → Prop
  | non : OddK H 0 .non
  | tr : OddK H 1 (.bl true)
  | fa : OddK H 2 (.bl false)
  | s1 : OddK H 3 (.str "1")
  | ls {a : Addr} (h : H a = some (.lst [])) : OddK H 4 (.ref a)
  | tp {a : Addr} (h : H a = some (.tup [.int 1, .int 2])) : OddK H 5 (.ref a)
  | s2 : OddK H 6 (.str "1/2")
  | i0 : OddK H 7 (.int 0)
section
variable {H H' : Hp} {k : Nat} {v : V} {K : PySem.W.Frag} {C CB : Addr} {E : XK} {Q : VK} {dvs vs : List V}
theorem OddK.exN (h : OddK H k v) (e : ExtN H H') : OddK H' k v := by
  cases h with
  | non => exact .non
  | tr => exact .tr
  | fa => exact .fa
  | s1 => exact .s1
  | ls h => exact .ls (exn_l e h)
  | tp h => exact .tp (exn_t e h)
  | s2 => exact .s2
  | i0 => exact .i0
theorem OddK.ex (h : OddK H k v) (e : Ex H H') : OddK H' k v := h.exN e.toN
theorem OddK.le (h : OddK H k v) (e : Le H H') : OddK H' k v := by
  cases h with
  | non => exact .non
  | tr => exact .tr
  | fa => exact .fa
  | s1 => exact .s1
  | ls h => exact .ls (e.lst h)
  | tp h => exact .tp (e.tup h)
  | s2 => exact .s2
  | i0 => exact .i0
theorem OddK.wrong (T : ClsP K C) (h : OddK H k v) (hk : k < 7) : Wrong K C H v := by
  cases h with
  | non => exact wrN T
  | tr => exact ⟨_, tyB, kit_bool T, .inr ⟨ki_bi, ki_bb⟩⟩
  | fa => exact ⟨_, tyB, kit_bool T, .inr ⟨ki_bi, ki_bb⟩⟩
  | s1 => exact wrS T
  | ls h => exact wrL T h
  | tp h => exact wrT T h
  | s2 => exact wrS T
  | i0 => omega
def oddD : Nat → PyData
  | 0 => .none
  | 1 => .bool true
  | 2 => .bool false
  | 3 => .str "1"
  | 4 => .list []
  | 5 => .tuple [.int 1, .int 2]
  | 6 => .str "1/2"
  | _ => .int 0
theorem OddK.dp (h : OddK H k v) : Dp K H v (oddD k) := by
  cases h with
  | non => exact .non
  | tr => exact .bl true
  | fa => exact .bl false
  | s1 => exact .str _
  | ls h => exact .lst (SqL.of h) .nil
  | tp h => exact .tup (SqT.of h) (.cons (.int _) (.cons (.int _) .nil))
  | s2 => exact .str _
  | i0 => exact .int 0
theorem oddD_ok : ∀ k ≤ 7, (oddD k).showable = true ∧ (oddD k).hasDict = false ∧ (oddD k).depth ≤ 60 ∧ (oddD k).shown.length ≤ 2000 ∧ (∀ i, oddD k = .int i → i.natAbs.log2 < 1920) := by
  intro k hk
  match k, hk with
  | 0, _ => exact ⟨by decide +kernel, by decide +kernel, by decide +kernel, by decide +kernel, fun i z => nomatch z⟩
  | 1, _ => exact ⟨by decide +kernel, by decide +kernel, by decide +kernel, by decide +kernel, fun i z => nomatch z⟩
  | 2, _ => exact ⟨by decide +kernel, by decide +kernel, by decide +kernel, by decide +kernel, fun i z => nomatch z⟩
  | 3, _ => exact ⟨by decide +kernel, by decide +kernel, by decide +kernel, by decide +kernel, fun i z => nomatch z⟩
  | 4, _ => exact ⟨by decide +kernel, by decide +kernel, by decide +kernel, by decide +kernel, fun i z => nomatch z⟩
  | 5, _ => exact ⟨by decide +kernel, by decide +kernel, by decide +kernel, by decide +kernel, fun i z => nomatch z⟩
  | 6, _ => exact ⟨by decide +kernel, by decide +kernel, by decide +kernel, by decide +kernel, fun i z => nomatch z⟩
  | 7, _ => exact ⟨by decide +kernel, by decide +kernel, by decide +kernel, by decide +kernel, fun i z => by cases z; decide⟩
theorem x_rep (k : ∃ n, OddK H n v ∧ n ≤ 7 ∧ Q (.str (oddD n).shown) H) : rRep K [v] H Q := by
  obtain ⟨n, h, hn, k⟩ := k
  obtain ⟨h1, h2, h3, h4, h5⟩ := oddD_ok n hn
  exact ⟨v, oddD n, rfl, h.dp, h1, h2, h3, h4, h5, k⟩
/-- Ratio of wrong parts -/
theorem Rz.ofNew {x dx : Addr} {u : V} (hz : Rz E CB "value" u H) (h1 : H x = none) (h2 : H dx = none) {o o' : HO} : Rz E CB "value" u (upd (upd H dx o) x o') := hz.ex (Ex.new2 h2 h1)
theorem q_mkO1 {u y : V} {n : Nat} (T : ClsP K C) (e : vs ++ dvs = [u, y]) (h : OddK H n u) (hn : n < 7) (hz : Rz E CB "value" u H) : MkAt C (spRInit K C CB) dvs E vs H Q := by
  intro p dx hp hdx hne
  rw [e]
  exact ⟨p, dx, u, y, rfl, upd_same, .inr (.inl ⟨(h.ex (Ex.new2 hdx hp)).wrong T hn, hz.ex (Ex.new2 hdx hp)⟩)⟩
theorem q_mkO2 {y : V} {n : Nat} {i : Int} (T : ClsP K C) (e : vs ++ dvs = [.int i, y]) (h : OddK H n y) (hn : n < 7) (hz : Rz E CB "value" y H) : MkAt C (spRInit K C CB) dvs E vs H Q := by
  intro p dx hp hdx hne
  rw [e]
  exact ⟨p, dx, _, y, rfl, upd_same, .inr (.inr (.inl ⟨i, rfl, (h.ex (Ex.new2 hdx hp)).wrong T hn, hz.ex (Ex.new2 hdx hp)⟩))⟩
theorem q_mk00 {i : Int} (e : vs ++ dvs = [.int i, .int 0]) (hz : Rz E CB "value" (.int 0) H) : MkAt C (spRInit K C CB) dvs E vs H Q := by
  intro p dx hp hdx hne
  rw [e]
  exact ⟨p, dx, _, _, rfl, upd_same, .inr (.inr (.inr ⟨i, rfl, rfl, hz.ex (Ex.new2 hdx hp)⟩))⟩
end
/-- the raise's road to the tuple that is handed back -/
def Eref (CB : Addr) (Q : VK) : XK := fun cls d H' => cls = .ref CB ∧ ∃ dd v, d = some dd ∧ H' dd = some (.xd [("value", v)]) ∧ ∀ H2 t, Ex H' H2 → H2 t = some (.tup [.str "refused", v]) → Q (.ref t) H2
theorem rz_ref {CB : Addr} {Q : VK} {H : Hp} {v : V} (k : ∀ H2 t, Ex H H2 → H2 t = some (.tup [.str "refused", v]) → Q (.ref t) H2) : Rz (Eref CB Q) CB "value" v H := fun d H' e hd _ => ⟨rfl, d, v, rfl, hd, fun H2 t e2 h2 => k H2 t (e.trans e2) h2⟩
theorem r_give {X : Cx} {k : Nat} {TT : (XK → Hp → VK → Prop) → Hp → VK → Prop} {te : TE} {σ : L2.St} {H : Hp} {Q : VK} (h : te σ H fun v H1 => ∃ f t, v = .ref f ∧ IsLam X k (X.env.qual ++ "<lambda>") H1 f t ∧ TT (fun E H' Q' => t E σ H' Q') H1 Q) : tGive X k TT te σ H Q := h
theorem r_lamV {T : List (Addr × Str)} {q : Str} {params : Arguments} {body : Expr} {scope : Scope} {cl : List (Str × Addr)} {σ : L2.St} {H : Hp} {Q : VK} (h : Tabs T H) (k : ∀ H1 f c', ExtN H H1 → Tabs T H1 → H f = none → H1 f = some (LamO q params body scope cl f c') → H1 c' = some (CodeO c' q) → Q (.ref f) H1) : tLamV T q params body scope cl σ H Q := ⟨h, k⟩
theorem tabs_ex {T : List (Addr × Str)} {H H' : Hp} (t : Tabs T H) (e : Ex H H') : Tabs T H' := tabs_le t e.le
end
section
open PySem PySem.Spec PyProof.Rows L2 He LamX
theorem mk_lam {X : Cx} {k : Nat} {H : Hp} {f c' : Addr} {params : Arguments} {body : Expr} {scope : Scope} {t : XK → TE} (l : H f = some (LamO (X.env.qual ++ "<lambda>") params body scope (cloFrom X.env.cells scope.names []) f c')) (d : H c' = some (CodeO c' (X.env.qual ++ "<lambda>"))) (B : LamB X k params body scope t) : IsLam X k (X.env.qual ++ "<lambda>") H f t := ⟨c', params, body, scope, B, l, d⟩
end
open PySem PySem.Spec PyProof.Rows L2 He LamX
local macro_rules | `(tactic| wtm_at "of_tbs") => `(tactic| first | assumption | (refine tabs_ex ?_ (by assumption); wtm_at "of_tbs"))
section
open PySem PySem.Spec PyProof.Rows L2 He LamX
end
open PySem PySem.Spec PyProof.Rows L2 He LamX
local macro_rules | `(tactic| wtm_at "of_uqx") => `(tactic| first
  | (refine OddK.ex ?_ (by assumption); wtm_at "of_uq") | (refine OddK.exN ?_ (by assumption); wtm_at "of_uq") | (refine OddK.le ?_ (by assumption); wtm_at "of_uq") | (refine IsLam.ex ?_ (by assumption); wtm_at "of_uq") | (refine IsLam.exN ?_ (by assumption); wtm_at "of_uq")
  | (apply exn_t; assumption; wtm_at "of_uq") | (apply exn_l; assumption; wtm_at "of_uq") | (apply IsR.exN; assumption; wtm_at "of_uq") | (apply NumV.exN; assumption; wtm_at "of_uq"))
section
open PySem PySem.Spec PyProof.Rows L2 He LamX
/-- all stays but dicts and tables -/
def Lq (H H' : Hp) : Prop := ∀ a o, H a = some o → Stab o → (∀ ps, o ≠ .tbl ps) → H' a = some o
theorem Lq.trans {H H1 H2 : Hp} (a : Lq H H1) (b : Lq H1 H2) : Lq H H2 := fun x o h s n => b x o (a x o h s n) s n
theorem Lq.ofEx {H H' : Hp} (e : Ex H H') : Lq H H' := fun a o h _ _ => e a o h
theorem Lq.ofLe {H H' : Hp} (e : Le H H') : Lq H H' := fun a o h s _ => e a o h s
theorem Lq.ofN {H H' : Hp} (e : ExtN H H') : Lq H H' := fun a o h _ n => e a o h n
theorem Lq.tup {H H' : Hp} {a : Addr} {xs : List V} (e : Lq H H') (h : H a = some (.tup xs)) : H' a = some (.tup xs) := e _ _ h trivial fun _ z => nomatch z
theorem IsR.lq {C p : Addr} {H H' : Hp} {q : Rat} (e : Lq H H') (h : IsR C H p q) : IsR C H' p q := by
  obtain ⟨dx, h⟩ := h; exact ⟨dx, e _ _ h trivial fun _ z => nomatch z⟩
end
open PySem PySem.Spec PyProof.Rows L2 He LamX
local macro_rules | `(tactic| wtm_at "of_lqs") => `(tactic| first | assumption | exact Lq.ofEx (by assumption) | exact Lq.ofLe (by assumption) | exact Lq.ofN (by assumption) | exact Lq.ofEx (Ex.refl _) | (refine Lq.trans ?_ (Lq.ofEx (by assumption)); wtm_at "of_lqs") | (refine Lq.trans ?_ (Lq.ofN (by assumption)); wtm_at "of_lqs") | (refine Lq.trans ?_ (Lq.ofLe (by assumption)); wtm_at "of_lqs") | (refine Lq.trans ?_ (by assumption); wtm_at "of_lqs"))
section
open PySem PySem.Spec PyProof.Rows L2 He LamX
end
section
open PySem PySem.Spec PyProof.Rows L2 He LamX
theorem odd_pick {H : Hp} {l t : Addr} {i : Nat} {v : V} (h1 : H l = some (.lst [])) (h2 : H t = some (.tup [.int 1, .int 2])) (hv : ([.non, .bl true, .bl false, .str "1", .ref l, .ref t, .str "1/2"] : List V)[i]? = some v) : OddK H i v ∧ i < 7 := by
  match i, hv with
  | 0, e => cases e; exact ⟨.non, by decide⟩
  | 1, e => cases e; exact ⟨.tr, by decide⟩
  | 2, e => cases e; exact ⟨.fa, by decide⟩
  | 3, e => cases e; exact ⟨.s1, by decide⟩
  | 4, e => cases e; exact ⟨.ls h1, by decide⟩
  | 5, e => cases e; exact ⟨.tp h2, by decide⟩
  | 6, e => cases e; exact ⟨.s2, by decide⟩
  | i + 7, e => cases e
theorem divInt_0 (d : Int) : Rat.divInt 0 d = 0 := Rat.zero_divInt d
theorem zero_pick {C : Addr} {H : Hp} {l t : Addr} {i : Nat} {v : V} (h1 : IsR C H l (Rat.divInt 0 1)) (h2 : IsR C H t (Rat.divInt 0 7)) (hv : ([.int 0, .ref l, .ref t] : List V)[i]? = some v) : NumV C H v 0 := by
  rw [divInt_0] at h1 h2
  match i, hv with
  | 0, e => cases e; exact .inl ⟨0, rfl, rfl⟩
  | 1, e => cases e; exact num_r h1
  | 2, e => cases e; exact num_r h2
  | i + 3, e => cases e
end
section
open PySem PySem.Spec PyProof.Rows L2 He LamX
section
variable {g : TG} {ts : TS} {D : Ends} {σ : L2.St} {H : Hp} {xs : List V} {x : V}
/-- turns over written values -/
def FV (g : TG) (ts : TS) (D : Ends) : List V → L2.St → Hp → Prop
  | [], σ, H => D.nx σ H
  | x :: xs, σ, H => Turn1 g ts D (fun σ' H' => FV g ts D xs σ' H') x σ H
theorem f_unrollR {n : Nat} (xs : List V) (e : (List.range n).map (fun i : Nat => V.int ((0 : Int) + (i : Int))) = xs) (k : FV g ts D xs σ H) : ForIt (Itr 0 n) g ts D σ H := by
  refine fR' (fun i σ H => FV g ts D (xs.drop i) σ H) k ?_ ?_
  · intro i σ H hi k
    have hl : xs.length = n := by rw [← e, List.length_map, List.length_range]
    rw [List.drop_eq_getElem_cons (show i < xs.length by omega)] at k
    have : xs[i]'(by omega) = V.int ((0 : Int) + (i : Int)) := by
      subst e
      simp
    rw [this] at k
    exact k
  · intro σ H k
    rw [List.drop_eq_nil_of_le (by rw [← e, List.length_map, List.length_range]; exact Nat.le_refl _)] at k
    exact k
theorem fv_cons (k : g x σ H fun σ2 H2 => ts { D with nx := fun σ' H' => FV g ts D xs σ' H', ct := fun σ' H' => FV g ts D xs σ' H', bk := D.nx } σ2 H2) : FV g ts D (x :: xs) σ H := k
theorem fv_nil (k : D.nx σ H) : FV g ts D [] σ H := k
theorem x_ifD {p A B : Prop} [Decidable p] (k : p ∧ A) : if decide p = true then A else B := iteD k.1 k.2
theorem x_ifDn {p A B : Prop} [Decidable p] (k : ¬ p ∧ B) : if decide p = true then A else B := iteDn k.1 k.2
end
end
open PySem PySem.Spec PyProof.Rows L2 He LamX
local macro_rules | `(tactic| wtm_at "of_ra1") => `(tactic| first
  | with_reducible refine fv_cons ?_
  | with_reducible refine fv_nil ?_
  | ((with_reducible refine x_rep ?_); refine ⟨?_, ?_, ?_, ?_⟩; rotate_left; (first | wtm_at "of_uq" | exact OddK.i0); omega)
  | ((with_reducible refine x_ifD ?_); refine ⟨by decide, ?_⟩)
  | ((with_reducible refine x_ifDn ?_); refine ⟨by decide, ?_⟩))
section
open PySem PySem.Spec PyProof.Rows L2 He LamX
end
section
open PySem PySem.Spec PyProof.Rows L2 He LamX
theorem r_seqL2 {ta tb us : TS} {D : Ends} {σ : L2.St} {H : Hp} (P : L2.St → Hp → Prop) (k : ∀ N : L2.St → Hp → Prop, (∀ σ' H', P σ' H' → N σ' H') → tSeq ta tb { D with nx := N } σ H) (hP : ∀ σ' H', P σ' H' → us D σ' H') : tSeq ta (tSeq tb us) D σ H := k (us D) hP
section
variable {K : PySem.W.Frag} {g : TG} {tt : TT} {te : TE} {vs : List Nat} {σ : L2.St} {H H4 : Hp} {a L : Addr} {ys xs acc : List V} {x y : V} {Q : VK} {P : List V → Hp → Prop}
/-- a comprehension's turns over the rest of a list that stays ys -/
def FC (a : Addr) (ys : List V) (g : TG) (tt : TT) (te : TE) (vs : List Nat) (σ : L2.St) (L : Addr) (Q : VK) : List V → List V → Hp → Prop
  | [], _, H => Q (.ref L) H
  | x :: xs, _, H => LTurn g tt te vs σ L (fun acc' H2 => H2 a = some (.lst ys) ∧ FC a ys g tt te vs σ L Q xs acc' H2) x H
theorem lc_unroll (k : ∃ ys, H a = some (.lst ys) ∧ ∀ L H', H L = none → Ex H H' → H' L = some (.lst []) → FC a ys g tt te vs σ L Q ys [] H') : LcIt (Itl K a) g tt te vs σ H Q := by
  obtain ⟨ys, h, k⟩ := k
  refine lL (xs := ys) (fun L i acc H' => H' a = some (.lst ys) ∧ FC a ys g tt te vs σ L Q (ys.drop i) acc H') ?_ (fun L i acc H' _ _ h => h.1) ?_ ?_
  · intro L hL H' e h0
    exact ⟨e _ _ h, k L H' hL e h0⟩
  · intro L i x acc H' hL hx ⟨h1, h2⟩ _
    obtain ⟨hi, rfl⟩ := List.getElem?_eq_some_iff.mp hx
    rw [List.drop_eq_getElem_cons hi] at h2
    exact h2
  · intro L acc H' hL _ ⟨h1, h2⟩
    rw [List.drop_eq_nil_of_le (Nat.le_refl _)] at h2
    exact h2
theorem fc_cons (k : LTurn g tt te vs σ L (fun acc' H2 => H2 a = some (.lst ys) ∧ FC a ys g tt te vs σ L Q xs acc' H2) x H) : FC a ys g tt te vs σ L Q (x :: xs) acc H := k
theorem fc_nil (k : Q (.ref L) H) : FC a ys g tt te vs σ L Q [] acc H := k
theorem fc_go (k : H a = some (.lst ys) ∧ FC a ys g tt te vs σ L Q xs acc H) : H a = some (.lst ys) ∧ FC a ys g tt te vs σ L Q xs acc H := k
theorem x_put (k : ∃ H0 acc, H0 L = none ∧ Ex H0 H4 ∧ H4 L = some (.lst acc) ∧ Nat.ble acc.length 1000 = true ∧ ∀ H2, Ex H0 H2 → H2 L = some (.lst (acc ++ [y])) → P (acc ++ [y]) H2) : LPut L P y H4 := by
  obtain ⟨H0, acc, h0, e, h, hl, k⟩ := k
  exact lput h (Nat.le_trans (Nat.le_of_ble_eq_true hl) (by decide)) (k _ (e.put h0) upd_same)
theorem x_wip {A B : L2.St} {P : Prop} {v v' : List Nat} (k : wipe A v = wipe B v' ∧ P) : wipe A v = wipe B v' ∧ P := k
theorem x_turn (k : g x (wipe σ vs) H fun σ2 H2 => wipe σ2 vs = wipe σ vs ∧ tt σ2 H2 fun b H3 => if b = true then te σ2 H3 fun y H4 => LPut L P y H4 else ∃ acc, H3 L = some (.lst acc) ∧ P acc H3) : LTurn g tt te vs σ L P x H := k
end
section
variable {K : PySem.W.Frag} {mg : Str → Option Value} {C a p : Addr} {H : Hp} {Q : VK} {q r : Rat} {E : XK} {sp : Sp} {z : V}
theorem bq_0 : Bq (0 : Rat) := ⟨by show (0 : Int).natAbs < _; exact Nat.two_pow_pos _, by show (1 : Int).natAbs < _; exact Nat.one_lt_two_pow (by decide)⟩
theorem o_N (h : IsR C H a q) (hz : NumV C H z r) (k : sp [.ref a, z] H Q E) : rO C sp E isInt (.ref a) z H Q ∨ rO C sp E (isIns C) (.ref a) z H Q := by
  rcases hz with ⟨n, rfl, _⟩ | ⟨p, rfl, hp⟩
  · exact .inl (a_I h k)
  · exact .inr (a_2 h hp k)
theorem eq0 (hz : NumV C H z r) (e : r = 0) (k : Q (.bl true) H) : rEq z (.int 0) H Q ∨ rO C (spREq K C) E (isAny K C) z (.int 0) H Q := by
  subst e
  rcases hz with ⟨n, rfl, e⟩ | ⟨p, rfl, hp⟩
  · have : n = 0 := (congrArg Rat.num e).symm
    subst this
    exact .inl (r_eqI (by rw [decide_eq_true rfl]; exact k))
  · exact .inr (a_cI hp (q_REq hp (num_i (n := 0)) (by rw [decide_eq_true (show (0 : Rat) = ((0 : Int) : Rat) from rfl)]; exact k)))
theorem isb0 (T : RT K mg C) (hz : NumV C H z r) (k : Q (.bl false) H) : rIsi K [z, .ty "bool"] H Q := by
  rcases hz with ⟨n, rfl, _⟩ | ⟨p, rfl, hp⟩
  · exact r_isi (.ty _) tyI ki_ib k
  · exact r_isi (.ty _) (hp.tyx T) (kit_nb T.k) k
theorem NumV.lq {H' : Hp} (e : Lq H H') (h : NumV C H z q) : NumV C H' z q := by
  rcases h with ⟨n, rfl, z⟩ | ⟨p, rfl, h⟩
  · exact .inl ⟨n, rfl, z⟩
  · exact .inr ⟨p, rfl, h.lq e⟩
theorem tabs_lqE {T : List (Addr × Str)} {H' : Hp} (t : Tabs T H) (e : Ex H H') : Tabs T H' := tabs_ex t e
end
end
open PySem PySem.Spec PyProof.Rows L2 He LamX
local macro_rules | `(tactic| wtm_at "of_ra1") => `(tactic| first
  | with_reducible refine fv_cons ?_
  | with_reducible refine fv_nil ?_
  | with_reducible refine fc_cons ?_
  | with_reducible refine fc_nil ?_
  | with_reducible refine x_turn ?_
  | ((with_reducible refine x_wip ?_); refine ⟨by wtm_at "of_cx", ?_⟩)
  | ((with_reducible refine fc_go ?_); refine ⟨by wtm_at "of_uq", ?_⟩)
  | ((with_reducible refine lc_unroll ?_); refine ⟨_, by wtm_at "of_uq", ?_⟩; intro _ _ _ _ _)
  | ((with_reducible refine x_put ?_); refine ⟨_, _, by assumption, by wtm_at "of_exs", by wtm_at "of_uq", by wtm_at "of_cx", ?_⟩; intro _ _ _; try dsimp only [List.cons_append, List.nil_append] at *)
  | ((with_reducible refine x_rep ?_); refine ⟨?_, ?_, ?_, ?_⟩; rotate_left; (first | wtm_at "of_uq" | exact OddK.i0); omega)
  | ((with_reducible refine x_ifD ?_); refine ⟨by decide, ?_⟩)
  | ((with_reducible refine x_ifDn ?_); refine ⟨by decide, ?_⟩))
section
open PySem PySem.Spec PyProof.Rows L2 He LamX
end
section
open PySem PySem.Spec PyProof.Rows L2 He LamX
theorem told_eq {n d : Int} (d0 : 0 < d) (h : n % (2 * d) = 0) : Rat.divInt n d = ((n.fdiv d : Int) : Rat) := by
  have hd : n.fdiv d * d = n := by
    rw [Int.fdiv_eq_ediv_of_nonneg _ (by omega)]
    exact Int.ediv_mul_cancel (Int.dvd_trans (⟨2, Int.mul_comm 2 d⟩ : d ∣ 2 * d) (Int.dvd_of_emod_eq_zero h))
  have f : FrQ ((n.fdiv d : Int) : Rat) n d := by
    unfold FrQ
    rw [← Rat.intCast_mul, hd]
  exact (f.eq (by omega)).symm
theorem den_i0 {q : Rat} : 0 < (q.den : Int) := by have := q.den_pos; omega
def spTold (CR : Addr) : Sp := fun vs H Q _ => ∃ n d : Int, vs = [.int n, .int d] ∧ 0 < d ∧ Sb 400 n ∧ Sb 400 d ∧ ∀ H' v, Ex H H' → NumV CR H' v (Rat.divInt n d) → Q v H'
def spPointO (C CR : Addr) : Sp := fun vs H Q _ => ∃ (r : Addr) (d x y : Int), vs = [.ref r, .int d] ∧ H r = some (.tup [.int x, .int y]) ∧ 0 < d ∧ Sb 400 x ∧ Sb 400 y ∧ Sb 400 d ∧ ∀ H' p, Ex H H' → IsP C CR H' p (Rat.divInt x d) (Rat.divInt y d) → Q (.ref p) H'
def spAtP (C CR : Addr) : Sp := fun vs H Q _ => ∃ (p r : Addr) (d x y : Int) (X Y : Rat), vs = [.ref p, .ref r, .int d] ∧ IsP C CR H p X Y ∧ H r = some (.tup [.int x, .int y]) ∧ FrQ X x d ∧ FrQ Y y d ∧ Bq X ∧ Bq Y ∧ Bt x ∧ Bt y ∧ Bt d ∧ Q (.bl true) H
def spPairP (C CR : Addr) : Sp := fun vs H Q _ => ∃ (p : Addr) (d x y : Int) (X Y : Rat), vs = [.ref p, .int d] ∧ IsP C CR H p X Y ∧ FrQ X x d ∧ FrQ Y y d ∧ 0 < d ∧ Sb 400 x ∧ Sb 400 y ∧ Sb 400 d ∧ ∀ H' t, Ex H H' → H' t = some (.tup [.int x, .int y]) → Q (.ref t) H'
def spTT (g : Int → Int → Int → Int → V) : Sp := fun vs H Q _ => ∃ (r u : Addr) (x y z w : Int), vs = [.ref r, .ref u] ∧ H r = some (.tup [.int x, .int y]) ∧ H u = some (.tup [.int z, .int w]) ∧ Sb 400 x ∧ Sb 400 y ∧ Sb 400 z ∧ Sb 400 w ∧ Q (g x y z w) H
def spTTt (g : Int → Int → Int) : Sp := fun vs H Q _ => ∃ (r u : Addr) (x y z w : Int), vs = [.ref r, .ref u] ∧ H r = some (.tup [.int x, .int y]) ∧ H u = some (.tup [.int z, .int w]) ∧ Sb 400 x ∧ Sb 400 y ∧ Sb 400 z ∧ Sb 400 w ∧ ∀ H' t, Ex H H' → H' t = some (.tup [.int (g x z), .int (g y w)]) → Q (.ref t) H'
def spTms : Sp := fun vs H Q _ => ∃ (r : Addr) (n x y : Int), vs = [.int n, .ref r] ∧ H r = some (.tup [.int x, .int y]) ∧ Sb 400 x ∧ Sb 400 y ∧ Sb 400 n ∧ ∀ H' t, Ex H H' → H' t = some (.tup [.int (n * x), .int (n * y)]) → Q (.ref t) H'
def spSpot : Sp := fun vs H Q _ => ∃ (p : Addr) (n : Nat), vs = [.ref p] ∧ ∃ c, Tape H p c n ∧ n + 102 < 900000 ∧ ∀ (H' : Hp) (t : Addr) (x y : Int), Le H H' → Tape H' p c (n + 102) → H' t = some (.tup [.int x, .int y]) → Sb 200 x → Sb 200 y → Q (.ref t) H'
end
section
open PySem PySem.Spec PyProof.Rows L2 He
section
variable {P : Program} {w : World} {K : PySem.W.Frag} {mg : Str → Option Value} {base : Heap} {C_Ratio C_BadNumber C_Point C_Form f_Ratio_eq f_Ratio_lt f_Ratio_le f_Ratio_gt f_Ratio_ge f_Ratio_bool f_Ratio_neg f_Ratio_abs f_Ratio_str f_Ratio_add f_Ratio_radd f_Ratio_sub f_Ratio_rsub f_Ratio_mul f_Ratio_rmul f_Ratio_floordiv f_Ratio_rfloordiv f_Ratio_mod f_Ratio_rmod f_Ratio_pow f_Ratio_over f_Ratio_floor f_Ratio_ceiling f_Ratio_whole f_Ratio_sign f_Point_mul f_Point_rmul f_Form_mul f_Form_rmul : Addr}
abbrev s__law_told : Stmt := (top 42)
theorem sc__law_told : FnScope ["_law_number_here", "_law_over"] ["_law_number_here", "_law_over"] (defScope s__law_told) := ⟨rfl, rfl, rfl, by decide +kernel, rfl, by decide +kernel, by decide +kernel⟩
theorem ok__law_told {f : Addr} {fd : FuncData} (F : FunD K "_law_told" "_law_told" (defArgs s__law_told) (defBody s__law_told) (defScope s__law_told) [] [] f fd) (TB : TBl mg) (TR : RT K mg C_Ratio) (c_Ratio_2 : Ck P w K mg base 4 "Ratio" C_Ratio [] (spRInit K C_Ratio C_BadNumber)) : FnOk P w K mg base (L2.CX P w) 6 f fd ["_law_number_here", "_law_over"] (spTold C_Ratio) := by
  refine F.ok (CX := L2.CX P w) sc__law_told (fun vs H Q E h => ?_) (fun cdv A outer s H vs Q E hr h => ?_)
  · obtain ⟨n, d, rfl, _⟩ := h; rfl
  · obtain ⟨n, d, rfl, d0, sn, sd, k⟩ := h
    refine ⟨_, (pss_cons (ps_if (pt_cmpR op_eq (pe_op op_mod (pe_callTy kc_int1 (by rfl) TB.b_int (by decide +kernel) (pa_cons (pv 0) pa_nil)) (pe_op op_mulA pe_int (pv 1))) pe_int (nomark _)) (pss_one (ps_ret (pe_op op_fdivZ (pv 0) (pv 1)))) pss_nil) (pss_one (ps_ret (pe_ck c_Ratio_2 hr (by decide) (by rfl) psE (pa_cons (pv 0) (pa_cons (pv 1) pa_nil)))))), ?_⟩
    wtm_at "of_ra"
    refine r_I (show (0 : Int) < 2 * d from by omega) ?_
    wtm_at "of_ra"
    refine ite2 (fun hm => ?_) (fun hm => ?_)
    · have dn : d ≠ 0 := by omega
      wtm_at "of_ra"
      exact k _ _ (Ex.refl _) (.inl ⟨_, rfl, told_eq d0 hm⟩)
    · have dn : d ≠ 0 := by omega
      wtm_at "of_ra"
      exact k _ _ (by wtm_at "of_exs") (num_r (by assumption))
abbrev s__law_point : Stmt := (top 43)
theorem sc__law_point : FnScope ["_law_pair_here", "_law_over"] ["_law_pair_here", "_law_over"] (defScope s__law_point) := ⟨rfl, rfl, rfl, by decide +kernel, rfl, by decide +kernel, by decide +kernel⟩
theorem ok__law_point {f : Addr} {fd : FuncData} (F : FunD K "_law_point" "_law_point" (defArgs s__law_point) (defBody s__law_point) (defScope s__law_point) [] [] f fd) (TR : RT K mg C_Ratio) (c_Point_2 : Ck P w K mg base 7 "Point" C_Point [] (spPInit K C_Point C_Ratio C_BadNumber)) (c__law_told : Cl P w K mg base 6 "_law_told" (spTold C_Ratio)) : FnOk P w K mg base (L2.CX P w) 9 f fd ["_law_pair_here", "_law_over"] (spPointO C_Point C_Ratio) := by
  refine F.ok (CX := L2.CX P w) sc__law_point (fun vs H Q E h => ?_) (fun cdv A outer s H vs Q E hr h => ?_)
  · obtain ⟨r, d, x, y, rfl, _⟩ := h; rfl
  · obtain ⟨r, d, x, y, rfl, hr', d0, sx, sy, sd, k⟩ := h
    refine ⟨_, (pss_one (ps_ret (pe_ck c_Point_2 hr (by decide) (by rfl) psE (pa_cons (pe_cl c__law_told hr (by decide) (by rfl) psE (pa_cons (pe_ix (kix_t (K := K) rfl) (pv 0) pe_int (fun _ _ => rfl)) (pa_cons (pv 1) pa_nil))) (pa_cons (pe_cl c__law_told hr (by decide) (by rfl) psE (pa_cons (pe_ix (kix_t (K := K) rfl) (pv 0) pe_int (fun _ _ => rfl)) (pa_cons (pv 1) pa_nil))) pa_nil))))), ?_⟩
    wtm_at "of_ra"
    refine ⟨x, d, rfl, d0, sx, sd, fun H1 v e1 nv => ?_⟩
    wtm_at "of_ra"
    refine ⟨y, d, rfl, d0, sy, sd, fun H2 w e2 nw => ?_⟩
    wtm_at "of_ra"
    exact k _ _ (by wtm_at "of_exs") (by assumption)
abbrev s__law_at : Stmt := (top 44)
theorem sc__law_at : FnScope ["_law_point_here", "_law_pair_here", "_law_over"] ["_law_point_here", "_law_pair_here", "_law_over"] (defScope s__law_at) := ⟨rfl, rfl, rfl, by decide +kernel, rfl, by decide +kernel, by decide +kernel⟩
theorem ok__law_at {f : Addr} {fd : FuncData} (F : FunD K "_law_at" "_law_at" (defArgs s__law_at) (defBody s__law_at) (defScope s__law_at) [] [] f fd) (TB : TBl mg) (TR : RT K mg C_Ratio) (T_Point : PT K C_Point) (g_Point : mg "Point" = some (.ref C_Point)) (c__law_ratio_is : Cl P w K mg base 2 "_law_ratio_is" (spRatioIs C_Ratio)) : FnOk P w K mg base (L2.CX P w) 3 f fd ["_law_point_here", "_law_pair_here", "_law_over"] (spAtP C_Point C_Ratio) := by
  refine F.ok (CX := L2.CX P w) sc__law_at (fun vs H Q E h => ?_) (fun cdv A outer s H vs Q E hr h => ?_)
  · obtain ⟨p, r, d, x, y, X, Y, rfl, _⟩ := h; rfl
  · obtain ⟨p, r, d, x, y, X, Y, rfl, hp, hr', fx, fy, bx, b_y, tx, ty, td, k⟩ := h
    refine ⟨_, (pss_one (ps_ret (pe_and (pe_callB (kc_isi (K := K) rfl) (by rfl) TB.b_isinstance (by decide +kernel) (pa_cons (pv 0) (pa_cons (pe_glob (v := .ref C_Point) (by rfl) g_Point rfl) pa_nil))) (pe_and (pe_cl c__law_ratio_is hr (by decide) (by rfl) psE (pa_cons (kfld (K := K) rfl (pv 0) rfl) (pa_cons (pe_ix (kix_t (K := K) rfl) (pv 1) pe_int (fun _ _ => rfl)) (pa_cons (pv 2) pa_nil)))) (pe_one (pe_cl c__law_ratio_is hr (by decide) (by rfl) psE (pa_cons (kfld (K := K) rfl (pv 0) rfl) (pa_cons (pe_ix (kix_t (K := K) rfl) (pv 1) pe_int (fun _ _ => rfl)) (pa_cons (pv 2) pa_nil))))))))), ?_⟩
    have TP := T_Point
    wtm_at "of_rd"
    refine r_isi (.own _) (hp.tyx T_Point) kit_self ?_
    wtm_at "of_ra"
    exact k
abbrev s__law_form_is : Stmt := (top 51)
theorem sc__law_form_is : FnScope ["_law_value", "_law_pair_here", "_law_over"] ["_law_value", "_law_pair_here", "_law_over"] (defScope s__law_form_is) := ⟨rfl, rfl, rfl, by decide +kernel, rfl, by decide +kernel, by decide +kernel⟩
theorem ok__law_form_is {f : Addr} {fd : FuncData} (F : FunD K "_law_form_is" "_law_form_is" (defArgs s__law_form_is) (defBody s__law_form_is) (defScope s__law_form_is) [] [] f fd) (TB : TBl mg) (TR : RT K mg C_Ratio) (T_Form : PT K C_Form) (g_Form : mg "Form" = some (.ref C_Form)) (c__law_ratio_is : Cl P w K mg base 2 "_law_ratio_is" (spRatioIs C_Ratio)) : FnOk P w K mg base (L2.CX P w) 3 f fd ["_law_value", "_law_pair_here", "_law_over"] (spAtP C_Form C_Ratio) := by
  refine F.ok (CX := L2.CX P w) sc__law_form_is (fun vs H Q E h => ?_) (fun cdv A outer s H vs Q E hr h => ?_)
  · obtain ⟨p, r, d, x, y, X, Y, rfl, _⟩ := h; rfl
  · obtain ⟨p, r, d, x, y, X, Y, rfl, hp, hr', fx, fy, bx, b_y, tx, ty, td, k⟩ := h
    refine ⟨_, (pss_one (ps_ret (pe_and (pe_callB (kc_isi (K := K) rfl) (by rfl) TB.b_isinstance (by decide +kernel) (pa_cons (pv 0) (pa_cons (pe_glob (v := .ref C_Form) (by rfl) g_Form rfl) pa_nil))) (pe_and (pe_cl c__law_ratio_is hr (by decide) (by rfl) psE (pa_cons (kfld (K := K) rfl (pv 0) rfl) (pa_cons (pe_ix (kix_t (K := K) rfl) (pv 1) pe_int (fun _ _ => rfl)) (pa_cons (pv 2) pa_nil)))) (pe_one (pe_cl c__law_ratio_is hr (by decide) (by rfl) psE (pa_cons (kfld (K := K) rfl (pv 0) rfl) (pa_cons (pe_ix (kix_t (K := K) rfl) (pv 1) pe_int (fun _ _ => rfl)) (pa_cons (pv 2) pa_nil))))))))), ?_⟩
    have TP := T_Form
    wtm_at "of_rd"
    refine r_isi (.own _) (hp.tyx T_Form) kit_self ?_
    wtm_at "of_ra"
    exact k
abbrev s__law_pair : Stmt := (top 45)
theorem sc__law_pair : FnScope ["_law_point_here", "_law_over", "_law_x"] ["_law_point_here", "_law_over"] (defScope s__law_pair) := ⟨rfl, rfl, rfl, by decide +kernel, rfl, by decide +kernel, by decide +kernel⟩
theorem ok__law_pair {f : Addr} {fd : FuncData} (F : FunD K "_law_pair" "_law_pair" (defArgs s__law_pair) (defBody s__law_pair) (defScope s__law_pair) [] [] f fd) (TB : TBl mg) (TR : RT K mg C_Ratio) (T_Point : PT K C_Point) (c__law_ratio_is : Cl P w K mg base 2 "_law_ratio_is" (spRatioIs C_Ratio)) : FnOk P w K mg base (L2.CX P w) 3 f fd ["_law_point_here", "_law_over"] (spPairP C_Point C_Ratio) := by
  refine F.ok (CX := L2.CX P w) sc__law_pair (fun vs H Q E h => ?_) (fun cdv A outer s H vs Q E hr h => ?_)
  · obtain ⟨p, d, x, y, X, Y, rfl, _⟩ := h; rfl
  · obtain ⟨p, d, x, y, X, Y, rfl, hp, fx, fy, d0, sx, sy, sd, k⟩ := h
    refine ⟨_, (pss_cons (ps_if (pw_or (pt_not (pt_val (pe_cl c__law_ratio_is hr (by decide) (by rfl) psE (pa_cons (kfld (K := K) rfl (pv 0) rfl) (pa_cons (kfld (K := K) rfl (kfld (K := K) rfl (pv 0) rfl) rfl) (pa_cons (kfld (K := K) rfl (kfld (K := K) rfl (pv 0) rfl) rfl) pa_nil)))))) (pw_or1 (pt_not (pt_val (pe_cl c__law_ratio_is hr (by decide) (by rfl) psE (pa_cons (kfld (K := K) rfl (pv 0) rfl) (pa_cons (kfld (K := K) rfl (kfld (K := K) rfl (pv 0) rfl) rfl) (pa_cons (kfld (K := K) rfl (kfld (K := K) rfl (pv 0) rfl) rfl) pa_nil)))))))).pt (pss_one (ps_ret pe_non)) pss_nil) (pss_cons (ps_if (pw_or (pt_tr (pe_op op_mod (pe_callTy kc_int1 (by rfl) TB.b_int (by decide +kernel) (pa_cons (pe_op op_mulA (kfld (K := K) rfl (kfld (K := K) rfl (pv 0) rfl) rfl) (pv 1)) pa_nil)) (kfld (K := K) rfl (kfld (K := K) rfl (pv 0) rfl) rfl)) (ktru (K := K) rfl) (fun _ => rfl)) (pw_or1 (pt_tr (pe_op op_mod (pe_callTy kc_int1 (by rfl) TB.b_int (by decide +kernel) (pa_cons (pe_op op_mulA (kfld (K := K) rfl (kfld (K := K) rfl (pv 0) rfl) rfl) (pv 1)) pa_nil)) (kfld (K := K) rfl (kfld (K := K) rfl (pv 0) rfl) rfl)) (ktru (K := K) rfl) (fun _ => rfl)))).pt (pss_one (ps_ret pe_non)) pss_nil) (pss_cons (ps_set (i := 2) sc__law_pair.nd rfl (Or.inl rfl) (pe_op op_fdivZ (pe_op op_mulA (kfld (K := K) rfl (kfld (K := K) rfl (pv 0) rfl) rfl) (pv 1)) (kfld (K := K) rfl (kfld (K := K) rfl (pv 0) rfl) rfl))) (pss_one (ps_ret (pe_tup (pa_cons (pv 2) (pa_cons (pe_op op_fdivZ (pe_op op_mulA (kfld (K := K) rfl (kfld (K := K) rfl (pv 0) rfl) rfl) (pv 1)) (kfld (K := K) rfl (kfld (K := K) rfl (pv 0) rfl) rfl)) pa_nil)))))))), ?_⟩
    have TP := T_Point
    have rx : Sr 400 X := (Sr.frq fx (by omega) sx sd).mono (by decide)
    have ry : Sr 400 Y := (Sr.frq fy (by omega) sy sd).mono (by decide)
    have ex := fx.num
    have ey := fy.num
    have dx0 : (X.den : Int) ≠ 0 := by have := X.den_pos; omega
    have dy0 : (Y.den : Int) ≠ 0 := by have := Y.den_pos; omega
    wtm_at "of_ra"
    refine q_rIs (by wtm_at "of_uq") (rx.bq (by decide)) (rx.num.bt (by decide)) (rx.den.bt (by decide)) (frq_self X) ?_
    wtm_at "of_ra"
    refine q_rIs (by wtm_at "of_uq") (ry.bq (by decide)) (ry.num.bt (by decide)) (ry.den.bt (by decide)) (frq_self Y) ?_
    wtm_at "of_ra"
    refine r_I den_i0 ?_
    rw [ex, Int.mul_emod_left]
    refine q_truI ?_
    rw [show decide ((0 : Int) ≠ 0) = false from rfl]
    wtm_at "of_ra"
    refine r_I den_i0 ?_
    rw [ey, Int.mul_emod_left]
    refine q_truI ?_
    rw [show decide ((0 : Int) ≠ 0) = false from rfl]
    wtm_at "of_ra"
    rename_i t9 H9 e9 n9 g9
    rw [ex, ey, Int.mul_fdiv_cancel _ dx0, Int.mul_fdiv_cancel _ dy0] at g9
    exact k _ _ (by wtm_at "of_exs") g9
abbrev s__law_area : Stmt := (top 46)
theorem sc__law_area : FnScope ["_law_one", "_law_other"] ["_law_one", "_law_other"] (defScope s__law_area) := ⟨rfl, rfl, rfl, by decide +kernel, rfl, by decide +kernel, by decide +kernel⟩
theorem ok__law_area {f : Addr} {fd : FuncData} (F : FunD K "_law_area" "_law_area" (defArgs s__law_area) (defBody s__law_area) (defScope s__law_area) [] [] f fd) (TR : RT K mg C_Ratio) : FnOk P w K mg base (L2.CX P w) 1 f fd ["_law_one", "_law_other"] (spTT (fun x y z w => .int (x * w - y * z))) := by
  refine F.ok (CX := L2.CX P w) sc__law_area (fun vs H Q E h => ?_) (fun cdv A outer s H vs Q E hr h => ?_)
  · obtain ⟨r, u, x, y, z, w, rfl, _⟩ := h; rfl
  · obtain ⟨r, u, x, y, z, w, rfl, h1, h2, sx, sy, sz, sw, k⟩ := h
    refine ⟨_, (pss_one (ps_ret (pe_op op_sub (pe_op op_mulA (pe_ix (kix_t (K := K) rfl) (pv 0) pe_int (fun _ _ => rfl)) (pe_ix (kix_t (K := K) rfl) (pv 1) pe_int (fun _ _ => rfl))) (pe_op op_mulA (pe_ix (kix_t (K := K) rfl) (pv 0) pe_int (fun _ _ => rfl)) (pe_ix (kix_t (K := K) rfl) (pv 1) pe_int (fun _ _ => rfl)))))), ?_⟩
    wtm_at "of_ra"
    exact k
abbrev s__law_plus : Stmt := (top 47)
theorem sc__law_plus : FnScope ["_law_one", "_law_other"] ["_law_one", "_law_other"] (defScope s__law_plus) := ⟨rfl, rfl, rfl, by decide +kernel, rfl, by decide +kernel, by decide +kernel⟩
theorem ok__law_plus {f : Addr} {fd : FuncData} (F : FunD K "_law_plus" "_law_plus" (defArgs s__law_plus) (defBody s__law_plus) (defScope s__law_plus) [] [] f fd) (TR : RT K mg C_Ratio) : FnOk P w K mg base (L2.CX P w) 1 f fd ["_law_one", "_law_other"] (spTTt (fun x z => x + z)) := by
  refine F.ok (CX := L2.CX P w) sc__law_plus (fun vs H Q E h => ?_) (fun cdv A outer s H vs Q E hr h => ?_)
  · obtain ⟨r, u, x, y, z, w, rfl, _⟩ := h; rfl
  · obtain ⟨r, u, x, y, z, w, rfl, h1, h2, sx, sy, sz, sw, k⟩ := h
    refine ⟨_, (pss_one (ps_ret (pe_tup (pa_cons (pe_op op_add (pe_ix (kix_t (K := K) rfl) (pv 0) pe_int (fun _ _ => rfl)) (pe_ix (kix_t (K := K) rfl) (pv 1) pe_int (fun _ _ => rfl))) (pa_cons (pe_op op_add (pe_ix (kix_t (K := K) rfl) (pv 0) pe_int (fun _ _ => rfl)) (pe_ix (kix_t (K := K) rfl) (pv 1) pe_int (fun _ _ => rfl))) pa_nil))))), ?_⟩
    wtm_at "of_ra"
    exact k _ _ (by wtm_at "of_exs") (by assumption)
abbrev s__law_minus : Stmt := (top 48)
theorem sc__law_minus : FnScope ["_law_one", "_law_other"] ["_law_one", "_law_other"] (defScope s__law_minus) := ⟨rfl, rfl, rfl, by decide +kernel, rfl, by decide +kernel, by decide +kernel⟩
theorem ok__law_minus {f : Addr} {fd : FuncData} (F : FunD K "_law_minus" "_law_minus" (defArgs s__law_minus) (defBody s__law_minus) (defScope s__law_minus) [] [] f fd) (TR : RT K mg C_Ratio) : FnOk P w K mg base (L2.CX P w) 1 f fd ["_law_one", "_law_other"] (spTTt (fun x z => x - z)) := by
  refine F.ok (CX := L2.CX P w) sc__law_minus (fun vs H Q E h => ?_) (fun cdv A outer s H vs Q E hr h => ?_)
  · obtain ⟨r, u, x, y, z, w, rfl, _⟩ := h; rfl
  · obtain ⟨r, u, x, y, z, w, rfl, h1, h2, sx, sy, sz, sw, k⟩ := h
    refine ⟨_, (pss_one (ps_ret (pe_tup (pa_cons (pe_op op_sub (pe_ix (kix_t (K := K) rfl) (pv 0) pe_int (fun _ _ => rfl)) (pe_ix (kix_t (K := K) rfl) (pv 1) pe_int (fun _ _ => rfl))) (pa_cons (pe_op op_sub (pe_ix (kix_t (K := K) rfl) (pv 0) pe_int (fun _ _ => rfl)) (pe_ix (kix_t (K := K) rfl) (pv 1) pe_int (fun _ _ => rfl))) pa_nil))))), ?_⟩
    wtm_at "of_ra"
    exact k _ _ (by wtm_at "of_exs") (by assumption)
abbrev s__law_times : Stmt := (top 49)
theorem sc__law_times : FnScope ["_law_number_here", "_law_pair_here"] ["_law_number_here", "_law_pair_here"] (defScope s__law_times) := ⟨rfl, rfl, rfl, by decide +kernel, rfl, by decide +kernel, by decide +kernel⟩
theorem ok__law_times {f : Addr} {fd : FuncData} (F : FunD K "_law_times" "_law_times" (defArgs s__law_times) (defBody s__law_times) (defScope s__law_times) [] [] f fd) (TR : RT K mg C_Ratio) : FnOk P w K mg base (L2.CX P w) 1 f fd ["_law_number_here", "_law_pair_here"] (spTms) := by
  refine F.ok (CX := L2.CX P w) sc__law_times (fun vs H Q E h => ?_) (fun cdv A outer s H vs Q E hr h => ?_)
  · obtain ⟨r, n, x, y, rfl, _⟩ := h; rfl
  · obtain ⟨r, n, x, y, rfl, h1, sx, sy, sn, k⟩ := h
    refine ⟨_, (pss_one (ps_ret (pe_tup (pa_cons (pe_op op_mulA (pv 0) (pe_ix (kix_t (K := K) rfl) (pv 1) pe_int (fun _ _ => rfl))) (pa_cons (pe_op op_mulA (pv 0) (pe_ix (kix_t (K := K) rfl) (pv 1) pe_int (fun _ _ => rfl))) pa_nil))))), ?_⟩
    wtm_at "of_ra"
    exact k _ _ (by wtm_at "of_exs") (by assumption)
abbrev s__law_spot : Stmt := (top 50)
theorem sc__law_spot : FnScope ["_law_tape"] ["_law_tape"] (defScope s__law_spot) := ⟨rfl, rfl, rfl, by decide +kernel, rfl, by decide +kernel, by decide +kernel⟩
theorem ok__law_spot {f : Addr} {fd : FuncData} (F : FunD K "_law_spot" "_law_spot" (defArgs s__law_spot) (defBody s__law_spot) (defScope s__law_spot) [] [] f fd) (TR : RT K mg C_Ratio) (c__law_number : Cl P w K mg base 4 "_law_number" (spNum 51 2 true)) : FnOk P w K mg base (L2.CX P w) 5 f fd ["_law_tape"] (spSpot) := by
  refine F.ok (CX := L2.CX P w) sc__law_spot (fun vs H Q E h => ?_) (fun cdv A outer s H vs Q E hr h => ?_)
  · obtain ⟨p, n, rfl, _⟩ := h; rfl
  · obtain ⟨p, n, rfl, c, hT, hn, k⟩ := h
    refine ⟨_, (pss_one (ps_ret (pe_tup (pa_cons (pe_cl c__law_number hr (by decide) (by rfl) psE (pa_cons (pv 0) (pa_cons pe_int pa_nil))) (pa_cons (pe_cl c__law_number hr (by decide) (by rfl) psE (pa_cons (pv 0) (pa_cons pe_int pa_nil))) pa_nil))))), ?_⟩
    wtm_at "of_ra"
    refine ⟨p, 60, n, rfl, c, hT, by omega, by decide, by decide, ?_⟩
    intro H1 x e1 T1 _ hx
    wtm_at "of_ra"
    refine ⟨p, 60, n + 51, rfl, c, T1, by omega, by decide, by decide, ?_⟩
    intro H2 y e2 T2 _ hy
    wtm_at "of_ra"
    rename_i t H3 e3 n3 g3
    have e60 : (10 : Nat) ^ 60 < 2 ^ 200 := by decide
    exact k _ _ x y ((e1.trans e2).trans e3.le) (Tape.ex e3 T2) g3 (show x.natAbs < 2 ^ 200 by omega) (show y.natAbs < 2 ^ 200 by omega)
end
end
section
open PySem PySem.Spec PyProof.Rows L2 LamX
section
variable {X : Cx}
theorem pe_lcI {elt tg iter : Expr} {ifs : List Expr} {scope : Scope} {own : List (Str × Nat)} {pos : Pos} {wi : TI} {g : TG} {tt : TT} {te : L2.St → TE} (calm : X.calm = true) (nd : X.N.Nodup) (hi : L2.PI X tg iter wi) (ok : BlkOk X.N X.env.scope scope own)
    (hg : ∀ (s : Shared) (H : Hp) (C : Addr) (cl : List (Str × Addr)) (fp : List Addr), PG (X.blk s H scope (compEnvC scope cl C X.env) fp) tg g) (ht : ∀ (s : Shared) (H : Hp) (C : Addr) (cl : List (Str × Addr)) (fp : List Addr), PTs (X.blk s H scope (compEnvC scope cl C X.env) fp) ifs tt)
    (he : ∀ (pins : List (Addr × Obj)) (σ : L2.St) (s : Shared) (H : Hp) (C : Addr) (cl : List (Str × Addr)) (fp : List Addr), Inv X pins σ H s → (∀ b ∈ fp, FpOk X pins H b) → PE (X.blk s H scope (compEnvC scope cl C X.env) fp) elt (te σ)) (hs : ∀ x, foldedSetIterable iter X.env x = pure x := by intro _; rfl) :
    PE X (.ListComp elt [⟨tg, iter, ifs, 0⟩] scope pos) (fun σ H Q => tLc wi g tt (te σ) (own.map (·.2)) σ H Q) := by
  constructor
  intro pins s σ H Q I h
  rw [eval_ListComp]
  have cellsOf : ∀ y ∈ scope.names, y.2 = .free → ∃ c, X.env.cells.lookup y.1 = some c := by
    intro y hy fr
    exact (ok.free y hy fr).elim (fun k => I.ok.has _ (.inl k)) (fun k => I.ok.has _ (.inr k))
  refine wpAny_comprehension_free rfl hs (closure_ok cellsOf) ok.kind (by intro y hy fr; rw [ok.uniq y hy, fr]) (thn (hi.run pins s σ H _ I h) ?_)
  intro xv sA hx
  refine thn hx ?_
  rintro itv sB ⟨it, fp, tn, J, HB, rfl, IB, T, st0, fps, q⟩
  refine wpAny_newObj_type (newEnv_comp ?_) (by show 0 ≤ sizeLine; decide)
  obtain ⟨D, hD⟩ : ∃ D, D = sB.heap.objs.size := ⟨_, rfl⟩
  rw [← hD]
  obtain ⟨W, ⟨m0, w0⟩, turn⟩ := q D (IB.hok.fresh (Nat.le_of_eq hD.symm))
  -- the list that is filled
  obtain ⟨sC, hC⟩ : ∃ sC : Shared, sC = { sB with heap := sB.heap.push { cls := .type "list", data := .seq ([] : List Value).toArray } } := ⟨_, rfl⟩
  have heapC : sC.heap = sB.heap.push { cls := .type "list", data := .seq ([] : List Value).toArray } := congrArg Shared.heap hC
  obtain ⟨HC, hHC⟩ : ∃ HC, HC = upd HB D (.lst []) := ⟨_, rfl⟩
  have IC : Inv X pins σ HC sC := by
    subst hC hHC
    exact IB.laid (t' := sB.toks) (fun b o e => Heap.get?_push_of_some _ e) (Nat.le_of_eq hD.symm) ⟨Nat.zero_le _, [], 0, .nil, by rw [hD]; exact Heap.get?_push_size _ rfl⟩
  have below : ∀ b ∈ fp, b < sB.heap.objs.size := by
    intro b hb
    obtain ⟨o, e, _⟩ := T.obj _ _ st0 b hb
    exact Heap.lt_size e
  have fpC : ∀ b ∈ fp, FpOk X pins HC b ∧ b < sC.heap.objs.size := by
    intro b hb
    have lt := below b hb
    have z := fps b hb
    exact ⟨⟨by rw [hHC, upd_ne (by rw [hD]; exact Nat.ne_of_lt lt)]; exact z.1, z.2⟩, by rw [heapC, Heap.size_push]; exact Nat.lt_succ_of_lt lt⟩
  have stC : tn 0 sC.heap := T.keep _ _ _ st0 (by intro b _ o e; rw [heapC]; exact Heap.get?_push_of_some _ e)
  have ID := block_start IC ok nd fpC
  obtain ⟨cl, hcl⟩ : ∃ cl, cl = cellsFrom (sC.heap.objs.size + 1) scope.names (cloFrom X.env.cells scope.names []) := ⟨_, rfl⟩
  rw [← hcl] at ID
  have pg := hg sC HC sC.heap.objs.size cl fp
  have pt := ht sC HC sC.heap.objs.size cl fp
  have pe := he pins σ sC HC sC.heap.objs.size cl fp IC (fun b hb => (fpC b hb).1)
  rw [← hHC] at w0
  obtain ⟨ce, hce⟩ : ∃ ce, ce = compEnvC scope cl sC.heap.objs.size X.env := ⟨_, rfl⟩
  rw [← hce] at ID pg pt pe
  have locE : ce.locals = sC.heap.objs.size := by rw [hce]; rfl
  obtain ⟨sD, hsD⟩ : ∃ sD : Shared, sD = { sC with heap := pushCells (sC.heap.push { cls := .type "dict", data := .dict #[] }) scope.names } := ⟨_, rfl⟩
  rw [← hsD] at ID
  have stD : tn 0 sD.heap := T.keep _ _ _ stC (by intro b _ o e; rw [hsD]; exact pushCells_keeps _ _ _ _ (Heap.get?_push_of_some _ e))
  have fpZ : ∀ {σ' : L2.St} {H' : Hp} {s' : Shared}, Inv (X.blk sC HC scope ce fp) [] σ' H' s' → (∀ b ∈ fp, H' b = none) → ∀ b ∈ fp, FpOk (X.blk sC HC scope ce fp) [] H' b := by
    intro σ' H' s' I' hn b hb
    exact ⟨hn b hb, (I'.ok.exf b hb).1, I'.ok.exfs b hb, .inl hb, (fun x c e => (I'.ok.exf b hb).2 x c e), fun p hp => nomatch (show p ∈ ([] : List (Addr × Obj)) from hp)⟩
  have fin : codeAny (model X.prog X.w) X.A (.compLoop (.ListComp elt [⟨tg, iter, ifs, 0⟩] scope pos) 0 (.ref it) (.ref D) ce) (compPost (model X.prog X.w) X.A X.xe none (EP X pins σ Q) (.ref D) sC.heap.objs.size) sD := by
    refine compLoop_any (fun n s' => ∃ i H', Inv (X.blk sC HC scope ce fp) [] (wipe σ (own.map (·.2))) H' s' ∧ tn i s'.heap ∧ (∀ b ∈ fp, H' b = none) ∧ W i n H') ?_ m0 ⟨0, HC, ID, stD, fun b hb => (fpC b hb).1.1, w0⟩
    rintro n sE ⟨i, HE, IE, stE, nE, wE⟩
    rcases turn i n HE wE with ⟨stop, qq⟩ | ⟨go, Nx, hNx, step⟩
    · refine thnF (T.done (X.blk sC HC scope ce fp) rfl rfl rfl calm i [] sE _ HE (fun _ _ => False) IE (fpZ IE nE) stE stop) ?_
      rintro r sF ⟨rfl, IF⟩
      have back : Inv X pins σ HE sF := IC.call' (ch := fp) IF.os IF.base IF.hok IF.bare (fun b hb => by
        have z := (fpC b hb).1
        exact ⟨z.2.2.2.1, z.2.1, z.2.2.2.2.1, z.2.2.2.2.2⟩)
      have nL : HE sC.heap.objs.size = none := by rw [← locE]; exact IF.free
      obtain ⟨m, hm, _⟩ := IF.loc
      have hm' : sF.heap.Ns sC.heap.objs.size m := by rw [← locE]; exact hm
      obtain ⟨f0, f1, f2, f3, f4, f5⟩ := IC.fpOk (Nat.le_refl _) nL
      exact ⟨m, hm', fun h'' sb => ⟨.ref D, HE, back.turned (t' := sF.toks) (fun b o hb e => (sb.2 b hb).trans e) f0 f1 f3 f4 f5, rfl, qq⟩⟩
    · refine thnF (T.item (X.blk sC HC scope ce fp) rfl rfl rfl calm i [] sE _ HE (fun _ _ => False) IE (fpZ IE nE) stE go) ?_
      rintro r sF ⟨u, rfl, hF⟩
      refine thnF hF ?_
      rintro _ sG ⟨x, HG, IG, rG, yG, stG, nG⟩
      refine thnF (pg.run _ sG _ HG x u _ (IG.pinned (fpZ IG nG) (T.obj _ _ stG)) rG (step x HG yG)) ?_
      rintro _ sI ⟨σI, HI, II, wI, qI⟩
      refine thnF (pt.run _ sI σI HI _ II qI) ?_
      rintro b sJ ⟨HJ, IJ, qJ⟩
      have next : ∀ {s' : Shared} {H' : Hp}, Inv (X.blk sC HC scope ce fp) ([] ++ pinsAt fp sG.heap) σI H' s' → Nx H' → ∃ m, m < n ∧ ∃ i H', Inv (X.blk sC HC scope ce fp) [] (wipe σ (own.map (·.2))) H' s' ∧ tn i s'.heap ∧ (∀ b ∈ fp, H' b = none) ∧ W i m H' := by
        intro s' H' I' nx
        obtain ⟨m', lt, w'⟩ := hNx H' nx
        have held : ∀ b ∈ fp, ∀ o, sG.heap.get? b = some o → s'.heap.get? b = some o ∧ H' b = none := by
          intro b hb o e
          have z := I'.pin (b, o) (List.mem_append_right _ (List.mem_append_right _ (mem_pinsAt hb e)))
          exact ⟨z.1, z.2.1⟩
        refine ⟨m', lt, i + 1, H', (I'.unpinned (pins := [])).weak (by rw [← wI, wipe_length]) ?_, T.keep _ _ _ stG (fun b hb o e => (held b hb o e).1), ?_, w'⟩
        · intro j v e
          rw [← wI] at e
          exact (wipe_some e).1
        · intro b hb
          obtain ⟨o, e, _⟩ := T.obj _ _ stG b hb
          exact (held b hb o e).2
      cases b
      · exact next IJ qJ
      · refine thnF (pe.run _ sJ σI HJ _ IJ qJ) ?_
        rintro z sK ⟨yv, HK, IK, rK, acc, hDK, hzK, nx⟩
        exact app_ok (X := X.blk sC HC scope ce fp) IK hDK hzK rK fun sL IL => next IL nx
  have go := codeAny_compStart_list fin (T.self X.A 0 _ _ _ stD fin)
  rw [hce, hcl, hsD, hC] at go
  exact go
end
end
section
open PySem PySem.Spec PyProof.Rows L2 He LamX
/-- x(e) within a block, e a lambda made ahead of it -/
def tGiveX (X : Cx) (k : Nat) (TT : (XK → Hp → VK → Prop) → Hp → VK → Prop) (te : TE) (σ0 : L2.St) : TE := fun σ H Q => te σ H fun v H1 => ∃ f t, v = .ref f ∧ IsLam X k (X.env.qual ++ "<lambda>") H1 f t ∧ TT (fun E H' Q' => t E σ0 H' Q') H1 Q
section
variable {X : Cx}
theorem pe_giveB {TT : (XK → Hp → VK → Prop) → Hp → VK → Prop} {x a : Str} {g : Addr} {k : Nat} {pg : Arguments} {bg : List Stmt} {sg : Scope} {dV kV doc pm cdv ct oc : Value} {an od : Option Addr} {osl : Array (Option Value)} {Ng : List Str} {e : Expr} {te : TE} {p pos : Pos}
    {pins0 : List (Addr × Obj)} {σ0 : L2.St} {s0 : Shared} {H0 : Hp} {scope : Scope} {ce : Env} {fp : List Addr} (I0 : Inv X pins0 σ0 H0 s0) (fpk : ∀ b ∈ fp, FpOk X pins0 H0 b)
    (hg : Gl (X.blk s0 H0 scope ce fp) x) (hm : X.mg x = some (.ref g)) (hk : PySem.W.keepIn X.K (.ref g) = true) (lk : X.K.lookup g = some ⟨oc, od, .func (PySem.W.fnOf x x pg bg sg dV kV doc pm an cdv ct), osl⟩) (hcg : PySem.W.codeIn X.K cdv x = true) (hb : L2.Binds X.K (PySem.W.fnOf x x pg bg sg dV kV doc pm an cdv ct) [a] [])
    (Sg : FnScope Ng [a] sg) (hNg : Ng[0]? = some a) (hva : Vis sg a) (hG : GivesV X Ng x sg g cdv bg a (X.env.qual ++ "<lambda>") TT) (hr : Room (k + 2) X.A) (he : PE (X.blk s0 H0 scope ce fp) e te) (hs : starEach [e] ce = (false, eval e ce) :: starEach [] ce := by rfl)
    (hdb : (x == ("__debug__" : Str)) = false := by decide) (hd : (a == ("__debug__" : Str)) = false := by decide) (hcd : (a == ("__classdict__" : Str)) = false := by decide) : PE (X.blk s0 H0 scope ce fp) (.Call (.Name x p) [e] [] pos) (tGiveX X k TT te σ0) := by
  constructor
  intro pins s σ H Q I h
  refine wpAny_Call_Name_kw (ld_glob I hg hm ?_ hdb)
  refine PySem.W.callWith_K (h₀ := X.base) I.ok.mod.kin hk ?_ hs (by rfl)
  show wpAny _ _ (spliced (backTo pos (starEach [e] ce))) _ _ s
  rw [hs]
  show wpAny _ _ (spliced ((false, eval e ce) :: backTo pos (starEach [] ce))) _ _ s
  refine Calls.spliced_cons (thn (he.run pins s σ H _ I h) ?_)
  rintro u s1 ⟨v, H1, I1, r1, f, t, rfl, ⟨c', params, body, sc, B, hF, hc⟩, ht⟩
  obtain rfl : u = Value.ref f := r1
  refine Calls.spliced_nil ⟨I1.kIn, ?_⟩
  have IX : Inv X pins0 σ0 H1 s1 := I0.call' (ch := fp) I1.os I1.base I1.hok I1.bare (fun b hb => by
    have z := fpk b hb
    exact ⟨z.2.2.2.1, z.2.1, z.2.2.2.2.1, z.2.2.2.2.2⟩)
  have rc : codeAny (model X.prog X.w) X.A (.call (.ref g) ⟨[.ref f], []⟩) (CR C8.CX0 X.stack X.prog X.w H1 s1 Q C8.E0) s1 := by
    refine run_ofS (N := Ng) (ps := [a]) (us := [.ref f]) (vs := [.ref f]) lk hcg Sg hr IX.env0 (hb s1 [.ref f] IX.kIn rfl) (.cons rfl .nil) rfl ?_
    intro hr'
    obtain ⟨t', ht', hq'⟩ := hG f c' _ s1 H1 Q (fun E H' Q' => t E σ0 H' Q') ⟨_, rfl⟩ (fun W pn xe E p1 p2 tk hW => pe_actV (i := 0) IX B tk hW hr' hNg hva hd hcd) hF hc ht
    exact ⟨t', ht'.nox, hq'⟩
  refine wpAny_call (codeAny_mono rc ?_)
  rintro (er | (_ | _ | _ | u)) s2 hq
  · exact (show False from hq).elim
  all_goals first | exact I1.after hq | exact False.elim hq
theorem r_giveX {k : Nat} {TT : (XK → Hp → VK → Prop) → Hp → VK → Prop} {te : TE} {σ σ0 : L2.St} {H : Hp} {Q : VK} (h : te σ H fun v H1 => ∃ f t, v = .ref f ∧ IsLam X k (X.env.qual ++ "<lambda>") H1 f t ∧ TT (fun E H' Q' => t E σ0 H' Q') H1 Q) : tGiveX X k TT te σ0 σ H Q := h
end
end
section
open PySem PySem.Spec PyProof.Rows L2 He LamX
theorem eq_fine {K : PySem.W.Frag} {H : Hp} {Q : VK} {l e : Addr} (h : H l = some (.lst [.str "fine", .str "fine", .str "fine", .str "fine"])) (h' : H e = some (.lst [.str "fine", .str "fine", .str "fine", .str "fine"])) (k : Q (.bl true) H) : rEqD K (.ref l) (.ref e) H Q :=
  ⟨.list [.str "fine", .str "fine", .str "fine", .str "fine"], .list [.str "fine", .str "fine", .str "fine", .str "fine"], .lst (SqL.of h) (.cons (.str _) (.cons (.str _) (.cons (.str _) (.cons (.str _) .nil)))), .lst (SqL.of h') (.cons (.str _) (.cons (.str _) (.cons (.str _) (.cons (.str _) .nil)))), by decide +kernel, by decide +kernel, by
    rw [show PyData.eqv (.list [.str "fine", .str "fine", .str "fine", .str "fine"]) (.list [.str "fine", .str "fine", .str "fine", .str "fine"]) = true from by decide +kernel]; exact k⟩
end
section
open PySem PySem.Spec PyProof.Rows L2 SeqAt
/-- a value that is equal to itself at once: a flat one, or what stands at an address -/
def SameV (x : V) : Prop := flatB x = true ∨ ∃ a, x = .ref a
theorem same_at {A : Around} {s : Shared} {x : V} {u v : Value} (h : SameV x) (r1 : RelV x u) (r2 : RelV x v) : EqAt A s u v true := by
  rcases h with f | ⟨a, rfl⟩
  · exact eqAt_same r1 r2 f
  · cases (show u = Value.ref a from r1)
    cases (show v = Value.ref a from r2)
    exact EqAt.same _
theorem same_items {A : Around} {s : Shared} {xs : List V} (h : ∀ x ∈ xs, SameV x) {us ws : List Value} (r1 : Vals xs us) (r2 : Vals xs ws) : ∀ j (h1 : j < us.length) (h2 : j < ws.length), EqAt A s us[j] ws[j] true := by
  induction r1 generalizing ws with
  | nil => intro j h1; exact absurd h1 (Nat.not_lt_zero j)
  | cons a1 b1 ih =>
    cases r2 with
    | cons a2 b2 =>
      intro j h1 h2
      cases j with
      | zero => exact same_at (h _ List.mem_cons_self) a1 a2
      | succ j => exact ih (fun x hx => h x (List.mem_cons_of_mem _ hx)) b2 j (Nat.lt_of_succ_lt_succ h1) (Nat.lt_of_succ_lt_succ h2)
/-- two tuples, or two lists, of the same items -/
def SqS (H : Hp) (x y : V) : Prop := ∃ a b xs, x = .ref a ∧ y = .ref b ∧ ((H a = some (.tup xs) ∧ H b = some (.tup xs)) ∨ (H a = some (.lst xs) ∧ H b = some (.lst xs))) ∧ ∀ z ∈ xs, SameV z
def rNeS : R2 := fun x y H Q => SqS H x y ∧ Q (.bl false) H
def rEqS : R2 := fun x y H Q => (SqS H x y ∨ ∃ a b ps qs, x = .ref a ∧ y = .ref b ∧ H a = some (.lst ps) ∧ H b = some (.lst qs) ∧ Paired (SqS H) ps qs) ∧ Q (.bl true) H
section
variable {X : Cx} {pins : List (Addr × Obj)} {σ : L2.St} {H : Hp} {s : Shared}
theorem all_tt {n : Nat} : ((List.range n).all fun _ => true) = true := List.all_eq_true.mpr fun _ _ => rfl
theorem sqs_run (I : Inv X pins σ H s) {A : Around} (hu : A.units < cLine) {x y : V} {v u : Value} (h : SqS H x y) (rx : RelV x v) (ry : RelV y u) : RcAt A s v u true := by
  obtain ⟨a, b, xs, rfl, rfl, h, hz⟩ := h
  cases (show v = Value.ref a from rx)
  cases (show u = Value.ref b from ry)
  rcases h with ⟨ha, hb⟩ | ⟨ha, hb⟩
  · obtain ⟨us, r1, p1, _⟩ := I.tuple (SqT.of ha)
    obtain ⟨ws, r2, p2, _⟩ := I.tuple (SqT.of hb)
    have hl : us.length = ws.length := by rw [← r1.length, ← r2.length]
    have k := RcAt.tuples (A := A) (s := s) (e := fun _ => true) p1 p2 hu (fun j h1 h2 => by
      have k := same_items (A := A.in1) (s := s) hz r1 r2 j (by simpa using h1) (by simpa using h2)
      simpa using k)
    rw [all_tt, show (us.toArray.size == ws.toArray.size) = true from by simp [hl]] at k
    exact k
  · obtain ⟨us, r1, p1, _⟩ := I.list (SqL.of ha)
    obtain ⟨ws, r2, p2, _⟩ := I.list (SqL.of hb)
    have hl : us.length = ws.length := by rw [← r1.length, ← r2.length]
    have k := RcAt.lists (A := A) (s := s) (e := fun _ => true) p1.isList p2.isList (by simp [hl]) hu (fun j h1 h2 => by
      have k := same_items (A := A.in1) (s := s) hz r1 r2 j (by simpa using h1) (by simpa using h2)
      simpa using k)
    rw [all_tt] at k
    exact k
theorem sqs_ne (I : Inv X pins σ H s) {A : Around} (hu : A.units < cLine) {x y : V} {v u : Value} (h : SqS H x y) (rx : RelV x v) (ry : RelV y u) : RcNeAt A s v u false := by
  obtain ⟨a, b, xs, rfl, rfl, h, hz⟩ := h
  cases (show v = Value.ref a from rx)
  cases (show u = Value.ref b from ry)
  rcases h with ⟨ha, hb⟩ | ⟨ha, hb⟩
  · obtain ⟨us, r1, p1, _⟩ := I.tuple (SqT.of ha)
    obtain ⟨ws, r2, p2, _⟩ := I.tuple (SqT.of hb)
    have hl : us.length = ws.length := by rw [← r1.length, ← r2.length]
    have k := RcNeAt.tuples (A := A) (s := s) (e := fun _ => true) p1 p2 hu (fun j h1 h2 => by
      have k := same_items (A := A.in1) (s := s) hz r1 r2 j (by simpa using h1) (by simpa using h2)
      simpa using k)
    rw [all_tt, show (us.toArray.size == ws.toArray.size) = true from by simp [hl]] at k
    exact k
  · obtain ⟨us, r1, p1, _⟩ := I.list (SqL.of ha)
    obtain ⟨ws, r2, p2, _⟩ := I.list (SqL.of hb)
    have hl : us.length = ws.length := by rw [← r1.length, ← r2.length]
    have k := RcNeAt.lists (A := A) (s := s) (e := fun _ => true) p1.isList p2.isList (by simp [hl]) hu (fun j h1 h2 => by
      have k := same_items (A := A.in1) (s := s) hz r1 r2 j (by simpa using h1) (by simpa using h2)
      simpa using k)
    rw [all_tt] at k
    exact k
theorem sqs_item (I : Inv X pins σ H s) {A : Around} (hu : A.units < cLine) {x y : V} {v u : Value} (h : SqS H x y) (rx : RelV x v) (ry : RelV y u) : EqAt A s v u true := by
  have k := sqs_run I hu h rx ry
  obtain ⟨a, b, xs, rfl, rfl, _⟩ := h
  cases (show v = Value.ref a from rx)
  cases (show u = Value.ref b from ry)
  by_cases e : a = b
  · subst e; exact EqAt.same _
  · exact EqAt.of_refs e k
theorem sqs_items (I : Inv X pins σ H s) {A : Around} (hu : A.units < cLine) {ps qs : List V} (h : Paired (SqS H) ps qs) : ∀ {us ws : List Value}, Vals ps us → Vals qs ws → ∀ j (h1 : j < us.length) (h2 : j < ws.length), EqAt A s us[j] ws[j] true := by
  induction h with
  | nil => intro us ws r1 r2 j h1 h2; cases r1; exact absurd h1 (Nat.not_lt_zero j)
  | cons h _ ih =>
    intro us ws r1 r2 j h1 h2
    cases r1 with
    | cons a1 b1 =>
      cases r2 with
      | cons a2 b2 =>
        cases j with
        | zero => exact sqs_item I hu h a1 a2
        | succ j => exact ih b1 b2 j (Nat.lt_of_succ_lt_succ h1) (Nat.lt_of_succ_lt_succ h2)
end
section
variable {X : Cx}
theorem op_neS (hu : X.A.units + 64 < cLine) : OpR X (compareOp .NotEq) rNeS := by
  intro pins s σ H x y v u Q I rx ry h
  obtain ⟨h, q⟩ := h
  exact sqs_ne I (by omega) h rx ry _ _ _ _ ⟨.bl false, H, I, rfl, q⟩
theorem op_eqS (hu : X.A.units + 64 < cLine) : OpR X (compareOp .Eq) rEqS := by
  intro pins s σ H x y v u Q I rx ry h
  obtain ⟨h, q⟩ := h
  rcases h with h | ⟨a, b, ps, qs, rfl, rfl, ha, hb, hp⟩
  · exact sqs_run I (by omega) h rx ry _ _ _ _ ⟨.bl true, H, I, rfl, q⟩
  · cases (show v = Value.ref a from rx)
    cases (show u = Value.ref b from ry)
    obtain ⟨us, r1, p1, _⟩ := I.list (SqL.of ha)
    obtain ⟨ws, r2, p2, _⟩ := I.list (SqL.of hb)
    have hl : us.length = ws.length := by rw [← r1.length, ← r2.length]; exact Paired.length hp
    have k := RcAt.lists (A := X.A) (s := s) (e := fun _ => true) p1.isList p2.isList (by simp [hl]) (by omega) (fun j h1 h2 => by
      have k := sqs_items I (A := X.A.in1) (by show X.A.units + 1 < cLine; omega) hp r1 r2 j (by simpa using h1) (by simpa using h2)
      simpa using k)
    rw [all_tt] at k
    exact k _ _ _ _ ⟨.bl true, H, I, rfl, q⟩
end
end
section
open PySem PySem.Spec PyProof.Rows L2 He LamX
section
variable {K : PySem.W.Frag} {mg : Str → Option Value} {C CF CP CR a b : Addr} {H : Hp} {Q : VK} {E : XK} {x y z t r : Rat} {n : Int} {v : V}
theorem ins_P (h : IsP C CR H a x y) : ∃ dx fs, H a = some (.ins C dx fs) := by
  obtain ⟨dx, u1, u2, g1, _⟩ := h; exact ⟨dx, _, g1⟩
theorem r_co {sp : Sp} {te t1 : TE} {σ : L2.St} (k : te σ H fun v H1 => ∃ a dx fs, v = .ref a ∧ H1 a = some (.ins C dx fs) ∧ t1 σ H1 fun y H2 => H2 a = some (.ins C dx fs) ∧ sp [.ref a, y] H2 Q E) : tCo C sp E te t1 σ H Q := k
theorem x_padd (k : ∃ x y z t, IsP C CR H a x y ∧ IsP C CR H b z t ∧ Bq x ∧ Bq y ∧ Bq z ∧ Bq t ∧ Bq (x + z) ∧ Bq (y + t) ∧ ∀ H' p, Ex H H' → IsP C CR H' p (x + z) (y + t) → Q (.ref p) H') : rO C (spPP C CR (fun q r => q + r)) E (isIns C) (.ref a) (.ref b) H Q := by
  obtain ⟨x, y, z, t, h, h', b1, b2, b3, b4, b5, b6, k⟩ := k
  obtain ⟨dx, fs, g⟩ := ins_P h
  obtain ⟨dy, gs, g'⟩ := ins_P h'
  exact ⟨a, dx, fs, rfl, g, ⟨b, dy, gs, rfl, g'⟩, a, b, x, y, z, t, rfl, h, h', b1, b2, b3, b4, b5, b6, k⟩
theorem x_psub (k : ∃ x y z t, IsP C CR H a x y ∧ IsP C CR H b z t ∧ Bq x ∧ Bq y ∧ Bq z ∧ Bq t ∧ Bq (x - z) ∧ Bq (y - t) ∧ ∀ H' p, Ex H H' → IsP C CR H' p (x - z) (y - t) → Q (.ref p) H') : rO C (spPP C CR (fun q r => q - r)) E (isIns C) (.ref a) (.ref b) H Q := by
  obtain ⟨x, y, z, t, h, h', b1, b2, b3, b4, b5, b6, k⟩ := k
  obtain ⟨dx, fs, g⟩ := ins_P h
  obtain ⟨dy, gs, g'⟩ := ins_P h'
  exact ⟨a, dx, fs, rfl, g, ⟨b, dy, gs, rfl, g'⟩, a, b, x, y, z, t, rfl, h, h', b1, b2, b3, b4, b5, b6, k⟩
theorem x_pneg (k : ∃ x y, IsP C CR H a x y ∧ Bq x ∧ Bq y ∧ Bq (-x) ∧ Bq (-y) ∧ ∀ H' p, Ex H H' → IsP C CR H' p (-x) (-y) → Q (.ref p) H') : rU1 C (spP0 C CR (fun q => -q)) E (.ref a) H Q := by
  obtain ⟨x, y, h, b1, b2, b3, b4, k⟩ := k
  obtain ⟨dx, fs, g⟩ := ins_P h
  exact ⟨a, dx, fs, rfl, g, a, x, y, rfl, h, b1, b2, b3, b4, k⟩
theorem x_pmI (k : ∃ x y, IsP C CR H a x y ∧ Bq x ∧ Bq y ∧ Bq (n : Rat) ∧ Bq (x * (n : Rat)) ∧ Bq (y * (n : Rat)) ∧ ∀ H' p, Ex H H' → IsP C CR H' p (x * (n : Rat)) (y * (n : Rat)) → Q (.ref p) H') : rO C (spPN C CR (fun q r => q * r)) E isInt (.ref a) (.int n) H Q := by
  obtain ⟨x, y, h, b1, b2, b3, b4, b5, k⟩ := k
  obtain ⟨dx, fs, g⟩ := ins_P h
  exact ⟨a, dx, fs, rfl, g, ⟨n, rfl⟩, a, _, x, y, _, rfl, h, num_i, b1, b2, b3, b4, b5, k⟩
theorem x_pmR (k : ∃ x y r, IsP C CR H a x y ∧ IsR CR H b r ∧ Bq x ∧ Bq y ∧ Bq r ∧ Bq (x * r) ∧ Bq (y * r) ∧ ∀ H' p, Ex H H' → IsP C CR H' p (x * r) (y * r) → Q (.ref p) H') : rOD C CR (spPN C CR (fun q r => q * r)) E (.ref a) (.ref b) H Q := by
  obtain ⟨x, y, r, h, hr, b1, b2, b3, b4, b5, k⟩ := k
  obtain ⟨dx, fs, g⟩ := ins_P h
  obtain ⟨dy, g'⟩ := _root_.id hr
  exact ⟨a, dx, fs, b, dy, _, rfl, g, rfl, g', a, _, x, y, r, rfl, h, num_r hr, b1, b2, b3, b4, b5, k⟩
theorem x_rmI (k : ∃ x y, IsP C CR H a x y ∧ Bq x ∧ Bq y ∧ Bq (n : Rat) ∧ Bq (x * (n : Rat)) ∧ Bq (y * (n : Rat)) ∧ ∀ H' p, Ex H H' → IsP C CR H' p (x * (n : Rat)) (y * (n : Rat)) → Q (.ref p) H') : rOr C (spPN C CR (fun q r => q * r)) E (.int n) (.ref a) H Q := by
  obtain ⟨x, y, h, b1, b2, b3, b4, b5, k⟩ := k
  obtain ⟨dx, fs, g⟩ := ins_P h
  exact ⟨a, dx, fs, n, rfl, rfl, g, a, _, x, y, _, rfl, h, num_i, b1, b2, b3, b4, b5, k⟩
theorem x_rmR (k : ∃ x y r, IsP C CR H a x y ∧ IsR CR H b r ∧ Wrong K CR H (.ref a) ∧ Bq x ∧ Bq y ∧ Bq r ∧ Bq (x * r) ∧ Bq (y * r) ∧ ∀ H' p, Ex H H' → IsP C CR H' p (x * r) (y * r) → Q (.ref p) H') : rODn CR C (spDcl K CR) (spPN C CR (fun q r => q * r)) E (.ref b) (.ref a) H Q := by
  obtain ⟨x, y, r, h, hr, hw, b1, b2, b3, b4, b5, k⟩ := k
  obtain ⟨dx, fs, g⟩ := ins_P h
  obtain ⟨dy, g'⟩ := _root_.id hr
  exact ⟨b, dy, _, a, dx, fs, rfl, g', rfl, g, b, _, rfl, hw, rfl, a, _, x, y, r, rfl, h, num_r hr, b1, b2, b3, b4, b5, k⟩
theorem x_peq (T : PT K C) (k : ∃ x y z t, IsP C CR H a x y ∧ IsP C CR H b z t ∧ Q (.bl (decide (x = z ∧ y = t))) H) : rO C (spPEq K C CR) E (isAny K C) (.ref a) (.ref b) H Q := by
  obtain ⟨x, y, z, t, h, h', k⟩ := k
  obtain ⟨dx, fs, g⟩ := ins_P h
  exact ⟨a, dx, fs, rfl, g, ⟨_, h'.tyx T, nf_self⟩, a, _, x, y, rfl, h, .inl ⟨b, z, t, rfl, h', k⟩⟩
theorem x_pne (T : PT K C) (k : ∃ x y z t, IsP C CR H a x y ∧ IsP C CR H b z t ∧ Q (.bl (!decide (x = z ∧ y = t))) H) : rNO C (spPEq K C CR) E (isAny K C) (.ref a) (.ref b) H Q := by
  obtain ⟨x, y, z, t, h, h', k⟩ := k
  obtain ⟨dx, fs, g⟩ := ins_P h
  exact ⟨a, dx, fs, rfl, g, ⟨_, h'.tyx T, nf_self⟩, a, _, x, y, rfl, h, .inl ⟨b, z, t, rfl, h', a_kNB k⟩⟩
theorem p_eqT {xs : List V} (T : PT K C) (h : IsP C CR H a x y) (h' : H b = some (.tup xs)) (k : Q (.bl false) H) : rO C (spPEq K C CR) E (isAny K C) (.ref a) (.ref b) H Q := by
  obtain ⟨dx, fs, g⟩ := ins_P h
  exact ⟨a, dx, fs, rfl, g, ⟨_, tyT h', nf_of sub_tuple⟩, a, _, x, y, rfl, h, .inr ⟨⟨_, tyT h', kit_tup T.k⟩, k⟩⟩
theorem p_eqP (T : PT K C) (T' : PT K CF) (hs : PySem.W.subIn K (.ref CF) (.ref C) = some false) (hne : CF ≠ C) (h : IsP C CR H a x y) (h' : IsP CF CR H b z t) (k : Q (.bl false) H) : rO C (spPEq K C CR) E (isAny K C) (.ref a) (.ref b) H Q := by
  obtain ⟨dx, fs, g⟩ := ins_P h
  exact ⟨a, dx, fs, rfl, g, ⟨_, h'.tyx T', nf_of hs⟩, a, _, x, y, rfl, h, .inr ⟨⟨_, h'.tyx T', kit_own T.k hs (Bool.eq_false_iff.mpr fun q => hne (Value.ref.inj (beq_iff_eq.mp q)))⟩, k⟩⟩
theorem p_wrong (T : PT K C) (TR : RT K mg CR) (hs : PySem.W.subIn K (.ref C) (.ref CR) = some false) (hne : C ≠ CR) (h : IsP C CR H a x y) : Wrong K CR H (.ref a) :=
  ⟨_, h.tyx T, kit_own TR.k hs (Bool.eq_false_iff.mpr fun q => hne (Value.ref.inj (beq_iff_eq.mp q))), .inl (kit_ni T.k)⟩
theorem x_cross (k : ∃ x y z t, IsP C CR H a x y ∧ IsP C CR H b z t ∧ Sr 1950 x ∧ Sr 1950 y ∧ Sr 1950 z ∧ Sr 1950 t ∧ ∀ H' p, Ex H H' → IsR CR H' p (x * t - y * z) → Q (.ref p) H') : spCross C CR [.ref a, .ref b] H Q E := by
  obtain ⟨x, y, z, t, k⟩ := k; exact ⟨a, b, x, y, z, t, rfl, k⟩
theorem x_value (k : ∃ x y z t, IsP CF CR H a x y ∧ IsP C CR H b z t ∧ Sr 1950 x ∧ Sr 1950 y ∧ Sr 1950 z ∧ Sr 1950 t ∧ ∀ H' p, Ex H H' → IsR CR H' p (x * z + y * t) → Q (.ref p) H') : spValue CF C CR [.ref a, .ref b] H Q E := by
  obtain ⟨x, y, z, t, k⟩ := k; exact ⟨a, b, x, y, z, t, rfl, k⟩
theorem dp_tt {i j : Int} (h : H a = some (.tup [.int i, .int j])) : Dp K H (.ref a) (.tuple [.int i, .int j]) := .tup (SqT.of h) (.cons (.int _) (.cons (.int _) .nil))
theorem eqv_tt {i j k l : Int} : PyData.eqv (.tuple [.int i, .int j]) (.tuple [.int k, .int l]) = decide (i = k ∧ j = l) := by
  simp [PyData.eqv, PyData.eqvAll, Bool.decide_and]
  rfl
theorem q_ttEq {i j k l : Int} (h : H a = some (.tup [.int i, .int j])) (h' : H b = some (.tup [.int k, .int l])) (kk : Q (.bl (decide (i = k ∧ j = l))) H) : rEqD K (.ref a) (.ref b) H Q :=
  ⟨_, _, dp_tt h, dp_tt h', rfl, rfl, by rw [eqv_tt]; exact kk⟩
theorem q_ttNe {i j k l : Int} (h : H a = some (.tup [.int i, .int j])) (h' : H b = some (.tup [.int k, .int l])) (kk : Q (.bl (!decide (i = k ∧ j = l))) H) : rNeD K (.ref a) (.ref b) H Q :=
  ⟨_, _, dp_tt h, dp_tt h', rfl, rfl, by rw [eqv_tt]; exact kk⟩
theorem x_ttNe (k : ∃ i j k l : Int, H a = some (.tup [.int i, .int j]) ∧ H b = some (.tup [.int k, .int l]) ∧ Q (.bl (!decide (i = k ∧ j = l))) H) : rNeD K (.ref a) (.ref b) H Q := by
  obtain ⟨i, j, k, l, h, h', q⟩ := k; exact q_ttNe h h' q
theorem x_ttEq (k : ∃ i j k l : Int, H a = some (.tup [.int i, .int j]) ∧ H b = some (.tup [.int k, .int l]) ∧ Q (.bl (decide (i = k ∧ j = l))) H) : rEqD K (.ref a) (.ref b) H Q := by
  obtain ⟨i, j, k, l, h, h', q⟩ := k; exact q_ttEq h h' q
theorem x_ptr (k : ∃ x y, IsP C CR H a x y ∧ Bq x ∧ Bq y ∧ Q (.bl (!decide (x = 0 ∧ y = 0))) H) : rC1 C (spPTr C CR) E kB [.ref a] H Q := by
  obtain ⟨x, y, h, b1, b2, k⟩ := k
  obtain ⟨dx, fs, g⟩ := ins_P h
  exact ⟨a, dx, fs, rfl, g, a, x, y, rfl, h, b1, b2, a_kB k⟩
theorem x_tt {g : Int → Int → Int → Int → V} {i j k l : Int} (kk : ∃ i j k l, H a = some (.tup [.int i, .int j]) ∧ H b = some (.tup [.int k, .int l]) ∧ Sb 400 i ∧ Sb 400 j ∧ Sb 400 k ∧ Sb 400 l ∧ Q (g i j k l) H) : spTT g [.ref a, .ref b] H Q E := by
  obtain ⟨i, j, k, l, h⟩ := kk; exact ⟨a, b, i, j, k, l, rfl, h⟩
theorem x_ttt {g : Int → Int → Int} (kk : ∃ i j k l, H a = some (.tup [.int i, .int j]) ∧ H b = some (.tup [.int k, .int l]) ∧ Sb 400 i ∧ Sb 400 j ∧ Sb 400 k ∧ Sb 400 l ∧ ∀ H' t, Ex H H' → H' t = some (.tup [.int (g i k), .int (g j l)]) → Q (.ref t) H') : spTTt g [.ref a, .ref b] H Q E := by
  obtain ⟨i, j, k, l, h⟩ := kk; exact ⟨a, b, i, j, k, l, rfl, h⟩
theorem x_tms {m : Int} (kk : ∃ i j, H a = some (.tup [.int i, .int j]) ∧ Sb 400 i ∧ Sb 400 j ∧ Sb 400 m ∧ ∀ H' t, Ex H H' → H' t = some (.tup [.int (m * i), .int (m * j)]) → Q (.ref t) H') : spTms [.int m, .ref a] H Q E := by
  obtain ⟨i, j, h⟩ := kk; exact ⟨a, m, i, j, rfl, h⟩
end
section
variable {q r F : Rat} {n m d i : Int}
theorem frq_addS (h : FrQ q n d) (g : FrQ r m d) : FrQ (q + r) (n + m) d := by unfold FrQ at *; push_cast; grind
theorem frq_subS (h : FrQ q n d) (g : FrQ r m d) : FrQ (q - r) (n - m) d := by unfold FrQ at *; push_cast; grind
theorem frq_negS (h : FrQ q n d) : FrQ (-q) (-1 * n) d := by unfold FrQ at *; push_cast; grind
theorem frq_mulS (h : FrQ q n d) (g : FrQ F i 7) : FrQ (q * F) (i * n) (7 * d) := by unfold FrQ at *; push_cast; push_cast at g; grind
theorem frq_cross {q r s t : Rat} {n m k l d : Int} (h1 : FrQ q n d) (h2 : FrQ r m d) (h3 : FrQ s k d) (h4 : FrQ t l d) : FrQ (q * t - r * s) (n * l - m * k) (d * d) := by unfold FrQ at *; push_cast; grind
theorem frq_val {q r s t : Rat} {n m k l d : Int} (h1 : FrQ q n 3) (h2 : FrQ r m 3) (h3 : FrQ s k d) (h4 : FrQ t l d) : FrQ (q * s + r * t) (n * k + m * l) (3 * d) := by unfold FrQ at *; push_cast; push_cast at h1 h2; grind
theorem frq_mul21 (h : FrQ q n 3) (g : FrQ F i 7) : FrQ (q * F) (i * n) 21 := by unfold FrQ at *; push_cast; push_cast at g h; grind
theorem frq_val2 {q r q' r' s t : Rat} {n m n' m' k l d : Int} (h1 : FrQ q n 3) (h2 : FrQ r m 3) (h1' : FrQ q' n' 3) (h2' : FrQ r' m' 3) (h3 : FrQ s k d) (h4 : FrQ t l d) : FrQ ((q + q') * s + (r + r') * t) (n * k + m * l + (n' * k + m' * l)) (3 * d) := by unfold FrQ at *; push_cast; push_cast at h1 h2 h1' h2'; grind
theorem frq_zero : FrQ (q * ((0 : Int) : Rat)) 0 1 := by unfold FrQ; push_cast; grind
theorem frq_back (h : FrQ q n d) : FrQ (q + r - r) n d := by unfold FrQ at *; grind
end
end
open PySem PySem.Spec PyProof.Rows L2 He LamX
local macro_rules | `(tactic| wtm_at "of_ra1") => `(tactic| first
  | ((with_reducible refine x_px ?_); refine ⟨_, _, _, _, ?_, by wtm_at "of_uq", ?_⟩; assumption; intro _ _)
  | ((with_reducible refine x_py ?_); refine ⟨_, _, _, _, ?_, by wtm_at "of_uq", ?_⟩; assumption; intro _ _)
  | ((with_reducible refine x_padd ?_); refine ⟨_, _, _, _, by wtm_at "of_uq", by wtm_at "of_uq", by wtm_at "of_szb", by wtm_at "of_szb", by wtm_at "of_szb", by wtm_at "of_szb", by wtm_at "of_szb", by wtm_at "of_szb", ?_⟩; intro _ _ _ _)
  | ((with_reducible refine x_psub ?_); refine ⟨_, _, _, _, by wtm_at "of_uq", by wtm_at "of_uq", by wtm_at "of_szb", by wtm_at "of_szb", by wtm_at "of_szb", by wtm_at "of_szb", by wtm_at "of_szb", by wtm_at "of_szb", ?_⟩; intro _ _ _ _)
  | ((with_reducible refine x_pneg ?_); refine ⟨_, _, by wtm_at "of_uq", by wtm_at "of_szb", by wtm_at "of_szb", by wtm_at "of_szb", by wtm_at "of_szb", ?_⟩; intro _ _ _ _)
  | ((with_reducible refine x_pmI ?_); refine ⟨_, _, by wtm_at "of_uq", by wtm_at "of_szb", by wtm_at "of_szb", by wtm_at "of_szb", by wtm_at "of_szb", by wtm_at "of_szb", ?_⟩; intro _ _ _ _)
  | ((with_reducible refine x_pmR ?_); refine ⟨_, _, _, by wtm_at "of_uq", by wtm_at "of_uq", by wtm_at "of_szb", by wtm_at "of_szb", by wtm_at "of_szb", by wtm_at "of_szb", by wtm_at "of_szb", ?_⟩; intro _ _ _ _)
  | ((with_reducible refine x_rmI ?_); refine ⟨_, _, by wtm_at "of_uq", by wtm_at "of_szb", by wtm_at "of_szb", by wtm_at "of_szb", by wtm_at "of_szb", by wtm_at "of_szb", ?_⟩; intro _ _ _ _)
  | ((with_reducible refine x_peq (by assumption) ?_); refine ⟨_, _, _, _, by wtm_at "of_uq", by wtm_at "of_uq", ?_⟩)
  | ((with_reducible refine x_pne (by assumption) ?_); refine ⟨_, _, _, _, by wtm_at "of_uq", by wtm_at "of_uq", ?_⟩)
  | ((with_reducible refine x_cross ?_); refine ⟨_, _, _, _, by wtm_at "of_uq", by wtm_at "of_uq", Sr.mono (by wtm_at "of_szi") (by decide), Sr.mono (by wtm_at "of_szi") (by decide), Sr.mono (by wtm_at "of_szi") (by decide), Sr.mono (by wtm_at "of_szi") (by decide), ?_⟩; intro _ _ _ _)
  | ((with_reducible refine x_value ?_); refine ⟨_, _, _, _, by wtm_at "of_uq", by wtm_at "of_uq", Sr.mono (by wtm_at "of_szi") (by decide), Sr.mono (by wtm_at "of_szi") (by decide), Sr.mono (by wtm_at "of_szi") (by decide), Sr.mono (by wtm_at "of_szi") (by decide), ?_⟩; intro _ _ _ _)
  | ((with_reducible refine x_ptr ?_); refine ⟨_, _, by wtm_at "of_uq", by wtm_at "of_szb", by wtm_at "of_szb", ?_⟩)
  | ((with_reducible refine x_ttNe ?_); refine ⟨_, _, _, _, by wtm_at "of_uq", by wtm_at "of_uq", ?_⟩)
  | ((with_reducible refine x_ttEq ?_); refine ⟨_, _, _, _, by wtm_at "of_uq", by wtm_at "of_uq", ?_⟩)
  | ((with_reducible refine x_ttt ?_); refine ⟨_, _, _, _, by wtm_at "of_uq", by wtm_at "of_uq", Sb.mono (by wtm_at "of_szi") (by decide), Sb.mono (by wtm_at "of_szi") (by decide), Sb.mono (by wtm_at "of_szi") (by decide), Sb.mono (by wtm_at "of_szi") (by decide), ?_⟩; intro _ _ _ _)
  | ((with_reducible refine x_tms ?_); refine ⟨_, _, by wtm_at "of_uq", Sb.mono (by wtm_at "of_szi") (by decide), Sb.mono (by wtm_at "of_szi") (by decide), Sb.mono (by wtm_at "of_szi") (by decide), ?_⟩; intro _ _ _ _))
section
open PySem PySem.Spec PyProof.Rows L2 He LamX
def spPR : Sp := fun vs H Q _ => ∃ (o t : Addr) (i d x0 y0 x1 y1 : Int), vs = [.ref o, .ref t, .int i, .int d] ∧ H o = some (.tup [.int x0, .int y0]) ∧ H t = some (.tup [.int x1, .int y1]) ∧ 0 < d ∧ Sb 200 x0 ∧ Sb 200 y0 ∧ Sb 200 x1 ∧ Sb 200 y1 ∧ Sb 140 i ∧ Sb 100 d ∧ ∀ H', Ex H H' → Q (.bl true) H'
def spFR : Sp := fun vs H Q _ => ∃ (o t s : Addr) (i d x0 y0 x1 y1 u v : Int), vs = [.ref o, .ref t, .ref s, .int i, .int d] ∧ H o = some (.tup [.int x0, .int y0]) ∧ H t = some (.tup [.int x1, .int y1]) ∧ H s = some (.tup [.int u, .int v]) ∧ 0 < d ∧ Sb 200 x0 ∧ Sb 200 y0 ∧ Sb 200 x1 ∧ Sb 200 y1 ∧ Sb 200 u ∧ Sb 200 v ∧ Sb 140 i ∧ Sb 100 d ∧ ∀ H', Ex H H' → Q (.bl true) H'
end
section
open PySem PySem.Spec PyProof.Rows L2 He
section
variable {P : Program} {w : World} {K : PySem.W.Frag} {mg : Str → Option Value} {base : Heap} {C_Ratio C_BadNumber C_Point C_Form f_Ratio_eq f_Ratio_lt f_Ratio_le f_Ratio_gt f_Ratio_ge f_Ratio_bool f_Ratio_neg f_Ratio_abs f_Ratio_str f_Ratio_add f_Ratio_radd f_Ratio_sub f_Ratio_rsub f_Ratio_mul f_Ratio_rmul f_Ratio_floordiv f_Ratio_rfloordiv f_Ratio_mod f_Ratio_rmod f_Ratio_pow f_Ratio_over f_Ratio_floor f_Ratio_ceiling f_Ratio_whole f_Ratio_sign f_Point_mul f_Point_rmul f_Form_mul f_Form_rmul : Addr}
abbrev s__law_points_right : Stmt := (top 52)
theorem sc__law_points_right : FnScope ["_law_one", "_law_other", "_law_number_here", "_law_over", "_law_a", "_law_b", "_law_factor"] ["_law_one", "_law_other", "_law_number_here", "_law_over"] (defScope s__law_points_right) := ⟨rfl, rfl, rfl, by decide +kernel, rfl, by decide +kernel, by decide +kernel⟩
theorem ok__law_points_right {f : Addr} {fd : FuncData} (F : FunD K "_law_points_right" "_law_points_right" (defArgs s__law_points_right) (defBody s__law_points_right) (defScope s__law_points_right) [] [] f fd) (TB : TBl mg) (TR : RT K mg C_Ratio) (k_Ratio : ClsP K C_Ratio) (a_Ratio_mul : PySem.W.findIn K (.ref C_Ratio) "__mul__" = some (some (.ref f_Ratio_mul))) (a_Ratio_rmul : PySem.W.findIn K (.ref C_Ratio) "__rmul__" = some (some (.ref f_Ratio_rmul))) (T_Point : PT K C_Point) (k_Point : ClsP K C_Point) (T_Form : PT K C_Form) (a_Point_mul : PySem.W.findIn K (.ref C_Point) "__mul__" = some (some (.ref f_Point_mul))) (a_Point_rmul : PySem.W.findIn K (.ref C_Point) "__rmul__" = some (some (.ref f_Point_rmul))) (s_Point_Ratio : PySem.W.subIn K (.ref C_Point) (.ref C_Ratio) = some false) (s_Ratio_Point : PySem.W.subIn K (.ref C_Ratio) (.ref C_Point) = some false) (s_Point_Form : PySem.W.subIn K (.ref C_Point) (.ref C_Form) = some false) (s_Form_Point : PySem.W.subIn K (.ref C_Form) (.ref C_Point) = some false) (n_Point_Ratio : C_Point ≠ C_Ratio) (n_Ratio_Point : C_Ratio ≠ C_Point) (n_Point_Form : C_Point ≠ C_Form) (n_Form_Point : C_Form ≠ C_Point) (e_Ratio_mul : Cdc P w K mg base 3 C_Ratio "__mul__" f_Ratio_mul (spDcl K C_Ratio)) (c_Form_2 : Ck P w K mg base 7 "Form" C_Form [] (spPInit K C_Form C_Ratio C_BadNumber)) (c_Point_add : Cm P w K mg base 9 C_Point "__add__" f_Point_add (spPP C_Point C_Ratio (fun q r => q + r))) (c_Point_sub : Cm P w K mg base 9 C_Point "__sub__" f_Point_sub (spPP C_Point C_Ratio (fun q r => q - r))) (c_Point_neg : Cm P w K mg base 9 C_Point "__neg__" f_Point_neg (spP0 C_Point C_Ratio (fun q => -q))) (c_Point_mul : Cm P w K mg base 9 C_Point "__mul__" f_Point_mul (spPN C_Point C_Ratio (fun q r => q * r))) (c_Point_eq : Cm P w K mg base 1 C_Point "__eq__" f_Point_eq (spPEq K C_Point C_Ratio)) (c_Form_eq : Cm P w K mg base 3 C_Form "__eq__" f_Form_eq (spPEq K C_Form C_Ratio)) (c_Point_bool : Cm P w K mg base 1 C_Point "__bool__" f_Point_bool (spPTr C_Point C_Ratio)) (c_Point_rmul : Cm P w K mg base 9 C_Point "__rmul__" f_Point_rmul (spPN C_Point C_Ratio (fun q r => q * r))) (c_cross : Cl P w K mg base 6 "cross" (spCross C_Point C_Ratio)) (c__law_ratio_is : Cl P w K mg base 2 "_law_ratio_is" (spRatioIs C_Ratio)) (c__law_truth : Cl P w K mg base 1 "_law_truth" (spTruth)) (c__law_told : Cl P w K mg base 6 "_law_told" (spTold C_Ratio)) (c__law_point : Cl P w K mg base 9 "_law_point" (spPointO C_Point C_Ratio)) (c__law_at : Cl P w K mg base 3 "_law_at" (spAtP C_Point C_Ratio)) (c__law_area : Cl P w K mg base 1 "_law_area" (spTT (fun x y z w => .int (x * w - y * z)))) (c__law_plus : Cl P w K mg base 1 "_law_plus" (spTTt (fun x z => x + z))) (c__law_minus : Cl P w K mg base 1 "_law_minus" (spTTt (fun x z => x - z))) (c__law_times : Cl P w K mg base 1 "_law_times" (spTms)) : FnOk P w K mg base (L2.CX P w) 10 f fd ["_law_one", "_law_other", "_law_number_here", "_law_over"] (spPR) := by
  refine F.ok (CX := L2.CX P w) sc__law_points_right (fun vs H Q E h => ?_) (fun cdv A outer s H vs Q E hr h => ?_)
  · obtain ⟨o, t, i, d, x0, y0, x1, y1, rfl, _⟩ := h; rfl
  · obtain ⟨o, t, i, d, x0, y0, x1, y1, rfl, ho, ht, d0, sx0, sy0, sx1, sy1, si, sd, k⟩ := h
    refine ⟨_, (pss_cons (ps_par3 (i := 4) (j := 5) (l := 6) rfl sc__law_points_right.nd rfl rfl rfl (by decide) (by decide) (by decide) rfl rfl rfl (pa_cons (pe_cl c__law_point hr (by decide) (by rfl) psE (pa_cons (pv 0) (pa_cons (pv 3) pa_nil))) (pa_cons (pe_cl c__law_point hr (by decide) (by rfl) psE (pa_cons (pv 1) (pa_cons (pv 3) pa_nil))) (pa_cons (pe_cl c__law_told hr (by decide) (by rfl) psE (pa_cons (pv 2) (pa_cons pe_int pa_nil))) pa_nil))) (by rfl)) (pss_cons (ps_if (pw_or (pt_not (pt_val (pe_cl c__law_at hr (by decide) (by rfl) psE (pa_cons (pe_op (op2 d_add k_Point.o c_Point_add hr (by decide) psE) (pv 4) (pv 5)) (pa_cons (pe_cl c__law_plus hr (by decide) (by rfl) psE (pa_cons (pv 0) (pa_cons (pv 1) pa_nil))) (pa_cons (pv 3) pa_nil)))))) (pw_or1 (pt_not (pt_val (pe_cl c__law_at hr (by decide) (by rfl) psE (pa_cons (pe_op (op2 d_sub k_Point.o c_Point_sub hr (by decide) psE) (pv 4) (pv 5)) (pa_cons (pe_cl c__law_minus hr (by decide) (by rfl) psE (pa_cons (pv 0) (pa_cons (pv 1) pa_nil))) (pa_cons (pv 3) pa_nil)))))))).pt (pss_one (ps_ret pe_bl)) pss_nil) (pss_cons (ps_if (pw_or (pt_not (pt_val (pe_cl c__law_at hr (by decide) (by rfl) psE (pa_cons (pe_un (un_negO c_Point_neg.at_ c_Point_neg.fn c_Point_neg.fnr (hr.mono (by decide)) psE) (pv 4)) (pa_cons (pe_cl c__law_times hr (by decide) (by rfl) psE (pa_cons (pe_un un_neg pe_int) (pa_cons (pv 0) pa_nil))) (pa_cons (pv 3) pa_nil)))))) (pw_or1 (pt_not (pt_val (pe_cl c__law_at hr (by decide) (by rfl) psE (pa_cons (pe_op (op_or (opI (rc := none) d_mul dr_mul k_Point.o c_Point_mul (.inl ⟨_, a_Point_rmul⟩) fi_mul fir_mul hr (by decide) psE) (op2D d_mul dr_mul k_Point.o k_Ratio.o c_Point_mul a_Ratio_mul a_Point_rmul (.inr ⟨_, rfl⟩) a_Ratio_rmul (.inr ⟨_, rfl⟩) s_Ratio_Point n_Ratio_Point hr (by decide) psE)) (pv 4) (pv 6)) (pa_cons (pe_cl c__law_times hr (by decide) (by rfl) psE (pa_cons (pv 2) (pa_cons (pv 0) pa_nil))) (pa_cons (pe_op op_mulA pe_int (pv 3)) pa_nil)))))))).pt (pss_one (ps_ret pe_bl)) pss_nil) (pss_cons (ps_if (pw_or (pt_not (pt_val (pe_cl c__law_at hr (by decide) (by rfl) psE (pa_cons (pe_op (op_or (opR_mul k_Point.o a_Point_mul c_Point_rmul hr (by decide) psE) (op3D d_mul dr_mul k_Ratio.o k_Point.o e_Ratio_mul a_Point_mul a_Ratio_rmul (.inr ⟨_, rfl⟩) c_Point_rmul s_Point_Ratio n_Point_Ratio hr (by decide) (by decide) psE)) (pv 6) (pv 4)) (pa_cons (pe_cl c__law_times hr (by decide) (by rfl) psE (pa_cons (pv 2) (pa_cons (pv 0) pa_nil))) (pa_cons (pe_op op_mulA pe_int (pv 3)) pa_nil)))))) (pw_or1 (pt_not (pt_val (pe_cl c__law_at hr (by decide) (by rfl) psE (pa_cons (pe_op (opI (rc := none) d_mul dr_mul k_Point.o c_Point_mul (.inl ⟨_, a_Point_rmul⟩) fi_mul fir_mul hr (by decide) psE) (pv 4) pe_int) (pa_cons (pe_tup (pa_cons pe_int (pa_cons pe_int pa_nil))) (pa_cons pe_int pa_nil)))))))).pt (pss_one (ps_ret pe_bl)) pss_nil) (pss_cons (ps_if (pw_or (pt_not (pt_val (pe_cl c__law_truth hr (by decide) (by rfl) psE (pa_cons (pe_callTy (call_boolO c_Point_bool.at_ c_Point_bool.fn c_Point_bool.fnr (hr.mono (by decide)) psE) (by rfl) TB.b_bool (by decide +kernel) (pa_cons (pv 4) pa_nil)) (pa_cons (pe_cmpR (kop_neD (K := K) rfl (hu_of64 hr)) (pv 0) (pe_tup (pa_cons pe_int (pa_cons pe_int pa_nil))) (nomark _)) pa_nil))))) (pw_or1 (pt_not (pt_val (pe_cl c__law_truth hr (by decide) (by rfl) psE (pa_cons (pe_cmpR (kC_eq (K := K) rfl c_Point_eq hr (by decide) psE) (pv 4) (pv 5) (nomark _)) (pa_cons (pe_cmpR (kop_eqD (K := K) rfl (hu_of64 hr)) (pv 0) (pv 1) (nomark _)) pa_nil))))))).pt (pss_one (ps_ret pe_bl)) pss_nil) (pss_cons (ps_if (pw_or (pt_not (pt_val (pe_cl c__law_truth hr (by decide) (by rfl) psE (pa_cons (pe_cmpR (kC_eq (K := K) rfl c_Point_eq hr (by decide) psE) (pv 4) (pe_cl c__law_point hr (by decide) (by rfl) psE (pa_cons (pv 0) (pa_cons (pv 3) pa_nil))) (nomark _)) (pa_cons pe_bl pa_nil))))) (pw_or1 (pt_not (pt_val (pe_cl c__law_truth hr (by decide) (by rfl) psE (pa_cons (pe_cmpR (kNe (K := K) rfl k_Point.o c_Point_eq hr (by decide) psE) (pv 4) (pv 5) (nomark _)) (pa_cons (pe_cmpR (kop_neD (K := K) rfl (hu_of64 hr)) (pv 0) (pv 1) (nomark _)) pa_nil))))))).pt (pss_one (ps_ret pe_bl)) pss_nil) (pss_cons (ps_if (pw_or (pt_not (pt_val (pe_cl c__law_ratio_is hr (by decide) (by rfl) psE (pa_cons (pe_cl c_cross hr (by decide) (by rfl) psE (pa_cons (pv 4) (pa_cons (pv 5) pa_nil))) (pa_cons (pe_cl c__law_area hr (by decide) (by rfl) psE (pa_cons (pv 0) (pa_cons (pv 1) pa_nil))) (pa_cons (pe_op op_mulA (pv 3) (pv 3)) pa_nil)))))) (pw_or1 (pt_not (pt_val (pe_cl c__law_at hr (by decide) (by rfl) psE (pa_cons (pe_op (op2 d_sub k_Point.o c_Point_sub hr (by decide) psE) (pe_op (op2 d_add k_Point.o c_Point_add hr (by decide) psE) (pv 4) (pv 5)) (pv 5)) (pa_cons (pv 0) (pa_cons (pv 3) pa_nil)))))))).pt (pss_one (ps_ret pe_bl)) pss_nil) (pss_cons (ps_if (pw_or (pt_cmpR (kC_eq (K := K) rfl c_Point_eq hr (by decide) psE) (pv 4) (pv 0) (nomark _)) (pw_or (pt_cmpR (kC_eq (K := K) rfl c_Point_eq hr (by decide) psE) (pv 4) (pe_ck c_Form_2 hr (by decide) (by rfl) psE (pa_cons (kfld (K := K) rfl (pv 4) rfl) (pa_cons (kfld (K := K) rfl (pv 4) rfl) pa_nil))) (nomark _)) (pw_or (pt_cmpR (kC_eq (K := K) rfl c_Form_eq hr (by decide) psE) (pe_ck c_Form_2 hr (by decide) (by rfl) psE (pa_cons (kfld (K := K) rfl (pv 4) rfl) (pa_cons (kfld (K := K) rfl (pv 4) rfl) pa_nil))) (pv 4) (nomark _)) (pw_or1 (pt_cmpR (kC_eq (K := K) rfl c_Point_eq hr (by decide) psE) (pv 4) (pe_tup (pa_cons (kfld (K := K) rfl (pv 4) rfl) (pa_cons (kfld (K := K) rfl (pv 4) rfl) pa_nil))) (nomark _)))))).pt (pss_one (ps_ret pe_bl)) pss_nil) (pss_one (ps_ret (pe_and (pe_cl c__law_at hr (by decide) (by rfl) psE (pa_cons (pv 4) (pa_cons (pv 0) (pa_cons (pv 3) pa_nil)))) (pe_one (pe_cl c__law_at hr (by decide) (by rfl) psE (pa_cons (pv 5) (pa_cons (pv 1) (pa_cons (pv 3) pa_nil)))))))))))))))), ?_⟩
    have TP := T_Point
    have TF := T_Form
    have dn : d ≠ 0 := by omega
    refine r_seqL (fun σ' H' => ∃ (a b : Addr) (fv : V), σ' = [some (.ref o), some (.ref t), some (.int i), some (.int d), some (.ref a), some (.ref b), some fv] ∧ IsP C_Point C_Ratio H' a (Rat.divInt x0 d) (Rat.divInt y0 d) ∧ IsP C_Point C_Ratio H' b (Rat.divInt x1 d) (Rat.divInt y1 d) ∧ NumV C_Ratio H' fv (Rat.divInt i 7) ∧ Ex H H') (fun N hN => ?_) ?_
    · wtm_at "of_ra"
      refine ⟨o, d, x0, y0, rfl, ho, d0, sx0.mono (by decide), sy0.mono (by decide), sd.mono (by decide), ?_⟩
      intro H1 a e1 ha
      wtm_at "of_ra"
      refine ⟨t, d, x1, y1, rfl, by wtm_at "of_uq", d0, sx1.mono (by decide), sy1.mono (by decide), sd.mono (by decide), ?_⟩
      intro H2 b e2 hb
      wtm_at "of_ra"
      refine ⟨i, 7, rfl, by decide, si.mono (by decide), (show (7 : Int).natAbs < 2 ^ 400 from by decide), ?_⟩
      intro H3 fv e3 hf
      wtm_at "of_ra"
      exact hN _ _ ⟨a, b, fv, rfl, by wtm_at "of_uq", by wtm_at "of_uq", by wtm_at "of_uq", by wtm_at "of_exs"⟩
    rintro σ1 H1 ⟨a, b, fv, rfl, ha, hb, hf, e1⟩
    have ho1 := e1 _ _ ho
    have ht1 := e1 _ _ ht
    have s1 : Sb 1 (-1 : Int) := by unfold Sb; decide
    have s7 : Sb 3 (7 : Int) := by unfold Sb; decide
    have s0 : Sb 1 (0 : Int) := by unfold Sb; decide
    have s11 : Sb 1 (1 : Int) := by unfold Sb; decide
    have fX0 := frq_of (n := x0) dn
    have fY0 := frq_of (n := y0) dn
    have fX1 := frq_of (n := x1) dn
    have fY1 := frq_of (n := y1) dn
    have fF := frq_of (n := i) (d := 7) (by decide)
    have rX0 : Sr 200 (Rat.divInt x0 d) := (Sr.divInt sx0 sd).mono (by decide)
    have rY0 : Sr 200 (Rat.divInt y0 d) := (Sr.divInt sy0 sd).mono (by decide)
    have rX1 : Sr 200 (Rat.divInt x1 d) := (Sr.divInt sx1 sd).mono (by decide)
    have rY1 : Sr 200 (Rat.divInt y1 d) := (Sr.divInt sy1 sd).mono (by decide)
    have rF : Sr 140 (Rat.divInt i 7) := (Sr.divInt si (show (7 : Int).natAbs < 2 ^ 140 from by decide)).mono (by decide)
    generalize hX0 : Rat.divInt x0 d = X0 at *
    generalize hY0 : Rat.divInt y0 d = Y0 at *
    generalize hX1 : Rat.divInt x1 d = X1 at *
    generalize hY1 : Rat.divInt y1 d = Y1 at *
    generalize hF : Rat.divInt i 7 = F at *
    have zX0 : X0 = 0 ↔ x0 = 0 := (rat_sgn fX0 d0).2.2
    have zY0 : Y0 = 0 ↔ y0 = 0 := (rat_sgn fY0 d0).2.2
    have eX : decide (X0 = X1 ∧ Y0 = Y1) = decide (x0 = x1 ∧ y0 = y1) := by
      have c1 := cmp_eq fX0 fX1 d0 d0
      have c2 := cmp_eq fY0 fY1 d0 d0
      rw [decide_eq_decide] at c1 c2 ⊢
      rw [c1, c2, Int.mul_eq_mul_right_iff dn, Int.mul_eq_mul_right_iff dn]
    have bw : ∀ {H : Hp} {p : Addr} {u v : Rat}, IsP C_Point C_Ratio H p u v → Wrong K C_Ratio H (.ref p) := fun h => p_wrong TP TR s_Point_Ratio n_Point_Ratio h
    refine r_seqL (fun σ' H' => σ' = [some (.ref o), some (.ref t), some (.int i), some (.int d), some (.ref a), some (.ref b), some fv] ∧ Ex H1 H') (fun N hN => ?_) ?_
    · wtm_at "of_ra"
      refine ⟨_, _, _, _, _, _, _, rfl, by wtm_at "of_uq", by wtm_at "of_uq", frq_addS fX0 fX1, frq_addS fY0 fY1, by wtm_at "of_szb", by wtm_at "of_szb", by wtm_at "of_szb", by wtm_at "of_szb", by wtm_at "of_szb", ?_⟩
      wtm_at "of_ra"
      refine ⟨_, _, _, _, _, _, _, rfl, by wtm_at "of_uq", by wtm_at "of_uq", frq_subS fX0 fX1, frq_subS fY0 fY1, by wtm_at "of_szb", by wtm_at "of_szb", by wtm_at "of_szb", by wtm_at "of_szb", by wtm_at "of_szb", ?_⟩
      wtm_at "of_ra"
      exact hN _ _ ⟨rfl, by wtm_at "of_exs"⟩
    rintro σ2 H2 ⟨rfl, e2⟩
    refine r_seqL (fun σ' H' => σ' = [some (.ref o), some (.ref t), some (.int i), some (.int d), some (.ref a), some (.ref b), some fv] ∧ Ex H1 H') (fun N hN => ?_) ?_
    · rcases hf.ex (by wtm_at "of_exs" : Ex H1 H2) with ⟨n, rfl, hn⟩ | ⟨q, rfl, hq⟩
      · have rn : Sr 140 (n : Rat) := hn ▸ rF
        have fn : FrQ (n : Rat) i 7 := hn ▸ fF
        wtm_at "of_ra"
        refine ⟨_, _, _, _, _, _, _, rfl, by wtm_at "of_uq", by wtm_at "of_uq", frq_negS fX0, frq_negS fY0, by wtm_at "of_szb", by wtm_at "of_szb", by wtm_at "of_szb", by wtm_at "of_szb", by wtm_at "of_szb", ?_⟩
        wtm_at "of_ra"
        refine .inl ?_
        wtm_at "of_ra"
        refine ⟨_, _, _, _, _, _, _, rfl, by wtm_at "of_uq", by wtm_at "of_uq", frq_mulS fX0 fn, frq_mulS fY0 fn, by wtm_at "of_szb", by wtm_at "of_szb", by wtm_at "of_szb", by wtm_at "of_szb", by wtm_at "of_szb", ?_⟩
        wtm_at "of_ra"
        exact hN _ _ ⟨rfl, by wtm_at "of_exs"⟩
      · wtm_at "of_ra"
        refine ⟨_, _, _, _, _, _, _, rfl, by wtm_at "of_uq", by wtm_at "of_uq", frq_negS fX0, frq_negS fY0, by wtm_at "of_szb", by wtm_at "of_szb", by wtm_at "of_szb", by wtm_at "of_szb", by wtm_at "of_szb", ?_⟩
        wtm_at "of_ra"
        refine .inr ?_
        wtm_at "of_ra"
        refine ⟨_, _, _, _, _, _, _, rfl, by wtm_at "of_uq", by wtm_at "of_uq", frq_mulS fX0 fF, frq_mulS fY0 fF, by wtm_at "of_szb", by wtm_at "of_szb", by wtm_at "of_szb", by wtm_at "of_szb", by wtm_at "of_szb", ?_⟩
        wtm_at "of_ra"
        exact hN _ _ ⟨rfl, by wtm_at "of_exs"⟩
    rintro σ3 H3 ⟨rfl, e3⟩
    refine r_seqL (fun σ' H' => σ' = [some (.ref o), some (.ref t), some (.int i), some (.int d), some (.ref a), some (.ref b), some fv] ∧ Ex H1 H') (fun N hN => ?_) ?_
    · rcases hf.ex (by wtm_at "of_exs" : Ex H1 H3) with ⟨n, rfl, hn⟩ | ⟨q, rfl, hq⟩
      · have rn : Sr 140 (n : Rat) := hn ▸ rF
        have fn : FrQ (n : Rat) i 7 := hn ▸ fF
        wtm_at "of_ra"
        refine .inl ?_
        wtm_at "of_ra"
        refine ⟨_, _, _, _, _, _, _, rfl, by wtm_at "of_uq", by wtm_at "of_uq", frq_mulS fX0 fn, frq_mulS fY0 fn, by wtm_at "of_szb", by wtm_at "of_szb", by wtm_at "of_szb", by wtm_at "of_szb", by wtm_at "of_szb", ?_⟩
        wtm_at "of_ra"
        refine ⟨_, _, _, _, _, _, _, rfl, by wtm_at "of_uq", by wtm_at "of_uq", frq_zero, frq_zero, by wtm_at "of_szb", by wtm_at "of_szb", by wtm_at "of_szb", by wtm_at "of_szb", by wtm_at "of_szb", ?_⟩
        wtm_at "of_ra"
        exact hN _ _ ⟨rfl, by wtm_at "of_exs"⟩
      · wtm_at "of_ra"
        refine .inr ?_
        refine x_rmR ⟨_, _, _, by wtm_at "of_uq", by wtm_at "of_uq", bw (by wtm_at "of_uq"), by wtm_at "of_szb", by wtm_at "of_szb", by wtm_at "of_szb", by wtm_at "of_szb", by wtm_at "of_szb", ?_⟩
        intro _ _ _ _
        wtm_at "of_ra"
        refine ⟨_, _, _, _, _, _, _, rfl, by wtm_at "of_uq", by wtm_at "of_uq", frq_mulS fX0 fF, frq_mulS fY0 fF, by wtm_at "of_szb", by wtm_at "of_szb", by wtm_at "of_szb", by wtm_at "of_szb", by wtm_at "of_szb", ?_⟩
        wtm_at "of_ra"
        refine ⟨_, _, _, _, _, _, _, rfl, by wtm_at "of_uq", by wtm_at "of_uq", frq_zero, frq_zero, by wtm_at "of_szb", by wtm_at "of_szb", by wtm_at "of_szb", by wtm_at "of_szb", by wtm_at "of_szb", ?_⟩
        wtm_at "of_ra"
        exact hN _ _ ⟨rfl, by wtm_at "of_exs"⟩
    rintro σ4 H4 ⟨rfl, e4⟩
    have tz : (!decide (X0 = 0 ∧ Y0 = 0)) = (!decide (x0 = 0 ∧ y0 = 0)) := by rw [decide_eq_decide.mpr (and_congr zX0 zY0)]
    refine r_seqL (fun σ' H' => σ' = [some (.ref o), some (.ref t), some (.int i), some (.int d), some (.ref a), some (.ref b), some fv] ∧ Ex H1 H') (fun N hN => ?_) ?_
    · wtm_at "of_ra"
      exact hN _ _ ⟨rfl, by wtm_at "of_exs"⟩
    rintro σ5 H5 ⟨rfl, e5⟩
    refine r_seqL (fun σ' H' => σ' = [some (.ref o), some (.ref t), some (.int i), some (.int d), some (.ref a), some (.ref b), some fv] ∧ Ex H1 H') (fun N hN => ?_) ?_
    · wtm_at "of_ra"
      refine ⟨o, d, x0, y0, rfl, by wtm_at "of_uq", d0, sx0.mono (by decide), sy0.mono (by decide), sd.mono (by decide), ?_⟩
      intro H7 p7 e7 h7
      rw [hX0, hY0] at h7
      wtm_at "of_ra"
      refine a_trT (decide_eq_true ⟨rfl, rfl⟩) ?_
      wtm_at "of_ra"
      refine a_trT (by rw [eX]) ?_
      wtm_at "of_ra"
      exact hN _ _ ⟨rfl, by wtm_at "of_exs"⟩
    rintro σ6 H6 ⟨rfl, e6⟩
    refine r_seqL (fun σ' H' => σ' = [some (.ref o), some (.ref t), some (.int i), some (.int d), some (.ref a), some (.ref b), some fv] ∧ Ex H1 H') (fun N hN => ?_) ?_
    · wtm_at "of_ra"
      refine ⟨o, t, x0, y0, x1, y1, rfl, by wtm_at "of_uq", by wtm_at "of_uq", sx0.mono (by decide), sy0.mono (by decide), sx1.mono (by decide), sy1.mono (by decide), ?_⟩
      wtm_at "of_ra"
      refine q_rIs (by wtm_at "of_uq") (by wtm_at "of_szb") (by wtm_at "of_szb") (by wtm_at "of_szb") (frq_cross fX0 fY0 fX1 fY1) ?_
      wtm_at "of_ra"
      refine ⟨_, _, _, _, _, _, _, rfl, by wtm_at "of_uq", by wtm_at "of_uq", frq_back fX0, frq_back fY0, by wtm_at "of_szb", by wtm_at "of_szb", by wtm_at "of_szb", by wtm_at "of_szb", by wtm_at "of_szb", ?_⟩
      wtm_at "of_ra"
      exact hN _ _ ⟨rfl, by wtm_at "of_exs"⟩
    rintro σ7 H7 ⟨rfl, e7⟩
    refine r_seqL (fun σ' H' => σ' = [some (.ref o), some (.ref t), some (.int i), some (.int d), some (.ref a), some (.ref b), some fv] ∧ Ex H1 H') (fun N hN => ?_) ?_
    · wtm_at "of_ra"
      refine p_eqT TP (by wtm_at "of_uq") (by wtm_at "of_uq") ?_
      wtm_at "of_ra"
      refine p_eqP TP TF s_Form_Point n_Form_Point (by wtm_at "of_uq") (by wtm_at "of_uq") ?_
      wtm_at "of_ra"
      refine p_eqP TF TP s_Point_Form n_Point_Form (by wtm_at "of_uq") (by wtm_at "of_uq") ?_
      wtm_at "of_ra"
      refine p_eqT TP (by wtm_at "of_uq") (by wtm_at "of_uq") ?_
      wtm_at "of_ra"
      exact hN _ _ ⟨rfl, by wtm_at "of_exs"⟩
    rintro σ8 H8 ⟨rfl, e8⟩
    wtm_at "of_ra"
    refine ⟨_, _, _, _, _, _, _, rfl, by wtm_at "of_uq", by wtm_at "of_uq", fX0, fY0, by wtm_at "of_szb", by wtm_at "of_szb", by wtm_at "of_szb", by wtm_at "of_szb", by wtm_at "of_szb", ?_⟩
    wtm_at "of_ra"
    refine ⟨_, _, _, _, _, _, _, rfl, by wtm_at "of_uq", by wtm_at "of_uq", fX1, fY1, by wtm_at "of_szb", by wtm_at "of_szb", by wtm_at "of_szb", by wtm_at "of_szb", by wtm_at "of_szb", ?_⟩
    wtm_at "of_ra"
    exact k _ (by wtm_at "of_exs")
abbrev s__law_forms_right : Stmt := (top 53)
theorem sc__law_forms_right : FnScope ["_law_one", "_law_other", "_law_spot_here", "_law_number_here", "_law_over", "_law_a", "_law_b", "_law_top", "_law_more", "_law_both", "_law_point_here", "_law_factor"] ["_law_one", "_law_other", "_law_spot_here", "_law_number_here", "_law_over"] (defScope s__law_forms_right) := ⟨rfl, rfl, rfl, by decide +kernel, rfl, by decide +kernel, by decide +kernel⟩
theorem ok__law_forms_right {f : Addr} {fd : FuncData} (F : FunD K "_law_forms_right" "_law_forms_right" (defArgs s__law_forms_right) (defBody s__law_forms_right) (defScope s__law_forms_right) [] [] f fd) (TR : RT K mg C_Ratio) (k_Ratio : ClsP K C_Ratio) (a_Ratio_mul : PySem.W.findIn K (.ref C_Ratio) "__mul__" = some (some (.ref f_Ratio_mul))) (a_Ratio_rmul : PySem.W.findIn K (.ref C_Ratio) "__rmul__" = some (some (.ref f_Ratio_rmul))) (T_Point : PT K C_Point) (T_Form : PT K C_Form) (k_Form : ClsP K C_Form) (a_Form_mul : PySem.W.findIn K (.ref C_Form) "__mul__" = some (some (.ref f_Form_mul))) (a_Form_rmul : PySem.W.findIn K (.ref C_Form) "__rmul__" = some (some (.ref f_Form_rmul))) (s_Form_Ratio : PySem.W.subIn K (.ref C_Form) (.ref C_Ratio) = some false) (s_Ratio_Form : PySem.W.subIn K (.ref C_Ratio) (.ref C_Form) = some false) (n_Form_Ratio : C_Form ≠ C_Ratio) (n_Ratio_Form : C_Ratio ≠ C_Form) (x_Form_call : PySem.W.fnIn K f_Form_call = true) (e_Ratio_mul : Cdc P w K mg base 3 C_Ratio "__mul__" f_Ratio_mul (spDcl K C_Ratio)) (c_Form_2 : Ck P w K mg base 7 "Form" C_Form [] (spPInit K C_Form C_Ratio C_BadNumber)) (c_Form_add : Cm P w K mg base 9 C_Form "__add__" f_Form_add (spPP C_Form C_Ratio (fun q r => q + r))) (c_Form_sub : Cm P w K mg base 9 C_Form "__sub__" f_Form_sub (spPP C_Form C_Ratio (fun q r => q - r))) (c_Form_neg : Cm P w K mg base 9 C_Form "__neg__" f_Form_neg (spP0 C_Form C_Ratio (fun q => -q))) (c_Form_mul : Cm P w K mg base 9 C_Form "__mul__" f_Form_mul (spPN C_Form C_Ratio (fun q r => q * r))) (c_Form_eq : Cm P w K mg base 3 C_Form "__eq__" f_Form_eq (spPEq K C_Form C_Ratio)) (c_Form_rmul : Cm P w K mg base 9 C_Form "__rmul__" f_Form_rmul (spPN C_Form C_Ratio (fun q r => q * r))) (c_value_at : Cl P w K mg base 7 "value_at" (spValue C_Form C_Point C_Ratio)) (c_Form_call : Cm P w K mg base 8 C_Form "__call__" f_Form_call (spValue C_Form C_Point C_Ratio)) (c__law_ratio_is : Cl P w K mg base 2 "_law_ratio_is" (spRatioIs C_Ratio)) (c__law_truth : Cl P w K mg base 1 "_law_truth" (spTruth)) (c__law_told : Cl P w K mg base 6 "_law_told" (spTold C_Ratio)) (c__law_point : Cl P w K mg base 9 "_law_point" (spPointO C_Point C_Ratio)) (c__law_at : Cl P w K mg base 3 "_law_at" (spAtP C_Point C_Ratio)) (c__law_form_is : Cl P w K mg base 3 "_law_form_is" (spAtP C_Form C_Ratio)) (c__law_plus : Cl P w K mg base 1 "_law_plus" (spTTt (fun x z => x + z))) (c__law_minus : Cl P w K mg base 1 "_law_minus" (spTTt (fun x z => x - z))) (c__law_times : Cl P w K mg base 1 "_law_times" (spTms)) : FnOk P w K mg base (L2.CX P w) 10 f fd ["_law_one", "_law_other", "_law_spot_here", "_law_number_here", "_law_over"] (spFR) := by
  refine F.ok (CX := L2.CX P w) sc__law_forms_right (fun vs H Q E h => ?_) (fun cdv A outer s H vs Q E hr h => ?_)
  · obtain ⟨o, t, s, i, d, x0, y0, x1, y1, u, v, rfl, _⟩ := h; rfl
  · obtain ⟨o, t, s, i, d, x0, y0, x1, y1, u, v, rfl, ho, ht, hs, d0, sx0, sy0, sx1, sy1, su, sv, si, sd, k⟩ := h
    refine ⟨_, (pss_cons (ps_set (i := 5) sc__law_forms_right.nd rfl (Or.inl rfl) (pe_ck c_Form_2 hr (by decide) (by rfl) psE (pa_cons (pe_cl c__law_told hr (by decide) (by rfl) psE (pa_cons (pe_ix (kix_t (K := K) rfl) (pv 0) pe_int (fun _ _ => rfl)) (pa_cons pe_int pa_nil))) (pa_cons (pe_cl c__law_told hr (by decide) (by rfl) psE (pa_cons (pe_ix (kix_t (K := K) rfl) (pv 0) pe_int (fun _ _ => rfl)) (pa_cons pe_int pa_nil))) pa_nil)))) (pss_cons (ps_set (i := 6) sc__law_forms_right.nd rfl (Or.inl rfl) (pe_ck c_Form_2 hr (by decide) (by rfl) psE (pa_cons (pe_cl c__law_told hr (by decide) (by rfl) psE (pa_cons (pe_ix (kix_t (K := K) rfl) (pv 1) pe_int (fun _ _ => rfl)) (pa_cons pe_int pa_nil))) (pa_cons (pe_cl c__law_told hr (by decide) (by rfl) psE (pa_cons (pe_ix (kix_t (K := K) rfl) (pv 1) pe_int (fun _ _ => rfl)) (pa_cons pe_int pa_nil))) pa_nil)))) (pss_cons (ps_par (i := 10) (j := 11) rfl sc__law_forms_right.nd rfl rfl (by decide) rfl rfl (pa_cons (pe_cl c__law_point hr (by decide) (by rfl) psE (pa_cons (pv 2) (pa_cons (pv 4) pa_nil))) (pa_cons (pe_cl c__law_told hr (by decide) (by rfl) psE (pa_cons (pv 3) (pa_cons pe_int pa_nil))) pa_nil)) (by rfl)) (pss_cons (ps_set (i := 7) sc__law_forms_right.nd rfl (Or.inl rfl) (pe_op op_add (pe_op op_mulA (pe_ix (kix_t (K := K) rfl) (pv 0) pe_int (fun _ _ => rfl)) (pe_ix (kix_t (K := K) rfl) (pv 2) pe_int (fun _ _ => rfl))) (pe_op op_mulA (pe_ix (kix_t (K := K) rfl) (pv 0) pe_int (fun _ _ => rfl)) (pe_ix (kix_t (K := K) rfl) (pv 2) pe_int (fun _ _ => rfl))))) (pss_cons (ps_set (i := 8) sc__law_forms_right.nd rfl (Or.inl rfl) (pe_op op_add (pe_op op_mulA (pe_ix (kix_t (K := K) rfl) (pv 1) pe_int (fun _ _ => rfl)) (pe_ix (kix_t (K := K) rfl) (pv 2) pe_int (fun _ _ => rfl))) (pe_op op_mulA (pe_ix (kix_t (K := K) rfl) (pv 1) pe_int (fun _ _ => rfl)) (pe_ix (kix_t (K := K) rfl) (pv 2) pe_int (fun _ _ => rfl))))) (pss_cons (ps_if (pw_or (pt_not (pt_val (pe_cl c__law_ratio_is hr (by decide) (by rfl) psE (pa_cons (pe_co1 c_Form_call x_Form_call hr (by decide) psE (pv 5) (pv 10)) (pa_cons (pv 7) (pa_cons (pe_op op_mulA pe_int (pv 4)) pa_nil)))))) (pw_or1 (pt_not (pt_val (pe_cl c__law_ratio_is hr (by decide) (by rfl) psE (pa_cons (pe_cl c_value_at hr (by decide) (by rfl) psE (pa_cons (pv 5) (pa_cons (pv 10) pa_nil))) (pa_cons (pv 7) (pa_cons (pe_op op_mulA pe_int (pv 4)) pa_nil)))))))).pt (pss_one (ps_ret pe_bl)) pss_nil) (pss_cons (ps_if (pw_or (pt_not (pt_val (pe_cl c__law_form_is hr (by decide) (by rfl) psE (pa_cons (pe_op (op2 d_add k_Form.o c_Form_add hr (by decide) psE) (pv 5) (pv 6)) (pa_cons (pe_cl c__law_plus hr (by decide) (by rfl) psE (pa_cons (pv 0) (pa_cons (pv 1) pa_nil))) (pa_cons pe_int pa_nil)))))) (pw_or1 (pt_not (pt_val (pe_cl c__law_form_is hr (by decide) (by rfl) psE (pa_cons (pe_op (op2 d_sub k_Form.o c_Form_sub hr (by decide) psE) (pv 5) (pv 6)) (pa_cons (pe_cl c__law_minus hr (by decide) (by rfl) psE (pa_cons (pv 0) (pa_cons (pv 1) pa_nil))) (pa_cons pe_int pa_nil)))))))).pt (pss_one (ps_ret pe_bl)) pss_nil) (pss_cons (ps_if (pw_or (pt_not (pt_val (pe_cl c__law_form_is hr (by decide) (by rfl) psE (pa_cons (pe_un (un_negO c_Form_neg.at_ c_Form_neg.fn c_Form_neg.fnr (hr.mono (by decide)) psE) (pv 5)) (pa_cons (pe_cl c__law_times hr (by decide) (by rfl) psE (pa_cons (pe_un un_neg pe_int) (pa_cons (pv 0) pa_nil))) (pa_cons pe_int pa_nil)))))) (pw_or1 (pt_not (pt_val (pe_cl c__law_form_is hr (by decide) (by rfl) psE (pa_cons (pe_op (op_or (opI (rc := none) d_mul dr_mul k_Form.o c_Form_mul (.inl ⟨_, a_Form_rmul⟩) fi_mul fir_mul hr (by decide) psE) (op2D d_mul dr_mul k_Form.o k_Ratio.o c_Form_mul a_Ratio_mul a_Form_rmul (.inr ⟨_, rfl⟩) a_Ratio_rmul (.inr ⟨_, rfl⟩) s_Ratio_Form n_Ratio_Form hr (by decide) psE)) (pv 5) (pv 11)) (pa_cons (pe_cl c__law_times hr (by decide) (by rfl) psE (pa_cons (pv 3) (pa_cons (pv 0) pa_nil))) (pa_cons pe_int pa_nil)))))))).pt (pss_one (ps_ret pe_bl)) pss_nil) (pss_cons (ps_set (i := 9) sc__law_forms_right.nd rfl (Or.inl rfl) (pe_op (op2 d_add k_Form.o c_Form_add hr (by decide) psE) (pv 5) (pv 6))) (pss_cons (ps_if (pt_not (pt_val (pe_cl c__law_form_is hr (by decide) (by rfl) psE (pa_cons (pe_op (op_or (opR_mul k_Form.o a_Form_mul c_Form_rmul hr (by decide) psE) (op3D d_mul dr_mul k_Ratio.o k_Form.o e_Ratio_mul a_Form_mul a_Ratio_rmul (.inr ⟨_, rfl⟩) c_Form_rmul s_Form_Ratio n_Form_Ratio hr (by decide) (by decide) psE)) (pv 11) (pv 5)) (pa_cons (pe_cl c__law_times hr (by decide) (by rfl) psE (pa_cons (pv 3) (pa_cons (pv 0) pa_nil))) (pa_cons pe_int pa_nil)))))) (pss_one (ps_ret pe_bl)) pss_nil) (pss_cons (ps_if (pt_not (pt_val (pe_cl c__law_ratio_is hr (by decide) (by rfl) psE (pa_cons (pe_co1 c_Form_call x_Form_call hr (by decide) psE (pv 9) (pv 10)) (pa_cons (pe_op op_add (pv 7) (pv 8)) (pa_cons (pe_op op_mulA pe_int (pv 4)) pa_nil)))))) (pss_one (ps_ret pe_bl)) pss_nil) (pss_cons (ps_if (pw_or (pt_not (pt_val (pe_cl c__law_truth hr (by decide) (by rfl) psE (pa_cons (pe_cmpR (kC_eq (K := K) rfl c_Form_eq hr (by decide) psE) (pv 5) (pv 6) (nomark _)) (pa_cons (pe_cmpR (kop_eqD (K := K) rfl (hu_of64 hr)) (pv 0) (pv 1) (nomark _)) pa_nil))))) (pw_or1 (pt_not (pt_cmpR (kC_eq (K := K) rfl c_Form_eq hr (by decide) psE) (pv 5) (pe_ck c_Form_2 hr (by decide) (by rfl) psE (pa_cons (kfld (K := K) rfl (pv 5) rfl) (pa_cons (kfld (K := K) rfl (pv 5) rfl) pa_nil))) (nomark _))))).pt (pss_one (ps_ret pe_bl)) pss_nil) (pss_one (ps_ret (pe_and (pe_cl c__law_form_is hr (by decide) (by rfl) psE (pa_cons (pv 5) (pa_cons (pv 0) (pa_cons pe_int pa_nil)))) (pe_one (pe_cl c__law_at hr (by decide) (by rfl) psE (pa_cons (pv 10) (pa_cons (pv 2) (pa_cons (pv 4) pa_nil)))))))))))))))))))), ?_⟩
    have TP := T_Point
    have TF := T_Form
    have dn : d ≠ 0 := by omega
    have s3 : Sb 2 (3 : Int) := by unfold Sb; decide
    have q3 : (3 : Int) ≠ 0 := by decide
    have rX0 : Sr 200 (Rat.divInt x0 3) := (Sr.divInt sx0 s3).mono (by decide)
    have rY0 : Sr 200 (Rat.divInt y0 3) := (Sr.divInt sy0 s3).mono (by decide)
    have rX1 : Sr 200 (Rat.divInt x1 3) := (Sr.divInt sx1 s3).mono (by decide)
    have rY1 : Sr 200 (Rat.divInt y1 3) := (Sr.divInt sy1 s3).mono (by decide)
    refine r_seqL2 (fun σ' H' => ∃ (a b : Addr), σ' = [some (.ref o), some (.ref t), some (.ref s), some (.int i), some (.int d), some (.ref a), some (.ref b), none, none, none, none, none] ∧ IsP C_Form C_Ratio H' a (Rat.divInt x0 3) (Rat.divInt y0 3) ∧ IsP C_Form C_Ratio H' b (Rat.divInt x1 3) (Rat.divInt y1 3) ∧ Ex H H') (fun N hN => ?_) ?_
    · wtm_at "of_ra"
      refine ⟨x0, 3, rfl, by decide, sx0.mono (by decide), (show (3 : Int).natAbs < 2 ^ 400 from by decide), ?_⟩
      intro H1 v1 e1 n1
      wtm_at "of_ra"
      refine ⟨y0, 3, rfl, by decide, sy0.mono (by decide), (show (3 : Int).natAbs < 2 ^ 400 from by decide), ?_⟩
      intro H2 v2 e2 n2
      wtm_at "of_ra"
      refine ⟨x1, 3, rfl, by decide, sx1.mono (by decide), (show (3 : Int).natAbs < 2 ^ 400 from by decide), ?_⟩
      intro H3 v3 e3 n3
      wtm_at "of_ra"
      refine ⟨y1, 3, rfl, by decide, sy1.mono (by decide), (show (3 : Int).natAbs < 2 ^ 400 from by decide), ?_⟩
      intro H4 v4 e4 n4
      wtm_at "of_ra"
      exact hN _ _ ⟨_, _, rfl, by wtm_at "of_uq", by wtm_at "of_uq", by wtm_at "of_exs"⟩
    rintro σ1 H1 ⟨a, b, rfl, ha, hb, e1⟩
    have rU : Sr 200 (Rat.divInt u d) := (Sr.divInt su sd).mono (by decide)
    have rV : Sr 200 (Rat.divInt v d) := (Sr.divInt sv sd).mono (by decide)
    have rF : Sr 140 (Rat.divInt i 7) := (Sr.divInt si (show (7 : Int).natAbs < 2 ^ 140 from by decide)).mono (by decide)
    refine r_seqL (fun σ' H' => ∃ (p : Addr) (fv : V), σ' = [some (.ref o), some (.ref t), some (.ref s), some (.int i), some (.int d), some (.ref a), some (.ref b), none, none, none, some (.ref p), some fv] ∧ IsP C_Point C_Ratio H' p (Rat.divInt u d) (Rat.divInt v d) ∧ NumV C_Ratio H' fv (Rat.divInt i 7) ∧ Ex H1 H') (fun N hN => ?_) ?_
    · wtm_at "of_ra"
      refine ⟨s, d, u, v, rfl, by wtm_at "of_uq", d0, su.mono (by decide), sv.mono (by decide), sd.mono (by decide), ?_⟩
      intro H2 p e2 hp
      wtm_at "of_ra"
      refine ⟨i, 7, rfl, by decide, si.mono (by decide), (show (7 : Int).natAbs < 2 ^ 400 from by decide), ?_⟩
      intro H3 fv e3 hf
      wtm_at "of_ra"
      exact hN _ _ ⟨p, fv, rfl, by wtm_at "of_uq", by wtm_at "of_uq", by wtm_at "of_exs"⟩
    rintro σ2 H2 ⟨p, fv, rfl, hp, hf, e2⟩
    have ho1 := (e1.trans e2) _ _ ho
    have ht1 := (e1.trans e2) _ _ ht
    have hs1 := (e1.trans e2) _ _ hs
    have ha1 := ha.ex e2
    have hb1 := hb.ex e2
    have s1 : Sb 1 (-1 : Int) := by unfold Sb; decide
    have s21 : Sb 5 (21 : Int) := by unfold Sb; decide
    have fX0 := frq_of (n := x0) q3
    have fY0 := frq_of (n := y0) q3
    have fX1 := frq_of (n := x1) q3
    have fY1 := frq_of (n := y1) q3
    have fU := frq_of (n := u) dn
    have fV := frq_of (n := v) dn
    have fF := frq_of (n := i) (d := 7) (by decide)
    clear ho ht hs ha hb
    generalize hX0 : Rat.divInt x0 3 = X0 at *
    generalize hY0 : Rat.divInt y0 3 = Y0 at *
    generalize hX1 : Rat.divInt x1 3 = X1 at *
    generalize hY1 : Rat.divInt y1 3 = Y1 at *
    generalize hU : Rat.divInt u d = U at *
    generalize hV : Rat.divInt v d = W at *
    generalize hF : Rat.divInt i 7 = F at *
    have eX : decide (X0 = X1 ∧ Y0 = Y1) = decide (x0 = x1 ∧ y0 = y1) := by
      have c1 := cmp_eq fX0 fX1 (by decide) (by decide)
      have c2 := cmp_eq fY0 fY1 (by decide) (by decide)
      rw [decide_eq_decide] at c1 c2 ⊢
      rw [c1, c2, Int.mul_eq_mul_right_iff q3, Int.mul_eq_mul_right_iff q3]
    have bw : ∀ {H : Hp} {p : Addr} {u v : Rat}, IsP C_Form C_Ratio H p u v → Wrong K C_Ratio H (.ref p) := fun h => p_wrong TF TR s_Form_Ratio n_Form_Ratio h
    refine r_seqL2 (fun σ' H' => σ' = [some (.ref o), some (.ref t), some (.ref s), some (.int i), some (.int d), some (.ref a), some (.ref b), some (.int (x0 * u + y0 * v)), some (.int (x1 * u + y1 * v)), none, some (.ref p), some fv] ∧ Ex H2 H') (fun N hN => ?_) ?_
    · wtm_at "of_ra"
      exact hN _ _ ⟨rfl, by wtm_at "of_exs"⟩
    rintro σ3 H3 ⟨rfl, e3⟩
    refine r_seqL (fun σ' H' => σ' = [some (.ref o), some (.ref t), some (.ref s), some (.int i), some (.int d), some (.ref a), some (.ref b), some (.int (x0 * u + y0 * v)), some (.int (x1 * u + y1 * v)), none, some (.ref p), some fv] ∧ Ex H2 H') (fun N hN => ?_) ?_
    · wtm_at "of_ra"
      have gf := IsP.ex ha1 (by wtm_at "of_exs")
      obtain ⟨dxa, fsa, ga⟩ := ins_P gf
      refine r_co ?_
      wtm_at "of_ra"
      refine ⟨_, _, _, rfl, ga, ?_⟩
      wtm_at "of_ra"
      refine ⟨ga, ?_⟩
      wtm_at "of_ra"
      refine q_rIs (by wtm_at "of_uq") (by wtm_at "of_szb") (by wtm_at "of_szb") (by wtm_at "of_szb") (frq_val fX0 fY0 fU fV) ?_
      wtm_at "of_ra"
      refine q_rIs (by wtm_at "of_uq") (by wtm_at "of_szb") (by wtm_at "of_szb") (by wtm_at "of_szb") (frq_val fX0 fY0 fU fV) ?_
      wtm_at "of_ra"
      exact hN _ _ ⟨rfl, by wtm_at "of_exs"⟩
    rintro σ4 H4 ⟨rfl, e4⟩
    refine r_seqL (fun σ' H' => σ' = [some (.ref o), some (.ref t), some (.ref s), some (.int i), some (.int d), some (.ref a), some (.ref b), some (.int (x0 * u + y0 * v)), some (.int (x1 * u + y1 * v)), none, some (.ref p), some fv] ∧ Ex H2 H') (fun N hN => ?_) ?_
    · wtm_at "of_ra"
      refine ⟨_, _, _, _, _, _, _, rfl, by wtm_at "of_uq", by wtm_at "of_uq", frq_addS fX0 fX1, frq_addS fY0 fY1, by wtm_at "of_szb", by wtm_at "of_szb", by wtm_at "of_szb", by wtm_at "of_szb", by wtm_at "of_szb", ?_⟩
      wtm_at "of_ra"
      refine ⟨_, _, _, _, _, _, _, rfl, by wtm_at "of_uq", by wtm_at "of_uq", frq_subS fX0 fX1, frq_subS fY0 fY1, by wtm_at "of_szb", by wtm_at "of_szb", by wtm_at "of_szb", by wtm_at "of_szb", by wtm_at "of_szb", ?_⟩
      wtm_at "of_ra"
      exact hN _ _ ⟨rfl, by wtm_at "of_exs"⟩
    rintro σ5 H5 ⟨rfl, e5⟩
    refine r_seqL (fun σ' H' => σ' = [some (.ref o), some (.ref t), some (.ref s), some (.int i), some (.int d), some (.ref a), some (.ref b), some (.int (x0 * u + y0 * v)), some (.int (x1 * u + y1 * v)), none, some (.ref p), some fv] ∧ Ex H2 H') (fun N hN => ?_) ?_
    · rcases hf.ex (by wtm_at "of_exs" : Ex H2 H5) with ⟨n, rfl, hn⟩ | ⟨q, rfl, hq⟩
      · have rn : Sr 140 (n : Rat) := hn ▸ rF
        have fn : FrQ (n : Rat) i 7 := hn ▸ fF
        wtm_at "of_ra"
        refine ⟨_, _, _, _, _, _, _, rfl, by wtm_at "of_uq", by wtm_at "of_uq", frq_negS fX0, frq_negS fY0, by wtm_at "of_szb", by wtm_at "of_szb", by wtm_at "of_szb", by wtm_at "of_szb", by wtm_at "of_szb", ?_⟩
        wtm_at "of_ra"
        refine .inl ?_
        wtm_at "of_ra"
        refine ⟨_, _, _, _, _, _, _, rfl, by wtm_at "of_uq", by wtm_at "of_uq", frq_mul21 fX0 fn, frq_mul21 fY0 fn, by wtm_at "of_szb", by wtm_at "of_szb", by wtm_at "of_szb", by wtm_at "of_szb", by wtm_at "of_szb", ?_⟩
        wtm_at "of_ra"
        exact hN _ _ ⟨rfl, by wtm_at "of_exs"⟩
      · wtm_at "of_ra"
        refine ⟨_, _, _, _, _, _, _, rfl, by wtm_at "of_uq", by wtm_at "of_uq", frq_negS fX0, frq_negS fY0, by wtm_at "of_szb", by wtm_at "of_szb", by wtm_at "of_szb", by wtm_at "of_szb", by wtm_at "of_szb", ?_⟩
        wtm_at "of_ra"
        refine .inr ?_
        wtm_at "of_ra"
        refine ⟨_, _, _, _, _, _, _, rfl, by wtm_at "of_uq", by wtm_at "of_uq", frq_mul21 fX0 fF, frq_mul21 fY0 fF, by wtm_at "of_szb", by wtm_at "of_szb", by wtm_at "of_szb", by wtm_at "of_szb", by wtm_at "of_szb", ?_⟩
        wtm_at "of_ra"
        exact hN _ _ ⟨rfl, by wtm_at "of_exs"⟩
    rintro σ6 H6 ⟨rfl, e6⟩
    refine r_seqL (fun σ' H' => ∃ c : Addr, σ' = [some (.ref o), some (.ref t), some (.ref s), some (.int i), some (.int d), some (.ref a), some (.ref b), some (.int (x0 * u + y0 * v)), some (.int (x1 * u + y1 * v)), some (.ref c), some (.ref p), some fv] ∧ IsP C_Form C_Ratio H' c (X0 + X1) (Y0 + Y1) ∧ Ex H2 H') (fun N hN => ?_) ?_
    · wtm_at "of_ra"
      exact hN _ _ ⟨_, rfl, by wtm_at "of_uq", by wtm_at "of_exs"⟩
    rintro σ7 H7 ⟨c, rfl, hc7, e7⟩
    refine r_seqL (fun σ' H' => σ' = [some (.ref o), some (.ref t), some (.ref s), some (.int i), some (.int d), some (.ref a), some (.ref b), some (.int (x0 * u + y0 * v)), some (.int (x1 * u + y1 * v)), some (.ref c), some (.ref p), some fv] ∧ Ex H7 H') (fun N hN => ?_) ?_
    · rcases hf.ex (by wtm_at "of_exs" : Ex H2 H7) with ⟨n, rfl, hn⟩ | ⟨q, rfl, hq⟩
      · have rn : Sr 140 (n : Rat) := hn ▸ rF
        have fn : FrQ (n : Rat) i 7 := hn ▸ fF
        wtm_at "of_ra"
        refine .inl ?_
        wtm_at "of_ra"
        refine ⟨_, _, _, _, _, _, _, rfl, by wtm_at "of_uq", by wtm_at "of_uq", frq_mul21 fX0 fn, frq_mul21 fY0 fn, by wtm_at "of_szb", by wtm_at "of_szb", by wtm_at "of_szb", by wtm_at "of_szb", by wtm_at "of_szb", ?_⟩
        wtm_at "of_ra"
        exact hN _ _ ⟨rfl, by wtm_at "of_exs"⟩
      · wtm_at "of_ra"
        refine .inr ?_
        refine x_rmR ⟨_, _, _, by wtm_at "of_uq", by wtm_at "of_uq", bw (by wtm_at "of_uq"), by wtm_at "of_szb", by wtm_at "of_szb", by wtm_at "of_szb", by wtm_at "of_szb", by wtm_at "of_szb", ?_⟩
        intro _ _ _ _
        wtm_at "of_ra"
        refine ⟨_, _, _, _, _, _, _, rfl, by wtm_at "of_uq", by wtm_at "of_uq", frq_mul21 fX0 fF, frq_mul21 fY0 fF, by wtm_at "of_szb", by wtm_at "of_szb", by wtm_at "of_szb", by wtm_at "of_szb", by wtm_at "of_szb", ?_⟩
        wtm_at "of_ra"
        exact hN _ _ ⟨rfl, by wtm_at "of_exs"⟩
    rintro σ8 H8 ⟨rfl, e8⟩
    refine r_seqL (fun σ' H' => σ' = [some (.ref o), some (.ref t), some (.ref s), some (.int i), some (.int d), some (.ref a), some (.ref b), some (.int (x0 * u + y0 * v)), some (.int (x1 * u + y1 * v)), some (.ref c), some (.ref p), some fv] ∧ Ex H7 H') (fun N hN => ?_) ?_
    · wtm_at "of_ra"
      have gf := IsP.ex hc7 (by wtm_at "of_exs")
      obtain ⟨dxa, fsa, ga⟩ := ins_P gf
      refine r_co ?_
      wtm_at "of_ra"
      refine ⟨_, _, _, rfl, ga, ?_⟩
      wtm_at "of_ra"
      refine ⟨ga, ?_⟩
      wtm_at "of_ra"
      refine q_rIs (by wtm_at "of_uq") (by wtm_at "of_szb") (by wtm_at "of_szb") (by wtm_at "of_szb") (frq_val2 fX0 fY0 fX1 fY1 fU fV) ?_
      wtm_at "of_ra"
      exact hN _ _ ⟨rfl, by wtm_at "of_exs"⟩
    rintro σ9 H9 ⟨rfl, e9⟩
    refine r_seqL (fun σ' H' => σ' = [some (.ref o), some (.ref t), some (.ref s), some (.int i), some (.int d), some (.ref a), some (.ref b), some (.int (x0 * u + y0 * v)), some (.int (x1 * u + y1 * v)), some (.ref c), some (.ref p), some fv] ∧ Ex H7 H') (fun N hN => ?_) ?_
    · wtm_at "of_ra"
      rw [decide_eq_true (show X0 = X0 ∧ Y0 = Y0 from ⟨rfl, rfl⟩)]
      wtm_at "of_ra"
      exact hN _ _ ⟨rfl, by wtm_at "of_exs"⟩
    rintro σ10 H10 ⟨rfl, e10⟩
    wtm_at "of_ra"
    refine ⟨_, _, _, _, _, _, _, rfl, by wtm_at "of_uq", by wtm_at "of_uq", fX0, fY0, by wtm_at "of_szb", by wtm_at "of_szb", by wtm_at "of_szb", by wtm_at "of_szb", by wtm_at "of_szb", ?_⟩
    wtm_at "of_ra"
    refine ⟨_, _, _, _, _, _, _, rfl, by wtm_at "of_uq", by wtm_at "of_uq", fU, fV, by wtm_at "of_szb", by wtm_at "of_szb", by wtm_at "of_szb", by wtm_at "of_szb", by wtm_at "of_szb", ?_⟩
    wtm_at "of_ra"
    exact k _ (by wtm_at "of_exs")
end
end
section
open PySem PySem.Spec PyProof.Rows L2 SeqAt PySem.W
/-- r ahead of q -/
def ltP (r q : Pr) : Bool := decide (r.1 < q.1 ∨ (r.1 = q.1 ∧ r.2 < q.2))
theorem dataLt_pair (r q : Pr) : dataLt (pairD r) (pairD q) = ltP r q := by
  show PyProof.Rows.lexLt itemOrd [.inl 1, .inl r.1, .inl 1, .inl r.2, .inl 0] [.inl 1, .inl q.1, .inl 1, .inl q.2, .inl 0] = _
  rw [lex_self (O := itemOrd), lex_cons (O := itemOrd), lex_self (O := itemOrd), lex_cons (O := itemOrd), lex_self (O := itemOrd)]
  show (decide (r.1 < q.1) || (!decide (q.1 < r.1) && (decide (r.2 < q.2) || (!decide (q.2 < r.2) && false)))) = _
  unfold ltP
  by_cases h1 : r.1 < q.1 <;> by_cases h2 : q.1 < r.1 <;> by_cases h3 : r.2 < q.2 <;> simp [h1, h2, h3] <;> omega
def rGtP : R2 := fun x y H Q => ∃ a b r q, x = .ref a ∧ y = .ref b ∧ H a = some (.tup (pairV r)) ∧ H b = some (.tup (pairV q)) ∧ Q (.bl (ltP q r)) H
theorem pair_dp {K : PySem.W.Frag} {H : Hp} {a : Addr} {r : Pr} (h : H a = some (.tup (pairV r))) : Dp K H (.ref a) (pairD r) := .tup (SqT.of h) (.cons (.int _) (.cons (.int _) .nil))
theorem op_gtP {X : Cx} (hu : X.A.units + 64 < cLine) : OpR X (compareOp .Gt) rGtP := by
  intro pins s σ H x y v u Q I rx ry h
  obtain ⟨a, b, r, q, rfl, rfl, ha, hb, k⟩ := h
  obtain ⟨as, r1⟩ := Dp.reads I (pairD r) _ v (pair_dp ha) rx
  obtain ⟨bs, r2⟩ := Dp.reads I (pairD q) _ u (pair_dp hb) ry
  refine gt_data r1 r2 rfl (by unfold pairD; simp) (by show X.A.units + min 1 1 < cLine; omega) ?_
  rw [dataLt_pair]
  exact ⟨.bl _, H, I, rfl, k⟩
/-- how often a pair is in a list -/
def rCntP : V → List V → Hp → VK → Prop := fun x xs H Q => ∃ (p t : Addr) (ts : List V) (rs : List Pr) (r : Pr), x = .ref p ∧ xs = [.ref t] ∧ H p = some (.lst ts) ∧ RowsX H ts rs ∧ H t = some (.tup (pairV r)) ∧ Q (.int ((rs.count r : Nat) : Int)) H
open Classical in
theorem mt_countP {X : Cx} (hu : X.A.units + 64 < cLine) : MtR X "list.count" rCntP := by
  intro pins s σ H x xs v us Q I rx rxs h
  obtain ⟨p, t, ts, rs, r, rfl, rfl, hp, hr, ht, q⟩ := h
  cases rx
  obtain ⟨u, rfl, ru⟩ := rxs.one
  obtain rfl : u = Value.ref t := ru
  obtain ⟨its, rv, ⟨⟨cls, dd, data, sl⟩, n, ho, hc, hdn, hd⟩, hlen⟩ := I.list (SqL.of hp)
  simp only at hc hd
  subst hc hd
  let e : Value → Bool := fun y => decide (∃ a w, y = Value.ref a ∧ H a = some (.tup (pairV w)) ∧ w = r)
  have step : ∀ {ts : List V} {rs : List Pr} {its : List Value}, RowsX H ts rs → Vals ts its → (∀ y ∈ its, EqAt X.A.in1 s y (.ref t) (e y)) ∧ its.countP e = rs.count r := by
    intro ts rs its hr
    induction hr generalizing its with
    | nil => intro rv; cases rv; exact ⟨fun y hy => (nomatch hy), rfl⟩
    | cons h1 h2 ih =>
      rename_i a w xs ws
      intro rv
      cases rv with
      | cons q1 q2 =>
        rename_i y1 its'
        obtain rfl : y1 = Value.ref a := q1
        obtain ⟨i1, i2⟩ := ih q2
        have ey : e (.ref a) = (w == r) := by
          show decide (∃ a' w', Value.ref a = Value.ref a' ∧ H a' = some (.tup (pairV w')) ∧ w' = r) = (w == r)
          by_cases hw : w = r
          · rw [beq_iff_eq.mpr hw]; exact decide_eq_true ⟨a, w, rfl, h1, hw⟩
          · rw [beq_eq_false_iff_ne.mpr hw]
            refine decide_eq_false ?_
            rintro ⟨a', w', e1, e2, e3⟩
            cases e1
            rw [h1] at e2
            have e4 := HO.tup.inj (Option.some.inj e2)
            unfold pairV at e4
            have e5 : w = w' := by
              have := List.cons.inj e4
              have h5 := V.int.inj this.1
              have h6 := V.int.inj (List.cons.inj this.2).1
              exact Prod.ext h5 h6
            exact hw (e5.trans e3)
        have ee : EqAt X.A.in1 s (.ref a) (.ref t) (e (.ref a)) := by
          obtain ⟨as, r1⟩ := Dp.reads I (pairD w) _ (Value.ref a) (pair_dp h1) rfl
          obtain ⟨bs, r2⟩ := Dp.reads I (pairD r) _ (Value.ref t) (pair_dp ht) rfl
          have k := eqAt_plain (pairD w) (pairD r) X.A.in1 s _ _ as bs r1 r2 rfl rfl (by show X.A.units + 1 + min 1 1 < cLine; omega)
          have ev : PyData.eqv (pairD w) (pairD r) = (w == r) := by
            show ((w.1 == r.1) && ((w.2 == r.2) && true)) = (w == r)
            rw [Bool.and_true]; rfl
          rw [ev, ← ey] at k
          exact k
        refine ⟨fun y hy => ?_, ?_⟩
        · rcases List.mem_cons.mp hy with rfl | hy
          · exact ee
          · exact i1 y hy
        · rw [List.countP_cons, List.count_cons, i2, ey]
  obtain ⟨hg', ec'⟩ := step hr rv
  have hg : ∀ y, y ∈ its.toArray → EqAt X.A.in1 s y (.ref t) (e y) := fun y hy => hg' y (by simpa using hy)
  have ec : its.toArray.toList.countP e = rs.count r := by simpa using ec'
  refine call_meets PySem.F.slot_list_count ⟨_, ho, rfl⟩ PySem.F.entry_list_count (PySem.F.args_list_count_2 _ _)
    (SeqAt.list_countAt p its.toArray n dd sl (.ref t) e) ⟨ho, hg, ?_⟩
  refine ⟨.int ((rs.count r : Nat) : Int), H, I.tok _, ⟨s.toks, ?_⟩, q⟩
  show Value.int ((its.toArray.toList.countP e : Nat) : Int) s.toks = Value.int ((rs.count r : Nat) : Int) s.toks
  rw [ec]
end
section
open PySem PySem.Spec PyProof.Rows L2 He LamX
section
variable {H H' : Hp} {xs : List V} {rs zs : List Pr} {C CR p L : Addr} {x y : Rat} {ys : List V} {o : HO}
theorem RowsX.ex (e : Ex H H') (h : RowsX H xs rs) : RowsX H' xs rs := h.le e.le
theorem IsP.putL (h : IsP C CR H p x y) (hl : H L = some (.lst ys)) : IsP C CR (upd H L o) p x y := by
  obtain ⟨dx, a, b, h1, h2, h3⟩ := h
  exact ⟨dx, a, b, by rw [upd_ne (ne_of h1 hl (by intro z; cases z))]; exact h1, h2.put hl, h3.put hl⟩
/-- the point of a pair of fourths -/
def Pt4 (C CR : Addr) (H : Hp) (p : Addr) (z : Pr) : Prop := IsP C CR H p (Rat.divInt z.1 4) (Rat.divInt z.2 4)
def q4 (zs : List Pr) : List (Rat × Rat) := zs.map fun z => (Rat.divInt z.1 4, Rat.divInt z.2 4)
theorem lt4 {a b : Int} : (Rat.divInt a 4 < Rat.divInt b 4 ↔ a < b) ∧ (Rat.divInt a 4 = Rat.divInt b 4 ↔ a = b) := by
  have f := frq_of (n := a) (d := 4) (by decide)
  have g := frq_of (n := b) (d := 4) (by decide)
  have c1 := cmp_lt f g (by decide) (by decide)
  have c2 := cmp_eq f g (by decide) (by decide)
  rw [decide_eq_decide] at c1 c2
  rw [c1, c2]
  omega
theorem lex4 (z w : Pr) : lexLt [Rat.divInt z.1 4, Rat.divInt z.2 4] [Rat.divInt w.1 4, Rat.divInt w.2 4] = ltP z w := by
  show (if Rat.divInt z.1 4 = Rat.divInt w.1 4 then (if Rat.divInt z.2 4 = Rat.divInt w.2 4 then false else decide (Rat.divInt z.2 4 < Rat.divInt w.2 4)) else decide (Rat.divInt z.1 4 < Rat.divInt w.1 4)) = ltP z w
  unfold ltP
  simp only [lt4.1, lt4.2]
  by_cases h1 : z.1 = w.1
  · rw [if_pos h1]
    by_cases h2 : z.2 = w.2
    · rw [if_pos h2]; symm; rw [decide_eq_false_iff_not]; omega
    · rw [if_neg h2, decide_eq_decide]; omega
  · rw [if_neg h1, decide_eq_decide]; omega
theorem rows_eqv_self : ∀ rs : List Pr, PyData.eqvAll (rs.map pairD) (rs.map pairD) = true
  | [] => rfl
  | r :: rs => by
    show (PyData.eqv (pairD r) (pairD r) && PyData.eqvAll (rs.map pairD) (rs.map pairD)) = true
    rw [rows_eqv_self rs, show PyData.eqv (pairD r) (pairD r) = true from by show ((r.1 == r.1) && ((r.2 == r.2) && true)) = true; simp]
    rfl
theorem ints_eqv_self : ∀ ns : List Int, PyData.eqvAll (ns.map PyData.int) (ns.map PyData.int) = true
  | [] => rfl
  | n :: ns => by
    show ((n == n) && PyData.eqvAll (ns.map PyData.int) (ns.map PyData.int)) = true
    rw [ints_eqv_self ns]; simp
theorem ints_shapedT (ns : List Int) : SeqAt.shaped (.list (ns.map PyData.int)) = true := by
  unfold SeqAt.shaped
  have h1 : ∀ ns : List Int, PyData.canLayAll0 (ns.map PyData.int) = true := by
    intro ns
    induction ns with
    | nil => rfl
    | cons n ns ih => show (PyData.canLay0 (.int n) && PyData.canLayAll0 (ns.map PyData.int)) = true; rw [ih]; rfl
  have h2 : ∀ ns : List Int, PyData.depthAll (ns.map PyData.int) ≤ 0 := by
    intro ns
    induction ns with
    | nil => exact Nat.le_refl _
    | cons n ns ih =>
      show max (PyData.depth (.int n)) (PyData.depthAll (ns.map PyData.int)) ≤ 0
      have : PyData.depth (.int n) = 0 := rfl
      omega
  have h3 : PyData.canLay0 (.list (ns.map PyData.int)) = true := h1 ns
  have h4 : PyData.depth (.list (ns.map PyData.int)) ≤ 64 := by
    show PyData.depthAll (ns.map PyData.int) + 1 ≤ 64
    have := h2 ns
    omega
  rw [h3, decide_eq_true h4]; rfl
theorem ints_dpT {K : PySem.W.Frag} : ∀ ns : List Int, DpAll K H (ns.map V.int) (ns.map PyData.int)
  | [] => .nil
  | n :: ns => .cons (.int n) (ints_dpT ns)
theorem keys4 {idx : List Nat} {i : Nat} (hi : i < zs.length) : (keysP (q4 zs)).getD i [] = [Rat.divInt (zs.getD i (0, 0)).1 4, Rat.divInt (zs.getD i (0, 0)).2 4] := by
  unfold keysP q4
  rw [List.getD_eq_getElem?_getD, List.map_map, List.getElem?_map, List.getD_eq_getElem?_getD, List.getElem?_eq_getElem hi]
  rfl
/-- the pairs behind one another rise -/
theorem rise4 {idx : List Nat} (hperm : idx.Perm (List.range zs.length)) (hs : idx.Pairwise (fun i j => leK (keysP (q4 zs)) i j = true)) : (idx.map fun i => zs.getD i (0, 0)).Pairwise (fun r q => ltP q r = false) := by
  rw [List.pairwise_map]
  refine hs.imp_of_mem (fun {i j} hi hj h => ?_)
  have hi' : i < zs.length := List.mem_range.mp (hperm.mem_iff.mp hi)
  have hj' : j < zs.length := List.mem_range.mp (hperm.mem_iff.mp hj)
  unfold leK at h
  rw [keys4 (idx := idx) hi', keys4 (idx := idx) hj', lex4] at h
  simpa using h
theorem perm4 {idx : List Nat} (hperm : idx.Perm (List.range zs.length)) : (idx.map fun i => zs.getD i (0, 0)).Perm zs := by
  have h := hperm.map (fun i => zs.getD i (0, 0))
  refine h.trans (List.Perm.of_eq ?_)
  apply List.ext_getElem?
  intro n
  rw [List.getElem?_map]
  by_cases hn : n < zs.length
  · rw [List.getElem?_range hn]
    show some (zs.getD n (0, 0)) = _
    rw [List.getD_eq_getElem?_getD, List.getElem?_eq_getElem hn]; rfl
  · rw [List.getElem?_eq_none (by simp; omega), List.getElem?_eq_none (by omega)]; rfl
end
theorem Le.put0 {H H' : Hp} {l : Addr} {o : HO} (e : Le H H') (h : ∀ o, H l = some o → ¬ Stab o) : Le H (upd H' l o) := fun b o' hb hs => by
  rw [upd_ne (fun z => by subst z; exact h _ hb hs)]
  exact e b o' hb hs
theorem Le.free {H H' : Hp} {l : Addr} (e : Le H H') (h : H' l = none) : ∀ o, H l = some o → ¬ Stab o := fun o hb hs => by
  have := e _ _ hb hs
  rw [h] at this; cases this
theorem Tape.neL {H : Hp} {p c l : Addr} {n : Nat} (h : Tape H p c n) (hl : H l = none) : c ≠ l := by
  obtain ⟨a, r, ns, h1, h2, h3⟩ := h
  intro z; subst z; rw [hl] at h2; cases h2
theorem t_nameR {ts : TS} {D : Ends} {σ : L2.St} {H : Hp} {x : V} {i : Nat} {P : L2.St → Hp → Prop} (k : ts { D with nx := P, ct := P, bk := D.nx } (σ.set i (some x)) H) : Turn1 (gName i) ts D P x σ H := k
section
variable {C CR : Addr} {H H' : Hp} {acc xs : List V} {zs : List Pr} {ps : List (Rat × Rat)}
theorem q4_len : (q4 zs).length = zs.length := List.length_map _
theorem q4_at {i : Nat} : (q4 zs)[i]? = (zs[i]?).map fun z => (Rat.divInt z.1 4, Rat.divInt z.2 4) := by unfold q4; rw [List.getElem?_map]
theorem pts_of (ac : Acc (fun j p H => ∃ z, zs[j]? = some z ∧ Pt4 C CR H p z) acc zs.length H) : PtsL C CR H acc (q4 zs) := by
  refine ⟨by rw [ac.len, q4_len], fun i q hq => ?_⟩
  rw [q4_at] at hq
  cases e : zs[i]? with
  | none => rw [e] at hq; cases hq
  | some z =>
    rw [e] at hq; cases hq
    obtain ⟨p, h1, z', h2, h3⟩ := ac.at_ i (List.getElem?_eq_some_iff.mp e).1
    rw [e] at h2; cases h2
    exact ⟨p, h1, h3⟩
theorem PtsL.le (e : Le H H') (h : PtsL C CR H xs ps) : PtsL C CR H' xs ps := ⟨h.1, fun i q hq => by obtain ⟨p, h1, h2⟩ := h.2 i q hq; exact ⟨p, h1, h2.le e⟩⟩
theorem PtsL.ex (e : Ex H H') (h : PtsL C CR H xs ps) : PtsL C CR H' xs ps := h.le e.le
theorem rowsX_of (ac : Acc (fun j p H => ∃ z, zs[j]? = some z ∧ H p = some (.tup (pairV z))) acc zs.length H) : RowsX H acc zs := by
  have key : ∀ (zs : List Pr) (acc : List V), acc.length = zs.length → (∀ (i : Nat) (z : Pr), zs[i]? = some z → ∃ p : Addr, acc[i]? = some (.ref p) ∧ H p = some (.tup (pairV z))) → RowsX H acc zs := by
    intro zs
    induction zs with
    | nil => intro acc hl _; rw [List.length_eq_zero_iff.mp hl]; exact .nil
    | cons z zs ih =>
      intro acc hl h
      cases acc with
      | nil => cases hl
      | cons a acc =>
        obtain ⟨p, h1, h2⟩ := h 0 z rfl
        cases h1
        exact .cons h2 (ih acc (by simpa using hl) fun i w hw => h (i + 1) w hw)
  refine key zs acc ac.len fun i z hz => ?_
  obtain ⟨p, h1, z', h2, h3⟩ := ac.at_ i (List.getElem?_eq_some_iff.mp hz).1
  rw [hz] at h2; cases h2
  exact ⟨p, h1, h3⟩
end
def spRise : Sp := fun vs H Q _ => ∃ (p : Addr) (m : Nat), vs = [.ref p] ∧ ∃ c, Tape H p c m ∧ m + 5000 < 900000 ∧ ∀ (H' : Hp), Le H H' → Tape H' p c (m + 5000) → Q (.bl true) H'
end
section
open PySem PySem.Spec PyProof.Rows L2 He
section
variable {P : Program} {w : World} {K : PySem.W.Frag} {mg : Str → Option Value} {base : Heap} {C_Ratio C_BadNumber C_Point C_Form f_Ratio_eq f_Ratio_lt f_Ratio_le f_Ratio_gt f_Ratio_ge f_Ratio_bool f_Ratio_neg f_Ratio_abs f_Ratio_str f_Ratio_add f_Ratio_radd f_Ratio_sub f_Ratio_rsub f_Ratio_mul f_Ratio_rmul f_Ratio_floordiv f_Ratio_rfloordiv f_Ratio_mod f_Ratio_rmod f_Ratio_pow f_Ratio_over f_Ratio_floor f_Ratio_ceiling f_Ratio_whole f_Ratio_sign f_Point_mul f_Point_rmul f_Form_mul f_Form_rmul : Addr}
abbrev s__law_rising : Stmt := (top 54)
theorem sc__law_rising : FnScope ["_law_tape", "_law_k", "_law_handed", "_law_found", "_law_rows", "_law_told_here", "_law_many", "_law_pairs", "_law_near", "_law_step", "_law_pair_here", "_law_point_here"] ["_law_tape"] (defScope s__law_rising) := ⟨rfl, rfl, rfl, by decide +kernel, rfl, by decide +kernel, by decide +kernel⟩
theorem ok__law_rising {f : Addr} {fd : FuncData} (F : FunD K "_law_rising" "_law_rising" (defArgs s__law_rising) (defBody s__law_rising) (defScope s__law_rising) [] [] f fd) (TB : TBl mg) (TR : RT K mg C_Ratio) (c_ascending_points : Cl P w K mg base 4 "ascending_points" (spAscP C_Point C_Ratio)) (c__law_draw : Cl P w K mg base 1 "_law_draw" (spDraw)) (c__law_pick : Cl P w K mg base 2 "_law_pick" (spPick)) (c__law_point : Cl P w K mg base 9 "_law_point" (spPointO C_Point C_Ratio)) (c__law_pair : Cl P w K mg base 3 "_law_pair" (spPairP C_Point C_Ratio)) (c__law_plus : Cl P w K mg base 1 "_law_plus" (spTTt (fun x z => x + z))) (c__law_spot : Cl P w K mg base 5 "_law_spot" (spSpot)) : FnOk P w K mg base (L2.CX P w) 10 f fd ["_law_tape"] (spRise) := by
  refine F.ok (CX := L2.CX P w) sc__law_rising (fun vs H Q E h => ?_) (fun cdv A outer s H vs Q E hr h => ?_)
  · obtain ⟨p, m, rfl, _⟩ := h; rfl
  · obtain ⟨p, m, rfl, c, hT, hm, kont⟩ := h
    refine ⟨_, (pss_cons (ps_asg (pe_tup (pa_cons (pe_cl c__law_draw hr (by decide) (by rfl) psE (pa_cons (pv 0) (pa_cons pe_int pa_nil))) (pa_cons (pe_lst pa_nil) pa_nil))) (kpg_tup (K := K) 2 rfl rfl (pgs_cons (pg_name (i := 6) sc__law_rising.nd rfl (Or.inl rfl)) (pgs_cons (pg_name (i := 7) sc__law_rising.nd rfl (Or.inr rfl)) pgs_nil)))) (pss_cons (ps_for (passes_of rfl) rfl (pi_range1 (by rfl) TB.b_range (pa_cons (pv 6) pa_nil)) (pg_name (i := 1) sc__law_rising.nd rfl (Or.inl rfl)) (pss_cons (ps_set (i := 8) sc__law_rising.nd rfl (Or.inl rfl) (pe_ifExp (pt_cmpR (kop_eqD (K := K) rfl (hu_of64 hr)) (pv 7) (pe_lst pa_nil) (nomark _)) (pe_tup (pa_cons pe_int (pa_cons pe_int pa_nil))) (pe_cl c__law_pick hr (by decide) (by rfl) psE (pa_cons (pv 0) (pa_cons (pv 7) pa_nil))))) (pss_cons (ps_set (i := 9) sc__law_rising.nd rfl (Or.inl rfl) (pe_ifExp (pt_tr (pe_cl c__law_draw hr (by decide) (by rfl) psE (pa_cons (pv 0) (pa_cons pe_int pa_nil))) (ktru (K := K) rfl) (fun _ => rfl)) (pe_tup (pa_cons pe_int (pa_cons (pe_op op_sub (pe_cl c__law_draw hr (by decide) (by rfl) psE (pa_cons (pv 0) (pa_cons pe_int pa_nil))) pe_int) pa_nil))) (pe_cl c__law_spot hr (by decide) (by rfl) psE (pa_cons (pv 0) pa_nil)))) (pss_one (ps_expr (kapp (K := K) rfl PySem.F.plainAttrs_list PySem.F.slot_list_append PySem.F.type_list_append mt_append (pv 7) (pa_cons (pe_cl c__law_plus hr (by decide) (by rfl) psE (pa_cons (pv 8) (pa_cons (pv 9) pa_nil))) pa_nil))))))) (pss_cons (ps_setLc (i := 2) (own := [("_law_pair_here", 10)]) (tt := tYes) (by rfl) sc__law_rising.nd rfl rfl (sw_true rfl rfl rfl (by decide +kernel)) (kpi_l (K := K) rfl (pv 7)) (blkOk_by (own := [("_law_pair_here", 10)]) (N := ["_law_tape", "_law_k", "_law_handed", "_law_found", "_law_rows", "_law_told_here", "_law_many", "_law_pairs", "_law_near", "_law_step", "_law_pair_here", "_law_point_here"]) (sc := defScope s__law_rising) (by decide +kernel)) (fun _ _ _ _ _ => (pg_name (i := 10) sc__law_rising.nd rfl (Or.inl rfl))) (fun _ _ _ _ _ => pts_nil) (fun _ _ _ _ _ => (pe_cl c__law_point hr (by decide) (by rfl) passL (pa_cons (pv 10) (pa_cons pe_int pa_nil))))) (pss_cons (ps_set (i := 3) sc__law_rising.nd rfl (Or.inl rfl) (pe_cl c_ascending_points hr (by decide) (by rfl) psE (pa_cons (pe_ifExp (pt_tr (pe_cl c__law_draw hr (by decide) (by rfl) psE (pa_cons (pv 0) (pa_cons pe_int pa_nil))) (ktru (K := K) rfl) (fun _ => rfl)) (pe_callTy (kc_tupof (K := K) rfl) (by rfl) TB.b_tuple (by decide +kernel) (pa_cons (pv 2) pa_nil)) (pv 2)) pa_nil))) (pss_cons (ps_if (pw_or (pt_not (pt_val (pe_callB (kc_isi (K := K) rfl) (by rfl) TB.b_isinstance (by decide +kernel) (pa_cons (pv 3) (pa_cons (pe_bltn (v := .ty "list") (u := .type "list") (by rfl) TB.b_list (by decide +kernel) rfl) pa_nil))))) (pw_or1 (pt_cmpR (kop_neD (K := K) rfl (hu_of64 hr)) (pe_lc (own := [("_law_point_here", 11)]) (tt := tYes) (by rfl) sc__law_rising.nd (kpi_l (K := K) rfl (pv 2)) (blkOk_by (own := [("_law_point_here", 11)]) (N := ["_law_tape", "_law_k", "_law_handed", "_law_found", "_law_rows", "_law_told_here", "_law_many", "_law_pairs", "_law_near", "_law_step", "_law_pair_here", "_law_point_here"]) (sc := defScope s__law_rising) (by decide +kernel)) (fun _ _ _ _ _ => (pg_name (i := 11) sc__law_rising.nd rfl (Or.inl rfl))) (fun _ _ _ _ _ => pts_nil) (fun _ _ _ _ _ => (pe_cl c__law_pair hr (by decide) (by rfl) passL (pa_cons (pv 11) (pa_cons pe_int pa_nil))))) (pv 7) (nomark _)))).pt (pss_one (ps_ret pe_bl)) pss_nil) (pss_cons (ps_set (i := 4) sc__law_rising.nd rfl (Or.inr rfl) (pe_lc (own := [("_law_point_here", 11)]) (tt := tYes) (by rfl) sc__law_rising.nd (kpi_l (K := K) rfl (pv 3)) (blkOk_by (own := [("_law_point_here", 11)]) (N := ["_law_tape", "_law_k", "_law_handed", "_law_found", "_law_rows", "_law_told_here", "_law_many", "_law_pairs", "_law_near", "_law_step", "_law_pair_here", "_law_point_here"]) (sc := defScope s__law_rising) (by decide +kernel)) (fun _ _ _ _ _ => (pg_name (i := 11) sc__law_rising.nd rfl (Or.inl rfl))) (fun _ _ _ _ _ => pts_nil) (fun _ _ _ _ _ => (pe_cl c__law_pair hr (by decide) (by rfl) passL (pa_cons (pv 11) (pa_cons pe_int pa_nil)))))) (pss_cons (ps_for (passes_of rfl) rfl (pi_range2 (by rfl) TB.b_range (pa_cons pe_int (pa_cons (pe_callB (kc_len (K := K) rfl) (by rfl) TB.b_len PySem.boot_len (pa_cons (pv 4) pa_nil)) pa_nil))) (pg_name (i := 1) sc__law_rising.nd rfl (Or.inl rfl)) (pss_one (ps_if (pt_cmpR (op_gtP (hu_of64 hr)) (pe_ix (kix_l (K := K) rfl) (pv 4) (pe_op op_sub (pv 1) pe_int) (fun _ _ => rfl)) (pe_ix (kix_l (K := K) rfl) (pv 4) (pv 1) (fun _ _ => rfl)) (nomark _)) (pss_one (ps_ret pe_bl)) pss_nil))) (pss_cons (ps_setLc (i := 5) (own := [("_law_pair_here", 10)]) (tt := tYes) (by rfl) sc__law_rising.nd rfl rfl (sw_true rfl rfl rfl (by decide +kernel)) (kpi_l (K := K) rfl (pv 7)) (blkOk_by (own := [("_law_pair_here", 10)]) (N := ["_law_tape", "_law_k", "_law_handed", "_law_found", "_law_rows", "_law_told_here", "_law_many", "_law_pairs", "_law_near", "_law_step", "_law_pair_here", "_law_point_here"]) (sc := defScope s__law_rising) (by decide +kernel)) (fun _ _ _ _ _ => (pg_name (i := 10) sc__law_rising.nd rfl (Or.inl rfl))) (fun _ _ _ _ _ => pts_nil) (fun _ _ _ _ _ => (kapp (K := K) rfl PySem.F.plainAttrs_list PySem.F.slot_list_count PySem.F.type_list_count (mt_countP (hu_of64 hr)) (pv 4) (pa_cons (pv 10) pa_nil)))) (pss_one (ps_ret (pe_and (pe_cmpR op_eq (pe_callB (kc_len (K := K) rfl) (by rfl) TB.b_len PySem.boot_len (pa_cons (pv 4) pa_nil)) (pv 6) (nomark _)) (pe_one (pe_cmpR (kop_eqD (K := K) rfl (hu_of64 hr)) (pv 5) (pe_lc (own := [("_law_pair_here", 10)]) (tt := tYes) (by rfl) sc__law_rising.nd (kpi_l (K := K) rfl (pv 7)) (blkOk_by (own := [("_law_pair_here", 10)]) (N := ["_law_tape", "_law_k", "_law_handed", "_law_found", "_law_rows", "_law_told_here", "_law_many", "_law_pairs", "_law_near", "_law_step", "_law_pair_here", "_law_point_here"]) (sc := defScope s__law_rising) (by decide +kernel)) (fun _ _ _ _ _ => (pg_name (i := 10) sc__law_rising.nd rfl (Or.inl rfl))) (fun _ _ _ _ _ => pts_nil) (fun _ _ _ _ _ => (kapp (K := K) rfl PySem.F.plainAttrs_list PySem.F.slot_list_count PySem.F.type_list_count (mt_countP (hu_of64 hr)) (pv 7) (pa_cons (pv 10) pa_nil)))) (nomark _)))))))))))))), ?_⟩
    refine r_seqL (fun σ' H' => ∃ (l : Addr) (n : Nat), σ' = [some (.ref p), none, none, none, none, none, some (.int (n : Nat)), some (.ref l), none, none, none, none] ∧ n ≤ 30 ∧ (∀ o, H l = some o → ¬ Stab o) ∧ H' l = some (.lst []) ∧ c ≠ l ∧ Le H H' ∧ Tape H' p c (m + 1)) (fun N hN => ?_) ?_
    · wtm_at "of_ra"
      refine ⟨p, 31, m, rfl, c, hT, by omega, by decide, by decide, ?_⟩
      intro H2 d e2 T2 d0 d1
      wtm_at "of_ra"
      rename_i l H3 e3 n3 g3 t H4 e4 n4 g4
      obtain ⟨n, rfl⟩ := Int.eq_ofNat_of_zero_le d0
      exact hN _ _ ⟨l, n, rfl, by omega, Le.free e2 n3, e4 _ _ g3, Tape.neL T2 n3, e2.trans (e3.trans e4).le, Tape.ex (e3.trans e4) T2⟩
    rintro σ1 H1 ⟨l, n, rfl, hn, nl, hl1, cl, le1, hT1⟩
    refine r_seqL (fun σ' H' => ∃ (zs : List Pr) (xs : List V) (o1 o2 o3 : Option V), σ' = [some (.ref p), o1, none, none, none, none, some (.int (n : Nat)), some (.ref l), o2, o3, none, none] ∧ H' l = some (.lst xs) ∧ RowsX H' xs zs ∧ zs.length = n ∧ (∀ r ∈ zs, Sb 240 r.1 ∧ Sb 240 r.2) ∧ Le H H' ∧ Tape H' p c (m + 4000)) (fun N hN => ?_) ?_
    · wtm_at "of_ra"
      refine i_R (n := n) rfl (by omega) ?_
      refine fR' (fun i σ' H' => ∃ (zs : List Pr) (xs : List V) (o1 o2 o3 : Option V), σ' = [some (.ref p), o1, none, none, none, none, some (.int (n : Nat)), some (.ref l), o2, o3, none, none] ∧ H' l = some (.lst xs) ∧ RowsX H' xs zs ∧ zs.length = i ∧ (∀ r ∈ zs, Sb (201 + i) r.1 ∧ Sb (201 + i) r.2) ∧ Le H H' ∧ Tape H' p c (m + 1 + 110 * i)) ⟨[], [], none, none, none, rfl, hl1, .nil, rfl, fun r hr => (nomatch hr), le1, hT1⟩ ?_ ?_
      · rintro i σ2 H2 hi ⟨zs, xs, o1, o2, o3, rfl, hl2, hx2, hz2, hb2, le2, hT2⟩
        refine t_nameR ?_
        refine r_seqL (fun σ' H' => ∃ (t : Addr) (z : Pr), σ' = [some (.ref p), some (.int (0 + (i : Int))), none, none, none, none, some (.int (n : Nat)), some (.ref l), some (.ref t), o3, none, none] ∧ H' t = some (.tup (pairV z)) ∧ Sb (201 + i) z.1 ∧ Sb (201 + i) z.2 ∧ Le H2 H' ∧ Tape H' p c (m + 1 + 110 * i + 1)) (fun N hN => ?_) ?_
        · wtm_at "of_ra"
          rename_i e3l H3 e3 n3 g3
          refine ⟨_, _, rows_dp (e3 _ _ hl2) (RowsX.ex e3 hx2), .lst (SqL.of g3) .nil, rows_shaped zs, rfl, ?_⟩
          rw [rows_eqv_nil]
          by_cases hz : zs = []
          · rw [decide_eq_true hz]
            wtm_at "of_ra"
            rename_i t H4 e4 n4 g4
            exact hN _ _ ⟨t, (0, 0), rfl, g4, Nat.two_pow_pos _, Nat.two_pow_pos _, (e3.trans e4).le, (Tape.ex (e3.trans e4) hT2).mono (by omega)⟩
          · rw [decide_eq_false hz]
            wtm_at "of_ra"
            have hlen := hx2.length
            have hpos : 0 < zs.length := List.length_pos_iff.mpr hz
            refine ⟨p, l, xs, _, rfl, c, Tape.ex e3 hT2, by omega, e3 _ _ hl2, by omega, by omega, ?_⟩
            intro H4 j v e4 T4 hv
            wtm_at "of_ra"
            obtain ⟨t, z, rfl, hzj, hz4⟩ := (RowsX.le e4 (RowsX.ex e3 hx2)).at_ hv
            have hb := hb2 z (List.mem_of_getElem? hzj)
            exact hN _ _ ⟨t, z, rfl, hz4, hb.1, hb.2, (e3.le.trans e4), T4⟩
        rintro σ3 H3 ⟨t, z, rfl, ht3, sz1, sz2, le3, hT3⟩
        refine r_seqL (fun σ' H' => ∃ (u : Addr) (w : Pr), σ' = [some (.ref p), some (.int (0 + (i : Int))), none, none, none, none, some (.int (n : Nat)), some (.ref l), some (.ref t), some (.ref u), none, none] ∧ H' u = some (.tup (pairV w)) ∧ Sb (201 + i) w.1 ∧ Sb (201 + i) w.2 ∧ Le H3 H' ∧ Tape H' p c (m + 1 + 110 * i + 104)) (fun N hN => ?_) ?_
        · wtm_at "of_ra"
          refine ⟨p, 2, _, rfl, c, hT3, by omega, by decide, by decide, ?_⟩
          intro H4 d e4 T4 d0 d1
          wtm_at "of_ra"
          refine q_truI ?_
          by_cases hd : d = 0
          · subst hd
            rw [show decide ((0 : Int) ≠ 0) = false from rfl]
            wtm_at "of_ra"
            refine ⟨p, _, rfl, c, T4, by omega, ?_⟩
            intro H5 u x y e5 T5 hu sx sy
            wtm_at "of_ra"
            exact hN _ _ ⟨u, (x, y), rfl, hu, sx.mono (by omega), sy.mono (by omega), e4.trans e5, T5.mono (by omega)⟩
          · rw [show decide (d ≠ 0) = true from decide_eq_true hd]
            wtm_at "of_ra"
            refine ⟨p, 5, _, rfl, c, T4, by omega, by decide, by decide, ?_⟩
            intro H5 f e5 T5 f0 f1
            wtm_at "of_ra"
            rename_i u H6 e6 n6 g6
            exact hN _ _ ⟨u, (0, f - 2), rfl, g6, Nat.two_pow_pos _, (show (f - 2).natAbs < 2 ^ (201 + i) from Nat.lt_of_lt_of_le (show (f - 2).natAbs < 2 ^ 201 from Nat.lt_of_lt_of_le (show (f - 2).natAbs < 8 by omega) (by decide)) (Nat.pow_le_pow_right (by decide) (by omega))), (e4.trans e5).trans e6.le, (Tape.ex e6 T5).mono (by omega)⟩
        rintro σ4 H4 ⟨u, w, rfl, hu4, sw1, sw2, le4, hT4⟩
        wtm_at "of_ra"
        have le24 := le3.trans le4
        refine ⟨ty_l (le24.lst hl2), ?_⟩
        wtm_at "of_ra"
        refine ⟨t, u, z.1, z.2, w.1, w.2, rfl, le4.tup ht3, hu4, sz1.mono (by omega), sz2.mono (by omega), sw1.mono (by omega), sw2.mono (by omega), ?_⟩
        intro H5 t5 e5 h5
        wtm_at "of_ra"
        refine r_app (e5 _ _ (le24.lst hl2)) (by rw [hx2.length]; omega) ?_
        wtm_at "of_ra"
        refine ⟨zs ++ [(z.1 + w.1, z.2 + w.2)], xs ++ [.ref t5], _, _, _, rfl, upd_same, ?_, by rw [List.length_append, hz2]; rfl, ?_, ?_, ?_⟩
        · exact ((RowsX.ex e5 (RowsX.le le24 hx2)).put (e5 _ _ (le24.lst hl2))).snoc (by rw [upd_ne (ne_of h5 (e5 _ _ (le24.lst hl2)) (by intro z; cases z))]; exact h5)
        · intro r hr
          rcases List.mem_append.mp hr with hr | hr
          · exact ⟨(hb2 r hr).1.mono (by omega), (hb2 r hr).2.mono (by omega)⟩
          · rw [List.mem_singleton.mp hr]
            have a1 := Sb.add sz1 sw1
            have a2 := Sb.add sz2 sw2
            rw [Nat.max_self] at a1 a2
            exact ⟨a1.mono (by omega), a2.mono (by omega)⟩
        · exact Le.put0 ((le2.trans le24).trans e5.le) nl
        · exact (Tape.put (Tape.ex e5 hT4) (e5 _ _ (le24.lst hl2)) cl).mono (by omega)
      · rintro σ2 H2 ⟨zs, xs, o1, o2, o3, rfl, hl2, hx2, hz2, hb2, le2, hT2⟩
        wtm_at "of_ra"
        exact hN _ _ ⟨zs, xs, o1, o2, o3, rfl, hl2, hx2, hz2, fun r hr => ⟨(hb2 r hr).1.mono (by omega), (hb2 r hr).2.mono (by omega)⟩, le2, hT2.mono (by omega)⟩
    rintro σ2 H2 ⟨zs, xs, o1, o2, o3, rfl, hl2, hx2, hz2, hb2, le2, hT2⟩
    have zl : xs.length = zs.length := hx2.length
    refine r_seqL (fun σ' H' => ∃ (hd : Addr) (ys : List V), σ' = [some (.ref p), o1, some (.ref hd), none, none, none, some (.int (n : Nat)), some (.ref l), o2, o3, none, none] ∧ H' hd = some (.lst ys) ∧ PtsL C_Point C_Ratio H' ys (q4 zs) ∧ Ex H2 H') (fun N hN => ?_) ?_
    · wtm_at "of_rd"
      refine i_L hl2 ?_
      refine lL (fun L i acc H' => Ex H2 H' ∧ Acc (fun j p H => ∃ z, zs[j]? = some z ∧ Pt4 C_Point C_Ratio H p z) acc i H') (fun L hL H' e h => ⟨e, .nil⟩) (fun L i acc H' hL hi ⟨e, _⟩ => e _ _ hl2) ?_ ?_
      · intro L i x acc H' hL hxi ⟨e, ac⟩ hacc
        obtain ⟨t, z, rfl, hz, ht⟩ := (RowsX.ex e hx2).at_ hxi
        have hi : i < zs.length := (List.getElem?_eq_some_iff.mp hz).1
        wtm_at "of_rd"
        refine ⟨rfl, ?_⟩
        wtm_at "of_rd"
        have hb := hb2 z (List.mem_of_getElem? hz)
        refine ⟨t, 4, z.1, z.2, rfl, ht, by decide, hb.1.mono (by decide), hb.2.mono (by decide), (show (4 : Int).natAbs < 2 ^ 400 from by decide), ?_⟩
        intro H3 q e3 hq
        exact lput (e3 _ _ hacc) (by rw [ac.len]; omega) ⟨(e.trans e3).put hL, ac.snoc (fun j q ⟨r, z1, z2⟩ => ⟨r, z1, IsP.putL (IsP.ex z2 e3) (e3 _ _ hacc)⟩) ⟨z, hz, IsP.putL hq (e3 _ _ hacc)⟩⟩
      · intro L acc H3 hL h3 ⟨e3, ac⟩
        rw [zl] at ac
        wtm_at "of_rd"
        exact hN _ _ ⟨L, acc, rfl, h3, pts_of ac, e3⟩
    rintro σ3 H3 ⟨hd, ys, rfl, hh3, hp3, e3⟩
    have bq : ∀ q ∈ q4 zs, Bq q.1 ∧ Bq q.2 := fun q hq => by
      obtain ⟨z, hz, rfl⟩ := List.mem_map.mp hq
      have hb := hb2 z hz
      exact ⟨(Sr.divInt hb.1 (show (4 : Int).natAbs < 2 ^ 240 from by decide)).bq (by decide), (Sr.divInt hb.2 (show (4 : Int).natAbs < 2 ^ 240 from by decide)).bq (by decide)⟩
    refine r_seqL (fun σ' H' => ∃ (fd : Addr) (idx : List Nat), σ' = [some (.ref p), o1, some (.ref hd), some (.ref fd), none, none, some (.int (n : Nat)), some (.ref l), o2, o3, none, none] ∧ H' fd = some (.lst (idx.map fun i => ys.getD i .non)) ∧ idx.Perm (List.range zs.length) ∧ idx.Pairwise (fun i j => leK (keysP (q4 zs)) i j = true) ∧ Le H3 H' ∧ Tape H' p c (m + 4001)) (fun N hN => ?_) ?_
    · wtm_at "of_rd"
      refine ⟨p, 2, _, rfl, c, Tape.ex e3 hT2, by omega, by decide, by decide, ?_⟩
      intro H4 d e4 T4 d0 d1
      wtm_at "of_rd"
      refine q_truI ?_
      by_cases hd0 : d = 0
      · subst hd0
        rw [show decide ((0 : Int) ≠ 0) = false from rfl]
        wtm_at "of_rd"
        refine ⟨hd, ys, q4 zs, rfl, .inl (e4.lst hh3), hp3.le e4, bq, by rw [q4_len]; omega, ?_⟩
        intro H6 fd idx e6 n6 h6 hp6 hs6
        wtm_at "of_rd"
        exact hN _ _ ⟨fd, idx, rfl, h6, by rw [q4_len] at hp6; exact hp6, hs6, e4.trans e6.le, Tape.ex e6 T4⟩
      · rw [show decide (d ≠ 0) = true from decide_eq_true hd0]
        wtm_at "of_rd"
        refine q_tupL (e4.lst hh3) ?_
        intro t5 H5 e5 n5 h5
        wtm_at "of_rd"
        refine ⟨t5, ys, q4 zs, rfl, .inr h5, (hp3.le e4).ex e5, bq, by rw [q4_len]; omega, ?_⟩
        intro H6 fd idx e6 n6 h6 hp6 hs6
        wtm_at "of_rd"
        exact hN _ _ ⟨fd, idx, rfl, h6, by rw [q4_len] at hp6; exact hp6, hs6, (e4.trans e5.le).trans e6.le, Tape.ex (e5.trans e6) T4⟩
    rintro σ4 H4 ⟨fd, idx, rfl, hf4, hperm, hsort, le4, hT4⟩
    have hh4 := le4.lst hh3
    have hp4 := hp3.le le4
    have hl4 := le4.lst (e3 _ _ hl2)
    have hx4 : RowsX H4 xs zs := RowsX.le le4 (RowsX.ex e3 hx2)
    have hlt : ∀ i ∈ idx, i < zs.length := fun i hi => List.mem_range.mp (hperm.mem_iff.mp hi)
    have hil : idx.length = zs.length := by rw [hperm.length_eq, List.length_range]
    refine r_seqL (fun σ' H' => σ' = [some (.ref p), o1, some (.ref hd), some (.ref fd), none, none, some (.int (n : Nat)), some (.ref l), o2, o3, none, none] ∧ Ex H4 H') (fun N hN => ?_) ?_
    · wtm_at "of_rd"
      refine r_isi (.ty _) (tyL hf4) kit_self ?_
      wtm_at "of_rd"
      refine i_L hh4 ?_
      refine lL (fun L i acc H' => Ex H4 H' ∧ Acc (fun j p H => ∃ z, zs[j]? = some z ∧ H p = some (.tup (pairV z))) acc i H') (fun L hL H' e h => ⟨e, .nil⟩) (fun L i acc H' hL hi ⟨e, _⟩ => e _ _ hh4) ?_ ?_
      · intro L i x acc H' hL hxi ⟨e, ac⟩ hacc
        have hi : i < zs.length := by have := (List.getElem?_eq_some_iff.mp hxi).1; rw [hp4.1, q4_len] at this; exact this
        have hz : zs[i]? = some zs[i] := List.getElem?_eq_getElem hi
        generalize zs[i] = z at hz
        obtain ⟨q, hq1, hq2⟩ := hp4.2 i _ (by rw [q4_at, hz]; rfl)
        rw [hxi] at hq1; cases hq1
        have hb := hb2 z (List.mem_of_getElem? hz)
        wtm_at "of_rd"
        refine ⟨rfl, ?_⟩
        wtm_at "of_rd"
        refine ⟨q, 4, z.1, z.2, _, _, rfl, hq2.ex e, frq_of (d := 4) (by decide), frq_of (d := 4) (by decide), by decide, hb.1.mono (by decide), hb.2.mono (by decide), (show (4 : Int).natAbs < 2 ^ 400 from by decide), ?_⟩
        intro H5 t e5 h5
        exact lput (e5 _ _ hacc) (by rw [ac.len]; omega) ⟨(e.trans e5).put hL, ac.snoc (fun j q ⟨r, z1, z2⟩ => ⟨r, z1, by rw [upd_ne (ne_of (e5 _ _ z2) (e5 _ _ hacc) (by intro z; cases z))]; exact e5 _ _ z2⟩) ⟨z, hz, by rw [upd_ne (ne_of h5 (e5 _ _ hacc) (by intro z; cases z))]; exact h5⟩⟩
      · intro L acc H5 hL h5 ⟨e5, ac⟩
        rw [hp4.1, q4_len] at ac
        wtm_at "of_rd"
        refine ⟨_, _, rows_dp h5 (rowsX_of ac), rows_dp (e5 _ _ hl4) (RowsX.ex e5 hx4), rows_shaped zs, rows_shaped zs, ?_⟩
        rw [show PyData.eqv (.list (zs.map pairD)) (.list (zs.map pairD)) = true from rows_eqv_self zs]
        wtm_at "of_rd"
        exact hN _ _ ⟨rfl, e5⟩
    rintro σ5 H5 ⟨rfl, e5⟩
    refine r_seqL (fun σ' H' => ∃ (ra' : Addr) (rx : List V), σ' = [some (.ref p), o1, some (.ref hd), some (.ref fd), some (.ref ra'), none, some (.int (n : Nat)), some (.ref l), o2, o3, none, none] ∧ H' ra' = some (.lst rx) ∧ RowsX H' rx (idx.map fun i => zs.getD i (0, 0)) ∧ Ex H4 H') (fun N hN => ?_) ?_
    · wtm_at "of_rd"
      have hf5 := e5 _ _ hf4
      refine i_L hf5 ?_
      refine lL (fun L i acc H' => Ex H5 H' ∧ Acc (fun j p H => ∃ z, (idx.map fun i => zs.getD i (0, 0))[j]? = some z ∧ H p = some (.tup (pairV z))) acc i H') (fun L hL H' e h => ⟨e, .nil⟩) (fun L i acc H' hL hi ⟨e, _⟩ => e _ _ hf5) ?_ ?_
      · intro L i x acc H' hL hxi ⟨e, ac⟩ hacc
        rw [List.getElem?_map] at hxi
        cases ej : idx[i]? with
        | none => rw [ej] at hxi; cases hxi
        | some j =>
          rw [ej] at hxi
          have hj := hlt j (List.mem_of_getElem? ej)
          have hz : zs[j]? = some zs[j] := List.getElem?_eq_getElem hj
          have hzd : zs.getD j (0, 0) = zs[j] := by rw [List.getD_eq_getElem?_getD, hz]; rfl
          generalize zs[j] = z at hz hzd
          obtain ⟨q, hq1, hq2⟩ := hp4.2 j _ (by rw [q4_at, hz]; rfl)
          have hx' : x = .ref q := by
            have := Option.some.inj hxi
            rw [← this]
            show ys.getD j .non = _
            rw [List.getD_eq_getElem?_getD, hq1]; rfl
          subst hx'
          have hb := hb2 z (List.mem_of_getElem? hz)
          have hi : i < idx.length := (List.getElem?_eq_some_iff.mp ej).1
          wtm_at "of_rd"
          refine ⟨rfl, ?_⟩
          wtm_at "of_rd"
          refine ⟨q, 4, z.1, z.2, _, _, rfl, hq2.ex (e5.trans e), frq_of (d := 4) (by decide), frq_of (d := 4) (by decide), by decide, hb.1.mono (by decide), hb.2.mono (by decide), (show (4 : Int).natAbs < 2 ^ 400 from by decide), ?_⟩
          intro H6 t e6 h6
          exact lput (e6 _ _ hacc) (by rw [ac.len]; omega) ⟨(e.trans e6).put hL, ac.snoc (fun j q ⟨r, z1, z2⟩ => ⟨r, z1, by rw [upd_ne (ne_of (e6 _ _ z2) (e6 _ _ hacc) (by intro z; cases z))]; exact e6 _ _ z2⟩) ⟨z, by rw [List.getElem?_map, ej]; show some (zs.getD j (0, 0)) = _; rw [hzd], by rw [upd_ne (ne_of h6 (e6 _ _ hacc) (by intro z; cases z))]; exact h6⟩⟩
      · intro L acc H6 hL h6 ⟨e6, ac⟩
        rw [List.length_map, show idx.length = (idx.map fun i => zs.getD i ((0, 0) : Pr)).length from (List.length_map _).symm] at ac
        wtm_at "of_rd"
        exact hN _ _ ⟨L, acc, rfl, h6, rowsX_of ac, e5.trans e6⟩
    rintro σ6 H6 ⟨rw', rx, rfl, hr6, hrx6, e6⟩
    generalize hrs : (idx.map fun i => zs.getD i ((0, 0) : Pr)) = rs at *
    have hrise : rs.Pairwise (fun r q => ltP q r = false) := hrs ▸ rise4 hperm hsort
    have hprm : rs.Perm zs := hrs ▸ perm4 hperm
    have hrl : rs.length = n := by rw [hprm.length_eq, hz2]
    refine r_seqL (fun σ' H' => ∃ o4 : Option V, σ' = [some (.ref p), o4, some (.ref hd), some (.ref fd), some (.ref rw'), none, some (.int (n : Nat)), some (.ref l), o2, o3, none, none] ∧ Ex H6 H') (fun N hN => ?_) ?_
    · wtm_at "of_rd"
      refine q_lenL hr6 ?_
      wtm_at "of_rd"
      have hlen := hrx6.length
      refine ⟨1, rx.length, rfl, by omega, ?_⟩
      refine fR' (fun i σ' H' => ∃ o4 : Option V, σ' = [some (.ref p), o4, some (.ref hd), some (.ref fd), some (.ref rw'), none, some (.int (n : Nat)), some (.ref l), o2, o3, none, none] ∧ Ex H6 H') ⟨o1, rfl, Ex.refl _⟩ ?_ ?_
      · rintro i σ7 H7 hi ⟨o4, rfl, e7⟩
        refine t_nameR ?_
        have h0 : i < rs.length := by omega
        have h1 : i + 1 < rs.length := by omega
        obtain ⟨pa, ha1, ha2⟩ := hrx6.get (List.getElem?_eq_getElem h0)
        obtain ⟨pb, hb1, hb3⟩ := hrx6.get (List.getElem?_eq_getElem h1)
        wtm_at "of_rd"
        refine r_iL1 (e7 _ _ hr6) (by rw [show (1 + (i : Int) - 1) = ((i : Nat) : Int) from by omega]; exact atI_nat ha1) ?_
        wtm_at "of_rd"
        refine r_iL1 (e7 _ _ hr6) (by rw [show (1 + (i : Int)) = ((i + 1 : Nat) : Int) from by omega]; exact atI_nat hb1) ?_
        wtm_at "of_rd"
        refine ⟨pa, pb, _, _, rfl, rfl, e7 _ _ ha2, e7 _ _ hb3, ?_⟩
        have z := (List.pairwise_iff_getElem.mp hrise) i (i + 1) h0 h1 (by omega)
        rw [z]
        wtm_at "of_rd"
        exact ⟨_, rfl, e7⟩
      · rintro σ7 H7 ⟨o4, rfl, e7⟩
        wtm_at "of_rd"
        exact hN _ _ ⟨_, rfl, e7⟩
    rintro σ7 H7 ⟨o4, rfl, e7⟩
    have hlA := e7 _ _ (e6 _ _ hl4)
    have hxA := RowsX.ex e7 (RowsX.ex e6 hx4)
    have hr7 := e7 _ _ hr6
    have hrx7 := RowsX.ex e7 hrx6
    refine r_seqL (fun σ' H' => ∃ td : Addr, σ' = [some (.ref p), o4, some (.ref hd), some (.ref fd), some (.ref rw'), some (.ref td), some (.int (n : Nat)), some (.ref l), o2, o3, none, none] ∧ H' td = some (.lst ((zs.map fun z => ((rs.count z : Nat) : Int)).map V.int)) ∧ Ex H7 H') (fun N hN => ?_) ?_
    · wtm_at "of_rd"
      refine i_L hlA ?_
      refine lL (fun L i acc H' => Ex H7 H' ∧ acc = ((zs.take i).map fun z => ((rs.count z : Nat) : Int)).map V.int) (fun L hL H' e h => ⟨e, rfl⟩) (fun L i acc H' hL hi ⟨e, _⟩ => e _ _ hlA) ?_ ?_
      · intro L i x acc H' hL hxi ⟨e, ac⟩ hacc
        obtain ⟨t, z, rfl, hz, ht⟩ := (RowsX.ex e hxA).at_ hxi
        have hi : i < zs.length := (List.getElem?_eq_some_iff.mp hz).1
        wtm_at "of_rd"
        refine ⟨rfl, ?_⟩
        wtm_at "of_rd"
        refine ⟨ty_l (e _ _ hr7), ?_⟩
        wtm_at "of_rd"
        refine ⟨rw', t, _, rs, z, rfl, rfl, e _ _ hr7, RowsX.ex e hrx7, ht, ?_⟩
        exact lput hacc (by rw [ac, List.length_map, List.length_map, List.length_take]; omega) ⟨e.put hL, by rw [List.take_add_one, hz, ac]; simp⟩
      · intro L acc H8 hL h8 ⟨e8, ac⟩
        rw [zl, List.take_length] at ac
        subst ac
        wtm_at "of_rd"
        exact hN _ _ ⟨L, rfl, h8, e8⟩
    rintro σ8 H8 ⟨td, rfl, ht8, e8⟩
    wtm_at "of_rd"
    refine q_lenL (e8 _ _ hr7) ?_
    wtm_at "of_rd"
    rw [if_pos (decide_eq_true (show (rx.length : Int) = (n : Int) from by rw [hrx6.length, hrl]))]
    wtm_at "of_rd"
    replace hlA := e8 _ _ hlA
    replace hxA := RowsX.ex e8 hxA
    refine i_L hlA ?_
    refine lL (fun L i acc H' => Ex H8 H' ∧ acc = ((zs.take i).map fun z => ((zs.count z : Nat) : Int)).map V.int) (fun L hL H' e h => ⟨e, rfl⟩) (fun L i acc H' hL hi ⟨e, _⟩ => e _ _ hlA) ?_ ?_
    · intro L i x acc H' hL hxi ⟨e, ac⟩ hacc
      obtain ⟨t, z, rfl, hz, ht⟩ := (RowsX.ex e hxA).at_ hxi
      have hi : i < zs.length := (List.getElem?_eq_some_iff.mp hz).1
      wtm_at "of_rd"
      refine ⟨rfl, ?_⟩
      wtm_at "of_rd"
      refine ⟨ty_l (e _ _ hlA), ?_⟩
      wtm_at "of_rd"
      refine ⟨l, t, _, zs, z, rfl, rfl, e _ _ hlA, RowsX.ex e hxA, ht, ?_⟩
      exact lput hacc (by rw [ac, List.length_map, List.length_map, List.length_take]; omega) ⟨e.put hL, by rw [List.take_add_one, hz, ac]; simp⟩
    · intro L acc H9 hL h9 ⟨e9, ac⟩
      rw [zl, List.take_length] at ac
      subst ac
      wtm_at "of_rd"
      refine ⟨_, _, .lst (SqL.of (e9 _ _ ht8)) (ints_dpT _), .lst (SqL.of h9) (ints_dpT _), ints_shapedT _, ints_shapedT _, ?_⟩
      rw [show (zs.map fun z => ((rs.count z : Nat) : Int)) = (zs.map fun z => ((zs.count z : Nat) : Int)) from List.map_congr_left fun z _ => by rw [hprm.count_eq z]]
      rw [show PyData.eqv (.list ((zs.map fun z => ((zs.count z : Nat) : Int)).map PyData.int)) (.list ((zs.map fun z => ((zs.count z : Nat) : Int)).map PyData.int)) = true from ints_eqv_self _]
      exact kont _ (le2.trans ((e3.le.trans le4).trans (((e6.trans e7).trans (e8.trans e9)).le))) ((Tape.ex ((e6.trans e7).trans (e8.trans e9)) hT4).mono (by omega))
end
end
section
open PySem PySem.Spec PyProof.Rows L2 He LamX
/-- what a refused call leaves -/
def ERef10 (CB : Addr) (Q : VK) : XK := fun cls d H' => cls = .ref CB ∧ ∃ dd v n, d = some dd ∧ H' dd = some (.xd [("value", v)]) ∧ OddK H' n v ∧ n ≤ 7 ∧ Q (.str (oddD n).shown) H'
def TRef10 (CB : Addr) : (XK → Hp → VK → Prop) → Hp → VK → Prop := fun tl H Q => tl (ERef10 CB Q) H (fun _ H' => ∃ v : V, some (some (V.str "fine")) = some (some v) ∧ Q v H')
abbrev s_refused10 : Stmt := top 55
theorem sc_refused10 : FnScope ["_law_call", "_law_found", "e"] ["_law_call"] (defScope s_refused10) := ⟨rfl, rfl, rfl, by decide +kernel, rfl, by decide +kernel, by decide +kernel⟩
theorem refused10_gives {X : Cx} {g CB : Addr} {cdg : Value} {q : Str} (XF : XfC X.K CB) (hno : PySem.W.findIn X.K (.ref CB) "value" = some none) (hme : X.mg "BadNumber" = some (.ref CB)) (br : X.mg "repr" = none)
    (hex : PySem.W.exmOne X.K (.ref CB) (.ref CB) = some true) (hgd : X.A.guards = some []) {j0 : Nat} (hr0 : Room j0 X.A) :
    GivesV X ["_law_call", "_law_found", "e"] "_law_refused" (defScope s_refused10) g cdg (defBody s_refused10) "_law_call" q (TRef10 CB) := by
  intro f c' oF s H Q tl ho act hF hc h
  obtain ⟨φ, rfl⟩ := ho
  refine ⟨_, pss_cons (ps_set (i := 1) sc_refused10.nd rfl (Or.inl rfl) pe_str) (pss_cons (ps_try_as (i := 2) (c := .ref CB)
      (tb := fun W D σ H => ∃ Ech : XK, (∀ cls d (σ' : L2.St) H', σ'.length = 3 → Ech cls d H' → W cls d σ' H') ∧ σ[0]? = some (some (.ref f)) ∧ H f = some (.ext φ) ∧ H c' = some (CodeO c' q) ∧ tl Ech H (fun _ H' => D.nx σ H'))
      rfl rfl sc_refused10.nd rfl rfl ⟨rfl, by decide, .inl hme⟩ LamX.takes0 (fun W pn xe tk _ => ?_)
      (fun a oe cls d pn hz hf => pss_one (ps_set (i := 1) sc_refused10.nd rfl (Or.inl rfl) (pe_callB (call_rep (K := X.K) rfl hgd (by show X.A.units + 3 + 64 < cLine; have := hr0.un; omega)) (by rfl) br (by decide +kernel) (pa_cons (pe_xf XF hno hz hf (pv 2)) pa_nil)))))
    (pss_one (ps_ret (pv 1)))), ?_⟩
  · refine ⟨fun pins s' σ H' D I h' => ?_⟩
    obtain ⟨Ech, hW, h1, h2, h3, h4⟩ := h'
    have hp := fun p1 p2 => act _ pn xe Ech p1 p2 (takes_len tk) (fun cls d σ' H' he hl => hW cls d σ' H' hl he)
    exact (pss_one (ps_expr (hp _ _))).run pins s' σ H' D I ⟨h1, h2, h3, h4⟩
  · wtm_at "of_rd"
    refine ⟨ERef10 CB Q, ?_, rfl, hF, hc, h⟩
    rintro cls d σ' H' hl ⟨rfl, dd, v, n, rfl, hd, ho, hn, hq⟩
    obtain ⟨x0, x1, x2, rfl⟩ : ∃ x0 x1 x2, σ' = [x0, x1, x2] := by
      match σ', hl with
      | [x0, x1, x2], _ => exact ⟨_, _, _, rfl⟩
    refine ⟨true, hex, fun _ a ha => ?_, fun z => by cases z⟩
    wtm_at "of_rd"
    refine ⟨_, rfl, rfl, rfl, dd, _, v, rfl, hd, by rw [List.lookup_cons]; simp, ?_⟩
    wtm_at "of_rd"
    refine x_rep ⟨n, ho, hn, ?_⟩
    wtm_at "of_rd"
    exact hq
/-- what is known of _law_refused -/
structure RefP10 (K : PySem.W.Frag) (mg : Str → Option Value) (CB gR : Addr) : Prop where
  ex : ∃ (oc2 : Value) (od2 : Option Addr) (dV2 kV2 doc2 pm2 : Value) (an2 : Option Addr) (cdv2 ct2 : Value) (osl2 : Array (Option Value)), K.lookup gR = some ⟨oc2, od2, .func (PySem.W.fnOf "_law_refused" "_law_refused" (defArgs s_refused10) (defBody s_refused10) (defScope s_refused10) dV2 kV2 doc2 pm2 an2 cdv2 ct2), osl2⟩ ∧ PySem.W.codeIn K cdv2 "_law_refused" = true ∧ Binds K (PySem.W.fnOf "_law_refused" "_law_refused" (defArgs s_refused10) (defBody s_refused10) (defScope s_refused10) dV2 kV2 doc2 pm2 an2 cdv2 ct2) ["_law_call"] []
  kp : PySem.W.keepIn K (.ref gR) = true
  g : mg "_law_refused" = some (.ref gR)
  XF : XfC K CB
  no : PySem.W.findIn K (.ref CB) "value" = some none
  gB : mg "BadNumber" = some (.ref CB)
  br : mg "repr" = none
  exB : PySem.W.exmOne K (.ref CB) (.ref CB) = some true
theorem pe_g10 {X : Cx} {K : PySem.W.Frag} {mg : Str → Option Value} {CB gR : Addr} {k j : Nat} {e : Expr} {te : TE} {p pos : Pos} (hK : X.K = K) (hmg : X.mg = mg) (B : RefP10 K mg CB gR) (hr : Room j X.A) (hgd : X.A.guards = some []) (hk : k + 2 ≤ j) (hg : Gl X "_law_refused") (he : PE X e te) (hs : starEach [e] X.env = (false, eval e X.env) :: starEach [] X.env := by rfl) :
    PE X (.Call (.Name "_law_refused" p) [e] [] pos) (tGive X k (TRef10 CB) te) := by
  subst hK
  subst hmg
  obtain ⟨oc2, od2, dV2, kV2, doc2, pm2, an2, cdv2, ct2, osl2, lk, hc, bd⟩ := B.ex
  exact pe_give (TT := TRef10 CB) (k := k) hg B.g B.kp lk hc bd sc_refused10 rfl (Or.inl rfl) (refused10_gives B.XF B.no B.gB B.br B.exB hgd hr) (hr.mono hk) he hs
theorem pe_g10B {K : PySem.W.Frag} {X : Cx} {mg : Str → Option Value} {CB gR : Addr} {k j : Nat} {e : Expr} {te : TE} {p pos : Pos} {pins0 : List (Addr × Obj)} {σ0 : L2.St} {s0 : Shared} {H0 : Hp} {scope : Scope} {ce : Env} {fp : List Addr} (I0 : Inv X pins0 σ0 H0 s0) (fpk : ∀ b ∈ fp, FpOk X pins0 H0 b)
    (hK : X.K = K) (hmg : X.mg = mg) (B : RefP10 K mg CB gR) (hr : Room j X.A) (hgd : X.A.guards = some []) (hk : k + 2 ≤ j) (hg : Gl (X.blk s0 H0 scope ce fp) "_law_refused") (he : PE (X.blk s0 H0 scope ce fp) e te) (hs : starEach [e] ce = (false, eval e ce) :: starEach [] ce := by rfl) :
    PE (X.blk s0 H0 scope ce fp) (.Call (.Name "_law_refused" p) [e] [] pos) (tGiveX X k (TRef10 CB) te σ0) := by
  subst hK
  subst hmg
  obtain ⟨oc2, od2, dV2, kV2, doc2, pm2, an2, cdv2, ct2, osl2, lk, hc, bd⟩ := B.ex
  exact pe_giveB I0 fpk hg B.g B.kp lk hc bd sc_refused10 rfl (Or.inl rfl) (refused10_gives B.XF B.no B.gB B.br B.exB hgd hr) (hr.mono hk) he hs
section
variable {K : PySem.W.Frag} {C CR CB a p : Addr} {H H' : Hp} {Q : VK} {x y : Rat} {u v : V} {E : XK} {dvs vs : List V} {n m : Nat}
theorem give10 {tl : XK → Hp → VK → Prop} (k : tl (ERef10 CB Q) H (fun _ H' => ∃ v : V, some (some (V.str "fine")) = some (some v) ∧ Q v H')) : TRef10 CB tl H Q := k
theorem e10_num (h : OddK H n v) (hn : n ≤ 7) (k : ∀ H2, Ex H H2 → Q (.str (oddD n).shown) H2) : Rz (ERef10 CB Q) CB "value" v H := fun d H' e hd _ => ⟨rfl, d, v, n, rfl, hd, h.ex e, hn, k H' e⟩
theorem OddK.stay {dx : Addr} (h : OddK H n v) (s : StayP p H H') (hp : H p = some (.ins C dx [])) : OddK H' n v := by
  cases h with
  | non => exact .non
  | tr => exact .tr
  | fa => exact .fa
  | s1 => exact .s1
  | ls h => exact .ls (s _ _ h (ne_of h hp (by intro z; cases z)))
  | tp h => exact .tp (s _ _ h (ne_of h hp (by intro z; cases z)))
  | s2 => exact .s2
  | i0 => exact .i0
theorem q_mkPw1 (T : ClsP K CR) (e : vs ++ dvs = [u, v]) (h : OddK H n u) (hn : n < 7) (k : ∀ H2, Ex H H2 → Q (.str (oddD n).shown) H2) {Q' : VK} : MkAt C (spPInit K C CR CB) dvs (ERef10 CB Q) vs H Q' := by
  intro p dx hp hdx hne
  have e1 : Ex H (upd (upd H dx (.own p)) p (.ins C dx [])) := Ex.new2 hdx (by exact hp)
  rw [e]
  exact ⟨p, dx, u, v, rfl, upd_same, .inr (.inl ⟨(h.ex e1).wrong T hn, (e10_num h (by omega) k).ex e1⟩)⟩
theorem q_mkPw2 (T : ClsP K CR) (e : vs ++ dvs = [u, v]) (hu : NumV CR H u x) (bx : Bq x) (h : OddK H n v) (hn : n < 7) (k : ∀ H2, Ex H H2 → Q (.str (oddD n).shown) H2) {Q' : VK} : MkAt C (spPInit K C CR CB) dvs (ERef10 CB Q) vs H Q' := by
  intro p dx hp hdx hne
  have e1 : Ex H (upd (upd H dx (.own p)) p (.ins C dx [])) := Ex.new2 hdx (by exact hp)
  rw [e]
  refine ⟨p, dx, u, v, rfl, upd_same, .inr (.inr ⟨x, hu.ex e1, bx, fun H' st => ((h.ex e1).stay st upd_same).wrong T hn, fun d H' st hd hn' => ?_⟩)⟩
  exact ⟨rfl, d, v, n, rfl, hd, (h.ex e1).stay st upd_same, by omega, k H' (fun c o hc => st c o (e1 c o hc) (ne_of_none hc hp))⟩
end
end
section
open PySem PySem.Spec PyProof.Rows L2 He LamX
theorem odd_pick10 {H : Hp} {l t : Addr} {i : Nat} {v : V} (h1 : H l = some (.lst [])) (h2 : H t = some (.tup [.int 1, .int 2])) (hv : ([.non, .bl true, .bl false, .str "1", .ref l, .ref t] : List V)[i]? = some v) : OddK H i v ∧ i < 6 := by
  match i, hv with
  | 0, e => cases e; exact ⟨.non, by decide⟩
  | 1, e => cases e; exact ⟨.tr, by decide⟩
  | 2, e => cases e; exact ⟨.fa, by decide⟩
  | 3, e => cases e; exact ⟨.s1, by decide⟩
  | 4, e => cases e; exact ⟨.ls h1, by decide⟩
  | 5, e => cases e; exact ⟨.tp h2, by decide⟩
  | i + 6, e => cases e
theorem spot_pick {H : Hp} {a b d e : Addr} {x0 y0 x1 y1 x2 y2 x3 y3 : Int} {i : Nat} {v : V} (h0 : H a = some (.tup [.int x0, .int y0])) (h1 : H b = some (.tup [.int x1, .int y1])) (h2 : H d = some (.tup [.int x2, .int y2])) (h3 : H e = some (.tup [.int x3, .int y3]))
    (s0 : Sb 200 x0 ∧ Sb 200 y0) (s1 : Sb 200 x1 ∧ Sb 200 y1) (s2 : Sb 200 x2 ∧ Sb 200 y2) (s3 : Sb 200 x3 ∧ Sb 200 y3) (hv : ([.ref a, .ref b, .ref d, .ref e] : List V)[i]? = some v) : ∃ t x y, v = .ref t ∧ H t = some (.tup [.int x, .int y]) ∧ Sb 200 x ∧ Sb 200 y := by
  match i, hv with
  | 0, z => cases z; exact ⟨_, _, _, rfl, h0, s0⟩
  | 1, z => cases z; exact ⟨_, _, _, rfl, h1, s1⟩
  | 2, z => cases z; exact ⟨_, _, _, rfl, h2, s2⟩
  | 3, z => cases z; exact ⟨_, _, _, rfl, h3, s3⟩
  | i + 4, z => cases z
def spLaw10 (K : PySem.W.Frag) (T : List (Addr × Str)) : Sp := fun vs H Q _ => ∃ (a : Addr) (ns : List Int), vs = [.ref a] ∧ SqL K H a (ns.map V.int) ∧ ns.length ≤ 63 ∧ Tabs T H ∧ ∀ H', Q (.bl true) H'
theorem sb_neg1 {x : Int} (h : Sb 200 x) : Sb 200 (-1 * x) := by
  unfold Sb at *
  rw [Int.natAbs_mul]
  simpa using h
theorem sb_one {x : Int} (h : x.natAbs < 2 ^ 99) (h0 : 0 ≤ x) : Sb 100 (1 + x) := by
  unfold Sb
  omega
end
open PySem PySem.Spec PyProof.Rows L2 He LamX
local macro_rules | `(tactic| wtm_at "of_gx10") => `(tactic| ((with_reducible refine r_giveX ?_); wtm_at "of_ra"; refine ⟨_, ?_, rfl, ?_, ?_⟩; rotate_left; wtm_at "of_uq"; refine give10 ?_; (try dsimp only); wtm_at "of_ra"))
section
open PySem PySem.Spec PyProof.Rows L2 He LamX
end
section
open PySem PySem.Spec PyProof.Rows L2 He
section
variable {P : Program} {w : World} {K : PySem.W.Frag} {mg : Str → Option Value} {base : Heap} {C_Ratio C_BadNumber C_Point C_Form f_Ratio_eq f_Ratio_lt f_Ratio_le f_Ratio_gt f_Ratio_ge f_Ratio_bool f_Ratio_neg f_Ratio_abs f_Ratio_str f_Ratio_add f_Ratio_radd f_Ratio_sub f_Ratio_rsub f_Ratio_mul f_Ratio_rmul f_Ratio_floordiv f_Ratio_rfloordiv f_Ratio_mod f_Ratio_rmod f_Ratio_pow f_Ratio_over f_Ratio_floor f_Ratio_ceiling f_Ratio_whole f_Ratio_sign f_Point_mul f_Point_rmul f_Form_mul f_Form_rmul : Addr}
abbrev s_law : Stmt := (top 56)
theorem sc_law : FnScope ["_law_script", "_law_tape", "_law_odd", "_law_calls", "_law_one", "_law_other", "_law_spot_here", "_law_number_here", "_law_over", "_law_call"] ["_law_script"] (defScope s_law) := ⟨rfl, rfl, rfl, by decide +kernel, rfl, by decide +kernel, by decide +kernel⟩
theorem ok_law {f cL : Addr} {PZ gR : Addr} (TBc : LamX.TabB base mg cL PZ) (RP : RefP10 K mg C_BadNumber gR) {oc od dV kV doc pm an ct osl} (lk : K.lookup f = some ⟨oc, od, .func (PySem.W.fnOf "law" "law" (defArgs s_law) (defBody s_law) (defScope s_law) dV kV doc pm an (.ref cL) ct), osl⟩) (hcd : PySem.W.codeIn K (.ref cL) "law" = true) (TB : TBl mg) (TR : RT K mg C_Ratio) (T_Point : PT K C_Point) (T_Form : PT K C_Form) (c_Ratio_2 : Ck P w K mg base 4 "Ratio" C_Ratio [] (spRInit K C_Ratio C_BadNumber)) (c_Point_2 : Ck P w K mg base 7 "Point" C_Point [] (spPInit K C_Point C_Ratio C_BadNumber)) (c_Form_2 : Ck P w K mg base 7 "Form" C_Form [] (spPInit K C_Form C_Ratio C_BadNumber)) (c__law_begin : Cl P w K mg base 1 "_law_begin" (spBegin K)) (c__law_draw : Cl P w K mg base 1 "_law_draw" (spDraw)) (c__law_pick : Cl P w K mg base 2 "_law_pick" (spPick)) (c__law_size : Cl P w K mg base 3 "_law_size" (spNum 50 2 false)) (c__law_number : Cl P w K mg base 4 "_law_number" (spNum 51 2 true)) (c__law_times : Cl P w K mg base 1 "_law_times" (spTms)) (c__law_spot : Cl P w K mg base 5 "_law_spot" (spSpot)) (c__law_points_right : Cl P w K mg base 10 "_law_points_right" (spPR)) (c__law_forms_right : Cl P w K mg base 10 "_law_forms_right" (spFR)) (c__law_rising : Cl P w K mg base 10 "_law_rising" (spRise)) : FnG P w K mg base (L2.CX P w) 11 f (PySem.W.fnOf "law" "law" (defArgs s_law) (defBody s_law) (defScope s_law) dV kV doc pm an (.ref cL) ct) ["_law_script"] (spLaw10 K [(PZ, qL)]) := by
  refine fnG_of lk hcd sc_law (fun vs H Q E h => ?_) (fun A outer s H vs Q E hg hr h => ?_)
  · obtain ⟨a, ns, rfl, _⟩ := h; rfl
  · obtain ⟨a0, ns, rfl, hS, hl, tb0, k⟩ := h
    refine ⟨_, (pss_cons (ps_set (i := 1) sc_law.nd rfl (Or.inl rfl) (pe_cl c__law_begin hr (by decide) (by rfl) psE (pa_cons (pv 0) pa_nil))) (pss_cons (ps_par3 (i := 4) (j := 5) (l := 6) rfl sc_law.nd rfl rfl rfl (by decide) (by decide) (by decide) rfl rfl rfl (pa_cons (pe_cl c__law_spot hr (by decide) (by rfl) psE (pa_cons (pv 1) pa_nil)) (pa_cons (pe_cl c__law_spot hr (by decide) (by rfl) psE (pa_cons (pv 1) pa_nil)) (pa_cons (pe_cl c__law_spot hr (by decide) (by rfl) psE (pa_cons (pv 1) pa_nil)) pa_nil))) (by rfl)) (pss_cons (ps_if (pt_cmpR op_eq (pe_cl c__law_draw hr (by decide) (by rfl) psE (pa_cons (pv 1) (pa_cons pe_int pa_nil))) pe_int (nomark _)) (pss_one (ps_set (i := 5) sc_law.nd rfl (Or.inl rfl) (pe_cl c__law_pick hr (by decide) (by rfl) psE (pa_cons (pv 1) (pa_cons (pe_lst (pa_cons (pv 4) (pa_cons (pe_tup (pa_cons (pe_ix (kix_t (K := K) rfl) (pv 4) pe_int (fun _ _ => rfl)) (pa_cons (pe_ix (kix_t (K := K) rfl) (pv 5) pe_int (fun _ _ => rfl)) pa_nil))) (pa_cons (pe_tup (pa_cons pe_int (pa_cons pe_int pa_nil))) (pa_cons (pe_cl c__law_times hr (by decide) (by rfl) psE (pa_cons (pe_un un_neg pe_int) (pa_cons (pv 4) pa_nil))) pa_nil))))) pa_nil))))) pss_nil) (pss_cons (ps_asg (pe_tup (pa_cons (pe_cl c__law_number hr (by decide) (by rfl) psE (pa_cons (pv 1) (pa_cons pe_int pa_nil))) (pa_cons (pe_op op_add pe_int (pe_cl c__law_size hr (by decide) (by rfl) psE (pa_cons (pv 1) (pa_cons pe_int pa_nil)))) pa_nil))) (kpg_tup (K := K) 2 rfl rfl (pgs_cons (pg_name (i := 7) sc_law.nd rfl (Or.inr rfl)) (pgs_cons (pg_name (i := 8) sc_law.nd rfl (Or.inr rfl)) pgs_nil)))) (pss_cons (ps_if (pw_or (pt_not (pt_val (pe_cl c__law_points_right hr (by decide) (by rfl) psE (pa_cons (pv 4) (pa_cons (pv 5) (pa_cons (pv 7) (pa_cons (pv 8) pa_nil))))))) (pw_or1 (pt_not (pt_val (pe_cl c__law_points_right hr (by decide) (by rfl) psE (pa_cons (pv 6) (pa_cons (pv 6) (pa_cons (pv 7) (pa_cons (pv 8) pa_nil))))))))).pt (pss_one (ps_ret pe_bl)) pss_nil) (pss_cons (ps_if (pw_or (pt_not (pt_val (pe_cl c__law_forms_right hr (by decide) (by rfl) psE (pa_cons (pv 4) (pa_cons (pv 5) (pa_cons (pv 6) (pa_cons (pv 7) (pa_cons (pv 8) pa_nil)))))))) (pw_or1 (pt_not (pt_val (pe_cl c__law_rising hr (by decide) (by rfl) psE (pa_cons (pv 1) pa_nil)))))).pt (pss_one (ps_ret pe_bl)) pss_nil) (pss_cons (ps_set (i := 2) sc_law.nd rfl (Or.inr rfl) (pe_cl c__law_pick hr (by decide) (by rfl) psE (pa_cons (pv 1) (pa_cons (pe_lst (pa_cons pe_non (pa_cons pe_bl (pa_cons pe_bl (pa_cons pe_str (pa_cons (pe_lst pa_nil) (pa_cons (pe_tup (pa_cons pe_int (pa_cons pe_int pa_nil))) pa_nil))))))) pa_nil)))) (pss_cons (ps_set (i := 3) sc_law.nd rfl (Or.inl rfl) (pe_lst (pa_cons (pe_lamV (T := [(PZ, qL)]) TBc rfl (lam_memQ rfl) (lam_uniQ rfl) (LamX.lamS_by (sc := defScope s_law) (by decide +kernel)) (def_no _)) (pa_cons (pe_lamV (T := [(PZ, qL)]) TBc rfl (lam_memQ rfl) (lam_uniQ rfl) (LamX.lamS_by (sc := defScope s_law) (by decide +kernel)) (def_no _)) (pa_cons (pe_lamV (T := [(PZ, qL)]) TBc rfl (lam_memQ rfl) (lam_uniQ rfl) (LamX.lamS_by (sc := defScope s_law) (by decide +kernel)) (def_no _)) (pa_cons (pe_lamV (T := [(PZ, qL)]) TBc rfl (lam_memQ rfl) (lam_uniQ rfl) (LamX.lamS_by (sc := defScope s_law) (by decide +kernel)) (def_no _)) (pa_cons (pe_lamV (T := [(PZ, qL)]) TBc rfl (lam_memQ rfl) (lam_uniQ rfl) (LamX.lamS_by (sc := defScope s_law) (by decide +kernel)) (def_no _)) pa_nil))))))) (pss_cons (ps_if (pt_cmpR (op_neS (hu_of64 hr)) (pe_lcI (own := [("_law_call", 9)]) (tt := tYes) (by rfl) sc_law.nd (kpi_l (K := K) rfl (pv 3)) (blkOk_by (own := [("_law_call", 9)]) (N := ["_law_script", "_law_tape", "_law_odd", "_law_calls", "_law_one", "_law_other", "_law_spot_here", "_law_number_here", "_law_over", "_law_call"]) (sc := defScope s_law) (by decide +kernel)) (fun _ _ _ _ _ => (pg_name (i := 9) sc_law.nd rfl (Or.inl rfl))) (fun _ _ _ _ _ => pts_nil) (fun pinsQ σQ sQ HQ CQ clQ fpQ IQ fkQ => (pe_g10B (k := 8) IQ fkQ rfl rfl RP hr hg (by decide) (by rfl) (pv 9)))) (pe_op op_rep (pe_lst (pa_cons (pe_callB (call_rep (K := K) rfl hg (hu_of64 hr)) (by rfl) TB.b_repr (by decide +kernel) (pa_cons (pv 2) pa_nil)) pa_nil)) pe_int) (nomark _)) (pss_one (ps_ret pe_bl)) pss_nil) (pss_one (ps_ret (pe_cmpR op_eq (pe_g10 (K := K) (mg := mg) (k := 8) rfl rfl RP hr hg (by decide) (by rfl) (pe_lamV (T := [(PZ, qL)]) TBc rfl (lam_memQ rfl) (lam_uniQ rfl) (LamX.lamS_by (sc := defScope s_law) (by decide +kernel)) (def_no _))) pe_str (nomark _))))))))))))), ?_⟩
    have TP := T_Point
    have TF := T_Form
    have kR := TR.k
    refine r_seqL (fun σ' H' => ∃ (p c : Addr), σ' = [some (.ref a0), some (.ref p), none, none, none, none, none, none, none, none] ∧ Tape H' p c 0 ∧ Ex H H') (fun N hN => ?_) ?_
    · wtm_at "of_ra"
      refine ⟨a0, ns, rfl, hS, hl, ?_⟩
      intro H' p c e n1 n2 hp
      wtm_at "of_ra"
      exact hN _ _ ⟨p, c, rfl, hp, e⟩
    rintro σ1 H1 ⟨p, c, rfl, hT1, e1⟩
    have tb1 := tabs_ex tb0 e1
    refine r_seqL (fun σ' H' => ∃ (t0 t1 t2 : Addr) (x0 y0 x1 y1 x2 y2 : Int), σ' = [some (.ref a0), some (.ref p), none, none, some (.ref t0), some (.ref t1), some (.ref t2), none, none, none] ∧ Tape H' p c 306 ∧ Le H1 H' ∧ H' t0 = some (.tup [.int x0, .int y0]) ∧ H' t1 = some (.tup [.int x1, .int y1]) ∧ H' t2 = some (.tup [.int x2, .int y2]) ∧ Sb 200 x0 ∧ Sb 200 y0 ∧ Sb 200 x1 ∧ Sb 200 y1 ∧ Sb 200 x2 ∧ Sb 200 y2) (fun N hN => ?_) ?_
    · wtm_at "of_ra"
      refine ⟨p, _, rfl, c, hT1, by omega, ?_⟩
      intro H2 t0 x0 y0 l2 T2 h0 sx0 sy0
      wtm_at "of_ra"
      refine ⟨p, _, rfl, c, T2, by omega, ?_⟩
      intro H3 t1 x1 y1 l3 T3 h1 sx1 sy1
      wtm_at "of_ra"
      refine ⟨p, _, rfl, c, T3, by omega, ?_⟩
      intro H4 t2 x2 y2 l4 T4 h2 sx2 sy2
      wtm_at "of_ra"
      exact hN _ _ ⟨t0, t1, t2, x0, y0, x1, y1, x2, y2, rfl, T4, (l2.trans l3).trans l4, l4.tup (l3.tup h0), l4.tup h1, h2, sx0, sy0, sx1, sy1, sx2, sy2⟩
    rintro σ2 H2 ⟨t0, t1, t2, x0, y0, x1, y1, x2, y2, rfl, hT2, l2, h0, h1, h2, sx0, sy0, sx1, sy1, sx2, sy2⟩
    have tb2 := tabs_le tb1 l2
    refine r_seqL (fun σ' H' => ∃ (t3 : Addr) (x3 y3 : Int), σ' = [some (.ref a0), some (.ref p), none, none, some (.ref t0), some (.ref t3), some (.ref t2), none, none, none] ∧ Tape H' p c 308 ∧ Le H2 H' ∧ H' t3 = some (.tup [.int x3, .int y3]) ∧ Sb 200 x3 ∧ Sb 200 y3) (fun N hN => ?_) ?_
    · wtm_at "of_ra"
      refine ⟨p, 4, 306, rfl, c, hT2, by decide, by decide, by decide, ?_⟩
      intro H3 d l3 T3 d0 d1
      wtm_at "of_ra"
      refine ite2 (fun hd => ?_) (fun hd => ?_)
      · wtm_at "of_ra"
        have h0' := l3.tup h0
        have h1' := l3.tup h1
        refine ⟨p, _, _, 307, rfl, c, Tape.ex (by wtm_at "of_exs") T3, by decide, by wtm_at "of_uq", by exact Nat.succ_pos _, by show 4 ≤ 1000000; decide, ?_⟩
        intro H6 j v l6 T6 hv
        wtm_at "of_ra"
        obtain ⟨t3, x3, y3, rfl, h3, s3⟩ := spot_pick (H := H6) (by wtm_at "of_uq") (by wtm_at "of_uq") (by wtm_at "of_uq") (by wtm_at "of_uq") ⟨sx0, sy0⟩ ⟨sx0, sy1⟩ ⟨by unfold Sb; decide, by unfold Sb; decide⟩ ⟨sb_neg1 sx0, sb_neg1 sy0⟩ hv
        exact hN _ _ ⟨t3, x3, y3, rfl, T6, (l3.trans (show Ex H3 _ from by wtm_at "of_exs").le).trans l6, h3, s3.1, s3.2⟩
      · wtm_at "of_ra"
        exact hN _ _ ⟨t1, x1, y1, rfl, T3.mono (by decide), l3, l3.tup h1, sx1, sy1⟩
    rintro σ3 H3 ⟨t3, x3, y3, rfl, hT3, l3, h3, sx3, sy3⟩
    have tb3 := tabs_le tb2 l3
    have h03 := l3.tup h0
    have h23 := l3.tup h2
    refine r_seqL (fun σ' H' => ∃ (m o : Int), σ' = [some (.ref a0), some (.ref p), none, none, some (.ref t0), some (.ref t3), some (.ref t2), some (.int m), some (.int o), none] ∧ Tape H' p c 409 ∧ Le H3 H' ∧ Sb 140 m ∧ 0 < o ∧ Sb 100 o) (fun N hN => ?_) ?_
    · wtm_at "of_ra"
      refine ⟨p, 40, 308, rfl, c, hT3, by decide, by decide, by decide, ?_⟩
      intro H4 m l4 T4 _ hm
      wtm_at "of_ra"
      refine ⟨p, 20, _, rfl, c, T4, by decide, by decide, by decide, ?_⟩
      intro H5 o l5 T5 o0 ho
      wtm_at "of_ra"
      have o0 := o0 rfl
      exact hN _ _ ⟨m, 1 + o, rfl, Tape.ex (by wtm_at "of_exs") T5, (l4.trans l5).trans (show Ex H5 _ from by wtm_at "of_exs").le, Nat.lt_trans hm (by decide), by omega, sb_one (Nat.lt_trans ho (by decide : 10 ^ 20 < 2 ^ 99)) o0⟩
    rintro σ4 H4 ⟨m, o, rfl, hT4, l4, sm, o0, so⟩
    have tb4 := tabs_le tb3 l4
    have h04 := l4.tup h03
    have h24 := l4.tup h23
    have h34 := l4.tup h3
    refine r_seqL (fun σ' H' => σ' = [some (.ref a0), some (.ref p), none, none, some (.ref t0), some (.ref t3), some (.ref t2), some (.int m), some (.int o), none] ∧ Ex H4 H') (fun N hN => ?_) ?_
    · wtm_at "of_ra"
      refine ⟨t0, t3, m, o, x0, y0, x3, y3, rfl, h04, h34, o0, sx0, sy0, sx3, sy3, sm, so, ?_⟩
      intro H5 e5
      wtm_at "of_ra"
      refine ⟨t2, t2, m, o, x2, y2, x2, y2, rfl, e5 _ _ h24, e5 _ _ h24, o0, sx2, sy2, sx2, sy2, sm, so, ?_⟩
      intro H6 e6
      wtm_at "of_ra"
      exact hN _ _ ⟨rfl, e5.trans e6⟩
    rintro σ5 H5 ⟨rfl, e5⟩
    have hT5 := Tape.ex e5 hT4
    have tb5 := tabs_ex tb4 e5
    refine r_seqL (fun σ' H' => σ' = [some (.ref a0), some (.ref p), none, none, some (.ref t0), some (.ref t3), some (.ref t2), some (.int m), some (.int o), none] ∧ Le H5 H' ∧ Tape H' p c 5409) (fun N hN => ?_) ?_
    · wtm_at "of_ra"
      refine ⟨t0, t3, t2, m, o, x0, y0, x3, y3, x2, y2, rfl, e5 _ _ h04, e5 _ _ h34, e5 _ _ h24, o0, sx0, sy0, sx3, sy3, sx2, sy2, sm, so, ?_⟩
      intro H6 e6
      wtm_at "of_ra"
      refine ⟨p, 409, rfl, c, Tape.ex e6 hT5, by decide, ?_⟩
      intro H7 l7 T7
      wtm_at "of_ra"
      exact hN _ _ ⟨rfl, e6.le.trans l7, T7⟩
    rintro σ6 H6 ⟨rfl, l6, hT6⟩
    have tb6 := tabs_le tb5 l6
    refine r_seqL (fun σ' H' => ∃ (v : V) (i : Nat), σ' = [some (.ref a0), some (.ref p), some v, none, some (.ref t0), some (.ref t3), some (.ref t2), some (.int m), some (.int o), none] ∧ OddK H' i v ∧ i < 6 ∧ LamX.Tabs [(PZ, qL)] H') (fun N hN => ?_) ?_
    · wtm_at "of_ra"
      refine ⟨p, _, _, _, rfl, c, Tape.ex (by wtm_at "of_exs") hT6, by decide, by wtm_at "of_uq", by exact Nat.succ_pos _, by show 6 ≤ 1000000; decide, ?_⟩
      intro H7 i v le1 T1 hv
      wtm_at "of_ra"
      obtain ⟨k1, k2⟩ := odd_pick10 (H := H7) (by wtm_at "of_uq") (by wtm_at "of_uq") hv
      exact hN _ _ ⟨v, i, rfl, k1, k2, tabs_le (tabs_ex tb6 (by wtm_at "of_exs")) le1⟩
    rintro σ7 H7 ⟨v, i, rfl, odd, i6, tb7⟩
    wtm_at "of_ra"
    refine r_lamV (by wtm_at "of_tbs") ?_
    intro G0 f0 c0 x0' tt0 n0 l0 d0
    have Lm0 := mk_lam (X := (cxOf (L2.CX P w) P w K mg base ["_law_script", "_law_tape", "_law_odd", "_law_calls", "_law_one", "_law_other", "_law_spot_here", "_law_number_here", "_law_over", "_law_call"] "law" (defScope s_law) f (.ref cL) A outer s H E)) (k := 8) l0 d0 ⟨LamX.lamS_by (sc := defScope s_law) (by decide +kernel), fun _ _ _ _ _ => rfl, fun A2 o2 s2 H2 E2 f2 c2 hr2 => (pe_ck c_Point_2 hr2 (by decide) (by rfl) (psL (X := (cxOf (L2.CX P w) P w K mg base ["_law_script", "_law_tape", "_law_odd", "_law_calls", "_law_one", "_law_other", "_law_spot_here", "_law_number_here", "_law_over", "_law_call"] "law" (defScope s_law) f (.ref cL) A outer s H E)) (A := A2) (outer := o2) (s := s2) (H := H2) (f := f2) (c' := c2)) (pa_cons (pv 2) (pa_cons pe_int pa_nil)))⟩
    wtm_at "of_ra"
    refine r_lamV (by wtm_at "of_tbs") ?_
    intro G1 f1 c1 x1' tt1 n1 l1 d1
    have Lm1 := mk_lam (X := (cxOf (L2.CX P w) P w K mg base ["_law_script", "_law_tape", "_law_odd", "_law_calls", "_law_one", "_law_other", "_law_spot_here", "_law_number_here", "_law_over", "_law_call"] "law" (defScope s_law) f (.ref cL) A outer s H E)) (k := 8) l1 d1 ⟨LamX.lamS_by (sc := defScope s_law) (by decide +kernel), fun _ _ _ _ _ => rfl, fun A2 o2 s2 H2 E2 f2 c2 hr2 => (pe_ck c_Point_2 hr2 (by decide) (by rfl) (psL (X := (cxOf (L2.CX P w) P w K mg base ["_law_script", "_law_tape", "_law_odd", "_law_calls", "_law_one", "_law_other", "_law_spot_here", "_law_number_here", "_law_over", "_law_call"] "law" (defScope s_law) f (.ref cL) A outer s H E)) (A := A2) (outer := o2) (s := s2) (H := H2) (f := f2) (c' := c2)) (pa_cons (pe_ck c_Ratio_2 hr2 (by decide) (by rfl) (psL (X := (cxOf (L2.CX P w) P w K mg base ["_law_script", "_law_tape", "_law_odd", "_law_calls", "_law_one", "_law_other", "_law_spot_here", "_law_number_here", "_law_over", "_law_call"] "law" (defScope s_law) f (.ref cL) A outer s H E)) (A := A2) (outer := o2) (s := s2) (H := H2) (f := f2) (c' := c2)) (pa_cons pe_int (pa_cons pe_int pa_nil))) (pa_cons (pv 2) pa_nil)))⟩
    wtm_at "of_ra"
    refine r_lamV (by wtm_at "of_tbs") ?_
    intro G2 f2 c2 x2' tt2 n2 l2 d2
    have Lm2 := mk_lam (X := (cxOf (L2.CX P w) P w K mg base ["_law_script", "_law_tape", "_law_odd", "_law_calls", "_law_one", "_law_other", "_law_spot_here", "_law_number_here", "_law_over", "_law_call"] "law" (defScope s_law) f (.ref cL) A outer s H E)) (k := 8) l2 d2 ⟨LamX.lamS_by (sc := defScope s_law) (by decide +kernel), fun _ _ _ _ _ => rfl, fun A2 o2 s2 H2 E2 f2 c2 hr2 => (pe_ck c_Point_2 hr2 (by decide) (by rfl) (psL (X := (cxOf (L2.CX P w) P w K mg base ["_law_script", "_law_tape", "_law_odd", "_law_calls", "_law_one", "_law_other", "_law_spot_here", "_law_number_here", "_law_over", "_law_call"] "law" (defScope s_law) f (.ref cL) A outer s H E)) (A := A2) (outer := o2) (s := s2) (H := H2) (f := f2) (c' := c2)) (pa_cons (pv 2) (pa_cons pe_non pa_nil)))⟩
    wtm_at "of_ra"
    refine r_lamV (by wtm_at "of_tbs") ?_
    intro G3 f3 c3 x3' tt3 n3 l3 d3
    have Lm3 := mk_lam (X := (cxOf (L2.CX P w) P w K mg base ["_law_script", "_law_tape", "_law_odd", "_law_calls", "_law_one", "_law_other", "_law_spot_here", "_law_number_here", "_law_over", "_law_call"] "law" (defScope s_law) f (.ref cL) A outer s H E)) (k := 8) l3 d3 ⟨LamX.lamS_by (sc := defScope s_law) (by decide +kernel), fun _ _ _ _ _ => rfl, fun A2 o2 s2 H2 E2 f2 c2 hr2 => (pe_ck c_Form_2 hr2 (by decide) (by rfl) (psL (X := (cxOf (L2.CX P w) P w K mg base ["_law_script", "_law_tape", "_law_odd", "_law_calls", "_law_one", "_law_other", "_law_spot_here", "_law_number_here", "_law_over", "_law_call"] "law" (defScope s_law) f (.ref cL) A outer s H E)) (A := A2) (outer := o2) (s := s2) (H := H2) (f := f2) (c' := c2)) (pa_cons (pv 2) (pa_cons pe_int pa_nil)))⟩
    wtm_at "of_ra"
    refine r_lamV (by wtm_at "of_tbs") ?_
    intro G4 f4 c4 x4' tt4 n4 l4 d4
    have Lm4 := mk_lam (X := (cxOf (L2.CX P w) P w K mg base ["_law_script", "_law_tape", "_law_odd", "_law_calls", "_law_one", "_law_other", "_law_spot_here", "_law_number_here", "_law_over", "_law_call"] "law" (defScope s_law) f (.ref cL) A outer s H E)) (k := 8) l4 d4 ⟨LamX.lamS_by (sc := defScope s_law) (by decide +kernel), fun _ _ _ _ _ => rfl, fun A2 o2 s2 H2 E2 f2 c2 hr2 => (pe_ck c_Form_2 hr2 (by decide) (by rfl) (psL (X := (cxOf (L2.CX P w) P w K mg base ["_law_script", "_law_tape", "_law_odd", "_law_calls", "_law_one", "_law_other", "_law_spot_here", "_law_number_here", "_law_over", "_law_call"] "law" (defScope s_law) f (.ref cL) A outer s H E)) (A := A2) (outer := o2) (s := s2) (H := H2) (f := f2) (c' := c2)) (pa_cons pe_int (pa_cons (pv 2) pa_nil)))⟩
    wtm_at "of_ra"
    wtm_at "of_gx10"
    refine q_mkPw1 (n := i) kR rfl (by wtm_at "of_uq") (by omega) ?_
    intro _ _
    wtm_at "of_ra"
    wtm_at "of_gx10"
    refine q_mkPw2 (n := i) kR rfl (num_r (by wtm_at "of_uq")) (by wtm_at "of_szb") (by wtm_at "of_uq") (by omega) ?_
    intro _ _
    wtm_at "of_ra"
    wtm_at "of_gx10"
    refine q_mkPw1 (n := i) kR rfl (by wtm_at "of_uq") (by omega) ?_
    intro _ _
    wtm_at "of_ra"
    wtm_at "of_gx10"
    refine q_mkPw1 (n := i) kR rfl (by wtm_at "of_uq") (by omega) ?_
    intro _ _
    wtm_at "of_ra"
    wtm_at "of_gx10"
    refine q_mkPw2 (n := i) kR rfl (.inl ⟨2, rfl, rfl⟩) (by wtm_at "of_szb") (by wtm_at "of_uq") (by omega) ?_
    intro _ _
    wtm_at "of_ra"
    refine r_rep (by wtm_at "of_uq") (by decide) (by decide) (by show 1 ≤ 1000; decide) ?_
    intro p9 H9 e9 n9 h9
    have h9' : H9 p9 = some (.lst [.str (oddD i).shown, .str (oddD i).shown, .str (oddD i).shown, .str (oddD i).shown, .str (oddD i).shown]) := h9
    refine ⟨⟨_, _, _, rfl, rfl, .inr ⟨?_, h9'⟩, fun z hz => ?_⟩, ?_⟩
    · wtm_at "of_uq"
    · simp only [List.mem_cons, List.not_mem_nil, or_false, or_self] at hz
      subst hz
      exact .inl rfl
    wtm_at "of_ra"
    refine r_give ?_
    refine r_lamV (tabs_ex tt4 (by wtm_at "of_exs")) ?_
    intro G5 f5 c5 x5' tt5 n5 l5 d5
    have Lm5 := mk_lam (X := (cxOf (L2.CX P w) P w K mg base ["_law_script", "_law_tape", "_law_odd", "_law_calls", "_law_one", "_law_other", "_law_spot_here", "_law_number_here", "_law_over", "_law_call"] "law" (defScope s_law) f (.ref cL) A outer s H E)) (k := 8) l5 d5 ⟨LamX.lamS_by (sc := defScope s_law) (by decide +kernel), fun _ _ _ _ _ => rfl, fun A2 o2 s2 H2 E2 f2 c2 hr2 => (pe_ck c_Point_2 hr2 (by decide) (by rfl) (psL (X := (cxOf (L2.CX P w) P w K mg base ["_law_script", "_law_tape", "_law_odd", "_law_calls", "_law_one", "_law_other", "_law_spot_here", "_law_number_here", "_law_over", "_law_call"] "law" (defScope s_law) f (.ref cL) A outer s H E)) (A := A2) (outer := o2) (s := s2) (H := H2) (f := f2) (c' := c2)) (pa_cons (pv 7) (pa_cons (pe_ck c_Ratio_2 hr2 (by decide) (by rfl) (psL (X := (cxOf (L2.CX P w) P w K mg base ["_law_script", "_law_tape", "_law_odd", "_law_calls", "_law_one", "_law_other", "_law_spot_here", "_law_number_here", "_law_over", "_law_call"] "law" (defScope s_law) f (.ref cL) A outer s H E)) (A := A2) (outer := o2) (s := s2) (H := H2) (f := f2) (c' := c2)) (pa_cons (pv 7) (pa_cons (pv 8) pa_nil))) pa_nil)))⟩
    refine ⟨f5, _, rfl, Lm5, ?_⟩
    refine give10 ?_
    (try dsimp only)
    wtm_at "of_ra"
    refine ⟨_, rfl, ?_⟩
    wtm_at "of_ra"
    exact k _
end
end
section
open PySem PySem.Spec PyProof.Rows L2
open PySem.AutoSeq1
section
variable {prog : Program} {w : World}
theorem eqb_open {A : Around} {x y : Value} {Q : Bool → Shared → Prop} {E : Value → Shared → Prop} {s : Shared} (h : wpAny (model prog w) A (eqBool x y) Q E s) :
    wpAny (model prog w) A (do
      if x == y then rule "eq-bool.same-object"; return true
      if let (.float _ _, .float _ _) := (x, y) then
        if ← isSame x y then return true
      truthOfDropped (← richCompare .Eq x y)) Q E s := fun Γ p hΓ => by
  have := h Γ p hΓ
  unfold eqBool at this
  rw [Sem.wp_holding] at this
  exact this
/-- two tuples of two items each -/
theorem two_two (l b : Addr) (x0 x1 y0 y1 : Value) (n n2 : Nat) (dd dd2 : Option Addr) (sl sl2 : Array (Option Value)) :
    MeetsIn prog w (Builtin.«tuple.__eq__» ⟨[.ref l, .ref b], []⟩)
      (fun A R s => s.heap.get? l = some ⟨.type "tuple", dd, .seq #[x0, x1] n, sl⟩ ∧ s.heap.get? b = some ⟨.type "tuple", dd2, .seq #[y0, y1] n2, sl2⟩ ∧
        wpAny (model prog w) A.in1 (eqBool x0 y0) (fun r s1 => if r = true then wpAny (model prog w) A.in1 (eqBool x1 y1) (fun r2 s2 => R (.ok (.ret (.bool r2))) s2) (fun e s' => R (.error e) s') s1 else R (.ok (.ret (.bool false))) s1) (fun e s' => R (.error e) s') s) := by
  refine MeetsIn.of_wp fun A R s h => ?_
  obtain ⟨hp, g, d, tk, os⟩ := s
  obtain ⟨ha, hb, h⟩ := h
  have ft := AutoSeq1.sub_tuple_tuple
  wp_walk using wpAny_loadPart' ha,
    wpAny_loadPart' hb
  refine wpAny_mono (eqb_open h) (fun r s1 h1 => ?_) fun _ _ y => y
  cases r with
  | false =>
    have h2 : R (.ok (.ret (.bool false))) s1 := h1
    wp_walk
    exact ⟨_, rfl, h2⟩
  | true =>
    have h2 : wpAny (model prog w) A.in1 (eqBool x1 y1) (fun r2 s2 => R (.ok (.ret (.bool r2))) s2) (fun e s' => R (.error e) s') s1 := h1
    wp_walk
    refine wpAny_mono (eqb_open h2) (fun r s2 h3 => ?_) fun _ _ y => y
    cases r with
    | false =>
      wp_walk
      exact ⟨_, rfl, h3⟩
    | true =>
      wp_walk
      exact ⟨_, rfl, h3⟩
end
section
variable {X : Cx} {CX : CXT} {pins : List (Addr × Obj)} {σ : L2.St} {H : Hp} {s : Shared} {C f : Addr} {n : Nat} {E : XK} {mg : Str → Option Value}
theorem isR_inj {a : Addr} {q r : Rat} (h : IsR C H a q) (h' : IsR C H a r) : q = r := by
  obtain ⟨d, h⟩ := h
  obtain ⟨d', h'⟩ := h'
  rw [h] at h'
  simp only [Option.some.injEq, HO.ins.injEq, fR, List.cons.injEq, Prod.mk.injEq, V.int.injEq, and_true, true_and] at h'
  exact (eq_iff q r).mp ⟨h'.2.1, h'.2.2⟩
/-- two values, of which the identity comes first -/
theorem eqb_ref {A : Around} {a b : Addr} {k : Bool} {R : Shared → Prop} (h0 : a = b → k = true ∧ R s)
    (h1 : a ≠ b → wpAny (model X.prog X.w) A (richCompare .Eq (.ref a) (.ref b)) (fun v s' => v = .bool k ∧ R s') X.xe s) :
    wpAny (model X.prog X.w) A (eqBool (.ref a) (.ref b)) (fun r s' => r = k ∧ R s') X.xe s := by
  unfold eqBool
  refine wpAny_holding ?_
  by_cases z : a = b
  · obtain ⟨e, hR⟩ := h0 z
    refine wpAny_ite_split (fun _ => ?_) (fun hn => absurd (by rw [z]; exact beq_self_eq_true _) hn)
    exact wpAny_bind (wpAny_rule (wpAny_pure ⟨e.symm, hR⟩))
  · refine wpAny_ite_split (fun hab => absurd (by have := eq_of_beq hab; injection this) z) (fun _ => ?_)
    refine wpAny_bind (thn (h1 z) fun v s' hv => ?_)
    obtain ⟨rfl, hR⟩ := hv
    exact wpAny_truthy_bool ⟨rfl, hR⟩
/-- two tuples of two items each: the items at hand -/
theorem eqb_tup {A : Around} {u v : Addr} {x0 x1 y0 y1 : V} {k0 k1 : Bool} (hu : A.units < cLine) (I : Inv X pins σ H s) (h1 : H u = some (.tup [x0, x1])) (h2 : H v = some (.tup [y0, y1]))
    (e0 : ∀ (s : Shared) (a b : Value), Inv X pins σ H s → RelV x0 a → RelV y0 b → wpAny (model X.prog X.w) A.in1 (eqBool a b) (fun k s' => k = k0 ∧ Inv X pins σ H s') X.xe s)
    (e1 : ∀ (s : Shared) (a b : Value), Inv X pins σ H s → RelV x1 a → RelV y1 b → wpAny (model X.prog X.w) A.in1 (eqBool a b) (fun k s' => k = k1 ∧ Inv X pins σ H s') X.xe s) :
    wpAny (model X.prog X.w) A (richCompare .Eq (.ref u) (.ref v)) (fun r s' => r = .bool (k0 && k1) ∧ Inv X pins σ H s') X.xe s := by
  obtain ⟨its, r1, ⟨o1, g1, c1, n1, d1⟩, _⟩ := I.tuple (SqT.of h1)
  obtain ⟨jts, r2, ⟨o2, g2, c2, n2, d2⟩, _⟩ := I.tuple (SqT.of h2)
  obtain ⟨a0, a1, rfl, p0, p1⟩ := vals2 r1
  obtain ⟨b0, b1, rfl, q0, q1⟩ := vals2 r2
  obtain ⟨cls1, dd1, data1, sl1⟩ := o1
  obtain ⟨cls2, dd2, data2, sl2⟩ := o2
  simp only at c1 d1 c2 d2
  subst c1 d1 c2 d2
  refine wpAny_richCompare_same_room (T := "tuple") (op := .Eq) ⟨_, g1, rfl⟩ ⟨_, g2, rfl⟩ PySem.F.slot_tuple_eq (call_meetsIn PySem.F.slot_tuple_eq ⟨_, g1, rfl⟩ PySem.F.entry_tuple_eq (PySem.F.args_tuple_eq_2 _ _) (two_two u v a0 a1 b0 b1 n1 n2 dd1 dd2 sl1 sl2) ⟨g1, g2, ?_⟩) hu
  refine thn (e0 s a0 b0 I p0 q0) fun k s1 hk => ?_
  obtain ⟨rfl, I1⟩ := hk
  cases k with
  | false => exact ⟨(fun z => nomatch z), rfl, I1⟩
  | true =>
    refine thn (e1 s1 a1 b1 I1 p1 q1) fun k s2 hk => ?_
    obtain ⟨rfl, I2⟩ := hk
    exact ⟨(fun z => nomatch z), rfl, I2⟩
variable (hs : PySem.W.findIn X.K (.ref C) "__eq__" = some (some (.ref f))) (hf : PySem.W.isFn X.K (.ref f) = true) (F : FnR X.prog X.w X.K X.mg X.base CX n f (spREq X.K C)) (hx : Passes CX X E) (T : RT X.K mg C)
include hs hf F hx T
theorem eqb_R (hr : Room (n + 2) X.A) (I : Inv X pins σ H s) {a b : Addr} {q r : Rat} (ha : IsR C H a q) (hb : IsR C H b r) :
    wpAny (model X.prog X.w) X.A.in1.in1 (eqBool (.ref a) (.ref b)) (fun k s' => k = decide (q = r) ∧ Inv X pins σ H s') X.xe s := by
  refine eqb_ref (fun z => ?_) fun z => ?_
  · subst z
    exact ⟨decide_eq_true (isR_inj ha hb), I⟩
  · obtain ⟨dx, h1⟩ := _root_.id ha
    obtain ⟨od, J⟩ := ins_inst I h1
    obtain ⟨m, hF⟩ := I.fr
    refine thn (PySem.W.cmp_K (op := .Eq) (Q := EP X pins σ fun v H' => v = .bl (decide (q = r)) ∧ H' = H) hr.in1.in1.units0 hF I.ok.mod.kin J (ty_look (y := .ref b) I rfl (hb.tyx T)) nf_self hs hf
      (thn (run_fnR1 (us := [.ref a, .ref b]) (vs := [.ref a, .ref b]) F hr.in1.in1 I.env0.in1.in1 hx I (.cons rfl (.cons rfl .nil)) (q_REq ha (num_r hb) ⟨rfl, rfl⟩)) fun _ _ z => cb_of z)) fun v s' h => ?_
    obtain ⟨x, H', I', rv, rfl, rfl⟩ := h
    exact ⟨rv, I'⟩
theorem eqb_row (hr : Room (n + 2) X.A) (I : Inv X pins σ H s) {u v a0 a1 b0 b1 : Addr} {p q p' q' : Rat} (h1 : H u = some (.tup [.ref a0, .ref a1])) (h2 : H v = some (.tup [.ref b0, .ref b1]))
    (i1 : IsR C H a0 p) (i2 : IsR C H a1 q) (j1 : IsR C H b0 p') (j2 : IsR C H b1 q') :
    wpAny (model X.prog X.w) X.A.in1 (eqBool (.ref u) (.ref v)) (fun k s' => k = (decide (p = p') && decide (q = q')) ∧ Inv X pins σ H s') X.xe s := by
  refine eqb_ref (fun z => ?_) fun _ => eqb_tup hr.in1.units0 I h1 h2 (fun s a b I ra rb => ?_) (fun s a b I ra rb => ?_)
  · subst z
    rw [h1] at h2
    cases h2
    exact ⟨by rw [decide_eq_true (isR_inj i1 j1), decide_eq_true (isR_inj i2 j2)]; rfl, I⟩
  · cases (show a = Value.ref a0 from ra)
    cases (show b = Value.ref b0 from rb)
    exact eqb_R hs hf F hx T hr I i1 j1
  · cases (show a = Value.ref a1 from ra)
    cases (show b = Value.ref b1 from rb)
    exact eqb_R hs hf F hx T hr I i2 j2
/-- two tables of two rows of two Ratios -/
def rTabEq (C : Addr) : R2 := fun x y H Q => ∃ (t t' u v u' v' r1 r2 r3 r4 s1 s2 s3 s4 : Addr) (a b c d a' b' c' d' : Rat), x = .ref t ∧ y = .ref t' ∧ H t = some (.tup [.ref u, .ref v]) ∧ H t' = some (.tup [.ref u', .ref v']) ∧
  H u = some (.tup [.ref r1, .ref r2]) ∧ H v = some (.tup [.ref r3, .ref r4]) ∧ H u' = some (.tup [.ref s1, .ref s2]) ∧ H v' = some (.tup [.ref s3, .ref s4]) ∧
  IsR C H r1 a ∧ IsR C H r2 b ∧ IsR C H r3 c ∧ IsR C H r4 d ∧ IsR C H s1 a' ∧ IsR C H s2 b' ∧ IsR C H s3 c' ∧ IsR C H s4 d' ∧ Q (.bl (decide (a = a' ∧ b = b' ∧ c = c' ∧ d = d'))) H
theorem op_eqTab (hr : Room (n + 2) X.A) : OpR X (compareOp .Eq) (rTabEq C) := by
  intro pins s σ H x y v u Q I rx ry h
  obtain ⟨t, t', u1, v1, u1', v1', r1, r2, r3, r4, s1, s2, s3, s4, a, b, c, d, a', b', c', d', rfl, rfl, h0, g0, h1, h2, g1, g2, i1, i2, i3, i4, j1, j2, j3, j4, q⟩ := h
  cases (show v = Value.ref t from rx)
  cases (show u = Value.ref t' from ry)
  refine thn (eqb_tup (k0 := decide (a = a') && decide (b = b')) (k1 := decide (c = c') && decide (d = d')) hr.units0 I h0 g0 (fun s x y I ra rb => ?_) (fun s x y I ra rb => ?_)) fun w s' hw => ?_
  · cases (show x = Value.ref u1 from ra)
    cases (show y = Value.ref u1' from rb)
    exact eqb_row hs hf F hx T hr I h1 g1 i1 i2 j1 j2
  · cases (show x = Value.ref v1 from ra)
    cases (show y = Value.ref v1' from rb)
    exact eqb_row hs hf F hx T hr I h2 g2 i3 i4 j3 j4
  · obtain ⟨rfl, I'⟩ := hw
    refine ⟨.bl _, H, I', rfl, ?_⟩
    rw [show (decide (a = a') && decide (b = b') && (decide (c = c') && decide (d = d'))) = decide (a = a' ∧ b = b' ∧ c = c' ∧ d = d') from by simp [Bool.and_assoc, Bool.decide_and]]
    exact q
end
end
section
open PySem PySem.Spec PyProof.Rows L2 He LamX
/-- a tuple of two rows of two Ratios -/
def TabR (CR : Addr) (H : Hp) (t : Addr) (a b c d : Rat) : Prop := ∃ u v r1 r2 r3 r4 : Addr, H t = some (.tup [.ref u, .ref v]) ∧ H u = some (.tup [.ref r1, .ref r2]) ∧ H v = some (.tup [.ref r3, .ref r4]) ∧ IsR CR H r1 a ∧ IsR CR H r2 b ∧ IsR CR H r3 c ∧ IsR CR H r4 d
theorem TabR.ex {CR t : Addr} {H H' : Hp} {a b c d : Rat} (e : Ex H H') (h : TabR CR H t a b c d) : TabR CR H' t a b c d := by
  obtain ⟨u, v, r1, r2, r3, r4, h0, h1, h2, i1, i2, i3, i4⟩ := h
  exact ⟨u, v, r1, r2, r3, r4, e _ _ h0, e _ _ h1, e _ _ h2, i1.ex e, i2.ex e, i3.ex e, i4.ex e⟩
theorem TabR.mk {CR : Addr} {H : Hp} {t u v r1 r2 r3 r4 : Addr} {a b c d : Rat} (h0 : H t = some (.tup [.ref u, .ref v])) (h1 : H u = some (.tup [.ref r1, .ref r2])) (h2 : H v = some (.tup [.ref r3, .ref r4])) (i1 : IsR CR H r1 a) (i2 : IsR CR H r2 b) (i3 : IsR CR H r3 c) (i4 : IsR CR H r4 d) : TabR CR H t a b c d := ⟨u, v, r1, r2, r3, r4, h0, h1, h2, i1, i2, i3, i4⟩
/-- of size, for products -/
abbrev Su (q : Rat) : Prop := Sr 1950 q
/-- of size, for common denominators -/
abbrev Sv (q : Rat) : Prop := Sr 600 q
theorem Su.bq {q : Rat} (h : Su q) : Bq q := Sr.bq h (by decide)
theorem Sv.su {q : Rat} (h : Sv q) : Su q := Sr.mono h (by decide)
structure S4 (n : Nat) (a b c d : Rat) : Prop where
  b1 : Sr n a
  b2 : Sr n b
  b3 : Sr n c
  b4 : Sr n d
theorem S4.mono {n m : Nat} {a b c d : Rat} (h : S4 n a b c d) (hn : n ≤ m) : S4 m a b c d := ⟨h.b1.mono hn, h.b2.mono hn, h.b3.mono hn, h.b4.mono hn⟩
theorem bq_ng {q : Rat} (h : Bq q) : Bq (-q) := by
  obtain ⟨h1, h2⟩ := h
  refine ⟨?_, by rw [Rat.neg_den]; exact h2⟩
  unfold Bt at *
  rw [Rat.neg_num, Int.natAbs_neg]
  exact h1
/-- one * other + another * last -/
def spSum (CR : Addr) : Sp := fun vs H Q _ => ∃ (p1 p2 p3 p4 : Addr) (q r s t : Rat), vs = [.ref p1, .ref p2, .ref p3, .ref p4] ∧ IsR CR H p1 q ∧ IsR CR H p2 r ∧ IsR CR H p3 s ∧ IsR CR H p4 t ∧ Su q ∧ Su r ∧ Su s ∧ Su t ∧ ∀ H' z, Ex H H' → IsR CR H' z (q * r + s * t) → Q (.ref z) H'
def spCar (CP CR : Addr) : Sp := fun vs H Q _ => ∃ (p t : Addr) (a b c d x y : Rat), vs = [.ref p, .ref t] ∧ IsP CP CR H p x y ∧ TabR CR H t a b c d ∧ S4 1950 a b c d ∧ Su x ∧ Su y ∧ Bq (a * x + b * y) ∧ Bq (c * x + d * y) ∧ ∀ H' q, Ex H H' → IsP CP CR H' q (a * x + b * y) (c * x + d * y) → Q (.ref q) H'
/-- a common denominator of a table -/
def lcm4 (a b c d : Nat) : Nat := ((a.lcm b).lcm c).lcm d
def rLcm4 : List V → Hp → VK → Prop := fun vs H Q => ∃ a b c d : Nat, vs = [.int a, .int b, .int c, .int d] ∧ (a < 2 ^ 1000 ∧ b < 2 ^ 1000 ∧ c < 2 ^ 1000 ∧ d < 2 ^ 1000) ∧ Q (.int ((lcm4 a b c d : Nat) : Int)) H
theorem lcm_lt {a b n m : Nat} (h : a < 2 ^ n) (g : b < 2 ^ m) : a.lcm b < 2 ^ (n + m) := Nat.lt_of_le_of_lt (Nat.div_le_self _ _) (pow_mul_lt h g)
theorem log_of {a n : Nat} (h0 : 0 < n) (h : a < 2 ^ n) : a.log2 < n := PySem.Flt.log2_lt_of h0 h
theorem max_lt2 {a b n : Nat} (h : a < 2 ^ n) (g : b < 2 ^ n) : max a b < 2 ^ n := by rcases Nat.le_total a b with z | z <;> simp only [Nat.max_eq_left, Nat.max_eq_right, z] <;> assumption
theorem lcm4_run (a b c d : Int) (t u v w : Tok) (h1 : ¬ (max 1 a.natAbs).log2 / 30 + 1 > 450) (h2 : ¬ (max a.natAbs b.natAbs).log2 / 30 + 1 > 450) (h3 : ¬ (max (a.natAbs.lcm b.natAbs) c.natAbs).log2 / 30 + 1 > 450) (h4 : ¬ (max ((a.natAbs.lcm b.natAbs).lcm c.natAbs) d.natAbs).log2 / 30 + 1 > 450)
    (h5 : (((lcm4 a.natAbs b.natAbs c.natAbs d.natAbs : Nat) : Int)).natAbs.log2 < bitsLine) :
    Gives (Builtin.«math.lcm» ⟨[.int a t, .int b u, .int c v, .int d w], []⟩) (.int ((lcm4 a.natAbs b.natAbs c.natAbs d.natAbs : Nat) : Int)) := by
  have e : Nat.lcm 1 a.natAbs = a.natAbs := Nat.lcm_one_left _
  have e4 : lcm4 a.natAbs b.natAbs c.natAbs d.natAbs = (((Nat.lcm 1 a.natAbs).lcm b.natAbs).lcm c.natAbs).lcm d.natAbs := by rw [e]; rfl
  rw [e4] at h5 ⊢
  rw [← e] at h2 h3 h4
  exact .of_wp fun M A E s Q h => by
    obtain ⟨hp, g, dd, tk, os⟩ := s
    wp_walk
    refine wpAny_ite_split (fun z => absurd z h2) fun _ => ?_
    wp_walk
    refine wpAny_ite_split (fun z => absurd z h3) fun _ => ?_
    wp_walk
    refine wpAny_ite_split (fun z => absurd z h4) fun _ => ?_
    wp_walk
    (try (refine wpAny_ite_false (decide_eq_false (Nat.not_le.mpr h5)) ?_; wp_walk))
    exact ⟨_, rfl, h⟩
theorem args_lcm4 (a b c d : Value) : argsOk "math.lcm" ⟨[a, b, c, d], []⟩ := by unfold argsOk; kernel_rfl
theorem cr_lcm4 {X : Cx} : CallR X (.builtin "math.lcm") rLcm4 := by
  intro pins s σ H vs us Q I r h
  obtain ⟨a, b, c, d, rfl, ⟨ha, hb, hc, hd⟩, q⟩ := h
  obtain ⟨t, u, v, w, rfl⟩ : ∃ t u v w, us = [.int (a : Int) t, .int (b : Int) u, .int (c : Int) v, .int (d : Int) w] := by
    cases r with | cons r1 r =>
    cases r with | cons r2 r =>
    cases r with | cons r3 r =>
    cases r with | cons r4 r =>
    cases r
    obtain ⟨t, rfl⟩ := r1
    obtain ⟨u, rfl⟩ := r2
    obtain ⟨v, rfl⟩ := r3
    obtain ⟨w, rfl⟩ := r4
    exact ⟨t, u, v, w, rfl⟩
  have l2 := lcm_lt ha hb
  have l3 := lcm_lt l2 hc
  have l4 : lcm4 a b c d < 2 ^ 4000 := lcm_lt l3 hd
  have m1 : (max 1 a).log2 < 1000 := log_of (by decide) (max_lt2 (Nat.one_lt_two_pow (by decide)) ha)
  have m2 : (max a b).log2 < 1000 := log_of (by decide) (max_lt2 ha hb)
  have m3 : (max (a.lcm b) c).log2 < 2000 := log_of (by decide) (max_lt2 l2 (pow_mono hc (by decide)))
  have m4 : (max ((a.lcm b).lcm c) d).log2 < 3000 := log_of (by decide) (max_lt2 l3 (pow_mono hd (by decide)))
  have m5 := log_of (by decide) l4
  have e : bitsLine = 134217728 := by decide
  refine call_function_meets PySem.W.MGF.kind_lcm PySem.W.MGF.plain_lcm PySem.W.MGF.entry_lcm (args_lcm4 _ _ _ _) (lcm4_run a b c d t u v w ?_ ?_ ?_ ?_ ?_).meets ⟨.int _, H, I.tok _, ⟨_, rfl⟩, q⟩
  all_goals simp only [Int.natAbs_natCast]
  all_goals omega
/-- the integers of a table over one denominator -/
def spWhT (CR : Addr) : Sp := fun vs H Q _ => ∃ (t : Addr) (a b c d : Rat), vs = [.ref t] ∧ TabR CR H t a b c d ∧ S4 600 a b c d ∧
  ∀ (H' : Hp) (z : Addr) (A B G D m : Int), Ex H H' → H' z = some (.tup [.int A, .int B, .int G, .int D, .int m]) → FrQ a A m → FrQ b B m → FrQ c G m → FrQ d D m → 0 < m → Sb 2500 m → Sb 3200 A → Sb 3200 B → Sb 3200 G → Sb 3200 D → Q (.ref z) H'
def spFac (CR : Addr) : Sp := fun vs H Q _ => ∃ (t : Addr) (a b c d : Rat), vs = [.ref t] ∧ TabR CR H t a b c d ∧ S4 600 a b c d ∧ ∀ H' q, Ex H H' → IsR CR H' q (a * d - b * c) → Q (.ref q) H'
def spUnd (CR : Addr) : Sp := fun vs H Q _ => ∃ (t : Addr) (a b c d : Rat), vs = [.ref t] ∧ TabR CR H t a b c d ∧ S4 600 a b c d ∧ a * d - b * c ≠ 0 ∧
  ∀ H' q, Ex H H' → TabR CR H' q (d / (a * d - b * c)) (-b / (a * d - b * c)) (-c / (a * d - b * c)) (a / (a * d - b * c)) → Q (.ref q) H'
theorem lcm4_a {a b c d : Nat} : a ∣ lcm4 a b c d := Nat.dvd_trans (Nat.dvd_lcm_left a b) (Nat.dvd_trans (Nat.dvd_lcm_left _ c) (Nat.dvd_lcm_left _ d))
theorem lcm4_b {a b c d : Nat} : b ∣ lcm4 a b c d := Nat.dvd_trans (Nat.dvd_lcm_right a b) (Nat.dvd_trans (Nat.dvd_lcm_left _ c) (Nat.dvd_lcm_left _ d))
theorem lcm4_c {a b c d : Nat} : c ∣ lcm4 a b c d := Nat.dvd_trans (Nat.dvd_lcm_right _ c) (Nat.dvd_lcm_left _ d)
theorem lcm4_d {a b c d : Nat} : d ∣ lcm4 a b c d := Nat.dvd_lcm_right _ d
theorem lcm4_pos {a b c d : Nat} (ha : a ≠ 0) (hb : b ≠ 0) (hc : c ≠ 0) (hd : d ≠ 0) : 0 < lcm4 a b c d := Nat.pos_of_ne_zero (Nat.lcm_ne_zero (Nat.lcm_ne_zero (Nat.lcm_ne_zero ha hb) hc) hd)
/-- a fraction over a multiple of its denominator -/
theorem frq_over {q : Rat} {m : Nat} (h : q.den ∣ m) : FrQ q (q.num * ((m : Int).fdiv (q.den : Int))) m := by
  obtain ⟨k, rfl⟩ := h
  have hd : (q.den : Int) ≠ 0 := den_ne q
  rw [show ((q.den * k : Nat) : Int) = (q.den : Int) * (k : Int) from by push_cast; rfl, Int.mul_fdiv_cancel_left _ hd]
  apply FrQ.of_num
  rw [Int.mul_assoc, Int.mul_comm (k : Int)]
end
section
open PySem PySem.Spec PyProof.Rows L2 He LamX
/-- a tuple or a list -/
def SqA (K : PySem.W.Frag) (H : Hp) (a : Addr) (xs : List V) : Prop := SqT K H a xs ∨ SqL K H a xs
def gSeq (K : PySem.W.Frag) (n : Nat) (t : TGs) : TG := fun v σ H Q => ∃ a xs, v = .ref a ∧ SqA K H a xs ∧ xs.length = n ∧ t xs σ H Q
section
variable {X : Cx} {K : PySem.W.Frag} {x : Str} {C : Addr} {W : WX} {p pos pos' : Pos}
theorem kpg_seq {es : List Expr} {k : Nat} {t : TGs} (n : Nat) (h : X.K = K) (hc : X.calm = true) (hp : PGs X es t)
    (hn : (assignEach es X.env).length = n := by rfl) (hst : (assignEach es X.env).findIdx? (·.1) = none := by rfl) : PG X (.Tuple es k pos) (gSeq K n t) := by
  subst h
  refine ⟨fun pins s σ H v u Q I r q => ?_⟩
  obtain ⟨a, xs, e, h | h, hl, q⟩ := q
  · exact (pg_tup hc hp hn hst).run pins s σ H v u Q I r ⟨a, xs, e, h, hl, q⟩
  · exact (pg_lst hc hp hn hst).run pins s σ H v u Q I r ⟨a, xs, e, h, hl, q⟩
/-- an own error without fields -/
structure Cxf (K : PySem.W.Frag) (mg : Str → Option Value) (x : Str) (C : Addr) : Prop where
  c : Cx0 K mg x C
  sb : PySem.W.subIn K (.ref C) (.type "BaseException") = some true
  ty : PySem.W.typeIn K (.ref C) = some (.type "type")
theorem ps_rz0 (hK : X.K = K) (c : Cxf K X.mg x C) (tk : Takes X W) (hg : Gl X x) (hx : X.ex = [] := by rfl) (hc : X.calm = true := by rfl) (hdb : (x == ("__debug__" : Str)) = false := by decide) :
    PS X (.Raise (some (.Call (.Name x p) [] [] pos)) none pos') (fun _ σ H => (∀ a, H a = none → Fr0 X.H_0 a) ∧ ∀ H', Ex H H' → W (.ref C) none σ H') := by
  subst hK
  refine ⟨fun pins s σ H D I h => ?_⟩
  obtain ⟨fr, k⟩ := h
  refine (ps_raise hc tk (pmk_x hx (pe_x0 rfl c.c hg hdb))).run pins s σ H D I ?_
  intro a H' e n g
  refine ⟨a, C, none, rfl, g, fr a n, raises_own c.sb c.ty, k _ fun b o hb => ?_⟩
  have : b ≠ a := by intro z; subst z; rw [hb] at n; cases n
  unfold delH
  rw [if_neg this]
  exact e _ _ hb
end
end
section
open PySem PySem.Spec PyProof.Rows L2 He LamX
section
variable {K : PySem.W.Frag} {C CP CR CF CB p t : Addr} {H H' : Hp} {a b c d x y : Rat} {xs : List V}
theorem Rd.exA {u : HO} (e : Ex H H') (h : Rd H t u) : Rd H' t u := by
  rcases h with h | ⟨o, h⟩
  · exact .inl (e _ _ h)
  · exact .inr ⟨o, e _ _ h⟩
theorem SqA.ex (e : Ex H H') (h : SqA K H t xs) : SqA K H' t xs := by
  rcases h with (h | h) | (h | h)
  · exact .inl (.inl (Rd.exA e h))
  · exact .inl (.inr h)
  · exact .inr (.inl (Rd.exA e h))
  · exact .inr (.inr h)
theorem SqA.tup (h : H t = some (.tup xs)) : SqA K H t xs := .inl (SqT.of h)
theorem SqA.lst (h : H t = some (.lst xs)) : SqA K H t xs := .inr (SqL.of h)
/-- two rows of two numbers, as tuples or lists -/
def TabN (K : PySem.W.Frag) (CR : Addr) (H : Hp) (t : Addr) (a b c d : Rat) : Prop := ∃ (u v : Addr) (x1 x2 x3 x4 : V), SqA K H t [.ref u, .ref v] ∧ SqA K H u [x1, x2] ∧ SqA K H v [x3, x4] ∧ NumV CR H x1 a ∧ NumV CR H x2 b ∧ NumV CR H x3 c ∧ NumV CR H x4 d
theorem TabN.ex (e : Ex H H') (h : TabN K CR H t a b c d) : TabN K CR H' t a b c d := by
  obtain ⟨u, v, x1, x2, x3, x4, h0, h1, h2, i1, i2, i3, i4⟩ := h
  exact ⟨u, v, x1, x2, x3, x4, h0.ex e, h1.ex e, h2.ex e, i1.ex e, i2.ex e, i3.ex e, i4.ex e⟩
theorem TabN.mkL {u v r1 r2 r3 r4 : Addr} (h0 : H t = some (.lst [.ref u, .ref v])) (h1 : H u = some (.lst [.ref r1, .ref r2])) (h2 : H v = some (.lst [.ref r3, .ref r4])) (i1 : IsR CR H r1 a) (i2 : IsR CR H r2 b) (i3 : IsR CR H r3 c) (i4 : IsR CR H r4 d) : TabN K CR H t a b c d := ⟨u, v, _, _, _, _, .lst h0, .lst h1, .lst h2, num_r i1, num_r i2, num_r i3, num_r i4⟩
theorem TabR.n (h : TabR CR H t a b c d) : TabN K CR H t a b c d := by
  obtain ⟨u, v, r1, r2, r3, r4, h0, h1, h2, i1, i2, i3, i4⟩ := h
  exact ⟨u, v, _, _, _, _, .tup h0, .tup h1, .tup h2, num_r i1, num_r i2, num_r i3, num_r i4⟩
structure MT (K : PySem.W.Frag) (C : Addr) : Prop where
  k : ClsP K C
  nT : NoAttr K C "table"
  nS : NoAttr K C "shift"
/-- a motion: its table and what it adds -/
def IsM (C CP CR : Addr) (H : Hp) (p : Addr) (a b c d x y : Rat) : Prop := ∃ dx t s, H p = some (.ins C dx [("table", .ref t), ("shift", .ref s)]) ∧ TabR CR H t a b c d ∧ IsP CP CR H s x y
theorem IsM.ex (e : Ex H H') (h : IsM C CP CR H p a b c d x y) : IsM C CP CR H' p a b c d x y := by
  obtain ⟨dx, t, s, h1, h2, h3⟩ := h
  exact ⟨dx, t, s, e _ _ h1, h2.ex e, h3.ex e⟩
def ShV (CP CR : Addr) (H : Hp) (v : V) (x y : Rat) : Prop := (v = .non ∧ x = 0 ∧ y = 0) ∨ ∃ s, v = .ref s ∧ IsP CP CR H s x y
theorem ShV.ex {v : V} (e : Ex H H') (h : ShV CP CR H v x y) : ShV CP CR H' v x y := by
  rcases h with h | ⟨s, h1, h2⟩
  · exact .inl h
  · exact .inr ⟨s, h1, h2.ex e⟩
def spMInit (K : PySem.W.Frag) (C CP CR CF : Addr) : Sp := fun vs H Q E => ∃ (p dx t : Addr) (sv : V) (a b c d x y : Rat), vs = [.ref p, .ref t, sv] ∧ H p = some (.ins C dx []) ∧ TabN K CR H t a b c d ∧ ShV CP CR H sv x y ∧ S4 1950 a b c d ∧
  ((a * d - b * c ≠ 0 ∧ ∀ H', StayP p H H' → IsM C CP CR H' p a b c d x y → Q .non H') ∨ (a * d - b * c = 0 ∧ ∀ H', StayP p H H' → E (.ref CF) none H'))
theorem IsP.putI {o : HO} {dx : Addr} {fs : List (Str × V)} (h : IsP CP CR H t x y) (hp : H p = some (.ins C dx fs)) (hx : fs.lookup ("x" : Str) = none) (nt : fs.lookup ("top" : Str) = none) : IsP CP CR (upd H p o) t x y := by
  obtain ⟨dy, r1, r2, h1, h2, h3⟩ := h
  refine ⟨dy, r1, r2, ?_, h2.putI hp nt, h3.putI hp nt⟩
  rw [upd_ne]
  · exact h1
  · intro z
    subst z
    rw [hp] at h1
    cases h1
    rw [lk_x] at hx
    cases hx
theorem ShV.putI {o : HO} {dx : Addr} {fs : List (Str × V)} {v : V} (h : ShV CP CR H v x y) (hp : H p = some (.ins C dx fs)) (hx : fs.lookup ("x" : Str) = none) (nt : fs.lookup ("top" : Str) = none) : ShV CP CR (upd H p o) v x y := by
  rcases h with h | ⟨s, h1, h2⟩
  · exact .inl h
  · exact .inr ⟨s, h1, h2.putI hp hx nt⟩
theorem TabR.putI {o : HO} {dx : Addr} {fs : List (Str × V)} (h : TabR CR H t a b c d) (hp : H p = some (.ins C dx fs)) (nt : fs.lookup ("top" : Str) = none) : TabR CR (upd H p o) t a b c d := by
  obtain ⟨u, v, r1, r2, r3, r4, h0, h1, h2, i1, i2, i3, i4⟩ := h
  have s : ∀ {q : Addr} {ys : List V}, H q = some (.tup ys) → upd H p o q = some (.tup ys) := fun hq => by rw [upd_ne (ne_of hq hp (by intro z; cases z))]; exact hq
  exact ⟨u, v, r1, r2, r3, r4, s h0, s h1, s h2, i1.putI hp nt, i2.putI hp nt, i3.putI hp nt, i4.putI hp nt⟩
theorem putF_ts {a b : V} : putF "shift" b (putF "table" a []) = [(("table" : Str), a), (("shift" : Str), b)] := by
  show (if ("table" : Str) = "shift" then _ else (("table" : Str), a) :: putF "shift" b []) = _
  rw [if_neg (by decide +kernel)]; rfl
theorem TabR.put {o : HO} {dx : Addr} (h : TabR CR H t a b c d) (hp : H p = some (.ins C dx [])) : TabR CR (upd H p o) t a b c d := by
  obtain ⟨u, v, r1, r2, r3, r4, h0, h1, h2, i1, i2, i3, i4⟩ := h
  have s : StayP p H (upd H p o) := StayP.put
  have q : ∃ dx, H p = some (.ins C dx []) := ⟨_, hp⟩
  exact ⟨u, v, r1, r2, r3, r4, s _ _ h0 (ne_of h0 hp (by intro z; cases z)), s _ _ h1 (ne_of h1 hp (by intro z; cases z)), s _ _ h2 (ne_of h2 hp (by intro z; cases z)), i1.stay s q, i2.stay s q, i3.stay s q, i4.stay s q⟩
end
end
section
open PySem PySem.Spec PyProof.Rows L2 He LamX
theorem x_gS {K : PySem.W.Frag} {n : Nat} {t : TGs} {a : Addr} {σ : L2.St} {H : Hp} {Q : L2.St → Hp → Prop} (k : ∃ xs, SqA K H a xs ∧ xs.length = n ∧ t xs σ H Q) : gSeq K n t (.ref a) σ H Q := by
  obtain ⟨xs, h1, h2, k⟩ := k
  exact ⟨a, xs, rfl, h1, h2, k⟩
end
open PySem PySem.Spec PyProof.Rows L2 He LamX
local macro_rules | `(tactic| wtm_at "of_ra1") => `(tactic| first
  | ((with_reducible refine x_gS ?_); refine ⟨_, by wtm_at "of_uq", by wtm_at "of_cx", ?_⟩))
section
open PySem PySem.Spec PyProof.Rows L2 He LamX
end
open PySem PySem.Spec PyProof.Rows L2 He LamX
local macro_rules | `(tactic| wtm_at "of_uqx") => `(tactic| first
  | (apply SqA.ex; assumption; wtm_at "of_uq") | (apply TabR.ex; assumption; wtm_at "of_uq") | (apply TabN.ex; assumption; wtm_at "of_uq") | (apply IsM.ex; assumption; wtm_at "of_uq") | (apply ShV.ex; assumption; wtm_at "of_uq"))
section
open PySem PySem.Spec PyProof.Rows L2 He LamX
end
section
open PySem PySem.Spec PyProof.Rows L2 He LamX
section
variable {K : PySem.W.Frag} {C CP CR CF p : Addr} {H H' : Hp} {a b c d x y z w : Rat} {Q : VK}
theorem lk_mt {t s : Addr} : ([(("table" : Str), V.ref t), (("shift" : Str), V.ref s)]).lookup ("table" : Str) = some (.ref t) := by rw [List.lookup_cons]; simp
theorem lk_ms {t s : Addr} : ([(("table" : Str), V.ref t), (("shift" : Str), V.ref s)]).lookup ("shift" : Str) = some (.ref s) := by
  rw [List.lookup_cons, show (("shift" : Str) == "table") = false from by decide +kernel, List.lookup_cons]
  simp
theorem x_mt (k : ∃ C CP CR a b c d x y, MT K C ∧ IsM C CP CR H p a b c d x y ∧ ∀ t, TabR CR H t a b c d → Q (.ref t) H) : FldAt K "table" (.ref p) H Q := by
  obtain ⟨C, CP, CR, a, b, c, d, x, y, T, ⟨dx, t, s, h1, h2, h3⟩, k⟩ := k
  exact ⟨p, C, dx, _, _, rfl, h1, T.k.o.cl, T.nT, lk_mt, k t h2⟩
theorem x_ms (k : ∃ C CP CR a b c d x y, MT K C ∧ IsM C CP CR H p a b c d x y ∧ ∀ s, IsP CP CR H s x y → Q (.ref s) H) : FldAt K "shift" (.ref p) H Q := by
  obtain ⟨C, CP, CR, a, b, c, d, x, y, T, ⟨dx, t, s, h1, h2, h3⟩, k⟩ := k
  exact ⟨p, C, dx, _, _, rfl, h1, T.k.o.cl, T.nS, lk_ms, k s h3⟩
/-- a motion as six numbers -/
structure Mt where
  a : Rat
  b : Rat
  c : Rat
  d : Rat
  x : Rat
  y : Rat
deriving DecidableEq
namespace Mt
def det (m : Mt) : Rat := m.a * m.d - m.b * m.c
def mul (m n : Mt) : Mt := ⟨m.a * n.a + m.b * n.c, m.a * n.b + m.b * n.d, m.c * n.a + m.d * n.c, m.c * n.b + m.d * n.d, m.a * n.x + m.b * n.y + m.x, m.c * n.x + m.d * n.y + m.y⟩
def one : Mt := ⟨1, 0, 0, 1, 0, 0⟩
def ia (m : Mt) : Rat := m.d / m.det
def ib (m : Mt) : Rat := -m.b / m.det
def ic (m : Mt) : Rat := -m.c / m.det
def id' (m : Mt) : Rat := m.a / m.det
def inv (m : Mt) : Mt := ⟨m.ia, m.ib, m.ic, m.id', -(m.ia * m.x + m.ib * m.y), -(m.ic * m.x + m.id' * m.y)⟩
def straight (m : Mt) : Mt := ⟨m.a, m.b, m.c, m.d, 0, 0⟩
def px (m : Mt) (z w : Rat) : Rat := m.a * z + m.b * w + m.x
def py (m : Mt) (z w : Rat) : Rat := m.c * z + m.d * w + m.y
def pow (m : Mt) : Nat → Mt
  | 0 => one
  | n + 1 => (pow m n).mul m
theorem ext' {m n : Mt} (h1 : m.a = n.a) (h2 : m.b = n.b) (h3 : m.c = n.c) (h4 : m.d = n.d) (h5 : m.x = n.x) (h6 : m.y = n.y) : m = n := by
  cases m; cases n; simp_all
theorem mul_assoc (l m n : Mt) : (l.mul m).mul n = l.mul (m.mul n) := by
  apply ext' <;> simp only [mul] <;> grind
theorem one_mul (m : Mt) : one.mul m = m := by
  apply ext' <;> simp only [mul, one] <;> grind
theorem mul_one (m : Mt) : m.mul one = m := by
  apply ext' <;> simp only [mul, one] <;> grind
theorem pow_one (m : Mt) : m.pow 1 = m := one_mul m
theorem pow_add (m : Mt) (i : Nat) : ∀ j, m.pow (i + j) = (m.pow i).mul (m.pow j)
  | 0 => (mul_one _).symm
  | j + 1 => by
    show (m.pow (i + j)).mul m = (m.pow i).mul ((m.pow j).mul m)
    rw [pow_add m i j, mul_assoc]
theorem det_mul (m n : Mt) : (m.mul n).det = m.det * n.det := by simp only [mul, det]; grind
theorem det_one : one.det = 1 := by simp only [one, det]; grind
theorem det_pow (m : Mt) (h : m.det ≠ 0) : ∀ n, (m.pow n).det ≠ 0
  | 0 => by show one.det ≠ 0; rw [det_one]; decide
  | n + 1 => by
    show ((m.pow n).mul m).det ≠ 0
    rw [det_mul]
    intro z
    rcases Rat.mul_eq_zero.mp z with z | z
    · exact det_pow m h n z
    · exact h z
end Mt
/-- a motion's numbers are of size -/
structure Su6 (m : Mt) : Prop where
  b1 : Su m.a
  b2 : Su m.b
  b3 : Su m.c
  b4 : Su m.d
  b5 : Su m.x
  b6 : Su m.y
theorem Su6.s4 {m : Mt} (h : Su6 m) : S4 1950 m.a m.b m.c m.d := ⟨h.b1, h.b2, h.b3, h.b4⟩
abbrev IsMt (C CP CR : Addr) (H : Hp) (p : Addr) (m : Mt) : Prop := IsM C CP CR H p m.a m.b m.c m.d m.x m.y
/-- a point led by a table, then moved -/
def spMvd (CP CR : Addr) : Sp := fun vs H Q _ => ∃ (q t s : Addr) (a b c d x y z w : Rat), vs = [.ref q, .ref t, .ref s] ∧ IsP CP CR H q z w ∧ TabR CR H t a b c d ∧ IsP CP CR H s x y ∧ S4 1950 a b c d ∧ Su z ∧ Su w ∧ Su x ∧ Su y ∧ Bq (a * z + b * w) ∧ Bq (c * z + d * w) ∧ Bq (a * z + b * w + x) ∧ Bq (c * z + d * w + y) ∧
  ∀ H' r, Ex H H' → IsP CP CR H' r (a * z + b * w + x) (c * z + d * w + y) → Q (.ref r) H'
def spMCall (C CP CR : Addr) : Sp := fun vs H Q _ => ∃ (p q : Addr) (m : Mt) (z w : Rat), vs = [.ref p, .ref q] ∧ IsMt C CP CR H p m ∧ IsP CP CR H q z w ∧ Su6 m ∧ Su z ∧ Su w ∧ Su (m.px z w) ∧ Su (m.py z w) ∧
  ∀ H' r, Ex H H' → IsP CP CR H' r (m.px z w) (m.py z w) → Q (.ref r) H'
def spMFac (C CP CR : Addr) : Sp := fun vs H Q _ => ∃ (p : Addr) (m : Mt), vs = [.ref p] ∧ IsMt C CP CR H p m ∧ S4 600 m.a m.b m.c m.d ∧ ∀ H' r, Ex H H' → IsR CR H' r m.det → Q (.ref r) H'
def spMStr (C CP CR : Addr) : Sp := fun vs H Q _ => ∃ (p : Addr) (m : Mt), vs = [.ref p] ∧ IsMt C CP CR H p m ∧ Su6 m ∧ m.det ≠ 0 ∧ ∀ H' r, Ex H H' → IsMt C CP CR H' r m.straight → Q (.ref r) H'
/-- a motion is made -/
theorem q_mkM {dvs vs : List V} {t : Addr} {sv : V} {E : XK} (e : vs ++ dvs = [.ref t, sv]) (ht : TabN K CR H t a b c d) (hs : ShV CP CR H sv x y) (hb : S4 1950 a b c d) (h0 : a * d - b * c ≠ 0) (k : ∀ H' p, Ex H H' → IsM C CP CR H' p a b c d x y → Q (.ref p) H') : MkAt C (spMInit K C CP CR CF) dvs E vs H Q := by
  intro p dx hp hdx hne
  have e1 : Ex H (upd (upd H dx (.own p)) p (.ins C dx [])) := Ex.new2 hdx (by exact hp)
  rw [e]
  exact ⟨p, dx, t, sv, a, b, c, d, x, y, rfl, upd_same, ht.ex e1, hs.ex e1, hb, .inl ⟨h0, fun H' st g => ⟨rfl, k H' p (fun c o hc => st c o (e1 c o hc) (ne_of_none hc hp)) g⟩⟩⟩
end
end
open PySem PySem.Spec PyProof.Rows L2 He LamX
local macro_rules | `(tactic| wtm_at "of_ra1") => `(tactic| first
  | ((with_reducible refine x_mt ?_); refine ⟨_, _, _, _, _, _, _, _, _, by assumption, by wtm_at "of_uq", ?_⟩; intro _ _)
  | ((with_reducible refine x_ms ?_); refine ⟨_, _, _, _, _, _, _, _, _, by assumption, by wtm_at "of_uq", ?_⟩; intro _ _))
section
open PySem PySem.Spec PyProof.Rows L2 He LamX
end
section
open PySem PySem.Spec PyProof.Rows L2 He LamX
theorem IsM.tyx {K : PySem.W.Frag} {C CP CR p : Addr} {H : Hp} {a b c d x y : Rat} (T : MT K C) (h : IsM C CP CR H p a b c d x y) : TyX K H (.ref p) (.ref C) := by
  obtain ⟨dx, t, s, h1, _⟩ := h
  exact T.k.o.ty h1
def spMMul (C CP CR : Addr) : Sp := fun vs H Q _ => ∃ (p q : Addr) (m n : Mt), vs = [.ref p, .ref q] ∧ IsMt C CP CR H p m ∧ IsMt C CP CR H q n ∧ Su6 m ∧ Su6 n ∧ Su6 (m.mul n) ∧ (m.mul n).det ≠ 0 ∧ ∀ H' r, Ex H H' → IsMt C CP CR H' r (m.mul n) → Q (.ref r) H'
theorem bq_dif {p x u : Rat} (e : p = u + x) (hp : Su p) (hx : Su x) : Bq u := by
  have : u = p - x := by grind
  rw [this]
  exact Sr.bq (Sr.sub hp hx) (by decide)
end
section
open PySem PySem.Spec PyProof.Rows L2 He LamX
def spMInv (C CP CR : Addr) : Sp := fun vs H Q _ => ∃ (p : Addr) (m : Mt), vs = [.ref p] ∧ IsMt C CP CR H p m ∧ S4 600 m.a m.b m.c m.d ∧ Su m.x ∧ Su m.y ∧ m.det ≠ 0 ∧ Su6 m.inv ∧ m.inv.det ≠ 0 ∧ ∀ H' r, Ex H H' → IsMt C CP CR H' r m.inv → Q (.ref r) H'
/-- the table that leaves all as it is, as a name of the program tells it -/
def StillK (K : PySem.W.Frag) (a : Addr) : Prop := ∃ u v, (∀ H, SqT K H a [.ref u, .ref v]) ∧ (∀ H, SqT K H u [.int 1, .int 0]) ∧ (∀ H, SqT K H v [.int 0, .int 1])
theorem StillK.tab {K : PySem.W.Frag} {a CR : Addr} {H : Hp} (h : StillK K a) : TabN K CR H a 1 0 0 1 := by
  obtain ⟨u, v, h0, h1, h2⟩ := h
  exact ⟨u, v, _, _, _, _, .inl (h0 H), .inl (h1 H), .inl (h2 H), .inl ⟨1, rfl, rfl⟩, .inl ⟨0, rfl, rfl⟩, .inl ⟨0, rfl, rfl⟩, .inl ⟨1, rfl, rfl⟩⟩
theorem bq_1 : Bq (1 : Rat) := ⟨by show (1 : Int).natAbs < _; exact Nat.one_lt_two_pow (by decide), by show (1 : Int).natAbs < _; exact Nat.one_lt_two_pow (by decide)⟩
theorem sr_1 {n : Nat} : Sr n (1 : Rat) := ⟨by show (1 : Int).natAbs < _; exact Nat.one_lt_two_pow (by omega), by show (1 : Nat) < _; exact Nat.one_lt_two_pow (by omega)⟩
theorem sr_0 {n : Nat} : Sr n (0 : Rat) := ⟨by show (0 : Int).natAbs < _; exact Nat.pow_pos (by decide), by show (1 : Nat) < _; exact Nat.one_lt_two_pow (by omega)⟩
theorem s4_1 {n : Nat} : S4 n 1 0 0 1 := ⟨sr_1, sr_0, sr_0, sr_1⟩
def spShi (C CP CR : Addr) : Sp := fun vs H Q _ => ∃ (q : Addr) (x y : Rat), vs = [.ref q] ∧ IsP CP CR H q x y ∧ ∀ H' r, Ex H H' → IsM C CP CR H' r 1 0 0 1 x y → Q (.ref r) H'
def spStr (C CP CR CF : Addr) : Sp := fun vs H Q E => ∃ (v : V) (q : Rat), vs = [v] ∧ NumV CR H v q ∧ Su q ∧ ((q ≠ 0 ∧ ∀ H' r, Ex H H' → IsM C CP CR H' r q 0 0 q 0 0 → Q (.ref r) H') ∨ (q = 0 ∧ ∀ H', Ex H H' → E (.ref CF) none H'))
end
section
open PySem PySem.Spec PyProof.Rows L2 He LamX
section
variable {K : PySem.W.Frag} {C CP CR CF p t : Addr} {H H' : Hp} {a b c d x y q : Rat} {Q : VK}
theorem q_mkMF {dvs vs : List V} {sv : V} {E : XK} (e : vs ++ dvs = [.ref t, sv]) (ht : TabN K CR H t a b c d) (hs : ShV CP CR H sv x y) (hb : S4 1950 a b c d) (h0 : a * d - b * c = 0) (k : ∀ H', Ex H H' → E (.ref CF) none H') : MkAt C (spMInit K C CP CR CF) dvs E vs H Q := by
  intro p dx hp hdx hne
  have e1 : Ex H (upd (upd H dx (.own p)) p (.ins C dx [])) := Ex.new2 hdx (by exact hp)
  rw [e]
  exact ⟨p, dx, t, sv, a, b, c, d, x, y, rfl, upd_same, ht.ex e1, hs.ex e1, hb, .inr ⟨h0, fun H' st => k H' (fun c o hc => st c o (e1 c o hc) (ne_of_none hc hp))⟩⟩
theorem TabN.mkQ {u v : Addr} {x1 x2 x3 x4 : V} (h0 : H t = some (.lst [.ref u, .ref v])) (h1 : H u = some (.lst [x1, x2])) (h2 : H v = some (.lst [x3, x4])) (i1 : NumV CR H x1 a) (i2 : NumV CR H x2 b) (i3 : NumV CR H x3 c) (i4 : NumV CR H x4 d) : TabN K CR H t a b c d := ⟨u, v, _, _, _, _, .lst h0, .lst h1, .lst h2, i1, i2, i3, i4⟩
theorem s4_q {n : Nat} (h : Sr n q) : S4 n q 0 0 q := ⟨h, sr_0, sr_0, h⟩
theorem det_q : q * q - 0 * 0 = q * q := by grind
end
end
section
open PySem PySem.Spec PyProof.Rows L2 He LamX
/-- a fraction as the law holds it -/
def QP (q : Rat) : List V := [.int q.num, .int (q.den : Int)]
def spCut : Sp := fun vs H Q _ => ∃ (t : Addr) (n d : Int), vs = [.ref t] ∧ H t = some (.tup [.int n, .int d]) ∧ d ≠ 0 ∧ Bt n ∧ Bt d ∧ ∀ H' r, Ex H H' → H' r = some (.tup (QP (Rat.divInt n d))) → Q (.ref r) H'
def spQQ (g : Rat → Rat → Rat) : Sp := fun vs H Q _ => ∃ (t u : Addr) (q r : Rat), vs = [.ref t, .ref u] ∧ H t = some (.tup (QP q)) ∧ H u = some (.tup (QP r)) ∧ Sr 1900 q ∧ Sr 1900 r ∧ ∀ H' z, Ex H H' → H' z = some (.tup (QP (g q r))) → Q (.ref z) H'
end
section
open PySem PySem.Spec PyProof.Rows L2 He LamX
/-- a Ratio told as a pair -/
def spTold2 (CR : Addr) : Sp := fun vs H Q _ => ∃ (p : Addr) (q : Rat), vs = [.ref p] ∧ IsR CR H p q ∧ ∀ H' z, Ex H H' → H' z = some (.tup (QP q)) → Q (.ref z) H'
end
section
open PySem PySem.Spec PyProof.Rows L2 He LamX
theorem frq_sum (q r s t : Rat) : FrQ (q * r + s * t) (q.num * r.num * ((s.den : Int) * (t.den : Int)) + s.num * t.num * ((q.den : Int) * (r.den : Int))) ((q.den : Int) * (r.den : Int) * ((s.den : Int) * (t.den : Int))) :=
  frq_add (frq_mul (frq_self q) (frq_self r)) (frq_mul (frq_self s) (frq_self t))
theorem den22 (q r s t : Rat) : (q.den : Int) * (r.den : Int) * ((s.den : Int) * (t.den : Int)) ≠ 0 := Int.mul_ne_zero (Int.mul_ne_zero (den_ne q) (den_ne r)) (Int.mul_ne_zero (den_ne s) (den_ne t))
theorem frq_det {a b c d : Rat} {A B G D m : Int} (fa : FrQ a A m) (fb : FrQ b B m) (fc : FrQ c G m) (fd : FrQ d D m) : FrQ (a * d - b * c) (A * D - B * G) (m * m) := by
  unfold FrQ at *
  rw [Rat.intCast_sub, Rat.intCast_mul, Rat.intCast_mul, Rat.intCast_mul, ← fa, ← fb, ← fc, ← fd]
  grind
theorem area_ne {a b c d : Rat} {A B G D m : Int} (h : FrQ (a * d - b * c) (A * D - B * G) (m * m)) (hne : a * d - b * c ≠ 0) (m0 : 0 < m) : A * D - B * G ≠ 0 := fun z => by
  unfold FrQ at h
  rw [z] at h
  have mm : ((m * m : Int) : Rat) ≠ 0 := by
    have : m * m ≠ 0 := Int.mul_ne_zero (by omega) (by omega)
    exact fun e => this (by exact_mod_cast e)
  rcases Rat.mul_eq_zero.mp (show (a * d - b * c) * ((m * m : Int) : Rat) = 0 from by rw [h]; rfl) with e | e
  · exact hne e
  · exact mm e
/-- a part of the undone table -/
theorem frq_und {d D m : Rat} {N A : Int} {e : Rat} (hne : e ≠ 0) (hd : D = d * m) (hN : (N : Rat) = D * m) (hA : e * (m * m) = (A : Rat)) : FrQ (d / e) N A := by
  unfold FrQ
  rw [← hA, hN, hd, Rat.div_def]
  have := Rat.mul_inv_cancel e hne
  grind
theorem det_test {a b c d : Rat} : (a.num * d.num * (b.den : Int) * (c.den : Int) = b.num * c.num * (a.den : Int) * (d.den : Int)) ↔ a * d - b * c = 0 := by
  have ha := rat_nd a
  have hb := rat_nd b
  have hc := rat_nd c
  have hd := rat_nd d
  have na : (a.den : Rat) ≠ 0 := by simpa using a.den_nz
  have nb : (b.den : Rat) ≠ 0 := by simpa using b.den_nz
  have nc : (c.den : Rat) ≠ 0 := by simpa using c.den_nz
  have nd : (d.den : Rat) ≠ 0 := by simpa using d.den_nz
  push_cast at ha hb hc hd
  have nn : (a.den : Rat) * b.den * (c.den * d.den) ≠ 0 := fun z => by
    rcases Rat.mul_eq_zero.mp z with z | z <;> rcases Rat.mul_eq_zero.mp z with z | z <;> contradiction
  have key : (a.num : Rat) * d.num * b.den * c.den - b.num * c.num * a.den * d.den = (a * d - b * c) * ((a.den : Rat) * b.den * (c.den * d.den)) := by rw [ha, hb, hc, hd]; grind
  constructor
  · intro h
    have h' : ((a.num * d.num * (b.den : Int) * (c.den : Int) : Int) : Rat) = ((b.num * c.num * (a.den : Int) * (d.den : Int) : Int) : Rat) := by rw [h]
    push_cast at h'
    have z : (a * d - b * c) * ((a.den : Rat) * b.den * (c.den * d.den)) = 0 := by rw [← key, h']; grind
    rcases Rat.mul_eq_zero.mp z with z | z
    · exact z
    · exact absurd z nn
  · intro h
    rw [h, Rat.zero_mul] at key
    have h' : ((a.num * d.num * (b.den : Int) * (c.den : Int) : Int) : Rat) = ((b.num * c.num * (a.den : Int) * (d.den : Int) : Int) : Rat) := by
      push_cast
      grind
    exact_mod_cast h'
end
section
open PySem PySem.Spec PyProof.Rows L2 He LamX
section
variable {X : Cx} {K : PySem.W.Frag} {mg : Str → Option Value} {C f : Addr} {k j : Nat} {E : XK}
theorem kEqTab (h : X.K = K) (c : Cm X.prog X.w K X.mg X.base k C "__eq__" f (spREq K C)) (T : RT K mg C) (hr : Room j X.A) (hk : k + 2 ≤ j) (hx : Passes (L2.CX X.prog X.w) X E) : OpR X (compareOp .Eq) (rTabEq C) := by
  subst h
  exact op_eqTab c.at_ c.fn c.fnr hx T (hr.mono hk)
theorem kInv (h : X.K = K) {sp : Sp} (c : Cm X.prog X.w K X.mg X.base k C "__invert__" f sp) (hr : Room j X.A) (hk : k ≤ j) (hx : Passes (L2.CX X.prog X.w) X E) : UnR X (unaryOp .Invert) (rU1 C sp E) := by
  subst h
  exact un_invO c.at_ c.fn c.fnr (hr.mono hk) hx
end
section
variable {K : PySem.W.Frag} {C CP CR p q t t' : Addr} {H : Hp} {m n : Mt} {a b c d a' b' c' d' : Rat} {Q : VK} {E : XK} {sp : Sp} {v : V}
theorem x_tabEq (h : TabR CR H t a b c d) (h' : TabR CR H t' a' b' c' d') (k : Q (.bl (decide (a = a' ∧ b = b' ∧ c = c' ∧ d = d'))) H) : rTabEq CR (.ref t) (.ref t') H Q := by
  obtain ⟨u, v, r1, r2, r3, r4, h0, h1, h2, i1, i2, i3, i4⟩ := h
  obtain ⟨u', v', s1, s2, s3, s4, g0, g1, g2, j1, j2, j3, j4⟩ := h'
  exact ⟨t, t', u, v, u', v', r1, r2, r3, r4, s1, s2, s3, s4, a, b, c, d, a', b', c', d', rfl, rfl, h0, g0, h1, h2, g1, g2, i1, i2, i3, i4, j1, j2, j3, j4, k⟩
theorem o_MM (h : IsMt C CP CR H p m) (h' : IsMt C CP CR H q n) (k : sp [.ref p, .ref q] H Q E) : rO C sp E (isIns C) (.ref p) (.ref q) H Q := by
  obtain ⟨dx, t, s, h1, _⟩ := h
  obtain ⟨dx', t', s', h1', _⟩ := h'
  exact ⟨p, dx, _, rfl, h1, ⟨q, dx', _, rfl, h1'⟩, k⟩
theorem o_MA {ok : V → Hp → Prop} (h : IsMt C CP CR H p m) (ho : ok v H) (k : sp [.ref p, v] H Q E) : rO C sp E ok (.ref p) v H Q := by
  obtain ⟨dx, t, s, h1, _⟩ := h
  exact ⟨p, dx, _, rfl, h1, ho, k⟩
theorem o_MN {ok : V → Hp → Prop} (h : IsMt C CP CR H p m) (ho : ok v H) (k : sp [.ref p, v] H (kNB Q) E) : rNO C sp E ok (.ref p) v H Q := by
  obtain ⟨dx, t, s, h1, _⟩ := h
  exact ⟨p, dx, _, rfl, h1, ho, k⟩
theorem o_MU (h : IsMt C CP CR H p m) (k : sp [.ref p] H Q E) : rU1 C sp E (.ref p) H Q := by
  obtain ⟨dx, t, s, h1, _⟩ := h
  exact ⟨p, dx, _, rfl, h1, k⟩
theorem o_anyM (T : MT K C) (h : IsMt C CP CR H p m) : isAny K C (.ref p) H := ⟨_, h.tyx T, nf_self⟩
end
def spMEq (K : PySem.W.Frag) (C CP CR : Addr) : Sp := fun vs H Q _ => ∃ (p : Addr) (v : V) (m : Mt), vs = [.ref p, v] ∧ IsMt C CP CR H p m ∧ ((∃ q n, v = .ref q ∧ IsMt C CP CR H q n ∧ Q (.bl (decide (m = n))) H) ∨ (NotC K C H v ∧ Q (.bl false) H))
def spPowM (C CP CR : Addr) : Sp := fun vs H Q _ => ∃ (p u : Addr) (n : Nat) (m : Mt), vs = [.ref p, .int n, .ref u] ∧ IsMt C CP CR H p m ∧ IsMt C CP CR H u Mt.one ∧ m.det ≠ 0 ∧ (∀ i ≤ n, Su6 (m.pow i)) ∧ ∀ H' r, Ex H H' → IsMt C CP CR H' r (m.pow n) → Q (.ref r) H'
def spMPow (K : PySem.W.Frag) (C CP CR CB : Addr) : Sp := fun vs H Q E => ∃ (p : Addr) (v : V) (m : Mt), vs = [.ref p, v] ∧ IsMt C CP CR H p m ∧ m.det ≠ 0 ∧
  (((WrI K H v ∨ ∃ n : Int, v = .int n ∧ (n < -1000 ∨ 1000 < n)) ∧ Rz E CB "value" v H) ∨
   (∃ n : Nat, v = .int n ∧ n ≤ 1000 ∧ (∀ i ≤ n, Su6 (m.pow i)) ∧ ∀ H' r, Ex H H' → IsMt C CP CR H' r (m.pow n) → Q (.ref r) H') ∨
   (∃ n : Nat, v = .int (-(n : Int)) ∧ 0 < n ∧ n ≤ 1000 ∧ S4 600 m.a m.b m.c m.d ∧ Su m.x ∧ Su m.y ∧ (∀ i ≤ n, Su6 (m.inv.pow i)) ∧ ∀ H' r, Ex H H' → IsMt C CP CR H' r (m.inv.pow n) → Q (.ref r) H'))
theorem Mt.det_inv (m : Mt) (h : m.det ≠ 0) : m.inv.det ≠ 0 := by
  have e : m.inv.det * m.det = 1 := by
    show (m.d / m.det * (m.a / m.det) - -m.b / m.det * (-m.c / m.det)) * m.det = 1
    have hi := Rat.mul_inv_cancel m.det h
    have hd : m.a * m.d - m.b * m.c = m.det := rfl
    simp only [Rat.div_def]
    grind
  intro z
  rw [z, Rat.zero_mul] at e
  exact absurd e (by decide)
theorem Mt.eq_iff {m n : Mt} : m = n ↔ (m.a = n.a ∧ m.b = n.b ∧ m.c = n.c ∧ m.d = n.d) ∧ (m.x = n.x ∧ m.y = n.y) := ⟨fun h => by subst h; exact ⟨⟨rfl, rfl, rfl, rfl⟩, rfl, rfl⟩, fun h => Mt.ext' h.1.1 h.1.2.1 h.1.2.2.1 h.1.2.2.2 h.2.1 h.2.2⟩
end
section
open PySem PySem.Spec PyProof.Rows L2 He LamX
theorem o_PEq {K : PySem.W.Frag} {CP CR p q : Addr} {H : Hp} {x y z t : Rat} {Q : VK} {E : XK} (T : PT K CP) (h : IsP CP CR H p x y) (h' : IsP CP CR H q z t) (k : Q (.bl (decide (x = z ∧ y = t))) H) : rO CP (spPEq K CP CR) E (isAny K CP) (.ref p) (.ref q) H Q := by
  obtain ⟨dx, w1, w2, g1, _⟩ := _root_.id h
  refine ⟨p, dx, _, rfl, g1, ⟨_, h'.tyx T, nf_self⟩, ?_⟩
  refine ⟨p, .ref q, x, y, rfl, h, .inl ?_⟩
  exact ⟨q, z, t, rfl, h', k⟩
theorem o_PNe {K : PySem.W.Frag} {CP CR p q : Addr} {H : Hp} {x y z t : Rat} {Q : VK} {E : XK} (T : PT K CP) (h : IsP CP CR H p x y) (h' : IsP CP CR H q z t) (k : Q (.bl (!decide (x = z ∧ y = t))) H) : rNO CP (spPEq K CP CR) E (isAny K CP) (.ref p) (.ref q) H Q := by
  obtain ⟨dx, w1, w2, g1, _⟩ := _root_.id h
  refine ⟨p, dx, _, rfl, g1, ⟨_, h'.tyx T, nf_self⟩, ?_⟩
  refine ⟨p, .ref q, x, y, rfl, h, .inl ?_⟩
  exact ⟨q, z, t, rfl, h', ⟨_, rfl, k⟩⟩
theorem o_MEq {K : PySem.W.Frag} {C CP CR p q : Addr} {H : Hp} {m n : Mt} {Q : VK} {E : XK} (T : MT K C) (h : IsMt C CP CR H p m) (h' : IsMt C CP CR H q n) (k : Q (.bl (decide (m = n))) H) : rO C (spMEq K C CP CR) E (isAny K C) (.ref p) (.ref q) H Q := by
  refine o_MA h (o_anyM T h') ?_
  refine ⟨p, .ref q, m, rfl, h, .inl ?_⟩
  exact ⟨q, n, rfl, h', k⟩
theorem o_MNe {K : PySem.W.Frag} {C CP CR p q : Addr} {H : Hp} {m n : Mt} {Q : VK} {E : XK} (T : MT K C) (h : IsMt C CP CR H p m) (h' : IsMt C CP CR H q n) (k : Q (.bl (!decide (m = n))) H) : rNO C (spMEq K C CP CR) E (isAny K C) (.ref p) (.ref q) H Q := by
  refine o_MN h (o_anyM T h') ?_
  refine ⟨p, .ref q, m, rfl, h, .inl ?_⟩
  exact ⟨q, n, rfl, h', ⟨_, rfl, k⟩⟩
end
section
open PySem PySem.Spec PyProof.Rows L2
theorem zip_no_len : typeLookup (.type "zip") "__len__" = pure none := by rw [typeLookup_type, builtinLookup_eq_fast]; kernel_rfl
theorem zip_no_hint : typeLookup (.type "zip") "__length_hint__" = pure none := by rw [typeLookup_type, builtinLookup_eq_fast]; kernel_rfl
/-- a zip over the lists a and b, i pairs drawn and kept -/
def Zst (h : Heap) (z TI TO i1 i2 a b S : Addr) (i : Nat) : Prop := IsPair h TI (.ref i1) (.ref i2) ∧ h.IsListIter i1 a i ∧ h.IsListIter i2 b i ∧ (∃ u v, IsPair h TO u v) ∧
  (IsZip h z TI TO .none ∨ ∃ T f oT, IsZipHeld h z TI TO T f ∧ h.get? T = some oT ∧ T ≠ z ∧ T ≠ i1 ∧ T ≠ i2 ∧ T ≠ S)
theorem Zst.but {h h' : Heap} {z TI TO i1 i2 a b S : Addr} {i : Nat} (st : Zst h z TI TO i1 i2 a b S i) (Sf : S ∉ [z, TI, TO, i1, i2]) (k : ∀ c o, c ≠ S → h.get? c = some o → h'.get? c = some o) : Zst h' z TI TO i1 i2 a b S i := by
  simp only [List.mem_cons, List.not_mem_nil, or_false, not_or] at Sf
  obtain ⟨f1, f2, f3, f4, f5⟩ := Sf
  obtain ⟨hTI, h1, h2, ⟨u, v, hTO⟩, hz⟩ := st
  refine ⟨k _ _ (Ne.symm f2) hTI, h1.at fun o e => k _ o (Ne.symm f4) e, h2.at fun o e => k _ o (Ne.symm f5) e, ⟨u, v, k _ _ (Ne.symm f3) hTO⟩, ?_⟩
  rcases hz with hz | ⟨T, f, oT, hz, hT, r1, r2, r3, r4⟩
  · exact .inl (k _ _ (Ne.symm f1) hz)
  · exact .inr ⟨T, f, oT, k _ _ (Ne.symm f1) hz, k _ _ r4 hT, r1, r2, r3, r4⟩
theorem sqL_but {K : PySem.W.Frag} {H H' : Hp} {a S : Addr} {xs : List V} (h : SqL K H a xs) (ne : a ≠ S) (k : ∀ c o, c ≠ S → H c = some o → H' c = some o) : SqL K H' a xs := by
  rcases h with (h | ⟨od, h⟩) | h
  · exact .inl (.inl (k _ _ ne h))
  · exact .inl (.inr ⟨od, k _ _ ne h⟩)
  · exact .inr h
section
variable {X : Cx} {pins : List (Addr × Obj)} {σ : L2.St}
theorem lzip_loop {A : Around} {R : Result → Shared → Prop} {z TI TO i1 i2 a b S : Addr} {xs ys : List V} {n : Nat} (D : ZipApart z TI TO i1 i2 a b) (hh : A.handled = none) (res : Value) (hn : n = min xs.length ys.length) (hz : n ≤ sizeLine)
    (Sa : a ≠ S) (Sb : b ≠ S) (Sf : S ∉ [z, TI, TO, i1, i2]) :
    ∀ (k i : Nat) (s : Shared) (H : Hp) (acc : List V), n - i = k → i ≤ n → acc.length = i → Inv X pins σ H s → H S = some (.lst acc) → SqL X.K H a xs → SqL X.K H b ys → Zst s.heap z TI TO i1 i2 a b S i → (∀ c ∈ [z, TI, TO, i1, i2], FpOk X pins H c) →
    (∀ s' H' acc', Inv X pins σ H' s' → (∀ c o, c ≠ S → H c = some o → H' c = some o) → H' S = some (.lst (acc ++ acc')) → acc'.length = n - i →
      (∀ j, j < n - i → ∃ T x y, acc'[j]? = some (V.ref T) ∧ xs[i + j]? = some x ∧ ys[i + j]? = some y ∧ H' T = some (.tup [x, y])) → R (.ok (.ret res)) s') →
    codeAny (model X.prog X.w) A (.builtin "list.extend.loop" ⟨[.ref S, .ref z, res], []⟩) R s := by
  have Sf' := Sf
  simp only [List.mem_cons, List.not_mem_nil, or_false, not_or] at Sf'
  obtain ⟨f1, f2, f3, f4, f5⟩ := Sf'
  intro k
  induction k with
  | zero =>
    intro i s H acc hk hi hl I hS qa qb st fp hR
    have hin : i = n := by omega
    refine codeAny_builtin F.entry_extend_loop ?_
    rw [Around.under_plainId F.plain_extend_loop _]
    show wpAny _ A.in1 (pyNext (.ref z) >>= _) _ _ s
    obtain ⟨its, rv, p, _⟩ := I.list qa
    obtain ⟨its2, rv2, p2, _⟩ := I.list qb
    have l1 := rv.length
    have l2 := rv2.length
    have hend : its.toArray[i]? = none ∨ its2.toArray[i]? = none := by
      rcases Nat.le_total xs.length ys.length with q | q
      · exact .inl (by simp; omega)
      · exact .inr (by simp; omega)
    have fin : ∀ h', (∀ c o, c ∉ [z, TI, TO, i1, i2] → s.heap.get? c = some o → h'.get? c = some o) → R (.ok (.ret res)) { s with heap := h' } := fun h' hk' =>
      hR _ H [] (I.turnedL (t' := s.toks) (ch := [z, TI, TO, i1, i2]) hk' fp) (fun c o _ e => e) (by rw [List.append_nil]; exact hS) (by simp; omega) (fun j hj => by omega)
    obtain ⟨hTI, h1, h2, ⟨u, v, hTO⟩, hzz⟩ := st
    rcases hzz with hzz | ⟨T, f, oT, hzz, hT, r1, r2, r3, r4⟩
    · refine wpAny_bind (wpAny_pyNext_zip_end (A := A.in1) hh D hzz hTI hTO h1 h2 p.isList p2.isList hend fun h' hk' => ?_)
      exact wpAny_pure (fin h' fun c o hc e => hk' c o (fun x => hc (by simp [x])) (fun x => hc (by simp [x])) (fun x => hc (by simp [x])) (fun x => hc (by simp [x])) e)
    · refine wpAny_bind (wpAny_pyNext_zip_end_held (A := A.in1) hh D hzz hT hTI h1 h2 p.isList p2.isList hend fun h' hk' => ?_)
      exact wpAny_pure (fin h' fun c o hc e => hk' c o (fun x => hc (by simp [x])) (fun x => hc (by simp [x])) (fun x => hc (by simp [x])) e)
  | succ k ih =>
    intro i s H acc hk hi hl I hS qa qb st fp hR
    have hlt : i < n := by omega
    have hix : i < xs.length := by omega
    have hiy : i < ys.length := by omega
    have ex : xs[i]? = some xs[i] := List.getElem?_eq_getElem hix
    have ey : ys[i]? = some ys[i] := List.getElem?_eq_getElem hiy
    generalize xs[i] = x at ex
    generalize ys[i] = y at ey
    refine codeAny_builtin F.entry_extend_loop ?_
    rw [Around.under_plainId F.plain_extend_loop _]
    show wpAny _ A.in1 (pyNext (.ref z) >>= _) _ _ s
    obtain ⟨its, rv, p, _⟩ := I.list qa
    obtain ⟨its2, rv2, p2, _⟩ := I.list qb
    obtain ⟨u, hu, ru⟩ := rv.get ex
    obtain ⟨u2, hu2, ru2⟩ := rv2.get ey
    obtain ⟨hzl, its3, c3, rv3, hS3⟩ := I.hok S _ hS
    have lS : S < s.heap.objs.size := Heap.lt_size hS3
    have l3 := rv3.length
    obtain ⟨hTI, h1, h2, ⟨u', v', hTO⟩, hzz⟩ := st
    have lt : ∀ {c o}, s.heap.get? c = some o → s.heap.objs.size ≠ c := fun e => Nat.ne_of_gt (Heap.lt_size e)
    have n1 : s.heap.objs.size ≠ i1 := let ⟨_, e, _⟩ := h1; lt e
    have n2 : s.heap.objs.size ≠ i2 := let ⟨_, e, _⟩ := h2; lt e
    have nS : s.heap.objs.size ≠ S := Nat.ne_of_gt lS
    -- one turn
    have turn : ∀ h', Zst h' z TI TO i1 i2 a b S (i + 1) → IsPair h' s.heap.objs.size u u2 → (∀ c o, c ∉ [z, TI, TO, i1, i2] → s.heap.get? c = some o → h'.get? c = some o) → (∀ c ∈ [z, TI, TO, i1, i2], c < s.heap.objs.size) →
        wpAny (model X.prog X.w) A.in1 (updateSeq S (·.push (.ref s.heap.objs.size)) >>= fun _ => again (.builtin "list.extend.loop" ⟨[.ref S, .ref z, res], []⟩))
          (fun fin s' => match fin with | .done f => R (.ok f) s' | .again c' => c'.quiet = true ∧ codeAny (model X.prog X.w) A c' R s') (fun e s' => R (.error e) s') { s with heap := h' } := by
      intro h' st' hP hk' hlts
      have hS' := hk' S _ Sf hS3
      have new : ObjOk X.prog X.w (upd H s.heap.objs.size (.tup [x, y])) h' s.heap.objs.size (.tup [x, y]) :=
        ⟨by show 2 ≤ sizeLine; decide, [u, u2], .cons ru (.cons ru2 .nil), ⟨_, hP, rfl, _, rfl⟩⟩
      have I1 : Inv X pins σ (upd H s.heap.objs.size (.tup [x, y])) { s with heap := h' } := I.turnedNew (t' := s.toks) (ch := [z, TI, TO, i1, i2]) hk' fp (Nat.le_refl _) new
      have hS1 : upd H s.heap.objs.size (.tup [x, y]) S = some (.lst acc) := by rw [upd_ne (Ne.symm nS)]; exact hS
      have fr : H s.heap.objs.size = none := I.hok.fresh (Nat.le_refl _)
      refine wpAny_bind ?_
      refine wpAny_updateSeq hS' rfl ?_ (by show its3.toArray.size ≤ sizeLine; rw [List.size_toArray, ← l3]; exact hzl) (by show (its3.toArray.push _).size ≤ sizeLine + 1; rw [Array.size_push, List.size_toArray, ← l3]; omega)
      have hS2 := Heap.get?_update_self (Obj.mapSeq (·.push (Value.ref s.heap.objs.size))) hS' rfl
      have new2 : ObjOk X.prog X.w (upd (upd H s.heap.objs.size (.tup [x, y])) S (.lst (acc ++ [V.ref s.heap.objs.size]))) (h'.update S (Obj.mapSeq (·.push (Value.ref s.heap.objs.size)))) S (.lst (acc ++ [V.ref s.heap.objs.size])) := by
        refine ⟨by rw [List.length_append]; show acc.length + 1 ≤ sizeLine; omega, its3 ++ [Value.ref s.heap.objs.size], c3 + 1, rv3.append (.cons rfl .nil), ?_⟩
        rw [hS2]
        simp [Obj.mapSeq]
      have I2 : Inv X pins σ (upd (upd H s.heap.objs.size (.tup [x, y])) S (.lst (acc ++ [V.ref s.heap.objs.size]))) { s with heap := h'.update S (Obj.mapSeq (·.push (Value.ref s.heap.objs.size))) } :=
        I1.write (e := S) (t' := s.toks) (by rw [hS1]; trivial) (.inl rfl) (fun c o hc e => (Heap.get?_update_other _ _ (Ne.symm hc)).trans e) ⟨_, hS2⟩ new2
      have up : ∀ c o, c ≠ S → H c = some o → upd (upd H s.heap.objs.size (.tup [x, y])) S (.lst (acc ++ [V.ref s.heap.objs.size])) c = some o := fun c o hc e => by
        rw [upd_ne hc, upd_ne (fun q => by rw [q, fr] at e; cases e)]; exact e
      refine wpAny_pure ⟨plainId_quiet F.plain_extend_loop _, ih (i + 1) _ _ _ (by omega) hlt (by rw [List.length_append, hl]; rfl) I2 upd_same (sqL_but qa Sa up) (sqL_but qb Sb up) (st'.but Sf fun c o hc e => (Heap.get?_update_other _ _ (Ne.symm hc)).trans e) (fun c hc => ?_) fun s' H' acc' I' k' hS' hl' hat => ?_⟩
      · refine ⟨?_, (fp c hc).2⟩
        rw [upd_ne (fun q => Sf (by rw [← q]; exact hc)), upd_ne (Nat.ne_of_lt (hlts c hc))]
        exact (fp c hc).1
      · refine hR s' H' (V.ref s.heap.objs.size :: acc') I' (fun c o hc e => k' c o hc (up c o hc e)) (by rw [hS', List.append_assoc]; rfl) (by rw [List.length_cons]; omega) fun j hj => ?_
        cases j with
        | zero => exact ⟨_, x, y, rfl, ex, ey, k' _ _ nS (by rw [upd_ne nS]; exact upd_same)⟩
        | succ j =>
          obtain ⟨T, x', y', g1, g2, g3, g4⟩ := hat j (by omega)
          exact ⟨T, x', y', g1, by rw [show i + (j + 1) = i + 1 + j from by omega]; exact g2, by rw [show i + (j + 1) = i + 1 + j from by omega]; exact g3, g4⟩
    have hzl2 : z < s.heap.objs.size := by
      rcases hzz with hzz | ⟨_, _, _, hzz, _⟩
      · exact Heap.lt_size hzz
      · exact Heap.lt_size hzz
    have hlts : ∀ c ∈ [z, TI, TO, i1, i2], c < s.heap.objs.size := fun c hc => by
      simp only [List.mem_cons, List.not_mem_nil, or_false] at hc
      rcases hc with rfl | rfl | rfl | rfl | rfl
      · exact hzl2
      · exact Heap.lt_size hTI
      · exact Heap.lt_size hTO
      · obtain ⟨_, e, _⟩ := h1; exact Heap.lt_size e
      · obtain ⟨_, e, _⟩ := h2; exact Heap.lt_size e
    have nz : s.heap.objs.size ≠ z := Nat.ne_of_gt hzl2
    rcases hzz with hzz | ⟨T, f, oT, hzz, hT, r1, r2, r3, r4⟩
    · refine wpAny_bind (wpAny_pyNext_zip_item D hzz hTI hTO h1 h2 p.isList p2.isList (x := u) (y := u2) (by simpa using hu) (by simpa using hu2) fun h' a1 a2 a3 a4 a5 a6 hk' => ?_)
      exact turn h' ⟨hk' _ _ D.TIz D.TITO D.TIi1 D.TIi2 hTI, a3, a4, ⟨_, _, a2⟩, .inr ⟨s.heap.objs.size, false, _, a1, a5, nz, n1, n2, nS⟩⟩ a5 (fun c o hc e => hk' c o (fun x => hc (by simp [x])) (fun x => hc (by simp [x])) (fun x => hc (by simp [x])) (fun x => hc (by simp [x])) e) hlts
    · refine wpAny_bind (wpAny_pyNext_zip_item_held D hzz hT hTI h1 h2 p.isList p2.isList (x := u) (y := u2) (by simpa using hu) (by simpa using hu2) fun h' a1 a3 a4 a5 a6 hk' => ?_)
      exact turn h' ⟨hk' _ _ D.TIz D.TIi1 D.TIi2 hTI, a3, a4, ⟨_, _, hk' _ _ D.TOz D.TOi1 D.TOi2 hTO⟩, .inr ⟨T, true, oT, a1, hk' _ _ r1 r2 r3 hT, r1, r2, r3, r4⟩⟩ a5 (fun c o hc e => hk' c o (fun x => hc (by simp [x])) (fun x => hc (by simp [x])) (fun x => hc (by simp [x])) e) hlts
theorem rl_lzip {s : Shared} {H : Hp} {Q : VK} {z TI TO i1 i2 a b : Addr} {xs ys : List V} (I : Inv X pins σ H s) (hc : X.calm = true) (D : ZipApart z TI TO i1 i2 a b) (qa : SqL X.K H a xs) (qb : SqL X.K H b ys) (hz : IsZip s.heap z TI TO .none) (hTI : IsPair s.heap TI (.ref i1) (.ref i2)) (hTO : ∃ u v, IsPair s.heap TO u v)
    (h1 : s.heap.IsListIter i1 a 0) (h2 : s.heap.IsListIter i2 b 0) (fp : ∀ c ∈ [z, TI, TO, i1, i2], FpOk X pins H c)
    (hQ : ∀ L H' zs, H L = none → Ex H H' → H' L = some (.lst zs) → zs.length = min xs.length ys.length → (∀ j, j < min xs.length ys.length → ∃ T x y, zs[j]? = some (V.ref T) ∧ xs[j]? = some x ∧ ys[j]? = some y ∧ H' T = some (.tup [x, y])) → Q (.ref L) H') :
    wpAny (model X.prog X.w) X.A (call (.type "list") [.ref z]) (EP X pins σ Q) X.xe s := by
  obtain ⟨its, rv, p, hzx⟩ := I.list qa
  obtain ⟨its2, rv2, p2, hzy⟩ := I.list qb
  have la := p.lt
  have lb := p2.lt
  obtain ⟨u0, v0, hTO⟩ := hTO
  have fr : H s.heap.objs.size = none := I.hok.fresh (Nat.le_refl _)
  have lts : ∀ c ∈ [z, TI, TO, i1, i2], c < s.heap.objs.size := fun c hc => by
    simp only [List.mem_cons, List.not_mem_nil, or_false] at hc
    rcases hc with rfl | rfl | rfl | rfl | rfl
    · exact Heap.lt_size hz
    · exact Heap.lt_size hTI
    · exact Heap.lt_size hTO
    · obtain ⟨_, e, _⟩ := h1; exact Heap.lt_size e
    · obtain ⟨_, e, _⟩ := h2; exact Heap.lt_size e
  have Sf : s.heap.objs.size ∉ [z, TI, TO, i1, i2] := fun h => Nat.lt_irrefl _ (lts _ h)
  refine callType_codes (Q₁ := fun obj s₁ => obj = .ref s.heap.objs.size ∧ s₁ = { s with heap := s.heap.push { cls := .type "list", data := .seq #[] } }) PySem.F.called_list (PySem.F.typeCall_list_1 _) PySem.F.entry_list_init
    (code_list_new _ ⟨rfl, rfl⟩) fun obj s₁ h₁ => ?_
  obtain ⟨rfl, rfl⟩ := h₁
  have hS : (s.heap.push { cls := .type "list", data := .seq #[] }).get? s.heap.objs.size = some { cls := .type "list", data := .seq #[] } := Heap.get?_push_size _ rfl
  refine ⟨⟨_, hS, rfl⟩, PySem.F.args_list_init_2 _ _, ?_⟩
  show wpAny _ _ (do let old ← Builtin.List.listItems (.ref s.heap.objs.size); Builtin.List.listUpdate (.ref s.heap.objs.size) (fun _ => #[]); letGo old.toList.reverse; Builtin.List.listExtendWith (.ref s.heap.objs.size) (.ref z) .none) _ _ _
  refine wpAny_bind ?_
  unfold Builtin.List.listItems
  refine wpAny_bind (wpAny_seqItems hS rfl (wpAny_pure ?_))
  show wpAny _ _ (updateSeq s.heap.objs.size (fun _ => #[]) >>= fun _ => letGo (#[] : Array Value).toList.reverse >>= fun _ => Builtin.List.listExtendWith (.ref s.heap.objs.size) (.ref z) .none) _ _ _
  refine wpAny_bind (wpAny_updateSeq hS rfl ?_)
  have hS₂ := Heap.get?_update_self (Obj.mapSeq (fun _ => (#[] : Array Value))) hS rfl
  refine wpAny_bind (wpAny_letGo ?_)
  have oth : ∀ b o, b ≠ s.heap.objs.size → s.heap.get? b = some o → ((s.heap.push { cls := .type "list", data := .seq #[] }).update s.heap.objs.size (Obj.mapSeq (fun _ => (#[] : Array Value)))).get? b = some o :=
    fun b o hb e => (Heap.get?_update_other _ _ (Ne.symm hb)).trans (Heap.get?_push_of_some _ e)
  have hz2 := oth _ _ (Nat.ne_of_lt (lts z (by simp))) hz
  unfold Builtin.List.listExtendWith
  refine wpAny_bind (wpAny_typeOf (T := "zip") ⟨_, hz2, rfl⟩ ?_)
  have g1 : Builtin.List.listSameRef (.ref s.heap.objs.size) (.ref z) = false := by simp [Builtin.List.listSameRef, Nat.ne_of_gt (lts z (by simp))]
  have g2 : (Value.type "zip" == Value.type "list") = false := by decide
  have g3 : (Value.type "zip" == Value.type "tuple") = false := by decide
  simp only [g1, g2, g3, Bool.or_false, Bool.false_eq_true, if_false]
  refine wpAny_bind (wpAny_pyIter_zip hz2 ?_)
  refine wpAny_bind (wpAny_holding ?_)
  unfold Builtin.List.listLengthHint
  refine wpAny_bind (wpAny_specialOf ⟨_, hz2, rfl⟩ zip_no_len ?_)
  show wpAny _ _ (specialOf (Value.ref z) (Str.ofString "__length_hint__") >>= _) _ _ _
  refine wpAny_bind (wpAny_specialOf ⟨_, hz2, rfl⟩ zip_no_hint ?_)
  refine wpAny_pure ?_
  show wpAny _ _ (rule "list.extend.makes-room" >>= fun _ => Builtin.List.listTouch (.ref s.heap.objs.size) >>= fun _ =>
    again (.builtin "list.extend.loop" ⟨[.ref s.heap.objs.size, .ref z, .none], []⟩)) _ _ _
  refine wpAny_bind (wpAny_rule ?_)
  refine wpAny_bind ?_
  show wpAny _ _ (updateSeq s.heap.objs.size (·.push .none) >>= fun _ => updateSeq s.heap.objs.size (·.pop)) _ _ _
  refine wpAny_bind (wpAny_updateSeq hS₂ rfl ?_)
  have hS₃ := Heap.get?_update_self (Obj.mapSeq (·.push Value.none)) hS₂ rfl
  refine wpAny_updateSeq (hz := by seq_fits) hS₃ rfl ?_
  have hS₄ := Heap.get?_update_self (Obj.mapSeq (·.pop)) hS₃ rfl
  have oth2 : ∀ b o, b ≠ s.heap.objs.size → s.heap.get? b = some o → ((((s.heap.push { cls := .type "list", data := .seq #[] }).update s.heap.objs.size (Obj.mapSeq (fun _ => (#[] : Array Value)))).update s.heap.objs.size (Obj.mapSeq (·.push Value.none))).update s.heap.objs.size (Obj.mapSeq (·.pop))).get? b = some o :=
    fun b o hb e => (Heap.get?_update_other _ _ (Ne.symm hb)).trans ((Heap.get?_update_other _ _ (Ne.symm hb)).trans (oth b o hb e))
  generalize ((((s.heap.push { cls := .type "list", data := .seq #[] }).update s.heap.objs.size (Obj.mapSeq (fun _ => (#[] : Array Value)))).update s.heap.objs.size (Obj.mapSeq (·.push Value.none))).update s.heap.objs.size (Obj.mapSeq (·.pop))) = h4 at hS₄ oth2
  have I1 : Inv X pins σ (upd H s.heap.objs.size (.lst [])) { s with heap := h4 } := I.laid (t' := s.toks) (fun b u e => oth2 b u (Nat.ne_of_lt (Heap.lt_size e)) e) (Nat.le_refl _)
    (show ObjOk X.prog X.w _ _ _ (.lst []) from ⟨Nat.zero_le _, [], _, .nil, hS₄⟩)
  have up : ∀ c o, c ≠ s.heap.objs.size → H c = some o → upd H s.heap.objs.size (.lst []) c = some o := fun c o hc e => by rw [upd_ne hc]; exact e
  have st0 : Zst s.heap z TI TO i1 i2 a b s.heap.objs.size 0 := ⟨hTI, h1, h2, ⟨_, _, hTO⟩, .inl hz⟩
  refine wpAny_pure ⟨plainId_quiet F.plain_extend_loop _, lzip_loop (X := X) (A := X.A.in1) (pins := pins) (σ := σ) (n := min xs.length ys.length) D (I.ok.hd hc) .none rfl (Nat.le_trans (Nat.min_le_left _ _) hzx) (Nat.ne_of_lt la) (Nat.ne_of_lt lb) Sf _ 0 _ _ [] rfl (Nat.zero_le _) rfl I1 upd_same (sqL_but qa (Nat.ne_of_lt la) up) (sqL_but qb (Nat.ne_of_lt lb) up)
    (st0.but Sf oth2) (fun c hc => ⟨by rw [upd_ne (Nat.ne_of_lt (lts c hc))]; exact (fp c hc).1, (fp c hc).2⟩) fun s' H' acc' I' k' hS' hl' hat => ?_⟩
  refine ⟨rfl, .ref s.heap.objs.size, H', I', rfl, hQ _ H' acc' fr (fun c o e => k' c o (fun q => by rw [q, fr] at e; cases e) (up c o (fun q => by rw [q, fr] at e; cases e) e)) hS' hl' fun j hj => ?_⟩
  obtain ⟨T, x, y, q1, q2, q3, q4⟩ := hat j (by omega)
  exact ⟨T, x, y, q1, by rw [Nat.zero_add] at q2; exact q2, by rw [Nat.zero_add] at q3; exact q3, q4⟩
/-- list(zip(xs, ys)) -/
def tLstZip (K : PySem.W.Frag) (ta : TA) : TE := fun σ H Q => ta σ H fun vs H1 => ∃ a b xs ys, vs = [V.ref a, .ref b] ∧ SqL K H1 a xs ∧ SqL K H1 b ys ∧
  ∀ L H' zs, H1 L = none → Ex H1 H' → H' L = some (.lst zs) → zs.length = min xs.length ys.length → (∀ j, j < min xs.length ys.length → ∃ T x y, zs[j]? = some (V.ref T) ∧ xs[j]? = some x ∧ ys[j]? = some y ∧ H' T = some (.tup [x, y])) → Q (.ref L) H'
end
section
variable {X : Cx} {K : PySem.W.Frag}
theorem pe_listZip {e e2 : Expr} {ta : TA} {p p2 pos pos2 : Pos} (h : X.K = K) (hc : X.calm = true) (hgl : Gl X "list") (hml : X.mg "list" = none) (hg : Gl X "zip") (hm : X.mg "zip" = none) (ha : PA X [e, e2] ta)
    (nl : starEach [Expr.Call (.Name "zip" p2) [e, e2] [] pos2] X.env = (false, eval (.Call (.Name "zip" p2) [e, e2] [] pos2) X.env) :: starEach [] X.env := by rfl)
    (hs : starEach [e, e2] X.env = (false, eval e X.env) :: starEach [e2] X.env := by rfl) (hpl : (backTo pos2 (starEach [e2] X.env)).any (·.1) = false := by rfl) :
    PE X (.Call (.Name "list" p) [.Call (.Name "zip" p2) [e, e2] [] pos2] [] pos) (tLstZip K ta) := by
  subst h
  refine ⟨fun pins s σ H Q I h => ?_⟩
  refine Call_ (ld_blt I hgl hml boot_list (PyProof.Rows.callWith_type1 (args_cons (Call_ (ld_blt I hg hm PyProof.Rows.boot_zip (PyProof.Rows.callWith_type1 (thn (ha.run pos2 pins s σ H _ I h) fun us s1 ⟨vs, H1, I1, r1, q1⟩ => ?_) hs hpl))) nl) nl))
  obtain ⟨a, b, xs, ys, ex, hqx, hqy, q⟩ := q1
  subst ex
  cases r1 with
  | cons r rr =>
    cases rr with
    | cons r' rr =>
      cases rr
      cases r
      cases r'
      obtain ⟨its, rv, p1, _⟩ := I1.list hqx
      obtain ⟨its2, rv2, p2, _⟩ := I1.list hqy
      have la : a < s1.heap.objs.size := p1.lt
      have lb : b < s1.heap.objs.size := p2.lt
      refine call_zip_2 p1.isList p2.isList fun h' hz hTI hTO h1 h2 hsz hk => ?_
      have I2 : Inv X pins σ H1 { s1 with heap := h' } := I1.kept (t' := s1.toks) hk
      refine args_nil ?_
      refine rl_lzip I2 hc (PySem.W.ktu_apart s1.heap.objs.size a b la lb) hqx hqy hz hTI ⟨_, _, hTO⟩ h1 h2 (fun c hcm => ?_) q
      have e' : c = s1.heap.objs.size + 4 ∨ c = s1.heap.objs.size + 2 ∨ c = s1.heap.objs.size + 3 ∨ c = s1.heap.objs.size ∨ c = s1.heap.objs.size + 1 := by simpa using hcm
      have hle : s1.heap.objs.size ≤ c := by
        rcases e' with z | z | z | z | z
        · rw [z]; exact Nat.le_add_right _ _
        · rw [z]; exact Nat.le_add_right _ _
        · rw [z]; exact Nat.le_add_right _ _
        · rw [z]; exact Nat.le_refl _
        · rw [z]; exact Nat.le_add_right _ _
      exact I1.fpOk hle (I1.hok.fresh hle)
end
end
section
open PySem PySem.Spec PyProof.Rows L2 He
/-- the indexes of points, by x, then by y -/
def spRkP (C CR : Addr) : Sp := fun vs H Q _ => ∃ (k : Addr) (xs : List V) (ps : List (Rat × Rat)), vs = [.ref k] ∧ SeqAt1 H k xs ∧ PtsL C CR H xs ps ∧ (∀ q ∈ ps, Bq q.1 ∧ Bq q.2) ∧ ps.length ≤ 1000 ∧
  ∀ (H' : Hp) (p : Addr) (idx : List Nat), Ex H H' → H' p = some (.lst (idx.map nat)) → idx.Perm (List.range ps.length) → idx.Pairwise (fun i j => leK (keysP ps) i j = true) → Q (.ref p) H'
theorem rgV_nat {n : Nat} : rgV 0 (n : Int) = (List.range n).map nat := by
  unfold rgV
  rw [show ((n : Int) - 0).toNat = n from by omega]
  refine List.map_congr_left fun i _ => ?_
  show V.int (0 + (i : Int)) = V.int (i : Int)
  rw [Int.zero_add]
theorem pw_range {R : Nat → Nat → Prop} {n : Nat} (h : n < 2) : (List.range n).Pairwise R := by
  match n, h with
  | 0, _ => exact .nil
  | 1, _ => exact List.pairwise_singleton _ _
  | n + 2, h => exact absurd h (by omega)
theorem frq_crs (x t y z : Rat) : FrQ (x * t - y * z) (x.num * t.num * ((y.den : Int) * (z.den : Int)) - y.num * z.num * ((x.den : Int) * (t.den : Int))) ((x.den : Int) * (t.den : Int) * ((y.den : Int) * (z.den : Int))) :=
  frq_sub (frq_mul (frq_self x) (frq_self t)) (frq_mul (frq_self y) (frq_self z))
section
variable {σ : L2.St} {H : Hp} {Q : VK} {K : PySem.W.Frag} {ta : TA} {te : L2.St → Hp → (Int → Int → Hp → Prop) → Prop} {t1 : TE}
theorem r_lrg (k : t1 σ H fun x H1 => ∃ n, x = .int n ∧ RgOk 0 n ∧ ∀ q, H1 q = none → Q (.ref q) (upd H1 q (.lst (rgV 0 n)))) : tLstRg (tRg1 t1) σ H Q := k
theorem r_lzip (k : ta σ H fun vs H1 => ∃ a b xs ys, vs = [V.ref a, .ref b] ∧ SqL K H1 a xs ∧ SqL K H1 b ys ∧
  ∀ L H' zs, H1 L = none → Ex H1 H' → H' L = some (.lst zs) → zs.length = min xs.length ys.length → (∀ j, j < min xs.length ys.length → ∃ T x y, zs[j]? = some (V.ref T) ∧ xs[j]? = some x ∧ ys[j]? = some y ∧ H' T = some (.tup [x, y])) → Q (.ref L) H') : tLstZip K ta σ H Q := k
end
def rows2 (key1 key2 : List Int) (n : Nat) : List (List Int) := (List.range n).map fun i => [key1.getD i 0, key2.getD i 0]
theorem rows2_len {key1 key2 : List Int} {n : Nat} : (rows2 key1 key2 n).length = n := by unfold rows2; simp
theorem rows2_at {key1 key2 : List Int} {n i : Nat} {r : List Int} (h : (rows2 key1 key2 n)[i]? = some r) : i < n ∧ r = [key1.getD i 0, key2.getD i 0] := by
  unfold rows2 at h
  rw [List.getElem?_map] at h
  by_cases hi : i < n
  · rw [List.getElem?_range hi] at h; exact ⟨hi, (Option.some.inj h).symm⟩
  · rw [List.getElem?_eq_none (by rw [List.length_range]; omega)] at h; cases h
theorem getD_sb {key : List Int} (h : ∀ x ∈ key, Sb 20000 x) (i : Nat) : Sb 20000 (key.getD i 0) := by
  rw [List.getD_eq_getElem?_getD]
  cases e : key[i]? with
  | none => show Sb 20000 0; unfold Sb; exact Nat.two_pow_pos _
  | some x => exact h x (List.mem_of_getElem? e)
theorem rows2_ok {key1 key2 : List Int} {n : Nat} (h1 : ∀ x ∈ key1, Sb 20000 x) (h2 : ∀ x ∈ key2, Sb 20000 x) : IOk 2 20000 (rows2 key1 key2 n) := by
  intro r hr
  obtain ⟨i, _, rfl⟩ := List.mem_map.mp hr
  refine ⟨rfl, fun x hx => ?_⟩
  rcases List.mem_cons.mp hx with rfl | hx
  · exact getD_sb h1 i
  · rw [List.mem_singleton.mp hx]; exact getD_sb h2 i
theorem rows2_sorted {ps : List (Rat × Rat)} {key1 key2 : List Int} {idx : List Nat} (r1 : RKeys (ps.map (·.1)) key1) (r2 : RKeys (ps.map (·.2)) key2) (hlt : ∀ i ∈ idx, i < ps.length)
    (h : idx.Pairwise fun i j => leR (rows2 key1 key2 ps.length) i j = true) : idx.Pairwise fun i j => leK (keysP ps) i j = true := by
  refine List.Pairwise.imp_of_mem (fun {a b} ha hb z => ?_) h
  have la := hlt a ha
  have lb := hlt b hb
  have la1 : a < (ps.map (·.1)).length := by rw [List.length_map]; exact la
  have lb1 : b < (ps.map (·.1)).length := by rw [List.length_map]; exact lb
  have la2 : a < (ps.map (·.2)).length := by rw [List.length_map]; exact la
  have lb2 : b < (ps.map (·.2)).length := by rw [List.length_map]; exact lb
  have ra : ∀ i, i < ps.length → (rows2 key1 key2 ps.length).getD i [] = [key1.getD i 0, key2.getD i 0] := fun i hi => by
    rw [List.getD_eq_getElem?_getD, List.getElem?_eq_getElem (by rw [rows2_len]; exact hi)]
    exact (rows2_at (List.getElem?_eq_getElem (by rw [rows2_len]; exact hi))).2
  have ka : ∀ i (hi : i < ps.length), (keysP ps).getD i [] = [(ps.map (·.1)).getD i 0, (ps.map (·.2)).getD i 0] := fun i hi => by
    unfold keysP
    rw [List.getD_eq_getElem?_getD, List.getD_eq_getElem?_getD, List.getD_eq_getElem?_getD, List.getElem?_map, List.getElem?_map, List.getElem?_map, List.getElem?_eq_getElem hi]
    rfl
  have z : leI ((rows2 key1 key2 ps.length).getD a []) ((rows2 key1 key2 ps.length).getD b []) = true := z
  rw [ra a la, ra b lb] at z
  unfold leK
  rw [ka a la, ka b lb]
  have c1 := r1.2.2 b a lb1 la1
  have c2 := r2.2.2 b a lb2 la2
  unfold leI at z
  have e : lexI [key1.getD b 0, key2.getD b 0] [key1.getD a 0, key2.getD a 0] = lexLt [(ps.map (·.1)).getD b 0, (ps.map (·.2)).getD b 0] [(ps.map (·.1)).getD a 0, (ps.map (·.2)).getD a 0] := by
    show (if key1.getD b 0 = key1.getD a 0 then (if key2.getD b 0 = key2.getD a 0 then lexI [] [] else decide (key2.getD b 0 < key2.getD a 0)) else decide (key1.getD b 0 < key1.getD a 0)) =
      (if (ps.map (·.1)).getD b 0 = (ps.map (·.1)).getD a 0 then (if (ps.map (·.2)).getD b 0 = (ps.map (·.2)).getD a 0 then lexLt [] [] else decide ((ps.map (·.2)).getD b 0 < (ps.map (·.2)).getD a 0)) else decide ((ps.map (·.1)).getD b 0 < (ps.map (·.1)).getD a 0))
    simp only [c1.1, c1.2, c2.1, c2.2]
    rfl
  rw [← e]; exact z
theorem rs_map {CR : Addr} {H : Hp} {acc : List V} {ps : List (Rat × Rat)} {f : Rat × Rat → Rat} (ac : Acc (fun j p H => ∃ q, ps[j]? = some q ∧ IsR CR H p (f q)) acc ps.length H) : RsL CR H acc (ps.map f) :=
  ⟨by rw [ac.len, List.length_map], fun i q hq => by
    rw [List.getElem?_map] at hq
    cases e : ps[i]? with
    | none => rw [e] at hq; cases hq
    | some r =>
      rw [e] at hq; cases hq
      obtain ⟨p, z1, r', z2, z3⟩ := ac.at_ i (List.getElem?_eq_some_iff.mp e).1
      rw [e] at z2; cases z2
      exact ⟨p, z1, z3⟩⟩
end
section
open PySem PySem.Spec PyProof.Rows L2 He
section
variable {P : Program} {w : World} {K : PySem.W.Frag} {mg : Str → Option Value} {base : Heap} {C_Ratio C_BadNumber C_Point C_Form f_Ratio_eq f_Ratio_lt f_Ratio_le f_Ratio_gt f_Ratio_ge f_Ratio_bool f_Ratio_neg f_Ratio_abs f_Ratio_str f_Ratio_add f_Ratio_radd f_Ratio_sub f_Ratio_rsub f_Ratio_mul f_Ratio_rmul f_Ratio_floordiv f_Ratio_rfloordiv f_Ratio_mod f_Ratio_rmod f_Ratio_pow f_Ratio_over f_Ratio_floor f_Ratio_ceiling f_Ratio_whole f_Ratio_sign f_Point_mul f_Point_rmul f_Form_mul f_Form_rmul : Addr}
abbrev s_added : Stmt := (top 21)
theorem sc_added : FnScope ["one", "other"] ["one", "other"] (defScope s_added) := ⟨rfl, rfl, rfl, by decide +kernel, rfl, by decide +kernel, by decide +kernel⟩
theorem ok_added {f : Addr} {fd : FuncData} (F : FunD K "added" "added" (defArgs s_added) (defBody s_added) (defScope s_added) [] [] f fd) (TR : RT K mg C_Ratio) (c_Ratio_2 : Ck P w K mg base 4 "Ratio" C_Ratio [] (spRInit K C_Ratio C_BadNumber)) : FnOk P w K mg base (L2.CX P w) 6 f fd ["one", "other"] (spRR C_Ratio (fun q r => q + r)) := by
  refine F.ok (CX := L2.CX P w) sc_added (fun vs H Q E h => ?_) (fun cdv A outer s H vs Q E hr h => ?_)
  · obtain ⟨a, b, q, r, rfl, _⟩ := h; rfl
  · obtain ⟨a, b, q, r, rfl, ha, hb, hq, hr', k⟩ := h
    refine ⟨_, (pss_one (ps_ret (pe_ck c_Ratio_2 hr (by decide) (by rfl) psE (pa_cons (pe_op op_add (pe_op op_mulA (kfld (K := K) rfl (pv 0) rfl) (kfld (K := K) rfl (pv 1) rfl)) (pe_op op_mulA (kfld (K := K) rfl (pv 1) rfl) (kfld (K := K) rfl (pv 0) rfl))) (pa_cons (pe_op op_mulA (kfld (K := K) rfl (pv 0) rfl) (kfld (K := K) rfl (pv 1) rfl)) pa_nil))))), ?_⟩
    wtm_at "of_rd"
    refine q_mk rfl (dd_ne q r) (dd_lt hq hr') ?_
    rw [rat_add]; exact k
abbrev s_taken : Stmt := (top 22)
theorem sc_taken : FnScope ["one", "other"] ["one", "other"] (defScope s_taken) := ⟨rfl, rfl, rfl, by decide +kernel, rfl, by decide +kernel, by decide +kernel⟩
theorem ok_taken {f : Addr} {fd : FuncData} (F : FunD K "taken" "taken" (defArgs s_taken) (defBody s_taken) (defScope s_taken) [] [] f fd) (TR : RT K mg C_Ratio) (c_Ratio_2 : Ck P w K mg base 4 "Ratio" C_Ratio [] (spRInit K C_Ratio C_BadNumber)) : FnOk P w K mg base (L2.CX P w) 6 f fd ["one", "other"] (spRR C_Ratio (fun q r => q - r)) := by
  refine F.ok (CX := L2.CX P w) sc_taken (fun vs H Q E h => ?_) (fun cdv A outer s H vs Q E hr h => ?_)
  · obtain ⟨a, b, q, r, rfl, _⟩ := h; rfl
  · obtain ⟨a, b, q, r, rfl, ha, hb, hq, hr', k⟩ := h
    refine ⟨_, (pss_one (ps_ret (pe_ck c_Ratio_2 hr (by decide) (by rfl) psE (pa_cons (pe_op op_sub (pe_op op_mulA (kfld (K := K) rfl (pv 0) rfl) (kfld (K := K) rfl (pv 1) rfl)) (pe_op op_mulA (kfld (K := K) rfl (pv 1) rfl) (kfld (K := K) rfl (pv 0) rfl))) (pa_cons (pe_op op_mulA (kfld (K := K) rfl (pv 0) rfl) (kfld (K := K) rfl (pv 1) rfl)) pa_nil))))), ?_⟩
    wtm_at "of_rd"
    refine q_mk rfl (dd_ne q r) (dd_lt hq hr') ?_
    rw [rat_sub]; exact k
abbrev s_Point_init : Stmt := (inClass (top 24) 0)
theorem sc_Point___init__ : FnScope ["self", "x", "y"] ["self", "x", "y"] (defScope s_Point_init) := ⟨rfl, rfl, rfl, by decide +kernel, rfl, by decide +kernel, by decide +kernel⟩
theorem ok_Point_init {f : Addr} {fd : FuncData} (F : FunD K "__init__" "Point.__init__" (defArgs s_Point_init) (defBody s_Point_init) (defScope s_Point_init) [] [] f fd) (g_Ratio : mg "Ratio" = some (.ref C_Ratio)) (TB : TBl mg) (TR : RT K mg C_Ratio) (T_Point : PT K C_Point) (c_ratio_of : Cl P w K mg base 6 "ratio_of" (spRatioOf K C_Ratio C_BadNumber)) : FnOk P w K mg base (L2.CX P w) 7 f fd ["self", "x", "y"] (spPInit K C_Point C_Ratio C_BadNumber) := by
  refine F.ok (CX := L2.CX P w) sc_Point___init__ (fun vs H Q E h => ?_) (fun cdv A outer s H vs Q E hr h => ?_)
  · obtain ⟨p, dx, u, v, rfl, _⟩ := h; rfl
  · obtain ⟨p, dx, u, v, rfl, hp, h⟩ := h
    refine ⟨_, (pss_cons (ksfld (K := K) rfl (pv 0) (pe_ifExp (pt_val (pe_callB (kc_isi (K := K) rfl) (by rfl) TB.b_isinstance (by decide +kernel) (pa_cons (pv 1) (pa_cons (pe_glob (v := .ref C_Ratio) (by rfl) g_Ratio rfl) pa_nil)))) (pv 1) (pe_cl c_ratio_of hr (by decide) (by rfl) psE (pa_cons (pv 1) pa_nil))) rfl) (pss_one (ksfld (K := K) rfl (pv 0) (pe_ifExp (pt_val (pe_callB (kc_isi (K := K) rfl) (by rfl) TB.b_isinstance (by decide +kernel) (pa_cons (pv 2) (pa_cons (pe_glob (v := .ref C_Ratio) (by rfl) g_Ratio rfl) pa_nil)))) (pv 2) (pe_cl c_ratio_of hr (by decide) (by rfl) psE (pa_cons (pv 2) pa_nil))) rfl))), ?_⟩
    rcases h with ⟨x, y, hu, hv, bx, b_y, k⟩ | ⟨hw, hz⟩ | ⟨x, hu, bx, hw, hz⟩
    · wtm_at "of_rd"
      wtm_at "of_rz"
      wtm_at "of_rd"
      rcases hu with ⟨n, rfl, rfl⟩ | ⟨c, rfl, hc⟩
      · refine r_isi (.own _) tyI (kit_int TR.k) ?_
        wtm_at "of_rd"
        wtm_at "of_rz"
        wtm_at "of_rd"
        refine q_ratioOf num_i bx ?_
        intro H1 p1 e1 h1
        wtm_at "of_rd"
        wtm_at "of_rz"
        wtm_at "of_rd"
        have hp1 := e1 _ _ hp
        refine r_put T_Point.k.o.cl T_Point.nX (by with_unfolding_all rfl) hp1 (by decide) ?_
        wtm_at "of_rd"
        wtm_at "of_rz"
        wtm_at "of_rd"
        have hv1 : NumV C_Ratio _ v y := (hv.ex e1).stay (StayP.put (o := .ins C_Point dx (putF "x" (V.ref p1) []))) ⟨_, hp1⟩
        rcases hv1 with ⟨n, rfl, rfl⟩ | ⟨c2, rfl, hc2⟩
        · refine r_isi (.own _) tyI (kit_int TR.k) ?_
          wtm_at "of_rd"
          wtm_at "of_rz"
          wtm_at "of_rd"
          refine q_ratioOf num_i b_y ?_
          intro H2 p2 e2 h2
          wtm_at "of_rd"
          wtm_at "of_rz"
          wtm_at "of_rd"
          refine r_put T_Point.k.o.cl T_Point.nY (by with_unfolding_all rfl) (e2 _ _ upd_same) (by show 1 < 1000; decide) ?_
          have nt : ∀ a : Addr, (putF "x" (V.ref a) []).lookup ("top" : Str) = none := fun a => by with_unfolding_all rfl
          refine k _ ((((ex_stay e1).trans StayP.put).trans (ex_stay e2)).trans StayP.put) ⟨dx, _, _, ?_, ((h1.putI hp1 rfl).ex e2).putI (e2 _ _ upd_same) (nt _), h2.putI (e2 _ _ upd_same) (nt _)⟩
          rw [upd_same, putF_xy]; rfl
        · refine r_isi (.own _) (hc2.tyx TR) kit_self ?_
          have e2 := hc2.here
          have h2 := hc2
          wtm_at "of_rd"
          wtm_at "of_rz"
          wtm_at "of_rd"
          refine r_put T_Point.k.o.cl T_Point.nY (by with_unfolding_all rfl) (e2 _ _ upd_same) (by show 1 < 1000; decide) ?_
          have nt : ∀ a : Addr, (putF "x" (V.ref a) []).lookup ("top" : Str) = none := fun a => by with_unfolding_all rfl
          refine k _ ((((ex_stay e1).trans StayP.put).trans (ex_stay e2)).trans StayP.put) ⟨dx, _, _, ?_, ((h1.putI hp1 rfl).ex e2).putI (e2 _ _ upd_same) (nt _), h2.putI (e2 _ _ upd_same) (nt _)⟩
          rw [upd_same, putF_xy]; rfl
      · refine r_isi (.own _) (hc.tyx TR) kit_self ?_
        have e1 := hc.here
        have h1 := hc
        wtm_at "of_rd"
        wtm_at "of_rz"
        wtm_at "of_rd"
        have hp1 := e1 _ _ hp
        refine r_put T_Point.k.o.cl T_Point.nX (by with_unfolding_all rfl) hp1 (by decide) ?_
        wtm_at "of_rd"
        wtm_at "of_rz"
        wtm_at "of_rd"
        have hv1 : NumV C_Ratio _ v y := (hv.ex e1).stay (StayP.put (o := .ins C_Point dx (putF "x" (V.ref c) []))) ⟨_, hp1⟩
        rcases hv1 with ⟨n, rfl, rfl⟩ | ⟨c2, rfl, hc2⟩
        · refine r_isi (.own _) tyI (kit_int TR.k) ?_
          wtm_at "of_rd"
          wtm_at "of_rz"
          wtm_at "of_rd"
          refine q_ratioOf num_i b_y ?_
          intro H2 p2 e2 h2
          wtm_at "of_rd"
          wtm_at "of_rz"
          wtm_at "of_rd"
          refine r_put T_Point.k.o.cl T_Point.nY (by with_unfolding_all rfl) (e2 _ _ upd_same) (by show 1 < 1000; decide) ?_
          have nt : ∀ a : Addr, (putF "x" (V.ref a) []).lookup ("top" : Str) = none := fun a => by with_unfolding_all rfl
          refine k _ ((((ex_stay e1).trans StayP.put).trans (ex_stay e2)).trans StayP.put) ⟨dx, _, _, ?_, ((h1.putI hp1 rfl).ex e2).putI (e2 _ _ upd_same) (nt _), h2.putI (e2 _ _ upd_same) (nt _)⟩
          rw [upd_same, putF_xy]; rfl
        · refine r_isi (.own _) (hc2.tyx TR) kit_self ?_
          have e2 := hc2.here
          have h2 := hc2
          wtm_at "of_rd"
          wtm_at "of_rz"
          wtm_at "of_rd"
          refine r_put T_Point.k.o.cl T_Point.nY (by with_unfolding_all rfl) (e2 _ _ upd_same) (by show 1 < 1000; decide) ?_
          have nt : ∀ a : Addr, (putF "x" (V.ref a) []).lookup ("top" : Str) = none := fun a => by with_unfolding_all rfl
          refine k _ ((((ex_stay e1).trans StayP.put).trans (ex_stay e2)).trans StayP.put) ⟨dx, _, _, ?_, ((h1.putI hp1 rfl).ex e2).putI (e2 _ _ upd_same) (nt _), h2.putI (e2 _ _ upd_same) (nt _)⟩
          rw [upd_same, putF_xy]; rfl
    · obtain ⟨t, ht, hc, hi⟩ := _root_.id hw
      wtm_at "of_rd"
      wtm_at "of_rz"
      wtm_at "of_rd"
      refine r_isi (.own _) ht hc ?_
      wtm_at "of_rd"
      wtm_at "of_rz"
      wtm_at "of_rd"
      refine q_ratioOfW hw ?_
      exact hz
    · wtm_at "of_rd"
      wtm_at "of_rz"
      wtm_at "of_rd"
      rcases hu with ⟨n, rfl, rfl⟩ | ⟨c, rfl, hc⟩
      · refine r_isi (.own _) tyI (kit_int TR.k) ?_
        wtm_at "of_rd"
        wtm_at "of_rz"
        wtm_at "of_rd"
        refine q_ratioOf num_i bx ?_
        intro H1 p1 e1 h1
        wtm_at "of_rd"
        wtm_at "of_rz"
        wtm_at "of_rd"
        have hp1 := e1 _ _ hp
        refine r_put T_Point.k.o.cl T_Point.nX (by with_unfolding_all rfl) hp1 (by decide) ?_
        wtm_at "of_rd"
        wtm_at "of_rz"
        wtm_at "of_rd"
        have hw1 := hw _ ((ex_stay e1).trans (StayP.put (o := .ins C_Point dx (putF "x" (V.ref p1) []))))
        obtain ⟨t, ht, hc', hi⟩ := _root_.id hw1
        refine r_isi (.own _) ht hc' ?_
        wtm_at "of_rd"
        wtm_at "of_rz"
        wtm_at "of_rd"
        refine q_ratioOfW hw1 ?_
        intro d H' e hd hn
        refine hz d H' (((ex_stay e1).trans StayP.put).trans (ex_stay e)) hd ?_
        cases z : H d with
        | none => rfl
        | some o =>
          by_cases hdp : d = p
          · subst hdp; rw [upd_same] at hn; cases hn
          · have := ((ex_stay e1).trans (StayP.put (o := .ins C_Point dx (putF "x" (V.ref p1) [])))) d o z hdp
            rw [hn] at this; cases this
      · refine r_isi (.own _) (hc.tyx TR) kit_self ?_
        have e1 := hc.here
        have h1 := hc
        wtm_at "of_rd"
        wtm_at "of_rz"
        wtm_at "of_rd"
        have hp1 := e1 _ _ hp
        refine r_put T_Point.k.o.cl T_Point.nX (by with_unfolding_all rfl) hp1 (by decide) ?_
        wtm_at "of_rd"
        wtm_at "of_rz"
        wtm_at "of_rd"
        have hw1 := hw _ ((ex_stay e1).trans (StayP.put (o := .ins C_Point dx (putF "x" (V.ref c) []))))
        obtain ⟨t, ht, hc', hi⟩ := _root_.id hw1
        refine r_isi (.own _) ht hc' ?_
        wtm_at "of_rd"
        wtm_at "of_rz"
        wtm_at "of_rd"
        refine q_ratioOfW hw1 ?_
        intro d H' e hd hn
        refine hz d H' (((ex_stay e1).trans StayP.put).trans (ex_stay e)) hd ?_
        cases z : H d with
        | none => rfl
        | some o =>
          by_cases hdp : d = p
          · subst hdp; rw [upd_same] at hn; cases hn
          · have := ((ex_stay e1).trans (StayP.put (o := .ins C_Point dx (putF "x" (V.ref c) [])))) d o z hdp
            rw [hn] at this; cases this
abbrev s_Form_init : Stmt := (inClass (top 25) 0)
theorem sc_Form___init__ : FnScope ["self", "x", "y"] ["self", "x", "y"] (defScope s_Form_init) := ⟨rfl, rfl, rfl, by decide +kernel, rfl, by decide +kernel, by decide +kernel⟩
theorem ok_Form_init {f : Addr} {fd : FuncData} (F : FunD K "__init__" "Form.__init__" (defArgs s_Form_init) (defBody s_Form_init) (defScope s_Form_init) [] [] f fd) (g_Ratio : mg "Ratio" = some (.ref C_Ratio)) (TB : TBl mg) (TR : RT K mg C_Ratio) (T_Form : PT K C_Form) (c_ratio_of : Cl P w K mg base 6 "ratio_of" (spRatioOf K C_Ratio C_BadNumber)) : FnOk P w K mg base (L2.CX P w) 7 f fd ["self", "x", "y"] (spPInit K C_Form C_Ratio C_BadNumber) := by
  refine F.ok (CX := L2.CX P w) sc_Form___init__ (fun vs H Q E h => ?_) (fun cdv A outer s H vs Q E hr h => ?_)
  · obtain ⟨p, dx, u, v, rfl, _⟩ := h; rfl
  · obtain ⟨p, dx, u, v, rfl, hp, h⟩ := h
    refine ⟨_, (pss_cons (ksfld (K := K) rfl (pv 0) (pe_ifExp (pt_val (pe_callB (kc_isi (K := K) rfl) (by rfl) TB.b_isinstance (by decide +kernel) (pa_cons (pv 1) (pa_cons (pe_glob (v := .ref C_Ratio) (by rfl) g_Ratio rfl) pa_nil)))) (pv 1) (pe_cl c_ratio_of hr (by decide) (by rfl) psE (pa_cons (pv 1) pa_nil))) rfl) (pss_one (ksfld (K := K) rfl (pv 0) (pe_ifExp (pt_val (pe_callB (kc_isi (K := K) rfl) (by rfl) TB.b_isinstance (by decide +kernel) (pa_cons (pv 2) (pa_cons (pe_glob (v := .ref C_Ratio) (by rfl) g_Ratio rfl) pa_nil)))) (pv 2) (pe_cl c_ratio_of hr (by decide) (by rfl) psE (pa_cons (pv 2) pa_nil))) rfl))), ?_⟩
    rcases h with ⟨x, y, hu, hv, bx, b_y, k⟩ | ⟨hw, hz⟩ | ⟨x, hu, bx, hw, hz⟩
    · wtm_at "of_rd"
      wtm_at "of_rz"
      wtm_at "of_rd"
      rcases hu with ⟨n, rfl, rfl⟩ | ⟨c, rfl, hc⟩
      · refine r_isi (.own _) tyI (kit_int TR.k) ?_
        wtm_at "of_rd"
        wtm_at "of_rz"
        wtm_at "of_rd"
        refine q_ratioOf num_i bx ?_
        intro H1 p1 e1 h1
        wtm_at "of_rd"
        wtm_at "of_rz"
        wtm_at "of_rd"
        have hp1 := e1 _ _ hp
        refine r_put T_Form.k.o.cl T_Form.nX (by with_unfolding_all rfl) hp1 (by decide) ?_
        wtm_at "of_rd"
        wtm_at "of_rz"
        wtm_at "of_rd"
        have hv1 : NumV C_Ratio _ v y := (hv.ex e1).stay (StayP.put (o := .ins C_Form dx (putF "x" (V.ref p1) []))) ⟨_, hp1⟩
        rcases hv1 with ⟨n, rfl, rfl⟩ | ⟨c2, rfl, hc2⟩
        · refine r_isi (.own _) tyI (kit_int TR.k) ?_
          wtm_at "of_rd"
          wtm_at "of_rz"
          wtm_at "of_rd"
          refine q_ratioOf num_i b_y ?_
          intro H2 p2 e2 h2
          wtm_at "of_rd"
          wtm_at "of_rz"
          wtm_at "of_rd"
          refine r_put T_Form.k.o.cl T_Form.nY (by with_unfolding_all rfl) (e2 _ _ upd_same) (by show 1 < 1000; decide) ?_
          have nt : ∀ a : Addr, (putF "x" (V.ref a) []).lookup ("top" : Str) = none := fun a => by with_unfolding_all rfl
          refine k _ ((((ex_stay e1).trans StayP.put).trans (ex_stay e2)).trans StayP.put) ⟨dx, _, _, ?_, ((h1.putI hp1 rfl).ex e2).putI (e2 _ _ upd_same) (nt _), h2.putI (e2 _ _ upd_same) (nt _)⟩
          rw [upd_same, putF_xy]; rfl
        · refine r_isi (.own _) (hc2.tyx TR) kit_self ?_
          have e2 := hc2.here
          have h2 := hc2
          wtm_at "of_rd"
          wtm_at "of_rz"
          wtm_at "of_rd"
          refine r_put T_Form.k.o.cl T_Form.nY (by with_unfolding_all rfl) (e2 _ _ upd_same) (by show 1 < 1000; decide) ?_
          have nt : ∀ a : Addr, (putF "x" (V.ref a) []).lookup ("top" : Str) = none := fun a => by with_unfolding_all rfl
          refine k _ ((((ex_stay e1).trans StayP.put).trans (ex_stay e2)).trans StayP.put) ⟨dx, _, _, ?_, ((h1.putI hp1 rfl).ex e2).putI (e2 _ _ upd_same) (nt _), h2.putI (e2 _ _ upd_same) (nt _)⟩
          rw [upd_same, putF_xy]; rfl
      · refine r_isi (.own _) (hc.tyx TR) kit_self ?_
        have e1 := hc.here
        have h1 := hc
        wtm_at "of_rd"
        wtm_at "of_rz"
        wtm_at "of_rd"
        have hp1 := e1 _ _ hp
        refine r_put T_Form.k.o.cl T_Form.nX (by with_unfolding_all rfl) hp1 (by decide) ?_
        wtm_at "of_rd"
        wtm_at "of_rz"
        wtm_at "of_rd"
        have hv1 : NumV C_Ratio _ v y := (hv.ex e1).stay (StayP.put (o := .ins C_Form dx (putF "x" (V.ref c) []))) ⟨_, hp1⟩
        rcases hv1 with ⟨n, rfl, rfl⟩ | ⟨c2, rfl, hc2⟩
        · refine r_isi (.own _) tyI (kit_int TR.k) ?_
          wtm_at "of_rd"
          wtm_at "of_rz"
          wtm_at "of_rd"
          refine q_ratioOf num_i b_y ?_
          intro H2 p2 e2 h2
          wtm_at "of_rd"
          wtm_at "of_rz"
          wtm_at "of_rd"
          refine r_put T_Form.k.o.cl T_Form.nY (by with_unfolding_all rfl) (e2 _ _ upd_same) (by show 1 < 1000; decide) ?_
          have nt : ∀ a : Addr, (putF "x" (V.ref a) []).lookup ("top" : Str) = none := fun a => by with_unfolding_all rfl
          refine k _ ((((ex_stay e1).trans StayP.put).trans (ex_stay e2)).trans StayP.put) ⟨dx, _, _, ?_, ((h1.putI hp1 rfl).ex e2).putI (e2 _ _ upd_same) (nt _), h2.putI (e2 _ _ upd_same) (nt _)⟩
          rw [upd_same, putF_xy]; rfl
        · refine r_isi (.own _) (hc2.tyx TR) kit_self ?_
          have e2 := hc2.here
          have h2 := hc2
          wtm_at "of_rd"
          wtm_at "of_rz"
          wtm_at "of_rd"
          refine r_put T_Form.k.o.cl T_Form.nY (by with_unfolding_all rfl) (e2 _ _ upd_same) (by show 1 < 1000; decide) ?_
          have nt : ∀ a : Addr, (putF "x" (V.ref a) []).lookup ("top" : Str) = none := fun a => by with_unfolding_all rfl
          refine k _ ((((ex_stay e1).trans StayP.put).trans (ex_stay e2)).trans StayP.put) ⟨dx, _, _, ?_, ((h1.putI hp1 rfl).ex e2).putI (e2 _ _ upd_same) (nt _), h2.putI (e2 _ _ upd_same) (nt _)⟩
          rw [upd_same, putF_xy]; rfl
    · obtain ⟨t, ht, hc, hi⟩ := _root_.id hw
      wtm_at "of_rd"
      wtm_at "of_rz"
      wtm_at "of_rd"
      refine r_isi (.own _) ht hc ?_
      wtm_at "of_rd"
      wtm_at "of_rz"
      wtm_at "of_rd"
      refine q_ratioOfW hw ?_
      exact hz
    · wtm_at "of_rd"
      wtm_at "of_rz"
      wtm_at "of_rd"
      rcases hu with ⟨n, rfl, rfl⟩ | ⟨c, rfl, hc⟩
      · refine r_isi (.own _) tyI (kit_int TR.k) ?_
        wtm_at "of_rd"
        wtm_at "of_rz"
        wtm_at "of_rd"
        refine q_ratioOf num_i bx ?_
        intro H1 p1 e1 h1
        wtm_at "of_rd"
        wtm_at "of_rz"
        wtm_at "of_rd"
        have hp1 := e1 _ _ hp
        refine r_put T_Form.k.o.cl T_Form.nX (by with_unfolding_all rfl) hp1 (by decide) ?_
        wtm_at "of_rd"
        wtm_at "of_rz"
        wtm_at "of_rd"
        have hw1 := hw _ ((ex_stay e1).trans (StayP.put (o := .ins C_Form dx (putF "x" (V.ref p1) []))))
        obtain ⟨t, ht, hc', hi⟩ := _root_.id hw1
        refine r_isi (.own _) ht hc' ?_
        wtm_at "of_rd"
        wtm_at "of_rz"
        wtm_at "of_rd"
        refine q_ratioOfW hw1 ?_
        intro d H' e hd hn
        refine hz d H' (((ex_stay e1).trans StayP.put).trans (ex_stay e)) hd ?_
        cases z : H d with
        | none => rfl
        | some o =>
          by_cases hdp : d = p
          · subst hdp; rw [upd_same] at hn; cases hn
          · have := ((ex_stay e1).trans (StayP.put (o := .ins C_Form dx (putF "x" (V.ref p1) [])))) d o z hdp
            rw [hn] at this; cases this
      · refine r_isi (.own _) (hc.tyx TR) kit_self ?_
        have e1 := hc.here
        have h1 := hc
        wtm_at "of_rd"
        wtm_at "of_rz"
        wtm_at "of_rd"
        have hp1 := e1 _ _ hp
        refine r_put T_Form.k.o.cl T_Form.nX (by with_unfolding_all rfl) hp1 (by decide) ?_
        wtm_at "of_rd"
        wtm_at "of_rz"
        wtm_at "of_rd"
        have hw1 := hw _ ((ex_stay e1).trans (StayP.put (o := .ins C_Form dx (putF "x" (V.ref c) []))))
        obtain ⟨t, ht, hc', hi⟩ := _root_.id hw1
        refine r_isi (.own _) ht hc' ?_
        wtm_at "of_rd"
        wtm_at "of_rz"
        wtm_at "of_rd"
        refine q_ratioOfW hw1 ?_
        intro d H' e hd hn
        refine hz d H' (((ex_stay e1).trans StayP.put).trans (ex_stay e)) hd ?_
        cases z : H d with
        | none => rfl
        | some o =>
          by_cases hdp : d = p
          · subst hdp; rw [upd_same] at hn; cases hn
          · have := ((ex_stay e1).trans (StayP.put (o := .ins C_Form dx (putF "x" (V.ref c) [])))) d o z hdp
            rw [hn] at this; cases this
abbrev s_Point_add : Stmt := (inClass (top 24) 4)
theorem sc_Point___add__ : FnScope ["self", "other"] ["self", "other"] (defScope s_Point_add) := ⟨rfl, rfl, rfl, by decide +kernel, rfl, by decide +kernel, by decide +kernel⟩
theorem ok_Point_add {f : Addr} {fd : FuncData} (F : FunD K "__add__" "Point.__add__" (defArgs s_Point_add) (defBody s_Point_add) (defScope s_Point_add) [] [] f fd) (TB : TBl mg) (TR : RT K mg C_Ratio) (T_Point : PT K C_Point) (g_Point : mg "Point" = some (.ref C_Point)) (c_added : Cl P w K mg base 6 "added" (spRR C_Ratio (fun q r => q + r))) (c_Point_2 : Ck P w K mg base 7 "Point" C_Point [] (spPInit K C_Point C_Ratio C_BadNumber)) : FnOk P w K mg base (L2.CX P w) 9 f fd ["self", "other"] (spPP C_Point C_Ratio (fun q r => q + r)) := by
  refine F.ok (CX := L2.CX P w) sc_Point___add__ (fun vs H Q E h => ?_) (fun cdv A outer s H vs Q E hr h => ?_)
  · obtain ⟨a, b, x, y, z, t, rfl, _⟩ := h; rfl
  · obtain ⟨a, b, x, y, z, t, rfl, ha, hb, bx, b_y, bz, bt, b1, b2, k⟩ := h
    refine ⟨_, (pss_cons (ps_if (pt_not (pt_val (pe_callB (kc_isi (K := K) rfl) (by rfl) TB.b_isinstance (by decide +kernel) (pa_cons (pv 1) (pa_cons (pe_glob (v := .ref C_Point) (by rfl) g_Point rfl) pa_nil))))) (pss_one (ps_ret pe_ni)) pss_nil) (pss_one (ps_ret (pe_ck c_Point_2 hr (by decide) (by rfl) psE (pa_cons (pe_cl c_added hr (by decide) (by rfl) psE (pa_cons (kfld (K := K) rfl (pv 0) rfl) (pa_cons (kfld (K := K) rfl (pv 1) rfl) pa_nil))) (pa_cons (pe_cl c_added hr (by decide) (by rfl) psE (pa_cons (kfld (K := K) rfl (pv 0) rfl) (pa_cons (kfld (K := K) rfl (pv 1) rfl) pa_nil))) pa_nil)))))), ?_⟩
    wtm_at "of_rd"
    wtm_at "of_rz"
    wtm_at "of_rd"
    refine r_isi (.own _) (hb.tyx T_Point) kit_self ?_
    wtm_at "of_rd"
    wtm_at "of_rz"
    wtm_at "of_rd"
    refine r_x T_Point (by with_unfolding_all rfl) ha fun a1 h1 => ?_
    wtm_at "of_rd"
    wtm_at "of_rz"
    wtm_at "of_rd"
    refine r_x T_Point (by with_unfolding_all rfl) hb fun a2 h2 => ?_
    wtm_at "of_rd"
    wtm_at "of_rz"
    wtm_at "of_rd"
    refine q_RR h1 h2 bx bz ?_
    intro H1 p1 e1 i1
    wtm_at "of_rd"
    wtm_at "of_rz"
    wtm_at "of_rd"
    refine r_y T_Point (by with_unfolding_all rfl) (ha.ex e1) fun a3 h3 => ?_
    wtm_at "of_rd"
    wtm_at "of_rz"
    wtm_at "of_rd"
    refine r_y T_Point (by with_unfolding_all rfl) (hb.ex e1) fun a4 h4 => ?_
    wtm_at "of_rd"
    wtm_at "of_rz"
    wtm_at "of_rd"
    refine q_RR h3 h4 b_y bt ?_
    intro H2 p2 e2 i2
    wtm_at "of_rd"
    wtm_at "of_rz"
    wtm_at "of_rd"
    exact q_mkP rfl (num_r (i1.ex e2)) (num_r i2) b1 b2 (k.ex (e1.trans e2))
abbrev s_Point_sub : Stmt := (inClass (top 24) 5)
theorem sc_Point___sub__ : FnScope ["self", "other"] ["self", "other"] (defScope s_Point_sub) := ⟨rfl, rfl, rfl, by decide +kernel, rfl, by decide +kernel, by decide +kernel⟩
theorem ok_Point_sub {f : Addr} {fd : FuncData} (F : FunD K "__sub__" "Point.__sub__" (defArgs s_Point_sub) (defBody s_Point_sub) (defScope s_Point_sub) [] [] f fd) (TB : TBl mg) (TR : RT K mg C_Ratio) (T_Point : PT K C_Point) (g_Point : mg "Point" = some (.ref C_Point)) (c_taken : Cl P w K mg base 6 "taken" (spRR C_Ratio (fun q r => q - r))) (c_Point_2 : Ck P w K mg base 7 "Point" C_Point [] (spPInit K C_Point C_Ratio C_BadNumber)) : FnOk P w K mg base (L2.CX P w) 9 f fd ["self", "other"] (spPP C_Point C_Ratio (fun q r => q - r)) := by
  refine F.ok (CX := L2.CX P w) sc_Point___sub__ (fun vs H Q E h => ?_) (fun cdv A outer s H vs Q E hr h => ?_)
  · obtain ⟨a, b, x, y, z, t, rfl, _⟩ := h; rfl
  · obtain ⟨a, b, x, y, z, t, rfl, ha, hb, bx, b_y, bz, bt, b1, b2, k⟩ := h
    refine ⟨_, (pss_cons (ps_if (pt_not (pt_val (pe_callB (kc_isi (K := K) rfl) (by rfl) TB.b_isinstance (by decide +kernel) (pa_cons (pv 1) (pa_cons (pe_glob (v := .ref C_Point) (by rfl) g_Point rfl) pa_nil))))) (pss_one (ps_ret pe_ni)) pss_nil) (pss_one (ps_ret (pe_ck c_Point_2 hr (by decide) (by rfl) psE (pa_cons (pe_cl c_taken hr (by decide) (by rfl) psE (pa_cons (kfld (K := K) rfl (pv 0) rfl) (pa_cons (kfld (K := K) rfl (pv 1) rfl) pa_nil))) (pa_cons (pe_cl c_taken hr (by decide) (by rfl) psE (pa_cons (kfld (K := K) rfl (pv 0) rfl) (pa_cons (kfld (K := K) rfl (pv 1) rfl) pa_nil))) pa_nil)))))), ?_⟩
    wtm_at "of_rd"
    wtm_at "of_rz"
    wtm_at "of_rd"
    refine r_isi (.own _) (hb.tyx T_Point) kit_self ?_
    wtm_at "of_rd"
    wtm_at "of_rz"
    wtm_at "of_rd"
    refine r_x T_Point (by with_unfolding_all rfl) ha fun a1 h1 => ?_
    wtm_at "of_rd"
    wtm_at "of_rz"
    wtm_at "of_rd"
    refine r_x T_Point (by with_unfolding_all rfl) hb fun a2 h2 => ?_
    wtm_at "of_rd"
    wtm_at "of_rz"
    wtm_at "of_rd"
    refine q_RR h1 h2 bx bz ?_
    intro H1 p1 e1 i1
    wtm_at "of_rd"
    wtm_at "of_rz"
    wtm_at "of_rd"
    refine r_y T_Point (by with_unfolding_all rfl) (ha.ex e1) fun a3 h3 => ?_
    wtm_at "of_rd"
    wtm_at "of_rz"
    wtm_at "of_rd"
    refine r_y T_Point (by with_unfolding_all rfl) (hb.ex e1) fun a4 h4 => ?_
    wtm_at "of_rd"
    wtm_at "of_rz"
    wtm_at "of_rd"
    refine q_RR h3 h4 b_y bt ?_
    intro H2 p2 e2 i2
    wtm_at "of_rd"
    wtm_at "of_rz"
    wtm_at "of_rd"
    exact q_mkP rfl (num_r (i1.ex e2)) (num_r i2) b1 b2 (k.ex (e1.trans e2))
abbrev s_Point_neg : Stmt := (inClass (top 24) 3)
theorem sc_Point___neg__ : FnScope ["self"] ["self"] (defScope s_Point_neg) := ⟨rfl, rfl, rfl, by decide +kernel, rfl, by decide +kernel, by decide +kernel⟩
theorem ok_Point_neg {f : Addr} {fd : FuncData} (F : FunD K "__neg__" "Point.__neg__" (defArgs s_Point_neg) (defBody s_Point_neg) (defScope s_Point_neg) [] [] f fd) (TR : RT K mg C_Ratio) (T_Point : PT K C_Point) (c_Ratio_neg : Cm P w K mg base 6 C_Ratio "__neg__" f_Ratio_neg (spR0 C_Ratio (fun q => -q))) (c_Point_2 : Ck P w K mg base 7 "Point" C_Point [] (spPInit K C_Point C_Ratio C_BadNumber)) : FnOk P w K mg base (L2.CX P w) 9 f fd ["self"] (spP0 C_Point C_Ratio (fun q => -q)) := by
  refine F.ok (CX := L2.CX P w) sc_Point___neg__ (fun vs H Q E h => ?_) (fun cdv A outer s H vs Q E hr h => ?_)
  · obtain ⟨a, x, y, rfl, _⟩ := h; rfl
  · obtain ⟨a, x, y, rfl, ha, bx, b_y, b1, b2, k⟩ := h
    refine ⟨_, (pss_one (ps_ret (pe_ck c_Point_2 hr (by decide) (by rfl) psE (pa_cons (pe_un (un_negO c_Ratio_neg.at_ c_Ratio_neg.fn c_Ratio_neg.fnr (hr.mono (by decide)) psE) (kfld (K := K) rfl (pv 0) rfl)) (pa_cons (pe_un (un_negO c_Ratio_neg.at_ c_Ratio_neg.fn c_Ratio_neg.fnr (hr.mono (by decide)) psE) (kfld (K := K) rfl (pv 0) rfl)) pa_nil))))), ?_⟩
    wtm_at "of_rd"
    refine r_x T_Point (by with_unfolding_all rfl) ha fun a1 h1 => ?_
    wtm_at "of_rd"
    refine o_U h1 (q_R0 h1 bx ?_)
    intro H1 p1 e1 i1
    wtm_at "of_rd"
    refine r_y T_Point (by with_unfolding_all rfl) (ha.ex e1) fun a3 h3 => ?_
    wtm_at "of_rd"
    refine o_U h3 (q_R0 h3 b_y ?_)
    intro H2 p2 e2 i2
    wtm_at "of_rd"
    exact q_mkP rfl (num_r (i1.ex e2)) (num_r i2) b1 b2 (k.ex (e1.trans e2))
abbrev s_Point_mul : Stmt := (inClass (top 24) 6)
theorem sc_Point___mul__ : FnScope ["self", "other"] ["self", "other"] (defScope s_Point_mul) := ⟨rfl, rfl, rfl, by decide +kernel, rfl, by decide +kernel, by decide +kernel⟩
theorem ok_Point_mul {f : Addr} {fd : FuncData} (F : FunD K "__mul__" "Point.__mul__" (defArgs s_Point_mul) (defBody s_Point_mul) (defScope s_Point_mul) [] [] f fd) (TR : RT K mg C_Ratio) (k_Ratio : ClsP K C_Ratio) (a_Ratio_rmul : PySem.W.findIn K (.ref C_Ratio) "__rmul__" = some (some (.ref f_Ratio_rmul))) (T_Point : PT K C_Point) (c_is_number : Cl P w K mg base 2 "is_number" (spIsNum K C_Ratio)) (c_Ratio_mul : Cm P w K mg base 6 C_Ratio "__mul__" f_Ratio_mul (spR1 C_Ratio (fun q r => q * r) (fun _ _ => True))) (c_Point_2 : Ck P w K mg base 7 "Point" C_Point [] (spPInit K C_Point C_Ratio C_BadNumber)) : FnOk P w K mg base (L2.CX P w) 9 f fd ["self", "other"] (spPN C_Point C_Ratio (fun q r => q * r)) := by
  refine F.ok (CX := L2.CX P w) sc_Point___mul__ (fun vs H Q E h => ?_) (fun cdv A outer s H vs Q E hr h => ?_)
  · obtain ⟨a, v, x, y, r, rfl, _⟩ := h; rfl
  · obtain ⟨a, v, x, y, r, rfl, ha, hv, bx, b_y, br, b1, b2, k⟩ := h
    refine ⟨_, (pss_cons (ps_if (pt_not (pt_val (pe_cl c_is_number hr (by decide) (by rfl) psE (pa_cons (pv 1) pa_nil)))) (pss_one (ps_ret pe_ni)) pss_nil) (pss_one (ps_ret (pe_ck c_Point_2 hr (by decide) (by rfl) psE (pa_cons (pe_op (op_or (opI (rc := none) d_mul dr_mul k_Ratio.o c_Ratio_mul (.inl ⟨_, a_Ratio_rmul⟩) fi_mul fir_mul hr (by decide) psE) (op2 d_mul k_Ratio.o c_Ratio_mul hr (by decide) psE)) (kfld (K := K) rfl (pv 0) rfl) (pv 1)) (pa_cons (pe_op (op_or (opI (rc := none) d_mul dr_mul k_Ratio.o c_Ratio_mul (.inl ⟨_, a_Ratio_rmul⟩) fi_mul fir_mul hr (by decide) psE) (op2 d_mul k_Ratio.o c_Ratio_mul hr (by decide) psE)) (kfld (K := K) rfl (pv 0) rfl) (pv 1)) pa_nil)))))), ?_⟩
    wtm_at "of_rd"
    refine q_isNum hv ?_
    wtm_at "of_rd"
    refine r_x T_Point (by with_unfolding_all rfl) ha fun a1 h1 => ?_
    wtm_at "of_rd"
    rcases hv with ⟨n, rfl, rfl⟩ | ⟨c, rfl, hc⟩
    · refine .inl (o_O h1 o_int (q_R1 h1 num_i bx br trivial ?_))
      intro H1 p1 e1 i1
      wtm_at "of_rd"
      refine r_y T_Point (by with_unfolding_all rfl) (ha.ex e1) fun a3 h3 => ?_
      wtm_at "of_rd"
      refine .inl (o_O h3 o_int (q_R1 h3 num_i b_y br trivial ?_))
      intro H2 p2 e2 i2
      wtm_at "of_rd"
      exact q_mkP rfl (num_r (i1.ex e2)) (num_r i2) b1 b2 (k.ex (e1.trans e2))
    · refine .inr (o_O h1 (o_ins hc) (q_R1 h1 (num_r hc) bx br trivial ?_))
      intro H1 p1 e1 i1
      wtm_at "of_rd"
      refine r_y T_Point (by with_unfolding_all rfl) (ha.ex e1) fun a3 h3 => ?_
      wtm_at "of_rd"
      refine .inr (o_O h3 (o_ins (hc.ex e1)) (q_R1 h3 (num_r (hc.ex e1)) b_y br trivial ?_))
      intro H2 p2 e2 i2
      wtm_at "of_rd"
      exact q_mkP rfl (num_r (i1.ex e2)) (num_r i2) b1 b2 (k.ex (e1.trans e2))
abbrev s_Point_eq : Stmt := (inClass (top 24) 2)
theorem sc_Point___eq__ : FnScope ["self", "other"] ["self", "other"] (defScope s_Point_eq) := ⟨rfl, rfl, rfl, by decide +kernel, rfl, by decide +kernel, by decide +kernel⟩
theorem ok_Point_eq {f : Addr} {fd : FuncData} (F : FunD K "__eq__" "Point.__eq__" (defArgs s_Point_eq) (defBody s_Point_eq) (defScope s_Point_eq) [] [] f fd) (TB : TBl mg) (TR : RT K mg C_Ratio) (T_Point : PT K C_Point) (g_Point : mg "Point" = some (.ref C_Point)) : FnOk P w K mg base (L2.CX P w) 1 f fd ["self", "other"] (spPEq K C_Point C_Ratio) := by
  refine F.ok (CX := L2.CX P w) sc_Point___eq__ (fun vs H Q E h => ?_) (fun cdv A outer s H vs Q E hr h => ?_)
  · obtain ⟨a, v, x, y, rfl, _⟩ := h; rfl
  · obtain ⟨a, v, x, y, rfl, ha, h⟩ := h
    refine ⟨_, (pss_cons (ps_if (pw_or (pt_not (pt_val (pe_callB (kc_isi (K := K) rfl) (by rfl) TB.b_isinstance (by decide +kernel) (pa_cons (pv 1) (pa_cons (pe_glob (v := .ref C_Point) (by rfl) g_Point rfl) pa_nil))))) (pw_or (pt_cmpR op_ne (kfld (K := K) rfl (kfld (K := K) rfl (pv 0) rfl) rfl) (kfld (K := K) rfl (kfld (K := K) rfl (pv 1) rfl) rfl) (nomark _)) (pw_or1 (pt_cmpR op_ne (kfld (K := K) rfl (kfld (K := K) rfl (pv 0) rfl) rfl) (kfld (K := K) rfl (kfld (K := K) rfl (pv 1) rfl) rfl) (nomark _))))).pt (pss_one (ps_ret pe_bl)) pss_nil) (pss_one (ps_ret (pe_and (pe_cmpR op_eq (kfld (K := K) rfl (kfld (K := K) rfl (pv 0) rfl) rfl) (kfld (K := K) rfl (kfld (K := K) rfl (pv 1) rfl) rfl) (nomark _)) (pe_one (pe_cmpR op_eq (kfld (K := K) rfl (kfld (K := K) rfl (pv 0) rfl) rfl) (kfld (K := K) rfl (kfld (K := K) rfl (pv 1) rfl) rfl) (nomark _))))))), ?_⟩
    rcases h with ⟨b, z, t, rfl, hb, k⟩ | ⟨⟨t, ht, hc⟩, k⟩
    · have no : ¬ (x = z ∧ y = t) → Q (.bl false) H := fun n => by rw [decide_eq_false n] at k; exact k
      wtm_at "of_rd"
      wtm_at "of_rz"
      wtm_at "of_rd"
      refine r_isi (.own _) (hb.tyx T_Point) kit_self ?_
      wtm_at "of_rd"
      wtm_at "of_rz"
      wtm_at "of_rd"
      refine r_x T_Point (by with_unfolding_all rfl) ha fun a1 h1 => ?_
      wtm_at "of_rd"
      refine r_x T_Point (by with_unfolding_all rfl) hb fun a2 h2 => ?_
      wtm_at "of_rd"
      refine ite2n (fun n1 => ?_) (fun e1 => ?_)
      · wtm_at "of_rd"
        exact no fun q => n1 (by rw [q.1])
      wtm_at "of_rd"
      refine r_x T_Point (by with_unfolding_all rfl) ha fun a3 h3 => ?_
      wtm_at "of_rd"
      refine r_x T_Point (by with_unfolding_all rfl) hb fun a4 h4 => ?_
      wtm_at "of_rd"
      refine ite2n (fun n2 => ?_) (fun e2 => ?_)
      · wtm_at "of_rd"
        exact no fun q => n2 (by rw [q.1])
      have ex : x = z := (eq_iff x z).mp ⟨e1, e2⟩
      wtm_at "of_rd"
      wtm_at "of_rz"
      wtm_at "of_rd"
      refine r_y T_Point (by with_unfolding_all rfl) ha fun a5 h5 => ?_
      wtm_at "of_rd"
      refine r_y T_Point (by with_unfolding_all rfl) hb fun a6 h6 => ?_
      wtm_at "of_rd"
      refine ite2 (fun e3 => ?_) (fun n3 => ?_)
      · wtm_at "of_rd"
        refine r_y T_Point (by with_unfolding_all rfl) ha fun a7 h7 => ?_
        wtm_at "of_rd"
        refine r_y T_Point (by with_unfolding_all rfl) hb fun a8 h8 => ?_
        wtm_at "of_rd"
        rw [show decide ((y.den : Int) = t.den) = decide (x = z ∧ y = t) from by rw [decide_eq_decide]; exact ⟨fun q => ⟨ex, (eq_iff y t).mp ⟨e3, q⟩⟩, fun q => by rw [q.2]⟩]
        exact k
      · wtm_at "of_rd"
        exact no fun q => n3 (by rw [q.2])
    · wtm_at "of_rd"
      wtm_at "of_rz"
      wtm_at "of_rd"
      refine r_isi (.own _) ht hc ?_
      wtm_at "of_rd"
      wtm_at "of_rz"
      wtm_at "of_rd"
      exact k
abbrev s_Form_add : Stmt := (inClass (top 25) 4)
theorem sc_Form___add__ : FnScope ["self", "other"] ["self", "other"] (defScope s_Form_add) := ⟨rfl, rfl, rfl, by decide +kernel, rfl, by decide +kernel, by decide +kernel⟩
theorem ok_Form_add {f : Addr} {fd : FuncData} (F : FunD K "__add__" "Form.__add__" (defArgs s_Form_add) (defBody s_Form_add) (defScope s_Form_add) [] [] f fd) (TB : TBl mg) (TR : RT K mg C_Ratio) (T_Form : PT K C_Form) (g_Form : mg "Form" = some (.ref C_Form)) (c_added : Cl P w K mg base 6 "added" (spRR C_Ratio (fun q r => q + r))) (c_Form_2 : Ck P w K mg base 7 "Form" C_Form [] (spPInit K C_Form C_Ratio C_BadNumber)) : FnOk P w K mg base (L2.CX P w) 9 f fd ["self", "other"] (spPP C_Form C_Ratio (fun q r => q + r)) := by
  refine F.ok (CX := L2.CX P w) sc_Form___add__ (fun vs H Q E h => ?_) (fun cdv A outer s H vs Q E hr h => ?_)
  · obtain ⟨a, b, x, y, z, t, rfl, _⟩ := h; rfl
  · obtain ⟨a, b, x, y, z, t, rfl, ha, hb, bx, b_y, bz, bt, b1, b2, k⟩ := h
    refine ⟨_, (pss_cons (ps_if (pt_not (pt_val (pe_callB (kc_isi (K := K) rfl) (by rfl) TB.b_isinstance (by decide +kernel) (pa_cons (pv 1) (pa_cons (pe_glob (v := .ref C_Form) (by rfl) g_Form rfl) pa_nil))))) (pss_one (ps_ret pe_ni)) pss_nil) (pss_one (ps_ret (pe_ck c_Form_2 hr (by decide) (by rfl) psE (pa_cons (pe_cl c_added hr (by decide) (by rfl) psE (pa_cons (kfld (K := K) rfl (pv 0) rfl) (pa_cons (kfld (K := K) rfl (pv 1) rfl) pa_nil))) (pa_cons (pe_cl c_added hr (by decide) (by rfl) psE (pa_cons (kfld (K := K) rfl (pv 0) rfl) (pa_cons (kfld (K := K) rfl (pv 1) rfl) pa_nil))) pa_nil)))))), ?_⟩
    wtm_at "of_rd"
    wtm_at "of_rz"
    wtm_at "of_rd"
    refine r_isi (.own _) (hb.tyx T_Form) kit_self ?_
    wtm_at "of_rd"
    wtm_at "of_rz"
    wtm_at "of_rd"
    refine r_x T_Form (by with_unfolding_all rfl) ha fun a1 h1 => ?_
    wtm_at "of_rd"
    wtm_at "of_rz"
    wtm_at "of_rd"
    refine r_x T_Form (by with_unfolding_all rfl) hb fun a2 h2 => ?_
    wtm_at "of_rd"
    wtm_at "of_rz"
    wtm_at "of_rd"
    refine q_RR h1 h2 bx bz ?_
    intro H1 p1 e1 i1
    wtm_at "of_rd"
    wtm_at "of_rz"
    wtm_at "of_rd"
    refine r_y T_Form (by with_unfolding_all rfl) (ha.ex e1) fun a3 h3 => ?_
    wtm_at "of_rd"
    wtm_at "of_rz"
    wtm_at "of_rd"
    refine r_y T_Form (by with_unfolding_all rfl) (hb.ex e1) fun a4 h4 => ?_
    wtm_at "of_rd"
    wtm_at "of_rz"
    wtm_at "of_rd"
    refine q_RR h3 h4 b_y bt ?_
    intro H2 p2 e2 i2
    wtm_at "of_rd"
    wtm_at "of_rz"
    wtm_at "of_rd"
    exact q_mkP rfl (num_r (i1.ex e2)) (num_r i2) b1 b2 (k.ex (e1.trans e2))
abbrev s_Form_sub : Stmt := (inClass (top 25) 5)
theorem sc_Form___sub__ : FnScope ["self", "other"] ["self", "other"] (defScope s_Form_sub) := ⟨rfl, rfl, rfl, by decide +kernel, rfl, by decide +kernel, by decide +kernel⟩
theorem ok_Form_sub {f : Addr} {fd : FuncData} (F : FunD K "__sub__" "Form.__sub__" (defArgs s_Form_sub) (defBody s_Form_sub) (defScope s_Form_sub) [] [] f fd) (TB : TBl mg) (TR : RT K mg C_Ratio) (T_Form : PT K C_Form) (g_Form : mg "Form" = some (.ref C_Form)) (c_taken : Cl P w K mg base 6 "taken" (spRR C_Ratio (fun q r => q - r))) (c_Form_2 : Ck P w K mg base 7 "Form" C_Form [] (spPInit K C_Form C_Ratio C_BadNumber)) : FnOk P w K mg base (L2.CX P w) 9 f fd ["self", "other"] (spPP C_Form C_Ratio (fun q r => q - r)) := by
  refine F.ok (CX := L2.CX P w) sc_Form___sub__ (fun vs H Q E h => ?_) (fun cdv A outer s H vs Q E hr h => ?_)
  · obtain ⟨a, b, x, y, z, t, rfl, _⟩ := h; rfl
  · obtain ⟨a, b, x, y, z, t, rfl, ha, hb, bx, b_y, bz, bt, b1, b2, k⟩ := h
    refine ⟨_, (pss_cons (ps_if (pt_not (pt_val (pe_callB (kc_isi (K := K) rfl) (by rfl) TB.b_isinstance (by decide +kernel) (pa_cons (pv 1) (pa_cons (pe_glob (v := .ref C_Form) (by rfl) g_Form rfl) pa_nil))))) (pss_one (ps_ret pe_ni)) pss_nil) (pss_one (ps_ret (pe_ck c_Form_2 hr (by decide) (by rfl) psE (pa_cons (pe_cl c_taken hr (by decide) (by rfl) psE (pa_cons (kfld (K := K) rfl (pv 0) rfl) (pa_cons (kfld (K := K) rfl (pv 1) rfl) pa_nil))) (pa_cons (pe_cl c_taken hr (by decide) (by rfl) psE (pa_cons (kfld (K := K) rfl (pv 0) rfl) (pa_cons (kfld (K := K) rfl (pv 1) rfl) pa_nil))) pa_nil)))))), ?_⟩
    wtm_at "of_rd"
    wtm_at "of_rz"
    wtm_at "of_rd"
    refine r_isi (.own _) (hb.tyx T_Form) kit_self ?_
    wtm_at "of_rd"
    wtm_at "of_rz"
    wtm_at "of_rd"
    refine r_x T_Form (by with_unfolding_all rfl) ha fun a1 h1 => ?_
    wtm_at "of_rd"
    wtm_at "of_rz"
    wtm_at "of_rd"
    refine r_x T_Form (by with_unfolding_all rfl) hb fun a2 h2 => ?_
    wtm_at "of_rd"
    wtm_at "of_rz"
    wtm_at "of_rd"
    refine q_RR h1 h2 bx bz ?_
    intro H1 p1 e1 i1
    wtm_at "of_rd"
    wtm_at "of_rz"
    wtm_at "of_rd"
    refine r_y T_Form (by with_unfolding_all rfl) (ha.ex e1) fun a3 h3 => ?_
    wtm_at "of_rd"
    wtm_at "of_rz"
    wtm_at "of_rd"
    refine r_y T_Form (by with_unfolding_all rfl) (hb.ex e1) fun a4 h4 => ?_
    wtm_at "of_rd"
    wtm_at "of_rz"
    wtm_at "of_rd"
    refine q_RR h3 h4 b_y bt ?_
    intro H2 p2 e2 i2
    wtm_at "of_rd"
    wtm_at "of_rz"
    wtm_at "of_rd"
    exact q_mkP rfl (num_r (i1.ex e2)) (num_r i2) b1 b2 (k.ex (e1.trans e2))
abbrev s_Form_neg : Stmt := (inClass (top 25) 3)
theorem sc_Form___neg__ : FnScope ["self"] ["self"] (defScope s_Form_neg) := ⟨rfl, rfl, rfl, by decide +kernel, rfl, by decide +kernel, by decide +kernel⟩
theorem ok_Form_neg {f : Addr} {fd : FuncData} (F : FunD K "__neg__" "Form.__neg__" (defArgs s_Form_neg) (defBody s_Form_neg) (defScope s_Form_neg) [] [] f fd) (TR : RT K mg C_Ratio) (T_Form : PT K C_Form) (c_Ratio_neg : Cm P w K mg base 6 C_Ratio "__neg__" f_Ratio_neg (spR0 C_Ratio (fun q => -q))) (c_Form_2 : Ck P w K mg base 7 "Form" C_Form [] (spPInit K C_Form C_Ratio C_BadNumber)) : FnOk P w K mg base (L2.CX P w) 9 f fd ["self"] (spP0 C_Form C_Ratio (fun q => -q)) := by
  refine F.ok (CX := L2.CX P w) sc_Form___neg__ (fun vs H Q E h => ?_) (fun cdv A outer s H vs Q E hr h => ?_)
  · obtain ⟨a, x, y, rfl, _⟩ := h; rfl
  · obtain ⟨a, x, y, rfl, ha, bx, b_y, b1, b2, k⟩ := h
    refine ⟨_, (pss_one (ps_ret (pe_ck c_Form_2 hr (by decide) (by rfl) psE (pa_cons (pe_un (un_negO c_Ratio_neg.at_ c_Ratio_neg.fn c_Ratio_neg.fnr (hr.mono (by decide)) psE) (kfld (K := K) rfl (pv 0) rfl)) (pa_cons (pe_un (un_negO c_Ratio_neg.at_ c_Ratio_neg.fn c_Ratio_neg.fnr (hr.mono (by decide)) psE) (kfld (K := K) rfl (pv 0) rfl)) pa_nil))))), ?_⟩
    wtm_at "of_rd"
    refine r_x T_Form (by with_unfolding_all rfl) ha fun a1 h1 => ?_
    wtm_at "of_rd"
    refine o_U h1 (q_R0 h1 bx ?_)
    intro H1 p1 e1 i1
    wtm_at "of_rd"
    refine r_y T_Form (by with_unfolding_all rfl) (ha.ex e1) fun a3 h3 => ?_
    wtm_at "of_rd"
    refine o_U h3 (q_R0 h3 b_y ?_)
    intro H2 p2 e2 i2
    wtm_at "of_rd"
    exact q_mkP rfl (num_r (i1.ex e2)) (num_r i2) b1 b2 (k.ex (e1.trans e2))
abbrev s_Form_mul : Stmt := (inClass (top 25) 6)
theorem sc_Form___mul__ : FnScope ["self", "other"] ["self", "other"] (defScope s_Form_mul) := ⟨rfl, rfl, rfl, by decide +kernel, rfl, by decide +kernel, by decide +kernel⟩
theorem ok_Form_mul {f : Addr} {fd : FuncData} (F : FunD K "__mul__" "Form.__mul__" (defArgs s_Form_mul) (defBody s_Form_mul) (defScope s_Form_mul) [] [] f fd) (TR : RT K mg C_Ratio) (k_Ratio : ClsP K C_Ratio) (a_Ratio_rmul : PySem.W.findIn K (.ref C_Ratio) "__rmul__" = some (some (.ref f_Ratio_rmul))) (T_Form : PT K C_Form) (c_is_number : Cl P w K mg base 2 "is_number" (spIsNum K C_Ratio)) (c_Ratio_mul : Cm P w K mg base 6 C_Ratio "__mul__" f_Ratio_mul (spR1 C_Ratio (fun q r => q * r) (fun _ _ => True))) (c_Form_2 : Ck P w K mg base 7 "Form" C_Form [] (spPInit K C_Form C_Ratio C_BadNumber)) : FnOk P w K mg base (L2.CX P w) 9 f fd ["self", "other"] (spPN C_Form C_Ratio (fun q r => q * r)) := by
  refine F.ok (CX := L2.CX P w) sc_Form___mul__ (fun vs H Q E h => ?_) (fun cdv A outer s H vs Q E hr h => ?_)
  · obtain ⟨a, v, x, y, r, rfl, _⟩ := h; rfl
  · obtain ⟨a, v, x, y, r, rfl, ha, hv, bx, b_y, br, b1, b2, k⟩ := h
    refine ⟨_, (pss_cons (ps_if (pt_not (pt_val (pe_cl c_is_number hr (by decide) (by rfl) psE (pa_cons (pv 1) pa_nil)))) (pss_one (ps_ret pe_ni)) pss_nil) (pss_one (ps_ret (pe_ck c_Form_2 hr (by decide) (by rfl) psE (pa_cons (pe_op (op_or (opI (rc := none) d_mul dr_mul k_Ratio.o c_Ratio_mul (.inl ⟨_, a_Ratio_rmul⟩) fi_mul fir_mul hr (by decide) psE) (op2 d_mul k_Ratio.o c_Ratio_mul hr (by decide) psE)) (kfld (K := K) rfl (pv 0) rfl) (pv 1)) (pa_cons (pe_op (op_or (opI (rc := none) d_mul dr_mul k_Ratio.o c_Ratio_mul (.inl ⟨_, a_Ratio_rmul⟩) fi_mul fir_mul hr (by decide) psE) (op2 d_mul k_Ratio.o c_Ratio_mul hr (by decide) psE)) (kfld (K := K) rfl (pv 0) rfl) (pv 1)) pa_nil)))))), ?_⟩
    wtm_at "of_rd"
    refine q_isNum hv ?_
    wtm_at "of_rd"
    refine r_x T_Form (by with_unfolding_all rfl) ha fun a1 h1 => ?_
    wtm_at "of_rd"
    rcases hv with ⟨n, rfl, rfl⟩ | ⟨c, rfl, hc⟩
    · refine .inl (o_O h1 o_int (q_R1 h1 num_i bx br trivial ?_))
      intro H1 p1 e1 i1
      wtm_at "of_rd"
      refine r_y T_Form (by with_unfolding_all rfl) (ha.ex e1) fun a3 h3 => ?_
      wtm_at "of_rd"
      refine .inl (o_O h3 o_int (q_R1 h3 num_i b_y br trivial ?_))
      intro H2 p2 e2 i2
      wtm_at "of_rd"
      exact q_mkP rfl (num_r (i1.ex e2)) (num_r i2) b1 b2 (k.ex (e1.trans e2))
    · refine .inr (o_O h1 (o_ins hc) (q_R1 h1 (num_r hc) bx br trivial ?_))
      intro H1 p1 e1 i1
      wtm_at "of_rd"
      refine r_y T_Form (by with_unfolding_all rfl) (ha.ex e1) fun a3 h3 => ?_
      wtm_at "of_rd"
      refine .inr (o_O h3 (o_ins (hc.ex e1)) (q_R1 h3 (num_r (hc.ex e1)) b_y br trivial ?_))
      intro H2 p2 e2 i2
      wtm_at "of_rd"
      exact q_mkP rfl (num_r (i1.ex e2)) (num_r i2) b1 b2 (k.ex (e1.trans e2))
abbrev s_Form_eq : Stmt := (inClass (top 25) 2)
theorem sc_Form___eq__ : FnScope ["self", "other"] ["self", "other"] (defScope s_Form_eq) := ⟨rfl, rfl, rfl, by decide +kernel, rfl, by decide +kernel, by decide +kernel⟩
theorem ok_Form_eq {f : Addr} {fd : FuncData} (F : FunD K "__eq__" "Form.__eq__" (defArgs s_Form_eq) (defBody s_Form_eq) (defScope s_Form_eq) [] [] f fd) (TB : TBl mg) (TR : RT K mg C_Ratio) (T_Form : PT K C_Form) (g_Form : mg "Form" = some (.ref C_Form)) (c_Ratio_eq : Cm P w K mg base 2 C_Ratio "__eq__" f_Ratio_eq (spREq K C_Ratio)) : FnOk P w K mg base (L2.CX P w) 3 f fd ["self", "other"] (spPEq K C_Form C_Ratio) := by
  refine F.ok (CX := L2.CX P w) sc_Form___eq__ (fun vs H Q E h => ?_) (fun cdv A outer s H vs Q E hr h => ?_)
  · obtain ⟨a, v, x, y, rfl, _⟩ := h; rfl
  · obtain ⟨a, v, x, y, rfl, ha, h⟩ := h
    refine ⟨_, (pss_one (ps_ret (pe_and (pe_callB (kc_isi (K := K) rfl) (by rfl) TB.b_isinstance (by decide +kernel) (pa_cons (pv 1) (pa_cons (pe_glob (v := .ref C_Form) (by rfl) g_Form rfl) pa_nil))) (pe_and (pe_cmpR (kC_eq (K := K) rfl c_Ratio_eq hr (by decide) psE) (kfld (K := K) rfl (pv 0) rfl) (kfld (K := K) rfl (pv 1) rfl) (nomark _)) (pe_one (pe_cmpR (kC_eq (K := K) rfl c_Ratio_eq hr (by decide) psE) (kfld (K := K) rfl (pv 0) rfl) (kfld (K := K) rfl (pv 1) rfl) (nomark _))))))), ?_⟩
    rcases h with ⟨b, z, t, rfl, hb, k⟩ | ⟨⟨t, ht, hc⟩, k⟩
    · wtm_at "of_rd"
      refine r_isi (.own _) (hb.tyx T_Form) kit_self ?_
      wtm_at "of_rd"
      refine r_x T_Form (by with_unfolding_all rfl) ha fun a1 h1 => ?_
      wtm_at "of_rd"
      refine r_x T_Form (by with_unfolding_all rfl) hb fun a2 h2 => ?_
      wtm_at "of_rd"
      refine o_O h1 (o_anyR TR h2) (q_REq h1 (num_r h2) ?_)
      wtm_at "of_rd"
      refine ite2 (fun h1 => ?_) (fun h1 => ?_)
      · wtm_at "of_rd"
        refine r_y T_Form (by with_unfolding_all rfl) ha fun a3 h3 => ?_
        wtm_at "of_rd"
        refine r_y T_Form (by with_unfolding_all rfl) hb fun a4 h4 => ?_
        wtm_at "of_rd"
        refine o_O h3 (o_anyR TR h4) (q_REq h3 (num_r h4) ?_)
        rw [show decide (y = t) = decide (x = z ∧ y = t) from by rw [decide_eq_decide]; exact ⟨fun q => ⟨h1, q⟩, fun q => q.2⟩]
        exact k
      · rw [show decide (x = z ∧ y = t) = false from decide_eq_false fun q => h1 q.1] at k
        exact k
    · wtm_at "of_rd"
      refine r_isi (.own _) ht hc ?_
      wtm_at "of_rd"
      exact k
end
end
section
open PySem PySem.Spec PyProof.Rows L2 He
section
variable {P : Program} {w : World} {K : PySem.W.Frag} {mg : Str → Option Value} {base : Heap} {C_Ratio C_BadNumber C_Point C_Form f_Ratio_eq f_Ratio_lt f_Ratio_le f_Ratio_gt f_Ratio_ge f_Ratio_bool f_Ratio_neg f_Ratio_abs f_Ratio_str f_Ratio_add f_Ratio_radd f_Ratio_sub f_Ratio_rsub f_Ratio_mul f_Ratio_rmul f_Ratio_floordiv f_Ratio_rfloordiv f_Ratio_mod f_Ratio_rmod f_Ratio_pow f_Ratio_over f_Ratio_floor f_Ratio_ceiling f_Ratio_whole f_Ratio_sign f_Point_mul f_Point_rmul f_Form_mul f_Form_rmul : Addr}
abbrev s_summed : Stmt := (top 23)
theorem sc_summed : FnScope ["one", "other", "another", "last", "first", "second"] ["one", "other", "another", "last"] (defScope s_summed) := ⟨rfl, rfl, rfl, by decide +kernel, rfl, by decide +kernel, by decide +kernel⟩
theorem ok_summed {f : Addr} {fd : FuncData} (F : FunD K "summed" "summed" (defArgs s_summed) (defBody s_summed) (defScope s_summed) [] [] f fd) (TR : RT K mg C_Ratio) (c_Ratio_2 : Ck P w K mg base 4 "Ratio" C_Ratio [] (spRInit K C_Ratio C_BadNumber)) : FnOk P w K mg base (L2.CX P w) 6 f fd ["one", "other", "another", "last"] (spSum C_Ratio) := by
  refine F.ok (CX := L2.CX P w) sc_summed (fun vs H Q E h => ?_) (fun cdv A outer s H vs Q E hr h => ?_)
  · obtain ⟨p1, p2, p3, p4, q, r, s', t', rfl, _⟩ := h; rfl
  · obtain ⟨p1, p2, p3, p4, q, r, s', t', rfl, i1, i2, i3, i4, b1, b2, b3, b4, k⟩ := h
    refine ⟨_, (pss_cons (ps_par (i := 4) (j := 5) rfl sc_summed.nd rfl rfl (by decide) rfl rfl (pa_cons (pe_op op_mulA (kfld (K := K) rfl (pv 0) rfl) (kfld (K := K) rfl (pv 1) rfl)) (pa_cons (pe_op op_mulA (kfld (K := K) rfl (pv 2) rfl) (kfld (K := K) rfl (pv 3) rfl)) pa_nil)) (by rfl)) (pss_one (ps_ret (pe_ck c_Ratio_2 hr (by decide) (by rfl) psE (pa_cons (pe_op op_add (pe_op op_mulA (pe_op op_mulA (kfld (K := K) rfl (pv 0) rfl) (kfld (K := K) rfl (pv 1) rfl)) (pv 5)) (pe_op op_mulA (pe_op op_mulA (kfld (K := K) rfl (pv 2) rfl) (kfld (K := K) rfl (pv 3) rfl)) (pv 4))) (pa_cons (pe_op op_mulA (pv 4) (pv 5)) pa_nil)))))), ?_⟩
    have n0 := den22 q r s' t'
    wtm_at "of_ra"
    rename_i h
    rw [← (frq_sum q r s' t').eq n0] at h
    exact k _ _ (by wtm_at "of_exs") h
abbrev s_Point_bool : Stmt := (inClass (top 24) 1)
theorem sc_Point___bool__ : FnScope ["self"] ["self"] (defScope s_Point_bool) := ⟨rfl, rfl, rfl, by decide +kernel, rfl, by decide +kernel, by decide +kernel⟩
theorem ok_Point_bool {f : Addr} {fd : FuncData} (F : FunD K "__bool__" "Point.__bool__" (defArgs s_Point_bool) (defBody s_Point_bool) (defScope s_Point_bool) [] [] f fd) (TB : TBl mg) (TR : RT K mg C_Ratio) (T_Point : PT K C_Point) : FnOk P w K mg base (L2.CX P w) 1 f fd ["self"] (spPTr C_Point C_Ratio) := by
  refine F.ok (CX := L2.CX P w) sc_Point___bool__ (fun vs H Q E h => ?_) (fun cdv A outer s H vs Q E hr h => ?_)
  · obtain ⟨a, x, y, rfl, _⟩ := h; rfl
  · obtain ⟨a, x, y, rfl, ha, bx, b_y, k⟩ := h
    refine ⟨_, (pss_one (ps_ret (pe_callTy call_bool1 (by rfl) TB.b_bool (by decide +kernel) (pa_cons (pe_or (pe_cmpR op_ne (kfld (K := K) rfl (kfld (K := K) rfl (pv 0) rfl) rfl) pe_int (nomark _)) (pe_one (pe_cmpR op_ne (kfld (K := K) rfl (kfld (K := K) rfl (pv 0) rfl) rfl) pe_int (nomark _)))) pa_nil)))), ?_⟩
    wtm_at "of_rd"
    refine r_x T_Point (by with_unfolding_all rfl) ha fun a1 h1 => ?_
    wtm_at "of_rd"
    have nz : ∀ q : Rat, decide (q.num = 0) = decide (q = 0) := fun q => by rw [decide_eq_decide]; exact Rat.num_eq_zero
    by_cases zx : x = 0
    · rw [show (!decide (x.num = 0)) = false from by rw [nz, decide_eq_true zx]; rfl]
      wtm_at "of_rd"
      refine r_y T_Point (by with_unfolding_all rfl) ha fun a2 h2 => ?_
      wtm_at "of_rd"
      refine .inr ⟨_, rfl, ?_⟩
      rw [nz, show decide (y = 0) = decide (x = 0 ∧ y = 0) from by rw [decide_eq_decide]; exact ⟨fun z => ⟨zx, z⟩, fun z => z.2⟩]
      exact k
    · rw [show (!decide (x.num = 0)) = true from by rw [nz, decide_eq_false zx]; rfl]
      wtm_at "of_rd"
      refine .inr ⟨_, rfl, ?_⟩
      rw [decide_eq_false (fun z => zx z.1)] at k
      exact k
abbrev s_Point_rmul : Stmt := (inClass (top 24) 7)
theorem sc_Point___rmul__ : FnScope ["self", "other"] ["self", "other"] (defScope s_Point_rmul) := ⟨rfl, rfl, rfl, by decide +kernel, rfl, by decide +kernel, by decide +kernel⟩
theorem ok_Point_rmul {f : Addr} {fd : FuncData} (F : FunD K "__rmul__" "Point.__rmul__" (defArgs s_Point_rmul) (defBody s_Point_rmul) (defScope s_Point_rmul) [] [] f fd) (TR : RT K mg C_Ratio) (k_Ratio : ClsP K C_Ratio) (a_Ratio_rmul : PySem.W.findIn K (.ref C_Ratio) "__rmul__" = some (some (.ref f_Ratio_rmul))) (T_Point : PT K C_Point) (c_is_number : Cl P w K mg base 2 "is_number" (spIsNum K C_Ratio)) (c_Ratio_mul : Cm P w K mg base 6 C_Ratio "__mul__" f_Ratio_mul (spR1 C_Ratio (fun q r => q * r) (fun _ _ => True))) (c_Point_2 : Ck P w K mg base 7 "Point" C_Point [] (spPInit K C_Point C_Ratio C_BadNumber)) : FnOk P w K mg base (L2.CX P w) 9 f fd ["self", "other"] (spPN C_Point C_Ratio (fun q r => q * r)) := by
  refine F.ok (CX := L2.CX P w) sc_Point___rmul__ (fun vs H Q E h => ?_) (fun cdv A outer s H vs Q E hr h => ?_)
  · obtain ⟨a, v, x, y, r, rfl, _⟩ := h; rfl
  · obtain ⟨a, v, x, y, r, rfl, ha, hv, bx, b_y, br, b1, b2, k⟩ := h
    refine ⟨_, (pss_cons (ps_if (pt_not (pt_val (pe_cl c_is_number hr (by decide) (by rfl) psE (pa_cons (pv 1) pa_nil)))) (pss_one (ps_ret pe_ni)) pss_nil) (pss_one (ps_ret (pe_ck c_Point_2 hr (by decide) (by rfl) psE (pa_cons (pe_op (op_or (opI (rc := none) d_mul dr_mul k_Ratio.o c_Ratio_mul (.inl ⟨_, a_Ratio_rmul⟩) fi_mul fir_mul hr (by decide) psE) (op2 d_mul k_Ratio.o c_Ratio_mul hr (by decide) psE)) (kfld (K := K) rfl (pv 0) rfl) (pv 1)) (pa_cons (pe_op (op_or (opI (rc := none) d_mul dr_mul k_Ratio.o c_Ratio_mul (.inl ⟨_, a_Ratio_rmul⟩) fi_mul fir_mul hr (by decide) psE) (op2 d_mul k_Ratio.o c_Ratio_mul hr (by decide) psE)) (kfld (K := K) rfl (pv 0) rfl) (pv 1)) pa_nil)))))), ?_⟩
    wtm_at "of_rd"
    refine q_isNum hv ?_
    wtm_at "of_rd"
    refine r_x T_Point (by with_unfolding_all rfl) ha fun a1 h1 => ?_
    wtm_at "of_rd"
    rcases hv with ⟨n, rfl, rfl⟩ | ⟨c, rfl, hc⟩
    · refine .inl (o_O h1 o_int (q_R1 h1 num_i bx br trivial ?_))
      intro H1 p1 e1 i1
      wtm_at "of_rd"
      refine r_y T_Point (by with_unfolding_all rfl) (ha.ex e1) fun a3 h3 => ?_
      wtm_at "of_rd"
      refine .inl (o_O h3 o_int (q_R1 h3 num_i b_y br trivial ?_))
      intro H2 p2 e2 i2
      wtm_at "of_rd"
      exact q_mkP rfl (num_r (i1.ex e2)) (num_r i2) b1 b2 (k.ex (e1.trans e2))
    · refine .inr (o_O h1 (o_ins hc) (q_R1 h1 (num_r hc) bx br trivial ?_))
      intro H1 p1 e1 i1
      wtm_at "of_rd"
      refine r_y T_Point (by with_unfolding_all rfl) (ha.ex e1) fun a3 h3 => ?_
      wtm_at "of_rd"
      refine .inr (o_O h3 (o_ins (hc.ex e1)) (q_R1 h3 (num_r (hc.ex e1)) b_y br trivial ?_))
      intro H2 p2 e2 i2
      wtm_at "of_rd"
      exact q_mkP rfl (num_r (i1.ex e2)) (num_r i2) b1 b2 (k.ex (e1.trans e2))
abbrev s_Form_rmul : Stmt := (inClass (top 25) 7)
theorem sc_Form___rmul__ : FnScope ["self", "other"] ["self", "other"] (defScope s_Form_rmul) := ⟨rfl, rfl, rfl, by decide +kernel, rfl, by decide +kernel, by decide +kernel⟩
theorem ok_Form_rmul {f : Addr} {fd : FuncData} (F : FunD K "__rmul__" "Form.__rmul__" (defArgs s_Form_rmul) (defBody s_Form_rmul) (defScope s_Form_rmul) [] [] f fd) (TR : RT K mg C_Ratio) (k_Ratio : ClsP K C_Ratio) (a_Ratio_rmul : PySem.W.findIn K (.ref C_Ratio) "__rmul__" = some (some (.ref f_Ratio_rmul))) (T_Form : PT K C_Form) (c_is_number : Cl P w K mg base 2 "is_number" (spIsNum K C_Ratio)) (c_Ratio_mul : Cm P w K mg base 6 C_Ratio "__mul__" f_Ratio_mul (spR1 C_Ratio (fun q r => q * r) (fun _ _ => True))) (c_Form_2 : Ck P w K mg base 7 "Form" C_Form [] (spPInit K C_Form C_Ratio C_BadNumber)) : FnOk P w K mg base (L2.CX P w) 9 f fd ["self", "other"] (spPN C_Form C_Ratio (fun q r => q * r)) := by
  refine F.ok (CX := L2.CX P w) sc_Form___rmul__ (fun vs H Q E h => ?_) (fun cdv A outer s H vs Q E hr h => ?_)
  · obtain ⟨a, v, x, y, r, rfl, _⟩ := h; rfl
  · obtain ⟨a, v, x, y, r, rfl, ha, hv, bx, b_y, br, b1, b2, k⟩ := h
    refine ⟨_, (pss_cons (ps_if (pt_not (pt_val (pe_cl c_is_number hr (by decide) (by rfl) psE (pa_cons (pv 1) pa_nil)))) (pss_one (ps_ret pe_ni)) pss_nil) (pss_one (ps_ret (pe_ck c_Form_2 hr (by decide) (by rfl) psE (pa_cons (pe_op (op_or (opI (rc := none) d_mul dr_mul k_Ratio.o c_Ratio_mul (.inl ⟨_, a_Ratio_rmul⟩) fi_mul fir_mul hr (by decide) psE) (op2 d_mul k_Ratio.o c_Ratio_mul hr (by decide) psE)) (kfld (K := K) rfl (pv 0) rfl) (pv 1)) (pa_cons (pe_op (op_or (opI (rc := none) d_mul dr_mul k_Ratio.o c_Ratio_mul (.inl ⟨_, a_Ratio_rmul⟩) fi_mul fir_mul hr (by decide) psE) (op2 d_mul k_Ratio.o c_Ratio_mul hr (by decide) psE)) (kfld (K := K) rfl (pv 0) rfl) (pv 1)) pa_nil)))))), ?_⟩
    wtm_at "of_rd"
    refine q_isNum hv ?_
    wtm_at "of_rd"
    refine r_x T_Form (by with_unfolding_all rfl) ha fun a1 h1 => ?_
    wtm_at "of_rd"
    rcases hv with ⟨n, rfl, rfl⟩ | ⟨c, rfl, hc⟩
    · refine .inl (o_O h1 o_int (q_R1 h1 num_i bx br trivial ?_))
      intro H1 p1 e1 i1
      wtm_at "of_rd"
      refine r_y T_Form (by with_unfolding_all rfl) (ha.ex e1) fun a3 h3 => ?_
      wtm_at "of_rd"
      refine .inl (o_O h3 o_int (q_R1 h3 num_i b_y br trivial ?_))
      intro H2 p2 e2 i2
      wtm_at "of_rd"
      exact q_mkP rfl (num_r (i1.ex e2)) (num_r i2) b1 b2 (k.ex (e1.trans e2))
    · refine .inr (o_O h1 (o_ins hc) (q_R1 h1 (num_r hc) bx br trivial ?_))
      intro H1 p1 e1 i1
      wtm_at "of_rd"
      refine r_y T_Form (by with_unfolding_all rfl) (ha.ex e1) fun a3 h3 => ?_
      wtm_at "of_rd"
      refine .inr (o_O h3 (o_ins (hc.ex e1)) (q_R1 h3 (num_r (hc.ex e1)) b_y br trivial ?_))
      intro H2 p2 e2 i2
      wtm_at "of_rd"
      exact q_mkP rfl (num_r (i1.ex e2)) (num_r i2) b1 b2 (k.ex (e1.trans e2))
abbrev s_cross : Stmt := (top 26)
theorem sc_cross : FnScope ["one", "other", "first", "second"] ["one", "other"] (defScope s_cross) := ⟨rfl, rfl, rfl, by decide +kernel, rfl, by decide +kernel, by decide +kernel⟩
theorem ok_cross {f : Addr} {fd : FuncData} (F : FunD K "cross" "cross" (defArgs s_cross) (defBody s_cross) (defScope s_cross) [] [] f fd) (TR : RT K mg C_Ratio) (T_Point : PT K C_Point) (c_Ratio_2 : Ck P w K mg base 4 "Ratio" C_Ratio [] (spRInit K C_Ratio C_BadNumber)) : FnOk P w K mg base (L2.CX P w) 6 f fd ["one", "other"] (spCross C_Point C_Ratio) := by
  refine F.ok (CX := L2.CX P w) sc_cross (fun vs H Q E h => ?_) (fun cdv A outer s H vs Q E hr h => ?_)
  · obtain ⟨a, b, x, y, z, t, rfl, _⟩ := h; rfl
  · obtain ⟨a, b, x, y, z, t, rfl, ha, hb, bx, b_y, bz, bt, k⟩ := h
    refine ⟨_, (pss_cons (ps_par (i := 2) (j := 3) rfl sc_cross.nd rfl rfl (by decide) rfl rfl (pa_cons (pe_op op_mulA (kfld (K := K) rfl (kfld (K := K) rfl (pv 0) rfl) rfl) (kfld (K := K) rfl (kfld (K := K) rfl (pv 1) rfl) rfl)) (pa_cons (pe_op op_mulA (kfld (K := K) rfl (kfld (K := K) rfl (pv 0) rfl) rfl) (kfld (K := K) rfl (kfld (K := K) rfl (pv 1) rfl) rfl)) pa_nil)) (by rfl)) (pss_one (ps_ret (pe_ck c_Ratio_2 hr (by decide) (by rfl) psE (pa_cons (pe_op op_sub (pe_op op_mulA (pe_op op_mulA (kfld (K := K) rfl (kfld (K := K) rfl (pv 0) rfl) rfl) (kfld (K := K) rfl (kfld (K := K) rfl (pv 1) rfl) rfl)) (pv 3)) (pe_op op_mulA (pe_op op_mulA (kfld (K := K) rfl (kfld (K := K) rfl (pv 0) rfl) rfl) (kfld (K := K) rfl (kfld (K := K) rfl (pv 1) rfl) rfl)) (pv 2))) (pa_cons (pe_op op_mulA (pv 2) (pv 3)) pa_nil)))))), ?_⟩
    have TP := T_Point
    have n0 := den22 x t y z
    wtm_at "of_ra"
    rename_i h
    rw [← (frq_crs x t y z).eq n0] at h
    exact k _ _ (by wtm_at "of_exs") h
abbrev s_value_at : Stmt := (top 27)
theorem sc_value_at : FnScope ["form", "point"] ["form", "point"] (defScope s_value_at) := ⟨rfl, rfl, rfl, by decide +kernel, rfl, by decide +kernel, by decide +kernel⟩
theorem ok_value_at {f : Addr} {fd : FuncData} (F : FunD K "value_at" "value_at" (defArgs s_value_at) (defBody s_value_at) (defScope s_value_at) [] [] f fd) (TR : RT K mg C_Ratio) (T_Point : PT K C_Point) (T_Form : PT K C_Form) (c_summed : Cl P w K mg base 6 "summed" (spSum C_Ratio)) : FnOk P w K mg base (L2.CX P w) 7 f fd ["form", "point"] (spValue C_Form C_Point C_Ratio) := by
  refine F.ok (CX := L2.CX P w) sc_value_at (fun vs H Q E h => ?_) (fun cdv A outer s H vs Q E hr h => ?_)
  · obtain ⟨a, b, x, y, z, t, rfl, _⟩ := h; rfl
  · obtain ⟨a, b, x, y, z, t, rfl, ha, hb, bx, b_y, bz, bt, k⟩ := h
    refine ⟨_, (pss_one (ps_ret (pe_cl c_summed hr (by decide) (by rfl) psE (pa_cons (kfld (K := K) rfl (pv 0) rfl) (pa_cons (kfld (K := K) rfl (pv 1) rfl) (pa_cons (kfld (K := K) rfl (pv 0) rfl) (pa_cons (kfld (K := K) rfl (pv 1) rfl) pa_nil))))))), ?_⟩
    have TP := T_Point
    have TF := T_Form
    wtm_at "of_ra"
    refine ⟨_, _, _, _, x, z, y, t, rfl, by wtm_at "of_uq", by wtm_at "of_uq", by wtm_at "of_uq", by wtm_at "of_uq", bx, bz, b_y, bt, ?_⟩
    intro H1 p e1 g1
    exact k _ _ (by wtm_at "of_exs") g1
abbrev s_Form_call : Stmt := (inClass (top 25) 1)
theorem sc_Form___call__ : FnScope ["self", "point"] ["self", "point"] (defScope s_Form_call) := ⟨rfl, rfl, rfl, by decide +kernel, rfl, by decide +kernel, by decide +kernel⟩
theorem ok_Form_call {f : Addr} {fd : FuncData} (F : FunD K "__call__" "Form.__call__" (defArgs s_Form_call) (defBody s_Form_call) (defScope s_Form_call) [] [] f fd) (TR : RT K mg C_Ratio) (c_value_at : Cl P w K mg base 7 "value_at" (spValue C_Form C_Point C_Ratio)) : FnOk P w K mg base (L2.CX P w) 8 f fd ["self", "point"] (spValue C_Form C_Point C_Ratio) := by
  refine F.ok (CX := L2.CX P w) sc_Form___call__ (fun vs H Q E h => ?_) (fun cdv A outer s H vs Q E hr h => ?_)
  · obtain ⟨a, b, x, y, z, t, rfl, _⟩ := h; rfl
  · obtain ⟨a, b, x, y, z, t, rfl, ha, hb, bx, b_y, bz, bt, k⟩ := h
    refine ⟨_, (pss_one (ps_ret (pe_cl c_value_at hr (by decide) (by rfl) psE (pa_cons (pv 0) (pa_cons (pv 1) pa_nil))))), ?_⟩
    wtm_at "of_rd"
    exact ⟨a, b, x, y, z, t, rfl, ha, hb, bx, b_y, bz, bt, k⟩
abbrev s_ranked_points : Stmt := (top 28)
theorem sc_ranked_points : FnScope ["points", "across", "upward", "point"] ["points"] (defScope s_ranked_points) := ⟨rfl, rfl, rfl, by decide +kernel, rfl, by decide +kernel, by decide +kernel⟩
theorem ok_ranked_points {f : Addr} {fd : FuncData} (F : FunD K "ranked_points" "ranked_points" (defArgs s_ranked_points) (defBody s_ranked_points) (defScope s_ranked_points) [] [] f fd) (TB : TBl mg) (TR : RT K mg C_Ratio) (T_Point : PT K C_Point) (c_order_keys : Cl P w K mg base 1 "order_keys" (spOrderKeys C_Ratio)) (c_ranked : Cl P w K mg base 2 "ranked" (spOrd)) : FnOk P w K mg base (L2.CX P w) 3 f fd ["points"] (spRkP C_Point C_Ratio) := by
  refine F.ok (CX := L2.CX P w) sc_ranked_points (fun vs H Q E h => ?_) (fun cdv A outer s H vs Q E hr h => ?_)
  · obtain ⟨k, xs, ps, rfl, _⟩ := h; rfl
  · obtain ⟨k, xs, ps, rfl, hx, hP, hb, hn, kont⟩ := h
    refine ⟨_, (pss_cons (ps_if (pt_cmpR op_lt (pe_callB (kc_len (K := K) rfl) (by rfl) TB.b_len PySem.boot_len (pa_cons (pv 0) pa_nil)) pe_int (nomark _)) (pss_one (ps_ret (pe_listRg rfl (by rfl) TB.b_list (prg_1 (by rfl) TB.b_range (pe_callB (kc_len (K := K) rfl) (by rfl) TB.b_len PySem.boot_len (pa_cons (pv 0) pa_nil)))))) pss_nil) (pss_cons (ps_set (i := 1) sc_ranked_points.nd rfl (Or.inl rfl) (pe_cl c_order_keys hr (by decide) (by rfl) psE (pa_cons (pe_lc (own := [("point", 3)]) (tt := tYes) (by rfl) sc_ranked_points.nd (kpi_or (kpi_l (K := K) rfl (pv 0)) (kpi_t (K := K) rfl (pv 0))) (blkOk_by (own := [("point", 3)]) (N := ["points", "across", "upward", "point"]) (sc := defScope s_ranked_points) (by decide +kernel)) (fun _ _ _ _ _ => (pg_name (i := 3) sc_ranked_points.nd rfl (Or.inl rfl))) (fun _ _ _ _ _ => pts_nil) (fun _ _ _ _ _ => (kfld (K := K) rfl (pv 3) rfl))) pa_nil))) (pss_cons (ps_set (i := 2) sc_ranked_points.nd rfl (Or.inl rfl) (pe_cl c_order_keys hr (by decide) (by rfl) psE (pa_cons (pe_lc (own := [("point", 3)]) (tt := tYes) (by rfl) sc_ranked_points.nd (kpi_or (kpi_l (K := K) rfl (pv 0)) (kpi_t (K := K) rfl (pv 0))) (blkOk_by (own := [("point", 3)]) (N := ["points", "across", "upward", "point"]) (sc := defScope s_ranked_points) (by decide +kernel)) (fun _ _ _ _ _ => (pg_name (i := 3) sc_ranked_points.nd rfl (Or.inl rfl))) (fun _ _ _ _ _ => pts_nil) (fun _ _ _ _ _ => (kfld (K := K) rfl (pv 3) rfl))) pa_nil))) (pss_one (ps_ret (pe_cl c_ranked hr (by decide) (by rfl) psE (pa_cons (pe_listZip (K := K) rfl rfl (by rfl) TB.b_list (by rfl) TB.b_zip (pa_cons (pv 1) (pa_cons (pv 2) pa_nil))) pa_nil))))))), ?_⟩
    have hlen := hP.1
    wtm_at "of_rd"
    refine q_lenLT hx ?_
    wtm_at "of_rd"
    refine ite2 (fun hlt => ?_) (fun hge => ?_)
    · wtm_at "of_rd"
      refine r_lrg ?_
      wtm_at "of_rd"
      refine q_lenLT hx ?_
      refine ⟨_, rfl, RgOk.of_le (by decide) (by omega) (by decide) (by omega), fun q hq => ?_⟩
      exact kont _ q (List.range ps.length) (Ex.new hq) (by rw [upd_same, hlen, rgV_nat]) (.refl _) (pw_range (by omega))
    wtm_at "of_rd"
    refine i_LT (by with_unfolding_all rfl) hx ?_
    intro J hJ
    refine lLT hJ (fun L i acc H' => Ex H H' ∧ Acc (fun j p H => ∃ q, ps[j]? = some q ∧ IsR C_Ratio H p q.1) acc i H') (fun L hL H' e h => ⟨e, .nil⟩) (fun L i acc H' hL hi ⟨e, _⟩ => e) ?_ ?_
    · intro L i x acc H' hL hxi ⟨e, ac⟩ hacc
      have hi : i < ps.length := by rw [← hlen]; exact (List.getElem?_eq_some_iff.mp hxi).1
      have hq : ps[i]? = some ps[i] := List.getElem?_eq_getElem hi
      obtain ⟨p, hv, hp⟩ := hP.2 i _ hq
      rw [hxi] at hv; cases hv
      wtm_at "of_rd"
      refine ⟨rfl, ?_⟩
      wtm_at "of_rd"
      refine r_x T_Point (by with_unfolding_all rfl) (hp.ex e) fun a1 g1 => ?_
      exact lput hacc (by rw [ac.len]; omega) ⟨e.put hL, ac.snoc (fun j q ⟨r, z1, z2⟩ => ⟨r, z1, z2.put hacc⟩) ⟨_, hq, g1.put hacc⟩⟩
    intro L1 acc1 H1 hL1 h1 ⟨e1, ac1⟩
    rw [hlen] at ac1
    wtm_at "of_rd"
    refine ⟨L1, acc1, ps.map (·.1), rfl, h1, rs_map ac1, fun q hq => by
      obtain ⟨r, hr, rfl⟩ := List.mem_map.mp hq
      exact (hb r hr).1, by rw [List.length_map]; omega, by rw [List.length_map]; exact hn, ?_⟩
    intro H2 K1 key1 e2 g2 rk1
    wtm_at "of_rd"
    have e12 := e1.trans e2
    have hx2 : SeqAt1 H2 k xs := hx.elim (fun z => .inl (e12 _ _ z)) (fun z => .inr (e12 _ _ z))
    refine i_LT (by with_unfolding_all rfl) hx2 ?_
    intro J2 hJ2
    refine lLT hJ2 (fun L i acc H' => Ex H2 H' ∧ Acc (fun j p H => ∃ q, ps[j]? = some q ∧ IsR C_Ratio H p q.2) acc i H') (fun L hL H' e h => ⟨e, .nil⟩) (fun L i acc H' hL hi ⟨e, _⟩ => e) ?_ ?_
    · intro L i x acc H' hL hxi ⟨e, ac⟩ hacc
      have hi : i < ps.length := by rw [← hlen]; exact (List.getElem?_eq_some_iff.mp hxi).1
      have hq : ps[i]? = some ps[i] := List.getElem?_eq_getElem hi
      obtain ⟨p, hv, hp⟩ := hP.2 i _ hq
      rw [hxi] at hv; cases hv
      wtm_at "of_rd"
      refine ⟨rfl, ?_⟩
      wtm_at "of_rd"
      refine r_y T_Point (by with_unfolding_all rfl) (hp.ex (e12.trans e)) fun a1 g1 => ?_
      exact lput hacc (by rw [ac.len]; omega) ⟨e.put hL, ac.snoc (fun j q ⟨r, z1, z2⟩ => ⟨r, z1, z2.put hacc⟩) ⟨_, hq, g1.put hacc⟩⟩
    intro L3 acc3 H3 hL3 h3 ⟨e3, ac3⟩
    rw [hlen] at ac3
    wtm_at "of_rd"
    refine ⟨L3, acc3, ps.map (·.2), rfl, h3, rs_map ac3, fun q hq => by
      obtain ⟨r, hr, rfl⟩ := List.mem_map.mp hq
      exact (hb r hr).2, by rw [List.length_map]; omega, by rw [List.length_map]; exact hn, ?_⟩
    intro H4 K2 key2 e4 g4 rk2
    wtm_at "of_rd"
    have l1 := rk1.1
    have l2 := rk2.1
    rw [List.length_map] at l1 l2
    refine r_lzip ?_
    wtm_at "of_rd"
    refine ⟨K1, K2, _, _, rfl, SqL.of ((e3.trans e4) _ _ g2), SqL.of g4, ?_⟩
    intro L H5 zs hL e5 h5 hzl hz
    rw [List.length_map, List.length_map, l1, l2, Nat.min_self] at hzl hz
    wtm_at "of_rd"
    refine ⟨L, rows2 key1 key2 ps.length, 2, 20000, rfl, ⟨zs, h5, by rw [rows2_len]; exact hzl, fun i r hr => ?_⟩, rows2_ok rk1.2.1 rk2.2.1, by decide, by decide, by decide, by rw [rows2_len]; exact hn, ?_⟩
    · obtain ⟨hi, rfl⟩ := rows2_at hr
      obtain ⟨T, x, y, z1, z2, z3, z4⟩ := hz i hi
      obtain ⟨a, _, ea, rfl⟩ := int_at z2
      obtain ⟨b, _, eb, rfl⟩ := int_at z3
      exact ⟨T, z1, by rw [z4, ea, eb]; rfl⟩
    intro H6 p idx e6 h6 so
    wtm_at "of_rd"
    obtain ⟨hperm, hsort⟩ := so
    rw [rows2_len] at hperm
    exact kont H6 p idx (((e12.trans (e3.trans e4)).trans e5).trans e6) h6 hperm (rows2_sorted rk1 rk2 (fun i hi => List.mem_range.mp (hperm.mem_iff.mp hi)) hsort)
abbrev s_ascending_points : Stmt := (top 29)
theorem sc_ascending_points : FnScope ["points", "index"] ["points"] (defScope s_ascending_points) := ⟨rfl, rfl, rfl, by decide +kernel, rfl, by decide +kernel, by decide +kernel⟩
theorem ok_ascending_points {f : Addr} {fd : FuncData} (F : FunD K "ascending_points" "ascending_points" (defArgs s_ascending_points) (defBody s_ascending_points) (defScope s_ascending_points) [] [] f fd) (TR : RT K mg C_Ratio) (c_ranked_points : Cl P w K mg base 3 "ranked_points" (spRkP C_Point C_Ratio)) : FnOk P w K mg base (L2.CX P w) 4 f fd ["points"] (spAscP C_Point C_Ratio) := by
  refine F.ok (CX := L2.CX P w) sc_ascending_points (fun vs H Q E h => ?_) (fun cdv A outer s H vs Q E hr h => ?_)
  · obtain ⟨k, xs, ps, rfl, _⟩ := h; rfl
  · obtain ⟨k, xs, ps, rfl, hx, hP, hb, hn, kont⟩ := h
    refine ⟨_, (pss_one (ps_ret (pe_lc (own := [("index", 1)]) (tt := tYes) (by rfl) sc_ascending_points.nd (kpi_l (K := K) rfl (pe_cl c_ranked_points hr (by decide) (by rfl) psE (pa_cons (pv 0) pa_nil))) (blkOk_by (own := [("index", 1)]) (N := ["points", "index"]) (sc := defScope s_ascending_points) (by decide +kernel)) (fun _ _ _ _ _ => (pg_name (i := 1) sc_ascending_points.nd rfl (Or.inl rfl))) (fun _ _ _ _ _ => pts_nil) (fun _ _ _ _ _ => (pe_ix (IxR.or (kix_l (K := K) rfl) (kix_t (K := K) rfl)) (pv 0) (pv 1) (fun _ _ => rfl)))))), ?_⟩
    have hlen := hP.1
    wtm_at "of_rd"
    refine ⟨k, xs, ps, rfl, hx, hP, hb, hn, ?_⟩
    intro H3 p3 idx e3 h3 hperm hsort
    have hlt : ∀ i ∈ idx, i < ps.length := fun i hi => List.mem_range.mp (hperm.mem_iff.mp hi)
    have hil : idx.length = ps.length := by rw [hperm.length_eq, List.length_range]
    wtm_at "of_rd"
    refine i_L h3 ?_
    refine lL (fun L i acc H' => Ex H3 H' ∧ acc = (idx.take i).map fun i => xs.getD i .non) (fun L hL H' e h => ⟨e, rfl⟩) (fun L i acc H' hL hi ⟨e, _⟩ => e _ _ h3) ?_ ?_
    · intro L4 i x acc4 H' hL4 hxi ⟨e, ac4⟩ hacc
      obtain ⟨j, hj, rfl⟩ := nat_at hxi
      have hjl := hlt j (List.mem_of_getElem? hj)
      have e4 := e3.trans e
      have hxj : xs[j]? = some (xs.getD j .non) := by
        rw [List.getD_eq_getElem?_getD, List.getElem?_eq_getElem (by rw [hlen]; exact hjl)]; rfl
      wtm_at "of_rd"
      refine ⟨rfl, ?_⟩
      wtm_at "of_rd"
      have hidx : idx.take (i + 1) = idx.take i ++ [j] := by rw [List.take_add_one, hj]; rfl
      rcases hx with hx | hx
      · left
        refine r_iL1 (e4 _ _ hx) (atI_nat hxj) ?_
        refine lput hacc (by rw [ac4, List.length_map, List.length_take]; omega) ⟨e.put hL4, ?_⟩
        rw [hidx, List.map_append, ac4]; rfl
      · right
        refine ⟨k, xs, _, _, rfl, rfl, SqT.of (e4 _ _ hx), atI_nat hxj, ?_⟩
        refine lput hacc (by rw [ac4, List.length_map, List.length_take]; omega) ⟨e.put hL4, ?_⟩
        rw [hidx, List.map_append, ac4]; rfl
    intro L5 acc5 H5 hL5 h5 ⟨e5, ac5⟩
    rw [List.length_map, List.take_length] at ac5
    subst ac5
    exact kont H5 L5 idx (e3.trans e5) (none_of e3 hL5) h5 hperm hsort
end
end
section
open PySem PySem.Spec PyProof.Rows L2 He
theorem kb_of {K : PySem.W.Frag} {x qual : Str} {params : Arguments} {body : List Stmt} {scope : Scope} {f : Addr} {fd : FuncData} {ps ks : List Str} {n : Nat} (F : FunD K x qual params body scope [] [] f fd)
    (h : ∀ (kV doc pm : Value) (an : Option Addr) (cdv ct : Value) (us ws : List Value), us.length = n → ws.length = ks.length → bindArgs (PySem.W.fnOf x qual params body scope .none kV doc pm an cdv ct) ⟨us, ks.zip ws⟩ = pure (ps.zip (us ++ ws))) : KBn K fd ps n ks (fun us ws => us ++ ws) (fun vs zs => vs ++ zs) := by
  obtain ⟨oc, od, dV, kV, doc, pm, an, cdv, ct, osl, rfl, lk, hcd, hD, hK⟩ := F.ex
  rcases hD with ⟨_, rfl⟩ | ⟨e, _⟩
  · exact ⟨fun s us ws _ l1 l2 => .of_eq (h kV doc pm an cdv ct us ws l1 l2), fun r1 r2 => r1.append r2⟩
  · exact absurd rfl e
theorem bindsR {K : PySem.W.Frag} {f : Addr} {fd : FuncData} (F : FunD K "__init__" "Ratio.__init__" (defArgs (inClass (top 18) 0)) (defBody (inClass (top 18) 0)) (defScope (inClass (top 18) 0)) [.int 1] [] f fd) (n j : Nat) (hn : n = 2 ∧ j = 0 ∨ n = 3 ∧ j = 1) : ∃ ds, Vals ([V.int 1].drop j) ds ∧ Binds K fd ["self", "top", "bottom"] ds := by
  rcases hn with ⟨rfl, rfl⟩ | ⟨rfl, rfl⟩
  · exact F.binds1 2 0 (by simp) rfl fun _ _ _ _ _ _ _ us its h1 h2 => match us, h1, its, h2 with | [_, _], _, [_], _ => ⟨_, rfl, rfl⟩
  · exact F.binds1 3 1 (by simp) rfl fun _ _ _ _ _ _ _ us its h1 h2 => match us, h1, its, h2 with | [_, _, _], _, [_], _ => ⟨_, rfl, rfl⟩
theorem law_at {w : World} {K : PySem.W.Frag} {mg : Str → Option Value} {h : Heap} {fl : Addr} (X : K.In h) (G : h.Ns mainGlobals mg) (hfa : mg ("law" : Str) = some (.ref fl)) (c : SaysX fa fn [] tfs ex w h K) : LawAtG PySem.Challenge.rw_overfloors_k10_points_and_forms w K (L2.CX (PySem.Challenge.rw_overfloors_k10_points_and_forms).prog w) 11 63 "_law_script" mg fl h := by
  have d : SaysD fa fn K := c.t.d
  have hx : fl = ga K "law" := Value.ref.inj (Option.some.inj (hfa.symm.trans (glo_ok X G (d.fact 59 (f := .glo "law") rfl))))
  subst hx
  have TB : TBl mg := ⟨(free_ok X G (d.fact 0 (f := .free "type") rfl)), (free_ok X G (d.fact 1 (f := .free "isinstance") rfl)), (free_ok X G (d.fact 2 (f := .free "int") rfl)), (free_ok X G (d.fact 3 (f := .free "bool") rfl)), (free_ok X G (d.fact 4 (f := .free "len") rfl)), (free_ok X G (d.fact 5 (f := .free "range") rfl)), (free_ok X G (d.fact 6 (f := .free "enumerate") rfl)), (free_ok X G (d.fact 7 (f := .free "sorted") rfl)), (free_ok X G (d.fact 8 (f := .free "list") rfl)), (free_ok X G (d.fact 9 (f := .free "abs") rfl)), (free_ok X G (d.fact 10 (f := .free "str") rfl)), (free_ok X G (d.fact 11 (f := .free "max") rfl)), (free_ok X G (d.fact 12 (f := .free "zip") rfl)), (free_ok X G (d.fact 13 (f := .free "repr") rfl)), (free_ok X G (d.fact 14 (f := .free "tuple") rfl)), (free_ok X G (d.fact 15 (f := .free "NotImplemented") rfl)), PySem.W.mg_of X G (eqO_ok (ba (ba (ba (ba (ba (ba (ba (ba (ba (ba (ba (ba (ba (ba (ba (ba (ba (ba c.more).2).2).2).2).2).2).2).2).2).2).2).2).2).2).2).2).2).2)⟩
  have k_Ratio : ClsP K (ga K "Ratio") := clsPB_ok (cls_ok (d.fact 67 (f := .cls "Ratio") rfl)) (ba c.more).1
  have g_Ratio : mg "Ratio" = some (.ref (ga K "Ratio")) := (glo_ok X G (d.fact 62 (f := .glo "Ratio") rfl))
  have k_Point : ClsP K (ga K "Point") := clsPB_ok (cls_ok (d.fact 92 (f := .cls "Point") rfl)) (ba (ba c.more).2).1
  have g_Point : mg "Point" = some (.ref (ga K "Point")) := (glo_ok X G (d.fact 63 (f := .glo "Point") rfl))
  have k_Form : ClsP K (ga K "Form") := clsPB_ok (cls_ok (d.fact 103 (f := .cls "Form") rfl)) (ba (ba (ba c.more).2).2).1
  have g_Form : mg "Form" = some (.ref (ga K "Form")) := (glo_ok X G (d.fact 64 (f := .glo "Form") rfl))
  have TR : RT K mg (ga K "Ratio") := ⟨k_Ratio, noat_ok (d.fact 68 (f := .noat "Ratio" "top") rfl), noat_ok (d.fact 69 (f := .noat "Ratio" "bottom") rfl), g_Ratio⟩
  have T_Point : PT K (ga K "Point") := ⟨k_Point, noat_ok (d.fact 93 (f := .noat "Point" "x") rfl), noat_ok (d.fact 94 (f := .noat "Point" "y") rfl)⟩
  have T_Form : PT K (ga K "Form") := ⟨k_Form, noat_ok (d.fact 104 (f := .noat "Form" "x") rfl), noat_ok (d.fact 105 (f := .noat "Form" "y") rfl)⟩
  have o_BadNumber : OexC K (ga K "BadNumber") := oexB_ok (ba (ba (ba (ba c.more).2).2).2).1
  have g_BadNumber : mg "BadNumber" = some (.ref (ga K "BadNumber")) := (glo_ok X G (d.fact 61 (f := .glo "BadNumber") rfl))
  have n_BadNumber : PySem.W.findIn K (.ref (ga K "BadNumber")) "value" = some none := noat_ok (d.fact 66 (f := .noat "BadNumber" "value") rfl)
  have xB := xfB_ok (ba (ba (ba (ba (ba c.more).2).2).2).2).1
  have x_Form_call := (ba (ba (ba (ba (ba (ba c.more).2).2).2).2).2).1
  have s_Ratio_Point := of_decide_eq_true (ba (ba (ba (ba (ba (ba (ba c.more).2).2).2).2).2).2).1
  have s_Ratio_Form := of_decide_eq_true (ba (ba (ba (ba (ba (ba (ba (ba c.more).2).2).2).2).2).2).2).1
  have s_Point_Ratio := of_decide_eq_true (ba (ba (ba (ba (ba (ba (ba (ba (ba c.more).2).2).2).2).2).2).2).2).1
  have s_Point_Form := of_decide_eq_true (ba (ba (ba (ba (ba (ba (ba (ba (ba (ba c.more).2).2).2).2).2).2).2).2).2).1
  have s_Form_Point := of_decide_eq_true (ba (ba (ba (ba (ba (ba (ba (ba (ba (ba (ba c.more).2).2).2).2).2).2).2).2).2).2).1
  have s_Form_Ratio := of_decide_eq_true (ba (ba (ba (ba (ba (ba (ba (ba (ba (ba (ba (ba c.more).2).2).2).2).2).2).2).2).2).2).2).1
  have n_Ratio_Point := of_decide_eq_true (ba (ba (ba (ba (ba (ba (ba (ba (ba (ba (ba (ba (ba c.more).2).2).2).2).2).2).2).2).2).2).2).2).1
  have n_Ratio_Form := of_decide_eq_true (ba (ba (ba (ba (ba (ba (ba (ba (ba (ba (ba (ba (ba (ba c.more).2).2).2).2).2).2).2).2).2).2).2).2).2).1
  have n_Point_Ratio := of_decide_eq_true (ba (ba (ba (ba (ba (ba (ba (ba (ba (ba (ba (ba (ba (ba (ba c.more).2).2).2).2).2).2).2).2).2).2).2).2).2).2).1
  have n_Point_Form := of_decide_eq_true (ba (ba (ba (ba (ba (ba (ba (ba (ba (ba (ba (ba (ba (ba (ba (ba c.more).2).2).2).2).2).2).2).2).2).2).2).2).2).2).2).1
  have n_Form_Point := of_decide_eq_true (ba (ba (ba (ba (ba (ba (ba (ba (ba (ba (ba (ba (ba (ba (ba (ba (ba c.more).2).2).2).2).2).2).2).2).2).2).2).2).2).2).2).2).1
  have n_Form_Ratio := of_decide_eq_true (ba (ba (ba (ba (ba (ba (ba (ba (ba (ba (ba (ba (ba (ba (ba (ba (ba (ba c.more).2).2).2).2).2).2).2).2).2).2).2).2).2).2).2).2).2).1
  have mBB := exm_ok (d.fact 114 (f := .exm "BadNumber" "BadNumber" true) rfl)
  obtain ⟨t_FEW, g_FEW⟩ := int_ok X G (d.fact 115 (f := .int "FEW" 8) rfl)
  obtain ⟨fd_is_int, F_is_int⟩ := d.def_ 3 (d := ⟨("is_int", none), "is_int", "is_int", defArgs (top 11), defBody (top 11), defScope (top 11), [], []⟩) rfl
  obtain ⟨fd_BadNumber_init, F_BadNumber_init⟩ := d.def_ 44 (d := ⟨("BadNumber", some "__init__"), "__init__", "BadNumber.__init__", defArgs (inClass (top 9) 0), defBody (inClass (top 9) 0), defScope (inClass (top 9) 0), [], []⟩) rfl
  obtain ⟨fd_check_parts, F_check_parts⟩ := d.def_ 9 (d := ⟨("check_parts", none), "check_parts", "check_parts", defArgs (top 17), defBody (top 17), defScope (top 17), [], []⟩) rfl
  obtain ⟨fd_Ratio_init, F_Ratio_init⟩ := d.def_ 45 (d := ⟨("Ratio", some "__init__"), "__init__", "Ratio.__init__", defArgs (inClass (top 18) 0), defBody (inClass (top 18) 0), defScope (inClass (top 18) 0), [.int 1], []⟩) rfl
  obtain ⟨fd_is_number, F_is_number⟩ := d.def_ 4 (d := ⟨("is_number", none), "is_number", "is_number", defArgs (top 12), defBody (top 12), defScope (top 12), [], []⟩) rfl
  obtain ⟨fd_ratio_of, F_ratio_of⟩ := d.def_ 5 (d := ⟨("ratio_of", none), "ratio_of", "ratio_of", defArgs (top 13), defBody (top 13), defScope (top 13), [], []⟩) rfl
  obtain ⟨fd_Ratio_eq, F_Ratio_eq⟩ := d.def_ 51 (d := ⟨("Ratio", some "__eq__"), "__eq__", "Ratio.__eq__", defArgs (inClass (top 18) 10), defBody (inClass (top 18) 10), defScope (inClass (top 18) 10), [], []⟩) rfl
  obtain ⟨fd_Ratio_lt, F_Ratio_lt⟩ := d.def_ 52 (d := ⟨("Ratio", some "__lt__"), "__lt__", "Ratio.__lt__", defArgs (inClass (top 18) 11), defBody (inClass (top 18) 11), defScope (inClass (top 18) 11), [], []⟩) rfl
  obtain ⟨fd_Ratio_le, F_Ratio_le⟩ := d.def_ 53 (d := ⟨("Ratio", some "__le__"), "__le__", "Ratio.__le__", defArgs (inClass (top 18) 12), defBody (inClass (top 18) 12), defScope (inClass (top 18) 12), [], []⟩) rfl
  obtain ⟨fd_Ratio_gt, F_Ratio_gt⟩ := d.def_ 54 (d := ⟨("Ratio", some "__gt__"), "__gt__", "Ratio.__gt__", defArgs (inClass (top 18) 13), defBody (inClass (top 18) 13), defScope (inClass (top 18) 13), [], []⟩) rfl
  obtain ⟨fd_Ratio_ge, F_Ratio_ge⟩ := d.def_ 55 (d := ⟨("Ratio", some "__ge__"), "__ge__", "Ratio.__ge__", defArgs (inClass (top 18) 14), defBody (inClass (top 18) 14), defScope (inClass (top 18) 14), [], []⟩) rfl
  obtain ⟨fd_Ratio_floor, F_Ratio_floor⟩ := d.def_ 46 (d := ⟨("Ratio", some "floor"), "floor", "Ratio.floor", defArgs (inClass (top 18) 2), defBody (inClass (top 18) 2), defScope (inClass (top 18) 2), [], []⟩) rfl
  obtain ⟨fd_Ratio_bool, F_Ratio_bool⟩ := d.def_ 48 (d := ⟨("Ratio", some "__bool__"), "__bool__", "Ratio.__bool__", defArgs (inClass (top 18) 7), defBody (inClass (top 18) 7), defScope (inClass (top 18) 7), [], []⟩) rfl
  obtain ⟨fd_Ratio_neg, F_Ratio_neg⟩ := d.def_ 49 (d := ⟨("Ratio", some "__neg__"), "__neg__", "Ratio.__neg__", defArgs (inClass (top 18) 8), defBody (inClass (top 18) 8), defScope (inClass (top 18) 8), [], []⟩) rfl
  obtain ⟨fd_Ratio_abs, F_Ratio_abs⟩ := d.def_ 50 (d := ⟨("Ratio", some "__abs__"), "__abs__", "Ratio.__abs__", defArgs (inClass (top 18) 9), defBody (inClass (top 18) 9), defScope (inClass (top 18) 9), [], []⟩) rfl
  obtain ⟨fd_Ratio_add, F_Ratio_add⟩ := d.def_ 56 (d := ⟨("Ratio", some "__add__"), "__add__", "Ratio.__add__", defArgs (inClass (top 18) 15), defBody (inClass (top 18) 15), defScope (inClass (top 18) 15), [], []⟩) rfl
  obtain ⟨fd_Ratio_mul, F_Ratio_mul⟩ := d.def_ 60 (d := ⟨("Ratio", some "__mul__"), "__mul__", "Ratio.__mul__", defArgs (inClass (top 18) 19), defBody (inClass (top 18) 19), defScope (inClass (top 18) 19), [], []⟩) rfl
  obtain ⟨fd_Ratio_sub, F_Ratio_sub⟩ := d.def_ 58 (d := ⟨("Ratio", some "__sub__"), "__sub__", "Ratio.__sub__", defArgs (inClass (top 18) 17), defBody (inClass (top 18) 17), defScope (inClass (top 18) 17), [], []⟩) rfl
  obtain ⟨fd_Ratio_radd, F_Ratio_radd⟩ := d.def_ 57 (d := ⟨("Ratio", some "__radd__"), "__radd__", "Ratio.__radd__", defArgs (inClass (top 18) 16), defBody (inClass (top 18) 16), defScope (inClass (top 18) 16), [], []⟩) rfl
  obtain ⟨fd_Ratio_rsub, F_Ratio_rsub⟩ := d.def_ 59 (d := ⟨("Ratio", some "__rsub__"), "__rsub__", "Ratio.__rsub__", defArgs (inClass (top 18) 18), defBody (inClass (top 18) 18), defScope (inClass (top 18) 18), [], []⟩) rfl
  obtain ⟨fd_Ratio_rmul, F_Ratio_rmul⟩ := d.def_ 61 (d := ⟨("Ratio", some "__rmul__"), "__rmul__", "Ratio.__rmul__", defArgs (inClass (top 18) 20), defBody (inClass (top 18) 20), defScope (inClass (top 18) 20), [], []⟩) rfl
  obtain ⟨fd_floor_quotient, F_floor_quotient⟩ := d.def_ 6 (d := ⟨("floor_quotient", none), "floor_quotient", "floor_quotient", defArgs (top 14), defBody (top 14), defScope (top 14), [], []⟩) rfl
  obtain ⟨fd_remainder_of, F_remainder_of⟩ := d.def_ 7 (d := ⟨("remainder_of", none), "remainder_of", "remainder_of", defArgs (top 15), defBody (top 15), defScope (top 15), [], []⟩) rfl
  obtain ⟨fd_Ratio_floordiv, F_Ratio_floordiv⟩ := d.def_ 62 (d := ⟨("Ratio", some "__floordiv__"), "__floordiv__", "Ratio.__floordiv__", defArgs (inClass (top 18) 21), defBody (inClass (top 18) 21), defScope (inClass (top 18) 21), [], []⟩) rfl
  obtain ⟨fd_Ratio_rfloordiv, F_Ratio_rfloordiv⟩ := d.def_ 63 (d := ⟨("Ratio", some "__rfloordiv__"), "__rfloordiv__", "Ratio.__rfloordiv__", defArgs (inClass (top 18) 22), defBody (inClass (top 18) 22), defScope (inClass (top 18) 22), [], []⟩) rfl
  obtain ⟨fd_Ratio_mod, F_Ratio_mod⟩ := d.def_ 64 (d := ⟨("Ratio", some "__mod__"), "__mod__", "Ratio.__mod__", defArgs (inClass (top 18) 23), defBody (inClass (top 18) 23), defScope (inClass (top 18) 23), [], []⟩) rfl
  obtain ⟨fd_Ratio_rmod, F_Ratio_rmod⟩ := d.def_ 65 (d := ⟨("Ratio", some "__rmod__"), "__rmod__", "Ratio.__rmod__", defArgs (inClass (top 18) 24), defBody (inClass (top 18) 24), defScope (inClass (top 18) 24), [], []⟩) rfl
  obtain ⟨fd_Ratio_str, F_Ratio_str⟩ := d.def_ 47 (d := ⟨("Ratio", some "__str__"), "__str__", "Ratio.__str__", defArgs (inClass (top 18) 6), defBody (inClass (top 18) 6), defScope (inClass (top 18) 6), [], []⟩) rfl
  obtain ⟨fd_power_of, F_power_of⟩ := d.def_ 8 (d := ⟨("power_of", none), "power_of", "power_of", defArgs (top 16), defBody (top 16), defScope (top 16), [], []⟩) rfl
  obtain ⟨fd_Ratio_pow, F_Ratio_pow⟩ := d.def_ 66 (d := ⟨("Ratio", some "__pow__"), "__pow__", "Ratio.__pow__", defArgs (inClass (top 18) 25), defBody (inClass (top 18) 25), defScope (inClass (top 18) 25), [], []⟩) rfl
  obtain ⟨fd_order_keys, F_order_keys⟩ := d.def_ 10 (d := ⟨("order_keys", none), "order_keys", "order_keys", defArgs (top 19), defBody (top 19), defScope (top 19), [], []⟩) rfl
  obtain ⟨fd_row_keys, F_row_keys⟩ := d.def_ 0 (d := ⟨("row_keys", none), "row_keys", "row_keys", defArgs (top 4), defBody (top 4), defScope (top 4), [], []⟩) rfl
  obtain ⟨fd_inserted, F_inserted⟩ := d.def_ 1 (d := ⟨("inserted", none), "inserted", "inserted", defArgs (top 5), defBody (top 5), defScope (top 5), [], []⟩) rfl
  obtain ⟨fd_ranked, F_ranked⟩ := d.def_ 2 (d := ⟨("ranked", none), "ranked", "ranked", defArgs (top 6), defBody (top 6), defScope (top 6), [], []⟩) rfl
  obtain ⟨fd_added, F_added⟩ := d.def_ 11 (d := ⟨("added", none), "added", "added", defArgs (top 21), defBody (top 21), defScope (top 21), [], []⟩) rfl
  obtain ⟨fd_taken, F_taken⟩ := d.def_ 12 (d := ⟨("taken", none), "taken", "taken", defArgs (top 22), defBody (top 22), defScope (top 22), [], []⟩) rfl
  obtain ⟨fd_Point_init, F_Point_init⟩ := d.def_ 67 (d := ⟨("Point", some "__init__"), "__init__", "Point.__init__", defArgs (inClass (top 24) 0), defBody (inClass (top 24) 0), defScope (inClass (top 24) 0), [], []⟩) rfl
  obtain ⟨fd_Form_init, F_Form_init⟩ := d.def_ 75 (d := ⟨("Form", some "__init__"), "__init__", "Form.__init__", defArgs (inClass (top 25) 0), defBody (inClass (top 25) 0), defScope (inClass (top 25) 0), [], []⟩) rfl
  obtain ⟨fd_Point_add, F_Point_add⟩ := d.def_ 71 (d := ⟨("Point", some "__add__"), "__add__", "Point.__add__", defArgs (inClass (top 24) 4), defBody (inClass (top 24) 4), defScope (inClass (top 24) 4), [], []⟩) rfl
  obtain ⟨fd_Point_sub, F_Point_sub⟩ := d.def_ 72 (d := ⟨("Point", some "__sub__"), "__sub__", "Point.__sub__", defArgs (inClass (top 24) 5), defBody (inClass (top 24) 5), defScope (inClass (top 24) 5), [], []⟩) rfl
  obtain ⟨fd_Point_neg, F_Point_neg⟩ := d.def_ 70 (d := ⟨("Point", some "__neg__"), "__neg__", "Point.__neg__", defArgs (inClass (top 24) 3), defBody (inClass (top 24) 3), defScope (inClass (top 24) 3), [], []⟩) rfl
  obtain ⟨fd_Point_mul, F_Point_mul⟩ := d.def_ 73 (d := ⟨("Point", some "__mul__"), "__mul__", "Point.__mul__", defArgs (inClass (top 24) 6), defBody (inClass (top 24) 6), defScope (inClass (top 24) 6), [], []⟩) rfl
  obtain ⟨fd_Point_eq, F_Point_eq⟩ := d.def_ 69 (d := ⟨("Point", some "__eq__"), "__eq__", "Point.__eq__", defArgs (inClass (top 24) 2), defBody (inClass (top 24) 2), defScope (inClass (top 24) 2), [], []⟩) rfl
  obtain ⟨fd_Form_add, F_Form_add⟩ := d.def_ 79 (d := ⟨("Form", some "__add__"), "__add__", "Form.__add__", defArgs (inClass (top 25) 4), defBody (inClass (top 25) 4), defScope (inClass (top 25) 4), [], []⟩) rfl
  obtain ⟨fd_Form_sub, F_Form_sub⟩ := d.def_ 80 (d := ⟨("Form", some "__sub__"), "__sub__", "Form.__sub__", defArgs (inClass (top 25) 5), defBody (inClass (top 25) 5), defScope (inClass (top 25) 5), [], []⟩) rfl
  obtain ⟨fd_Form_neg, F_Form_neg⟩ := d.def_ 78 (d := ⟨("Form", some "__neg__"), "__neg__", "Form.__neg__", defArgs (inClass (top 25) 3), defBody (inClass (top 25) 3), defScope (inClass (top 25) 3), [], []⟩) rfl
  obtain ⟨fd_Form_mul, F_Form_mul⟩ := d.def_ 81 (d := ⟨("Form", some "__mul__"), "__mul__", "Form.__mul__", defArgs (inClass (top 25) 6), defBody (inClass (top 25) 6), defScope (inClass (top 25) 6), [], []⟩) rfl
  obtain ⟨fd_Form_eq, F_Form_eq⟩ := d.def_ 77 (d := ⟨("Form", some "__eq__"), "__eq__", "Form.__eq__", defArgs (inClass (top 25) 2), defBody (inClass (top 25) 2), defScope (inClass (top 25) 2), [], []⟩) rfl
  obtain ⟨fd_summed, F_summed⟩ := d.def_ 13 (d := ⟨("summed", none), "summed", "summed", defArgs (top 23), defBody (top 23), defScope (top 23), [], []⟩) rfl
  obtain ⟨fd_Point_bool, F_Point_bool⟩ := d.def_ 68 (d := ⟨("Point", some "__bool__"), "__bool__", "Point.__bool__", defArgs (inClass (top 24) 1), defBody (inClass (top 24) 1), defScope (inClass (top 24) 1), [], []⟩) rfl
  obtain ⟨fd_Point_rmul, F_Point_rmul⟩ := d.def_ 74 (d := ⟨("Point", some "__rmul__"), "__rmul__", "Point.__rmul__", defArgs (inClass (top 24) 7), defBody (inClass (top 24) 7), defScope (inClass (top 24) 7), [], []⟩) rfl
  obtain ⟨fd_Form_rmul, F_Form_rmul⟩ := d.def_ 82 (d := ⟨("Form", some "__rmul__"), "__rmul__", "Form.__rmul__", defArgs (inClass (top 25) 7), defBody (inClass (top 25) 7), defScope (inClass (top 25) 7), [], []⟩) rfl
  obtain ⟨fd_cross, F_cross⟩ := d.def_ 14 (d := ⟨("cross", none), "cross", "cross", defArgs (top 26), defBody (top 26), defScope (top 26), [], []⟩) rfl
  obtain ⟨fd_value_at, F_value_at⟩ := d.def_ 15 (d := ⟨("value_at", none), "value_at", "value_at", defArgs (top 27), defBody (top 27), defScope (top 27), [], []⟩) rfl
  obtain ⟨fd_Form_call, F_Form_call⟩ := d.def_ 76 (d := ⟨("Form", some "__call__"), "__call__", "Form.__call__", defArgs (inClass (top 25) 1), defBody (inClass (top 25) 1), defScope (inClass (top 25) 1), [], []⟩) rfl
  obtain ⟨fd_ranked_points, F_ranked_points⟩ := d.def_ 16 (d := ⟨("ranked_points", none), "ranked_points", "ranked_points", defArgs (top 28), defBody (top 28), defScope (top 28), [], []⟩) rfl
  obtain ⟨fd_ascending_points, F_ascending_points⟩ := d.def_ 17 (d := ⟨("ascending_points", none), "ascending_points", "ascending_points", defArgs (top 29), defBody (top 29), defScope (top 29), [], []⟩) rfl
  obtain ⟨fd__law_begin, F__law_begin⟩ := d.def_ 18 (d := ⟨("_law_begin", none), "_law_begin", "_law_begin", defArgs (top 31), defBody (top 31), defScope (top 31), [], []⟩) rfl
  obtain ⟨fd__law_draw, F__law_draw⟩ := d.def_ 19 (d := ⟨("_law_draw", none), "_law_draw", "_law_draw", defArgs (top 32), defBody (top 32), defScope (top 32), [], []⟩) rfl
  obtain ⟨fd__law_pick, F__law_pick⟩ := d.def_ 20 (d := ⟨("_law_pick", none), "_law_pick", "_law_pick", defArgs (top 33), defBody (top 33), defScope (top 33), [], []⟩) rfl
  obtain ⟨fd__law_ten, F__law_ten⟩ := d.def_ 21 (d := ⟨("_law_ten", none), "_law_ten", "_law_ten", defArgs (top 34), defBody (top 34), defScope (top 34), [], []⟩) rfl
  obtain ⟨fd__law_long, F__law_long⟩ := d.def_ 22 (d := ⟨("_law_long", none), "_law_long", "_law_long", defArgs (top 35), defBody (top 35), defScope (top 35), [], []⟩) rfl
  obtain ⟨fd__law_size, F__law_size⟩ := d.def_ 23 (d := ⟨("_law_size", none), "_law_size", "_law_size", defArgs (top 36), defBody (top 36), defScope (top 36), [], []⟩) rfl
  obtain ⟨fd__law_number, F__law_number⟩ := d.def_ 24 (d := ⟨("_law_number", none), "_law_number", "_law_number", defArgs (top 37), defBody (top 37), defScope (top 37), [], []⟩) rfl
  obtain ⟨fd__law_gcd, F__law_gcd⟩ := d.def_ 25 (d := ⟨("_law_gcd", none), "_law_gcd", "_law_gcd", defArgs (top 38), defBody (top 38), defScope (top 38), [], []⟩) rfl
  obtain ⟨fd__law_whole_is, F__law_whole_is⟩ := d.def_ 27 (d := ⟨("_law_whole_is", none), "_law_whole_is", "_law_whole_is", defArgs (top 40), defBody (top 40), defScope (top 40), [], []⟩) rfl
  obtain ⟨fd__law_ratio_is, F__law_ratio_is⟩ := d.def_ 28 (d := ⟨("_law_ratio_is", none), "_law_ratio_is", "_law_ratio_is", defArgs (top 41), defBody (top 41), defScope (top 41), [], []⟩) rfl
  obtain ⟨fd__law_truth, F__law_truth⟩ := d.def_ 26 (d := ⟨("_law_truth", none), "_law_truth", "_law_truth", defArgs (top 39), defBody (top 39), defScope (top 39), [], []⟩) rfl
  obtain ⟨fd__law_told, F__law_told⟩ := d.def_ 29 (d := ⟨("_law_told", none), "_law_told", "_law_told", defArgs (top 42), defBody (top 42), defScope (top 42), [], []⟩) rfl
  obtain ⟨fd__law_point, F__law_point⟩ := d.def_ 30 (d := ⟨("_law_point", none), "_law_point", "_law_point", defArgs (top 43), defBody (top 43), defScope (top 43), [], []⟩) rfl
  obtain ⟨fd__law_at, F__law_at⟩ := d.def_ 31 (d := ⟨("_law_at", none), "_law_at", "_law_at", defArgs (top 44), defBody (top 44), defScope (top 44), [], []⟩) rfl
  obtain ⟨fd__law_form_is, F__law_form_is⟩ := d.def_ 38 (d := ⟨("_law_form_is", none), "_law_form_is", "_law_form_is", defArgs (top 51), defBody (top 51), defScope (top 51), [], []⟩) rfl
  obtain ⟨fd__law_pair, F__law_pair⟩ := d.def_ 32 (d := ⟨("_law_pair", none), "_law_pair", "_law_pair", defArgs (top 45), defBody (top 45), defScope (top 45), [], []⟩) rfl
  obtain ⟨fd__law_area, F__law_area⟩ := d.def_ 33 (d := ⟨("_law_area", none), "_law_area", "_law_area", defArgs (top 46), defBody (top 46), defScope (top 46), [], []⟩) rfl
  obtain ⟨fd__law_plus, F__law_plus⟩ := d.def_ 34 (d := ⟨("_law_plus", none), "_law_plus", "_law_plus", defArgs (top 47), defBody (top 47), defScope (top 47), [], []⟩) rfl
  obtain ⟨fd__law_minus, F__law_minus⟩ := d.def_ 35 (d := ⟨("_law_minus", none), "_law_minus", "_law_minus", defArgs (top 48), defBody (top 48), defScope (top 48), [], []⟩) rfl
  obtain ⟨fd__law_times, F__law_times⟩ := d.def_ 36 (d := ⟨("_law_times", none), "_law_times", "_law_times", defArgs (top 49), defBody (top 49), defScope (top 49), [], []⟩) rfl
  obtain ⟨fd__law_spot, F__law_spot⟩ := d.def_ 37 (d := ⟨("_law_spot", none), "_law_spot", "_law_spot", defArgs (top 50), defBody (top 50), defScope (top 50), [], []⟩) rfl
  obtain ⟨fd__law_points_right, F__law_points_right⟩ := d.def_ 39 (d := ⟨("_law_points_right", none), "_law_points_right", "_law_points_right", defArgs (top 52), defBody (top 52), defScope (top 52), [], []⟩) rfl
  obtain ⟨fd__law_forms_right, F__law_forms_right⟩ := d.def_ 40 (d := ⟨("_law_forms_right", none), "_law_forms_right", "_law_forms_right", defArgs (top 53), defBody (top 53), defScope (top 53), [], []⟩) rfl
  obtain ⟨fd__law_rising, F__law_rising⟩ := d.def_ 41 (d := ⟨("_law_rising", none), "_law_rising", "_law_rising", defArgs (top 54), defBody (top 54), defScope (top 54), [], []⟩) rfl
  obtain ⟨fd_law, F_law⟩ := d.def_ 43 (d := ⟨("law", none), "law", "law", defArgs (top 56), defBody (top 56), defScope (top 56), [], []⟩) rfl
  obtain ⟨fd__law_refused, F__law_refused⟩ := d.def_ 42 (d := ⟨("_law_refused", none), "_law_refused", "_law_refused", defArgs (top 55), defBody (top 55), defScope (top 55), [], []⟩) rfl
  obtain ⟨oc1, od1, dV1, kV1, doc1, pm1, an1, cd1, ct1, osl1, rfl, lk1, hcd1, _, _⟩ := F_law.ex
  obtain ⟨cL, rfl⟩ := codeIn_ref hcd1
  have eL1 : codeOf K ("law", none) = cL := codeOf_eq lk1 rfl
  have eT1 : cT K ("law", none) = (cL, tabOf K cL) := by unfold cT; rw [eL1]
  obtain ⟨oc2, od2, dV2, kV2, doc2, pm2, an2, cd2, ct2, osl2, rfl, lk2, hcd2, _, _⟩ := F__law_refused.ex
  have bE : Binds K (PySem.W.fnOf "_law_refused" "_law_refused" (defArgs s_refused10) (defBody s_refused10) (defScope s_refused10) dV2 kV2 doc2 pm2 an2 cd2 ct2) ["_law_call"] [] := F__law_refused.bindsN fun _ _ _ _ _ _ us hl => match us, hl with | [_], _ => rfl
  have RP : RefP10 K mg (ga K "BadNumber") (ga K "_law_refused") := ⟨⟨oc2, od2, dV2, kV2, doc2, pm2, an2, cd2, ct2, osl2, lk2, hcd2, bE⟩, F__law_refused.kp, (glo_ok X G (d.fact 58 (f := .glo "_law_refused") rfl)), xB, n_BadNumber, g_BadNumber, TB.b_repr, mBB⟩
  refine ⟨PySem.W.fnOf "law" "law" (defArgs (top 56)) (defBody (top 56)) (defScope (top 56)) dV1 kV1 doc1 pm1 an1 (.ref cL) ct1, [(cL, tabOf K cL)], spLaw10 K [(tabOf K cL, qL)], fun p hp => ?_, fun p hp => ?_, fun p hp => ?_, fun s u => ?_, fun H a ns hl hT hS => ?_, fun base KB GB TT => ?_⟩
  · have hp' := hp; simp only [List.mem_cons, List.not_mem_nil, or_false] at hp'; rcases hp' with rfl
    · rw [← eT1]; exact c.empty _ (.head _)
  · have hp' := hp; simp only [List.mem_cons, List.not_mem_nil, or_false] at hp'; rcases hp' with rfl
    · rw [← eT1]; exact c.out _ (.head _)
  · have hp' := hp; simp only [List.mem_cons, List.not_mem_nil, or_false] at hp'; rcases hp' with rfl
    · rw [← eT1]; exact PySem.W.codeHd_of_K X (c.hd _ (.head _))
  · exact F_law.bindsA (ps := ["_law_script"]) (fun _ _ _ _ _ _ us hl => match us, hl with | [_], _ => rfl) s [u] rfl
  · refine ⟨a, ns, rfl, hS, hl, fun p hp => ?_, fun _ => rfl⟩
    have hp' := hp; simp only [List.mem_cons, List.not_mem_nil, or_false] at hp'; rcases hp' with rfl
    · exact LamX.TabS.nil (hT _ (.head _))
  have a_Ratio_floor := (meth_ok (d.fact 71 (f := .meth "Ratio" "floor") rfl)).at_
  have a_Ratio_str := (meth_ok (d.fact 72 (f := .meth "Ratio" "__str__") rfl)).at_
  have a_Ratio_bool := (meth_ok (d.fact 73 (f := .meth "Ratio" "__bool__") rfl)).at_
  have a_Ratio_neg := (meth_ok (d.fact 74 (f := .meth "Ratio" "__neg__") rfl)).at_
  have a_Ratio_abs := (meth_ok (d.fact 75 (f := .meth "Ratio" "__abs__") rfl)).at_
  have a_Ratio_eq := (meth_ok (d.fact 76 (f := .meth "Ratio" "__eq__") rfl)).at_
  have a_Ratio_lt := (meth_ok (d.fact 77 (f := .meth "Ratio" "__lt__") rfl)).at_
  have a_Ratio_le := (meth_ok (d.fact 78 (f := .meth "Ratio" "__le__") rfl)).at_
  have a_Ratio_gt := (meth_ok (d.fact 79 (f := .meth "Ratio" "__gt__") rfl)).at_
  have a_Ratio_ge := (meth_ok (d.fact 80 (f := .meth "Ratio" "__ge__") rfl)).at_
  have a_Ratio_add := (meth_ok (d.fact 81 (f := .meth "Ratio" "__add__") rfl)).at_
  have a_Ratio_radd := (meth_ok (d.fact 82 (f := .meth "Ratio" "__radd__") rfl)).at_
  have a_Ratio_sub := (meth_ok (d.fact 83 (f := .meth "Ratio" "__sub__") rfl)).at_
  have a_Ratio_rsub := (meth_ok (d.fact 84 (f := .meth "Ratio" "__rsub__") rfl)).at_
  have a_Ratio_mul := (meth_ok (d.fact 85 (f := .meth "Ratio" "__mul__") rfl)).at_
  have a_Ratio_rmul := (meth_ok (d.fact 86 (f := .meth "Ratio" "__rmul__") rfl)).at_
  have a_Ratio_floordiv := (meth_ok (d.fact 87 (f := .meth "Ratio" "__floordiv__") rfl)).at_
  have a_Ratio_rfloordiv := (meth_ok (d.fact 88 (f := .meth "Ratio" "__rfloordiv__") rfl)).at_
  have a_Ratio_mod := (meth_ok (d.fact 89 (f := .meth "Ratio" "__mod__") rfl)).at_
  have a_Ratio_rmod := (meth_ok (d.fact 90 (f := .meth "Ratio" "__rmod__") rfl)).at_
  have a_Ratio_pow := (meth_ok (d.fact 91 (f := .meth "Ratio" "__pow__") rfl)).at_
  have a_Point_bool := (meth_ok (d.fact 96 (f := .meth "Point" "__bool__") rfl)).at_
  have a_Point_eq := (meth_ok (d.fact 97 (f := .meth "Point" "__eq__") rfl)).at_
  have a_Point_neg := (meth_ok (d.fact 98 (f := .meth "Point" "__neg__") rfl)).at_
  have a_Point_add := (meth_ok (d.fact 99 (f := .meth "Point" "__add__") rfl)).at_
  have a_Point_sub := (meth_ok (d.fact 100 (f := .meth "Point" "__sub__") rfl)).at_
  have a_Point_mul := (meth_ok (d.fact 101 (f := .meth "Point" "__mul__") rfl)).at_
  have a_Point_rmul := (meth_ok (d.fact 102 (f := .meth "Point" "__rmul__") rfl)).at_
  have a_Form_call := (meth_ok (d.fact 107 (f := .meth "Form" "__call__") rfl)).at_
  have a_Form_eq := (meth_ok (d.fact 108 (f := .meth "Form" "__eq__") rfl)).at_
  have a_Form_neg := (meth_ok (d.fact 109 (f := .meth "Form" "__neg__") rfl)).at_
  have a_Form_add := (meth_ok (d.fact 110 (f := .meth "Form" "__add__") rfl)).at_
  have a_Form_sub := (meth_ok (d.fact 111 (f := .meth "Form" "__sub__") rfl)).at_
  have a_Form_mul := (meth_ok (d.fact 112 (f := .meth "Form" "__mul__") rfl)).at_
  have a_Form_rmul := (meth_ok (d.fact 113 (f := .meth "Form" "__rmul__") rfl)).at_
  have c_is_int : Cl (PySem.Challenge.rw_overfloors_k10_points_and_forms).prog w K mg base 1 "is_int" (spIsInt K) := mkCl F_is_int (glo_ok X G (d.fact 19 (f := .glo "is_int") rfl)) (ok_is_int F_is_int TB TR) (F_is_int.bindsN (ps := ["value"]) fun _ _ _ _ _ _ us hl => match us, hl with | [_], _ => rfl)
  have m_BadNumber := meth_ok (d.fact 65 (f := .meth "BadNumber" "__init__") rfl)
  have c_BadNumber : Cox (PySem.Challenge.rw_overfloors_k10_points_and_forms).prog w K mg base 1 "BadNumber" (ga K "BadNumber") "value" := mkCox o_BadNumber (glo_ok X G (d.fact 61 (f := .glo "BadNumber") rfl)) m_BadNumber (by have e := m_BadNumber.fn; unfold PySem.W.isFn at e; exact beq_iff_eq.mp e) (ok_BadNumber_init F_BadNumber_init TR o_BadNumber n_BadNumber) (F_BadNumber_init.bindsN (ps := ["self", "value"]) fun _ _ _ _ _ _ us hl => match us, hl with | [_, _], _ => rfl)
  have c_check_parts : Cl (PySem.Challenge.rw_overfloors_k10_points_and_forms).prog w K mg base 3 "check_parts" (spChk K (ga K "Ratio") (ga K "BadNumber")) := mkCl F_check_parts (glo_ok X G (d.fact 25 (f := .glo "check_parts") rfl)) (ok_check_parts F_check_parts TR c_is_int c_BadNumber) (F_check_parts.bindsN (ps := ["top", "bottom"]) fun _ _ _ _ _ _ us hl => match us, hl with | [_, _], _ => rfl)
  have ok_R : FnOk (PySem.Challenge.rw_overfloors_k10_points_and_forms).prog w K mg base (L2.CX (PySem.Challenge.rw_overfloors_k10_points_and_forms).prog w) 4 (ma K (ga K "Ratio") "__init__") fd_Ratio_init ["self", "top", "bottom"] (spRInit K (ga K "Ratio") (ga K "BadNumber")) := (ok_Ratio_init F_Ratio_init TB TR c_check_parts)
  have M_R := mkr_ok (d.fact 70 (f := .mkr "Ratio") rfl)
  have c_Ratio_1 : Ck (PySem.Challenge.rw_overfloors_k10_points_and_forms).prog w K mg base 4 "Ratio" (ga K "Ratio") [.int 1] (spRInit K (ga K "Ratio") (ga K "BadNumber")) := by
    obtain ⟨ds, hv, b⟩ := bindsR F_Ratio_init 2 0 (.inl ⟨rfl, rfl⟩)
    exact mkCk M_R g_Ratio ok_R b hv
  have c_Ratio_2 : Ck (PySem.Challenge.rw_overfloors_k10_points_and_forms).prog w K mg base 4 "Ratio" (ga K "Ratio") [] (spRInit K (ga K "Ratio") (ga K "BadNumber")) := by
    obtain ⟨ds, hv, b⟩ := bindsR F_Ratio_init 3 1 (.inr ⟨rfl, rfl⟩)
    exact mkCk M_R g_Ratio ok_R b hv
  have c_is_number : Cl (PySem.Challenge.rw_overfloors_k10_points_and_forms).prog w K mg base 2 "is_number" (spIsNum K (ga K "Ratio")) := mkCl F_is_number (glo_ok X G (d.fact 20 (f := .glo "is_number") rfl)) (ok_is_number F_is_number g_Ratio TB TR c_is_int) (F_is_number.bindsN (ps := ["value"]) fun _ _ _ _ _ _ us hl => match us, hl with | [_], _ => rfl)
  have c_ratio_of : Cl (PySem.Challenge.rw_overfloors_k10_points_and_forms).prog w K mg base 6 "ratio_of" (spRatioOf K (ga K "Ratio") (ga K "BadNumber")) := mkCl F_ratio_of (glo_ok X G (d.fact 21 (f := .glo "ratio_of") rfl)) (ok_ratio_of F_ratio_of g_Ratio TB TR c_is_int c_BadNumber c_Ratio_1) (F_ratio_of.bindsN (ps := ["number"]) fun _ _ _ _ _ _ us hl => match us, hl with | [_], _ => rfl)
  have c_Ratio_eq : Cm (PySem.Challenge.rw_overfloors_k10_points_and_forms).prog w K mg base 2 (ga K "Ratio") "__eq__" (ma K (ga K "Ratio") "__eq__") (spREq K (ga K "Ratio")) := mkCm (meth_ok (d.fact 76 (f := .meth "Ratio" "__eq__") rfl)) (ok_Ratio_eq F_Ratio_eq g_Ratio TB TR c_is_int) (F_Ratio_eq.bindsN (ps := ["self", "other"]) fun _ _ _ _ _ _ us hl => match us, hl with | [_, _], _ => rfl)
  have c_Ratio_lt : Cm (PySem.Challenge.rw_overfloors_k10_points_and_forms).prog w K mg base 2 (ga K "Ratio") "__lt__" (ma K (ga K "Ratio") "__lt__") (spRB (ga K "Ratio") (fun q r => decide (q < r))) := mkCm (meth_ok (d.fact 77 (f := .meth "Ratio" "__lt__") rfl)) (ok_Ratio_lt F_Ratio_lt g_Ratio TB TR c_is_int) (F_Ratio_lt.bindsN (ps := ["self", "other"]) fun _ _ _ _ _ _ us hl => match us, hl with | [_, _], _ => rfl)
  have c_Ratio_le : Cm (PySem.Challenge.rw_overfloors_k10_points_and_forms).prog w K mg base 2 (ga K "Ratio") "__le__" (ma K (ga K "Ratio") "__le__") (spRB (ga K "Ratio") (fun q r => decide (q ≤ r))) := mkCm (meth_ok (d.fact 78 (f := .meth "Ratio" "__le__") rfl)) (ok_Ratio_le F_Ratio_le g_Ratio TB TR c_is_int) (F_Ratio_le.bindsN (ps := ["self", "other"]) fun _ _ _ _ _ _ us hl => match us, hl with | [_, _], _ => rfl)
  have c_Ratio_gt : Cm (PySem.Challenge.rw_overfloors_k10_points_and_forms).prog w K mg base 2 (ga K "Ratio") "__gt__" (ma K (ga K "Ratio") "__gt__") (spRB (ga K "Ratio") (fun q r => decide (r < q))) := mkCm (meth_ok (d.fact 79 (f := .meth "Ratio" "__gt__") rfl)) (ok_Ratio_gt F_Ratio_gt g_Ratio TB TR c_is_int) (F_Ratio_gt.bindsN (ps := ["self", "other"]) fun _ _ _ _ _ _ us hl => match us, hl with | [_, _], _ => rfl)
  have c_Ratio_ge : Cm (PySem.Challenge.rw_overfloors_k10_points_and_forms).prog w K mg base 2 (ga K "Ratio") "__ge__" (ma K (ga K "Ratio") "__ge__") (spRB (ga K "Ratio") (fun q r => decide (r ≤ q))) := mkCm (meth_ok (d.fact 80 (f := .meth "Ratio" "__ge__") rfl)) (ok_Ratio_ge F_Ratio_ge g_Ratio TB TR c_is_int) (F_Ratio_ge.bindsN (ps := ["self", "other"]) fun _ _ _ _ _ _ us hl => match us, hl with | [_, _], _ => rfl)
  have c_Ratio_floor : Cm (PySem.Challenge.rw_overfloors_k10_points_and_forms).prog w K mg base 1 (ga K "Ratio") "floor" (ma K (ga K "Ratio") "floor") (spRV (ga K "Ratio") (fun q => .int q.floor)) := mkCm (meth_ok (d.fact 71 (f := .meth "Ratio" "floor") rfl)) (ok_Ratio_floor F_Ratio_floor TR) (F_Ratio_floor.bindsN (ps := ["self"]) fun _ _ _ _ _ _ us hl => match us, hl with | [_], _ => rfl)
  have c_Ratio_bool : Cm (PySem.Challenge.rw_overfloors_k10_points_and_forms).prog w K mg base 1 (ga K "Ratio") "__bool__" (ma K (ga K "Ratio") "__bool__") (spRV (ga K "Ratio") (fun q => .bl (!decide (q.num = 0)))) := mkCm (meth_ok (d.fact 73 (f := .meth "Ratio" "__bool__") rfl)) (ok_Ratio_bool F_Ratio_bool TB TR) (F_Ratio_bool.bindsN (ps := ["self"]) fun _ _ _ _ _ _ us hl => match us, hl with | [_], _ => rfl)
  have c_Ratio_neg : Cm (PySem.Challenge.rw_overfloors_k10_points_and_forms).prog w K mg base 6 (ga K "Ratio") "__neg__" (ma K (ga K "Ratio") "__neg__") (spR0 (ga K "Ratio") (fun q => -q)) := mkCm (meth_ok (d.fact 74 (f := .meth "Ratio" "__neg__") rfl)) (ok_Ratio_neg F_Ratio_neg TR c_Ratio_2) (F_Ratio_neg.bindsN (ps := ["self"]) fun _ _ _ _ _ _ us hl => match us, hl with | [_], _ => rfl)
  have c_Ratio_abs : Cm (PySem.Challenge.rw_overfloors_k10_points_and_forms).prog w K mg base 6 (ga K "Ratio") "__abs__" (ma K (ga K "Ratio") "__abs__") (spR0 (ga K "Ratio") absQ) := mkCm (meth_ok (d.fact 75 (f := .meth "Ratio" "__abs__") rfl)) (ok_Ratio_abs F_Ratio_abs TB TR c_Ratio_2) (F_Ratio_abs.bindsN (ps := ["self"]) fun _ _ _ _ _ _ us hl => match us, hl with | [_], _ => rfl)
  have c_Ratio_add : Cm (PySem.Challenge.rw_overfloors_k10_points_and_forms).prog w K mg base 6 (ga K "Ratio") "__add__" (ma K (ga K "Ratio") "__add__") (spR1 (ga K "Ratio") (fun q r => q + r) (fun _ _ => True)) := mkCm (meth_ok (d.fact 81 (f := .meth "Ratio" "__add__") rfl)) (ok_Ratio_add F_Ratio_add g_Ratio TB TR c_is_int c_Ratio_2) (F_Ratio_add.bindsN (ps := ["self", "other"]) fun _ _ _ _ _ _ us hl => match us, hl with | [_, _], _ => rfl)
  have c_Ratio_mul : Cm (PySem.Challenge.rw_overfloors_k10_points_and_forms).prog w K mg base 6 (ga K "Ratio") "__mul__" (ma K (ga K "Ratio") "__mul__") (spR1 (ga K "Ratio") (fun q r => q * r) (fun _ _ => True)) := mkCm (meth_ok (d.fact 85 (f := .meth "Ratio" "__mul__") rfl)) (ok_Ratio_mul F_Ratio_mul g_Ratio TB TR c_is_int c_Ratio_2) (F_Ratio_mul.bindsN (ps := ["self", "other"]) fun _ _ _ _ _ _ us hl => match us, hl with | [_, _], _ => rfl)
  have e_Ratio_mul : Cdc (PySem.Challenge.rw_overfloors_k10_points_and_forms).prog w K mg base 3 (ga K "Ratio") "__mul__" (ma K (ga K "Ratio") "__mul__") (spDcl K (ga K "Ratio")) := ⟨(meth_ok (d.fact 85 (f := .meth "Ratio" "__mul__") rfl)).at_, (meth_ok (d.fact 85 (f := .meth "Ratio" "__mul__") rfl)).fn, dcl_Ratio_mul F_Ratio_mul g_Ratio TB TR c_is_int (F_Ratio_mul.bindsN (ps := ["self", "other"]) fun _ _ _ _ _ _ us hl => match us, hl with | [_, _], _ => rfl)⟩
  have c_Ratio_sub : Cm (PySem.Challenge.rw_overfloors_k10_points_and_forms).prog w K mg base 6 (ga K "Ratio") "__sub__" (ma K (ga K "Ratio") "__sub__") (spR1 (ga K "Ratio") (fun q r => q - r) (fun _ _ => True)) := mkCm (meth_ok (d.fact 83 (f := .meth "Ratio" "__sub__") rfl)) (ok_Ratio_sub F_Ratio_sub g_Ratio TB TR c_is_int c_Ratio_2) (F_Ratio_sub.bindsN (ps := ["self", "other"]) fun _ _ _ _ _ _ us hl => match us, hl with | [_, _], _ => rfl)
  have c_Ratio_radd : Cm (PySem.Challenge.rw_overfloors_k10_points_and_forms).prog w K mg base 6 (ga K "Ratio") "__radd__" (ma K (ga K "Ratio") "__radd__") (spRI (ga K "Ratio") (fun q r => r + q) (fun _ _ => True)) := mkCm (meth_ok (d.fact 82 (f := .meth "Ratio" "__radd__") rfl)) (ok_Ratio_radd F_Ratio_radd TR c_is_int c_Ratio_2) (F_Ratio_radd.bindsN (ps := ["self", "other"]) fun _ _ _ _ _ _ us hl => match us, hl with | [_, _], _ => rfl)
  have c_Ratio_rsub : Cm (PySem.Challenge.rw_overfloors_k10_points_and_forms).prog w K mg base 6 (ga K "Ratio") "__rsub__" (ma K (ga K "Ratio") "__rsub__") (spRI (ga K "Ratio") (fun q r => r - q) (fun _ _ => True)) := mkCm (meth_ok (d.fact 84 (f := .meth "Ratio" "__rsub__") rfl)) (ok_Ratio_rsub F_Ratio_rsub TR c_is_int c_Ratio_2) (F_Ratio_rsub.bindsN (ps := ["self", "other"]) fun _ _ _ _ _ _ us hl => match us, hl with | [_, _], _ => rfl)
  have c_Ratio_rmul : Cm (PySem.Challenge.rw_overfloors_k10_points_and_forms).prog w K mg base 6 (ga K "Ratio") "__rmul__" (ma K (ga K "Ratio") "__rmul__") (spRI (ga K "Ratio") (fun q r => r * q) (fun _ _ => True)) := mkCm (meth_ok (d.fact 86 (f := .meth "Ratio" "__rmul__") rfl)) (ok_Ratio_rmul F_Ratio_rmul TR c_is_int c_Ratio_2) (F_Ratio_rmul.bindsN (ps := ["self", "other"]) fun _ _ _ _ _ _ us hl => match us, hl with | [_, _], _ => rfl)
  have c_floor_quotient : Cl (PySem.Challenge.rw_overfloors_k10_points_and_forms).prog w K mg base 7 "floor_quotient" (spFloQ K (ga K "Ratio") (ga K "BadNumber")) := mkCl F_floor_quotient (glo_ok X G (d.fact 22 (f := .glo "floor_quotient") rfl)) (ok_floor_quotient F_floor_quotient TR c_BadNumber c_ratio_of) (F_floor_quotient.bindsN (ps := ["one", "other"]) fun _ _ _ _ _ _ us hl => match us, hl with | [_, _], _ => rfl)
  have c_remainder_of : Cl (PySem.Challenge.rw_overfloors_k10_points_and_forms).prog w K mg base 7 "remainder_of" (spRemQ K (ga K "Ratio") (ga K "BadNumber")) := mkCl F_remainder_of (glo_ok X G (d.fact 23 (f := .glo "remainder_of") rfl)) (ok_remainder_of F_remainder_of TR c_BadNumber c_Ratio_2 c_ratio_of) (F_remainder_of.bindsN (ps := ["one", "other"]) fun _ _ _ _ _ _ us hl => match us, hl with | [_, _], _ => rfl)
  have c_Ratio_floordiv : Cm (PySem.Challenge.rw_overfloors_k10_points_and_forms).prog w K mg base 8 (ga K "Ratio") "__floordiv__" (ma K (ga K "Ratio") "__floordiv__") (spRF (ga K "Ratio") (ga K "BadNumber") (fun q r => (q / r).floor)) := mkCm (meth_ok (d.fact 87 (f := .meth "Ratio" "__floordiv__") rfl)) (ok_Ratio_floordiv F_Ratio_floordiv TR c_is_number c_floor_quotient) (F_Ratio_floordiv.bindsN (ps := ["self", "other"]) fun _ _ _ _ _ _ us hl => match us, hl with | [_, _], _ => rfl)
  have c_Ratio_rfloordiv : Cm (PySem.Challenge.rw_overfloors_k10_points_and_forms).prog w K mg base 8 (ga K "Ratio") "__rfloordiv__" (ma K (ga K "Ratio") "__rfloordiv__") (spRFI (ga K "Ratio") (ga K "BadNumber") (fun q r => (r / q).floor)) := mkCm (meth_ok (d.fact 88 (f := .meth "Ratio" "__rfloordiv__") rfl)) (ok_Ratio_rfloordiv F_Ratio_rfloordiv TR c_is_number c_floor_quotient) (F_Ratio_rfloordiv.bindsN (ps := ["self", "other"]) fun _ _ _ _ _ _ us hl => match us, hl with | [_, _], _ => rfl)
  have c_Ratio_mod : Cm (PySem.Challenge.rw_overfloors_k10_points_and_forms).prog w K mg base 8 (ga K "Ratio") "__mod__" (ma K (ga K "Ratio") "__mod__") (spRM (ga K "Ratio") (ga K "BadNumber") (fun q r => q - r * ((q / r).floor : Rat))) := mkCm (meth_ok (d.fact 89 (f := .meth "Ratio" "__mod__") rfl)) (ok_Ratio_mod F_Ratio_mod TR c_is_number c_remainder_of) (F_Ratio_mod.bindsN (ps := ["self", "other"]) fun _ _ _ _ _ _ us hl => match us, hl with | [_, _], _ => rfl)
  have c_Ratio_rmod : Cm (PySem.Challenge.rw_overfloors_k10_points_and_forms).prog w K mg base 8 (ga K "Ratio") "__rmod__" (ma K (ga K "Ratio") "__rmod__") (spRMI (ga K "Ratio") (ga K "BadNumber") (fun q r => r - q * ((r / q).floor : Rat))) := mkCm (meth_ok (d.fact 90 (f := .meth "Ratio" "__rmod__") rfl)) (ok_Ratio_rmod F_Ratio_rmod TR c_is_number c_remainder_of) (F_Ratio_rmod.bindsN (ps := ["self", "other"]) fun _ _ _ _ _ _ us hl => match us, hl with | [_, _], _ => rfl)
  have c_Ratio_str : Cm (PySem.Challenge.rw_overfloors_k10_points_and_forms).prog w K mg base 1 (ga K "Ratio") "__str__" (ma K (ga K "Ratio") "__str__") (spRS (ga K "Ratio")) := mkCm (meth_ok (d.fact 72 (f := .meth "Ratio" "__str__") rfl)) (ok_Ratio_str F_Ratio_str TB TR) (F_Ratio_str.bindsN (ps := ["self"]) fun _ _ _ _ _ _ us hl => match us, hl with | [_], _ => rfl)
  have c_power_of : Cl (PySem.Challenge.rw_overfloors_k10_points_and_forms).prog w K mg base 1 "power_of" (spPow) := mkCl F_power_of (glo_ok X G (d.fact 24 (f := .glo "power_of") rfl)) (ok_power_of F_power_of TR) (F_power_of.bindsN (ps := ["base", "number", "unit"]) fun _ _ _ _ _ _ us hl => match us, hl with | [_, _, _], _ => rfl)
  have c_Ratio_pow : Cm (PySem.Challenge.rw_overfloors_k10_points_and_forms).prog w K mg base 6 (ga K "Ratio") "__pow__" (ma K (ga K "Ratio") "__pow__") (spRP (ga K "Ratio")) := mkCm (meth_ok (d.fact 91 (f := .meth "Ratio" "__pow__") rfl)) (ok_Ratio_pow F_Ratio_pow TR c_is_int c_Ratio_2 c_power_of) (F_Ratio_pow.bindsN (ps := ["self", "other"]) fun _ _ _ _ _ _ us hl => match us, hl with | [_, _], _ => rfl)
  have c_order_keys : Cl (PySem.Challenge.rw_overfloors_k10_points_and_forms).prog w K mg base 1 "order_keys" (spOrderKeys (ga K "Ratio")) := mkCl F_order_keys (glo_ok X G (d.fact 26 (f := .glo "order_keys") rfl)) (ok_order_keys F_order_keys TB TR) (F_order_keys.bindsN (ps := ["ratios"]) fun _ _ _ _ _ _ us hl => match us, hl with | [_], _ => rfl)
  have c_row_keys : Cl (PySem.Challenge.rw_overfloors_k10_points_and_forms).prog w K mg base 1 "row_keys" (spRowKeys) := mkCl F_row_keys (glo_ok X G (d.fact 16 (f := .glo "row_keys") rfl)) (ok_row_keys F_row_keys TB TR) (F_row_keys.bindsN (ps := ["rows"]) fun _ _ _ _ _ _ us hl => match us, hl with | [_], _ => rfl)
  have c_inserted : Cl (PySem.Challenge.rw_overfloors_k10_points_and_forms).prog w K mg base 1 "inserted" (spOrd) := mkCl F_inserted (glo_ok X G (d.fact 17 (f := .glo "inserted") rfl)) (ok_inserted F_inserted TB TR) (F_inserted.bindsN (ps := ["rows"]) fun _ _ _ _ _ _ us hl => match us, hl with | [_], _ => rfl)
  have c_ranked : Cl (PySem.Challenge.rw_overfloors_k10_points_and_forms).prog w K mg base 2 "ranked" (spOrd) := mkCl F_ranked (glo_ok X G (d.fact 18 (f := .glo "ranked") rfl)) (ok_ranked F_ranked TB TR g_FEW c_row_keys c_inserted) (F_ranked.bindsN (ps := ["rows"]) fun _ _ _ _ _ _ us hl => match us, hl with | [_], _ => rfl)
  have c_added : Cl (PySem.Challenge.rw_overfloors_k10_points_and_forms).prog w K mg base 6 "added" (spRR (ga K "Ratio") (fun q r => q + r)) := mkCl F_added (glo_ok X G (d.fact 27 (f := .glo "added") rfl)) (ok_added F_added TR c_Ratio_2) (F_added.bindsN (ps := ["one", "other"]) fun _ _ _ _ _ _ us hl => match us, hl with | [_, _], _ => rfl)
  have c_taken : Cl (PySem.Challenge.rw_overfloors_k10_points_and_forms).prog w K mg base 6 "taken" (spRR (ga K "Ratio") (fun q r => q - r)) := mkCl F_taken (glo_ok X G (d.fact 28 (f := .glo "taken") rfl)) (ok_taken F_taken TR c_Ratio_2) (F_taken.bindsN (ps := ["one", "other"]) fun _ _ _ _ _ _ us hl => match us, hl with | [_, _], _ => rfl)
  have c_Point_2 : Ck (PySem.Challenge.rw_overfloors_k10_points_and_forms).prog w K mg base 7 "Point" (ga K "Point") [] (spPInit K (ga K "Point") (ga K "Ratio") (ga K "BadNumber")) := mkCk (mkr_ok (d.fact 95 (f := .mkr "Point") rfl)) g_Point (ok_Point_init F_Point_init g_Ratio TB TR T_Point c_ratio_of) (F_Point_init.bindsN (ps := ["self", "x", "y"]) fun _ _ _ _ _ _ us hl => match us, hl with | [_, _, _], _ => rfl) .nil
  have c_Form_2 : Ck (PySem.Challenge.rw_overfloors_k10_points_and_forms).prog w K mg base 7 "Form" (ga K "Form") [] (spPInit K (ga K "Form") (ga K "Ratio") (ga K "BadNumber")) := mkCk (mkr_ok (d.fact 106 (f := .mkr "Form") rfl)) g_Form (ok_Form_init F_Form_init g_Ratio TB TR T_Form c_ratio_of) (F_Form_init.bindsN (ps := ["self", "x", "y"]) fun _ _ _ _ _ _ us hl => match us, hl with | [_, _, _], _ => rfl) .nil
  have c_Point_add : Cm (PySem.Challenge.rw_overfloors_k10_points_and_forms).prog w K mg base 9 (ga K "Point") "__add__" (ma K (ga K "Point") "__add__") (spPP (ga K "Point") (ga K "Ratio") (fun q r => q + r)) := mkCm (meth_ok (d.fact 99 (f := .meth "Point" "__add__") rfl)) (ok_Point_add F_Point_add TB TR T_Point g_Point c_added c_Point_2) (F_Point_add.bindsN (ps := ["self", "other"]) fun _ _ _ _ _ _ us hl => match us, hl with | [_, _], _ => rfl)
  have c_Point_sub : Cm (PySem.Challenge.rw_overfloors_k10_points_and_forms).prog w K mg base 9 (ga K "Point") "__sub__" (ma K (ga K "Point") "__sub__") (spPP (ga K "Point") (ga K "Ratio") (fun q r => q - r)) := mkCm (meth_ok (d.fact 100 (f := .meth "Point" "__sub__") rfl)) (ok_Point_sub F_Point_sub TB TR T_Point g_Point c_taken c_Point_2) (F_Point_sub.bindsN (ps := ["self", "other"]) fun _ _ _ _ _ _ us hl => match us, hl with | [_, _], _ => rfl)
  have c_Point_neg : Cm (PySem.Challenge.rw_overfloors_k10_points_and_forms).prog w K mg base 9 (ga K "Point") "__neg__" (ma K (ga K "Point") "__neg__") (spP0 (ga K "Point") (ga K "Ratio") (fun q => -q)) := mkCm (meth_ok (d.fact 98 (f := .meth "Point" "__neg__") rfl)) (ok_Point_neg F_Point_neg TR T_Point c_Ratio_neg c_Point_2) (F_Point_neg.bindsN (ps := ["self"]) fun _ _ _ _ _ _ us hl => match us, hl with | [_], _ => rfl)
  have c_Point_mul : Cm (PySem.Challenge.rw_overfloors_k10_points_and_forms).prog w K mg base 9 (ga K "Point") "__mul__" (ma K (ga K "Point") "__mul__") (spPN (ga K "Point") (ga K "Ratio") (fun q r => q * r)) := mkCm (meth_ok (d.fact 101 (f := .meth "Point" "__mul__") rfl)) (ok_Point_mul F_Point_mul TR k_Ratio a_Ratio_rmul T_Point c_is_number c_Ratio_mul c_Point_2) (F_Point_mul.bindsN (ps := ["self", "other"]) fun _ _ _ _ _ _ us hl => match us, hl with | [_, _], _ => rfl)
  have c_Point_eq : Cm (PySem.Challenge.rw_overfloors_k10_points_and_forms).prog w K mg base 1 (ga K "Point") "__eq__" (ma K (ga K "Point") "__eq__") (spPEq K (ga K "Point") (ga K "Ratio")) := mkCm (meth_ok (d.fact 97 (f := .meth "Point" "__eq__") rfl)) (ok_Point_eq F_Point_eq TB TR T_Point g_Point) (F_Point_eq.bindsN (ps := ["self", "other"]) fun _ _ _ _ _ _ us hl => match us, hl with | [_, _], _ => rfl)
  have c_Form_add : Cm (PySem.Challenge.rw_overfloors_k10_points_and_forms).prog w K mg base 9 (ga K "Form") "__add__" (ma K (ga K "Form") "__add__") (spPP (ga K "Form") (ga K "Ratio") (fun q r => q + r)) := mkCm (meth_ok (d.fact 110 (f := .meth "Form" "__add__") rfl)) (ok_Form_add F_Form_add TB TR T_Form g_Form c_added c_Form_2) (F_Form_add.bindsN (ps := ["self", "other"]) fun _ _ _ _ _ _ us hl => match us, hl with | [_, _], _ => rfl)
  have c_Form_sub : Cm (PySem.Challenge.rw_overfloors_k10_points_and_forms).prog w K mg base 9 (ga K "Form") "__sub__" (ma K (ga K "Form") "__sub__") (spPP (ga K "Form") (ga K "Ratio") (fun q r => q - r)) := mkCm (meth_ok (d.fact 111 (f := .meth "Form" "__sub__") rfl)) (ok_Form_sub F_Form_sub TB TR T_Form g_Form c_taken c_Form_2) (F_Form_sub.bindsN (ps := ["self", "other"]) fun _ _ _ _ _ _ us hl => match us, hl with | [_, _], _ => rfl)
  have c_Form_neg : Cm (PySem.Challenge.rw_overfloors_k10_points_and_forms).prog w K mg base 9 (ga K "Form") "__neg__" (ma K (ga K "Form") "__neg__") (spP0 (ga K "Form") (ga K "Ratio") (fun q => -q)) := mkCm (meth_ok (d.fact 109 (f := .meth "Form" "__neg__") rfl)) (ok_Form_neg F_Form_neg TR T_Form c_Ratio_neg c_Form_2) (F_Form_neg.bindsN (ps := ["self"]) fun _ _ _ _ _ _ us hl => match us, hl with | [_], _ => rfl)
  have c_Form_mul : Cm (PySem.Challenge.rw_overfloors_k10_points_and_forms).prog w K mg base 9 (ga K "Form") "__mul__" (ma K (ga K "Form") "__mul__") (spPN (ga K "Form") (ga K "Ratio") (fun q r => q * r)) := mkCm (meth_ok (d.fact 112 (f := .meth "Form" "__mul__") rfl)) (ok_Form_mul F_Form_mul TR k_Ratio a_Ratio_rmul T_Form c_is_number c_Ratio_mul c_Form_2) (F_Form_mul.bindsN (ps := ["self", "other"]) fun _ _ _ _ _ _ us hl => match us, hl with | [_, _], _ => rfl)
  have c_Form_eq : Cm (PySem.Challenge.rw_overfloors_k10_points_and_forms).prog w K mg base 3 (ga K "Form") "__eq__" (ma K (ga K "Form") "__eq__") (spPEq K (ga K "Form") (ga K "Ratio")) := mkCm (meth_ok (d.fact 108 (f := .meth "Form" "__eq__") rfl)) (ok_Form_eq F_Form_eq TB TR T_Form g_Form c_Ratio_eq) (F_Form_eq.bindsN (ps := ["self", "other"]) fun _ _ _ _ _ _ us hl => match us, hl with | [_, _], _ => rfl)
  have c_summed : Cl (PySem.Challenge.rw_overfloors_k10_points_and_forms).prog w K mg base 6 "summed" (spSum (ga K "Ratio")) := mkCl F_summed (glo_ok X G (d.fact 29 (f := .glo "summed") rfl)) (ok_summed F_summed TR c_Ratio_2) (F_summed.bindsN (ps := ["one", "other", "another", "last"]) fun _ _ _ _ _ _ us hl => match us, hl with | [_, _, _, _], _ => rfl)
  have c_Point_bool : Cm (PySem.Challenge.rw_overfloors_k10_points_and_forms).prog w K mg base 1 (ga K "Point") "__bool__" (ma K (ga K "Point") "__bool__") (spPTr (ga K "Point") (ga K "Ratio")) := mkCm (meth_ok (d.fact 96 (f := .meth "Point" "__bool__") rfl)) (ok_Point_bool F_Point_bool TB TR T_Point) (F_Point_bool.bindsN (ps := ["self"]) fun _ _ _ _ _ _ us hl => match us, hl with | [_], _ => rfl)
  have c_Point_rmul : Cm (PySem.Challenge.rw_overfloors_k10_points_and_forms).prog w K mg base 9 (ga K "Point") "__rmul__" (ma K (ga K "Point") "__rmul__") (spPN (ga K "Point") (ga K "Ratio") (fun q r => q * r)) := mkCm (meth_ok (d.fact 102 (f := .meth "Point" "__rmul__") rfl)) (ok_Point_rmul F_Point_rmul TR k_Ratio a_Ratio_rmul T_Point c_is_number c_Ratio_mul c_Point_2) (F_Point_rmul.bindsN (ps := ["self", "other"]) fun _ _ _ _ _ _ us hl => match us, hl with | [_, _], _ => rfl)
  have c_Form_rmul : Cm (PySem.Challenge.rw_overfloors_k10_points_and_forms).prog w K mg base 9 (ga K "Form") "__rmul__" (ma K (ga K "Form") "__rmul__") (spPN (ga K "Form") (ga K "Ratio") (fun q r => q * r)) := mkCm (meth_ok (d.fact 113 (f := .meth "Form" "__rmul__") rfl)) (ok_Form_rmul F_Form_rmul TR k_Ratio a_Ratio_rmul T_Form c_is_number c_Ratio_mul c_Form_2) (F_Form_rmul.bindsN (ps := ["self", "other"]) fun _ _ _ _ _ _ us hl => match us, hl with | [_, _], _ => rfl)
  have c_cross : Cl (PySem.Challenge.rw_overfloors_k10_points_and_forms).prog w K mg base 6 "cross" (spCross (ga K "Point") (ga K "Ratio")) := mkCl F_cross (glo_ok X G (d.fact 30 (f := .glo "cross") rfl)) (ok_cross F_cross TR T_Point c_Ratio_2) (F_cross.bindsN (ps := ["one", "other"]) fun _ _ _ _ _ _ us hl => match us, hl with | [_, _], _ => rfl)
  have c_value_at : Cl (PySem.Challenge.rw_overfloors_k10_points_and_forms).prog w K mg base 7 "value_at" (spValue (ga K "Form") (ga K "Point") (ga K "Ratio")) := mkCl F_value_at (glo_ok X G (d.fact 31 (f := .glo "value_at") rfl)) (ok_value_at F_value_at TR T_Point T_Form c_summed) (F_value_at.bindsN (ps := ["form", "point"]) fun _ _ _ _ _ _ us hl => match us, hl with | [_, _], _ => rfl)
  have c_Form_call : Cm (PySem.Challenge.rw_overfloors_k10_points_and_forms).prog w K mg base 8 (ga K "Form") "__call__" (ma K (ga K "Form") "__call__") (spValue (ga K "Form") (ga K "Point") (ga K "Ratio")) := mkCm (meth_ok (d.fact 107 (f := .meth "Form" "__call__") rfl)) (ok_Form_call F_Form_call TR c_value_at) (F_Form_call.bindsN (ps := ["self", "point"]) fun _ _ _ _ _ _ us hl => match us, hl with | [_, _], _ => rfl)
  have c_ranked_points : Cl (PySem.Challenge.rw_overfloors_k10_points_and_forms).prog w K mg base 3 "ranked_points" (spRkP (ga K "Point") (ga K "Ratio")) := mkCl F_ranked_points (glo_ok X G (d.fact 32 (f := .glo "ranked_points") rfl)) (ok_ranked_points F_ranked_points TB TR T_Point c_order_keys c_ranked) (F_ranked_points.bindsN (ps := ["points"]) fun _ _ _ _ _ _ us hl => match us, hl with | [_], _ => rfl)
  have c_ascending_points : Cl (PySem.Challenge.rw_overfloors_k10_points_and_forms).prog w K mg base 4 "ascending_points" (spAscP (ga K "Point") (ga K "Ratio")) := mkCl F_ascending_points (glo_ok X G (d.fact 33 (f := .glo "ascending_points") rfl)) (ok_ascending_points F_ascending_points TR c_ranked_points) (F_ascending_points.bindsN (ps := ["points"]) fun _ _ _ _ _ _ us hl => match us, hl with | [_], _ => rfl)
  have c__law_begin : Cl (PySem.Challenge.rw_overfloors_k10_points_and_forms).prog w K mg base 1 "_law_begin" (spBegin K) := mkCl F__law_begin (glo_ok X G (d.fact 34 (f := .glo "_law_begin") rfl)) (ok__law_begin F__law_begin TB TR) (F__law_begin.bindsN (ps := ["_law_script"]) fun _ _ _ _ _ _ us hl => match us, hl with | [_], _ => rfl)
  have c__law_draw : Cl (PySem.Challenge.rw_overfloors_k10_points_and_forms).prog w K mg base 1 "_law_draw" (spDraw) := mkCl F__law_draw (glo_ok X G (d.fact 35 (f := .glo "_law_draw") rfl)) (ok__law_draw F__law_draw TB TR) (F__law_draw.bindsN (ps := ["_law_tape", "_law_limit"]) fun _ _ _ _ _ _ us hl => match us, hl with | [_, _], _ => rfl)
  have c__law_pick : Cl (PySem.Challenge.rw_overfloors_k10_points_and_forms).prog w K mg base 2 "_law_pick" (spPick) := mkCl F__law_pick (glo_ok X G (d.fact 36 (f := .glo "_law_pick") rfl)) (ok__law_pick F__law_pick TB TR c__law_draw) (F__law_pick.bindsN (ps := ["_law_tape", "_law_some"]) fun _ _ _ _ _ _ us hl => match us, hl with | [_, _], _ => rfl)
  have c__law_ten : Cl (PySem.Challenge.rw_overfloors_k10_points_and_forms).prog w K mg base 1 "_law_ten" (spTen) := mkCl F__law_ten (glo_ok X G (d.fact 37 (f := .glo "_law_ten") rfl)) (ok__law_ten F__law_ten TB TR) (F__law_ten.bindsN (ps := ["_law_figures"]) fun _ _ _ _ _ _ us hl => match us, hl with | [_], _ => rfl)
  have c__law_long : Cl (PySem.Challenge.rw_overfloors_k10_points_and_forms).prog w K mg base 2 "_law_long" (spNum 40 0 false) := mkCl F__law_long (glo_ok X G (d.fact 38 (f := .glo "_law_long") rfl)) (ok__law_long F__law_long TB TR c__law_draw c__law_ten) (F__law_long.bindsN (ps := ["_law_tape", "_law_figures"]) fun _ _ _ _ _ _ us hl => match us, hl with | [_, _], _ => rfl)
  have c__law_size : Cl (PySem.Challenge.rw_overfloors_k10_points_and_forms).prog w K mg base 3 "_law_size" (spNum 50 2 false) := mkCl F__law_size (glo_ok X G (d.fact 39 (f := .glo "_law_size") rfl)) (ok__law_size F__law_size TB TR c__law_draw c__law_ten c__law_long) (F__law_size.bindsN (ps := ["_law_tape", "_law_figures"]) fun _ _ _ _ _ _ us hl => match us, hl with | [_, _], _ => rfl)
  have c__law_number : Cl (PySem.Challenge.rw_overfloors_k10_points_and_forms).prog w K mg base 4 "_law_number" (spNum 51 2 true) := mkCl F__law_number (glo_ok X G (d.fact 40 (f := .glo "_law_number") rfl)) (ok__law_number F__law_number TR c__law_draw c__law_size) (F__law_number.bindsN (ps := ["_law_tape", "_law_figures"]) fun _ _ _ _ _ _ us hl => match us, hl with | [_, _], _ => rfl)
  have c__law_gcd : Cl (PySem.Challenge.rw_overfloors_k10_points_and_forms).prog w K mg base 1 "_law_gcd" (spII (fun a b => ((Int.gcd a b : Nat) : Int))) := mkCl F__law_gcd (glo_ok X G (d.fact 41 (f := .glo "_law_gcd") rfl)) (ok__law_gcd F__law_gcd TB TR) (F__law_gcd.bindsN (ps := ["_law_one", "_law_other"]) fun _ _ _ _ _ _ us hl => match us, hl with | [_, _], _ => rfl)
  have c__law_whole_is : Cl (PySem.Challenge.rw_overfloors_k10_points_and_forms).prog w K mg base 1 "_law_whole_is" (spWhole K) := mkCl F__law_whole_is (glo_ok X G (d.fact 43 (f := .glo "_law_whole_is") rfl)) (ok__law_whole_is F__law_whole_is TB TR) (F__law_whole_is.bindsN (ps := ["_law_value", "_law_due"]) fun _ _ _ _ _ _ us hl => match us, hl with | [_, _], _ => rfl)
  have c__law_ratio_is : Cl (PySem.Challenge.rw_overfloors_k10_points_and_forms).prog w K mg base 2 "_law_ratio_is" (spRatioIs (ga K "Ratio")) := mkCl F__law_ratio_is (glo_ok X G (d.fact 44 (f := .glo "_law_ratio_is") rfl)) (ok__law_ratio_is F__law_ratio_is g_Ratio TB TR c__law_gcd c__law_whole_is) (F__law_ratio_is.bindsN (ps := ["_law_value", "_law_top", "_law_bottom"]) fun _ _ _ _ _ _ us hl => match us, hl with | [_, _, _], _ => rfl)
  have c__law_truth : Cl (PySem.Challenge.rw_overfloors_k10_points_and_forms).prog w K mg base 1 "_law_truth" (spTruth) := mkCl F__law_truth (glo_ok X G (d.fact 42 (f := .glo "_law_truth") rfl)) (ok__law_truth F__law_truth TR) (F__law_truth.bindsN (ps := ["_law_value", "_law_due"]) fun _ _ _ _ _ _ us hl => match us, hl with | [_, _], _ => rfl)
  have c__law_told : Cl (PySem.Challenge.rw_overfloors_k10_points_and_forms).prog w K mg base 6 "_law_told" (spTold (ga K "Ratio")) := mkCl F__law_told (glo_ok X G (d.fact 45 (f := .glo "_law_told") rfl)) (ok__law_told F__law_told TB TR c_Ratio_2) (F__law_told.bindsN (ps := ["_law_number_here", "_law_over"]) fun _ _ _ _ _ _ us hl => match us, hl with | [_, _], _ => rfl)
  have c__law_point : Cl (PySem.Challenge.rw_overfloors_k10_points_and_forms).prog w K mg base 9 "_law_point" (spPointO (ga K "Point") (ga K "Ratio")) := mkCl F__law_point (glo_ok X G (d.fact 46 (f := .glo "_law_point") rfl)) (ok__law_point F__law_point TR c_Point_2 c__law_told) (F__law_point.bindsN (ps := ["_law_pair_here", "_law_over"]) fun _ _ _ _ _ _ us hl => match us, hl with | [_, _], _ => rfl)
  have c__law_at : Cl (PySem.Challenge.rw_overfloors_k10_points_and_forms).prog w K mg base 3 "_law_at" (spAtP (ga K "Point") (ga K "Ratio")) := mkCl F__law_at (glo_ok X G (d.fact 47 (f := .glo "_law_at") rfl)) (ok__law_at F__law_at TB TR T_Point g_Point c__law_ratio_is) (F__law_at.bindsN (ps := ["_law_point_here", "_law_pair_here", "_law_over"]) fun _ _ _ _ _ _ us hl => match us, hl with | [_, _, _], _ => rfl)
  have c__law_form_is : Cl (PySem.Challenge.rw_overfloors_k10_points_and_forms).prog w K mg base 3 "_law_form_is" (spAtP (ga K "Form") (ga K "Ratio")) := mkCl F__law_form_is (glo_ok X G (d.fact 54 (f := .glo "_law_form_is") rfl)) (ok__law_form_is F__law_form_is TB TR T_Form g_Form c__law_ratio_is) (F__law_form_is.bindsN (ps := ["_law_value", "_law_pair_here", "_law_over"]) fun _ _ _ _ _ _ us hl => match us, hl with | [_, _, _], _ => rfl)
  have c__law_pair : Cl (PySem.Challenge.rw_overfloors_k10_points_and_forms).prog w K mg base 3 "_law_pair" (spPairP (ga K "Point") (ga K "Ratio")) := mkCl F__law_pair (glo_ok X G (d.fact 48 (f := .glo "_law_pair") rfl)) (ok__law_pair F__law_pair TB TR T_Point c__law_ratio_is) (F__law_pair.bindsN (ps := ["_law_point_here", "_law_over"]) fun _ _ _ _ _ _ us hl => match us, hl with | [_, _], _ => rfl)
  have c__law_area : Cl (PySem.Challenge.rw_overfloors_k10_points_and_forms).prog w K mg base 1 "_law_area" (spTT (fun x y z w => .int (x * w - y * z))) := mkCl F__law_area (glo_ok X G (d.fact 49 (f := .glo "_law_area") rfl)) (ok__law_area F__law_area TR) (F__law_area.bindsN (ps := ["_law_one", "_law_other"]) fun _ _ _ _ _ _ us hl => match us, hl with | [_, _], _ => rfl)
  have c__law_plus : Cl (PySem.Challenge.rw_overfloors_k10_points_and_forms).prog w K mg base 1 "_law_plus" (spTTt (fun x z => x + z)) := mkCl F__law_plus (glo_ok X G (d.fact 50 (f := .glo "_law_plus") rfl)) (ok__law_plus F__law_plus TR) (F__law_plus.bindsN (ps := ["_law_one", "_law_other"]) fun _ _ _ _ _ _ us hl => match us, hl with | [_, _], _ => rfl)
  have c__law_minus : Cl (PySem.Challenge.rw_overfloors_k10_points_and_forms).prog w K mg base 1 "_law_minus" (spTTt (fun x z => x - z)) := mkCl F__law_minus (glo_ok X G (d.fact 51 (f := .glo "_law_minus") rfl)) (ok__law_minus F__law_minus TR) (F__law_minus.bindsN (ps := ["_law_one", "_law_other"]) fun _ _ _ _ _ _ us hl => match us, hl with | [_, _], _ => rfl)
  have c__law_times : Cl (PySem.Challenge.rw_overfloors_k10_points_and_forms).prog w K mg base 1 "_law_times" (spTms) := mkCl F__law_times (glo_ok X G (d.fact 52 (f := .glo "_law_times") rfl)) (ok__law_times F__law_times TR) (F__law_times.bindsN (ps := ["_law_number_here", "_law_pair_here"]) fun _ _ _ _ _ _ us hl => match us, hl with | [_, _], _ => rfl)
  have c__law_spot : Cl (PySem.Challenge.rw_overfloors_k10_points_and_forms).prog w K mg base 5 "_law_spot" (spSpot) := mkCl F__law_spot (glo_ok X G (d.fact 53 (f := .glo "_law_spot") rfl)) (ok__law_spot F__law_spot TR c__law_number) (F__law_spot.bindsN (ps := ["_law_tape"]) fun _ _ _ _ _ _ us hl => match us, hl with | [_], _ => rfl)
  have c__law_points_right : Cl (PySem.Challenge.rw_overfloors_k10_points_and_forms).prog w K mg base 10 "_law_points_right" (spPR) := mkCl F__law_points_right (glo_ok X G (d.fact 55 (f := .glo "_law_points_right") rfl)) (ok__law_points_right F__law_points_right TB TR k_Ratio a_Ratio_mul a_Ratio_rmul T_Point k_Point T_Form a_Point_mul a_Point_rmul s_Point_Ratio s_Ratio_Point s_Point_Form s_Form_Point n_Point_Ratio n_Ratio_Point n_Point_Form n_Form_Point e_Ratio_mul c_Form_2 c_Point_add c_Point_sub c_Point_neg c_Point_mul c_Point_eq c_Form_eq c_Point_bool c_Point_rmul c_cross c__law_ratio_is c__law_truth c__law_told c__law_point c__law_at c__law_area c__law_plus c__law_minus c__law_times) (F__law_points_right.bindsN (ps := ["_law_one", "_law_other", "_law_number_here", "_law_over"]) fun _ _ _ _ _ _ us hl => match us, hl with | [_, _, _, _], _ => rfl)
  have c__law_forms_right : Cl (PySem.Challenge.rw_overfloors_k10_points_and_forms).prog w K mg base 10 "_law_forms_right" (spFR) := mkCl F__law_forms_right (glo_ok X G (d.fact 56 (f := .glo "_law_forms_right") rfl)) (ok__law_forms_right F__law_forms_right TR k_Ratio a_Ratio_mul a_Ratio_rmul T_Point T_Form k_Form a_Form_mul a_Form_rmul s_Form_Ratio s_Ratio_Form n_Form_Ratio n_Ratio_Form x_Form_call e_Ratio_mul c_Form_2 c_Form_add c_Form_sub c_Form_neg c_Form_mul c_Form_eq c_Form_rmul c_value_at c_Form_call c__law_ratio_is c__law_truth c__law_told c__law_point c__law_at c__law_form_is c__law_plus c__law_minus c__law_times) (F__law_forms_right.bindsN (ps := ["_law_one", "_law_other", "_law_spot_here", "_law_number_here", "_law_over"]) fun _ _ _ _ _ _ us hl => match us, hl with | [_, _, _, _, _], _ => rfl)
  have c__law_rising : Cl (PySem.Challenge.rw_overfloors_k10_points_and_forms).prog w K mg base 10 "_law_rising" (spRise) := mkCl F__law_rising (glo_ok X G (d.fact 57 (f := .glo "_law_rising") rfl)) (ok__law_rising F__law_rising TB TR c_ascending_points c__law_draw c__law_pick c__law_point c__law_pair c__law_plus c__law_spot) (F__law_rising.bindsN (ps := ["_law_tape"]) fun _ _ _ _ _ _ us hl => match us, hl with | [_], _ => rfl)
  exact ok_law (TT _ (List.mem_singleton.mpr rfl)) RP lk1 hcd1 TB TR T_Point T_Form c_Ratio_2 c_Point_2 c_Form_2 c__law_begin c__law_draw c__law_pick c__law_size c__law_number c__law_times c__law_spot c__law_points_right c__law_forms_right c__law_rising
end
end Of
open PySem PySem.W PySem.Calls PyProof.Rows
theorem PySem.Challenge.cw_overfloors_k10_points_and_forms_holds : PySem.Challenge.rw_overfloors_k10_points_and_forms.Holds := by
  exact Of.law_early fun _ _ _ _ _ X G hfa c => Of.law_at X G hfa c
