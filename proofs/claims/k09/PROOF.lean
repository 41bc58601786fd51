import PyProof.Rows.All
import Wide.All
import OpenK.AllK
import Wide.FinOn
import PyProof.ListMulRight
import KE.KOpsOwn
import KE.KCallOwn
import HandS.ForMost
import HandS.ForExc
import HandS.SlotsOwn
import HandS.Flow
import HandS.IsInst
import PyProof.Rows.StrBool
import HandS.More
import HandS.Small
import HandS.FStr
import HandS.Wide
import HandS.WideMore
import HandS.Gcd
import HandS.ExcInit
import HandS.ExcField
import HandS.Style
import HandS.Evl
import HandS.RaiseMore
import HandS.WideBits
import HandS.Zip
import HandS.Head0
import HandS.Head1
import HandS.Head2
import HandS.HeadEnd
import HandS.HeadHook1
import HandS.HeadHook2
import HandS.HeadHook3
import HandS.HeadHook4
import HandS.Text
import KE.IntTextLaws
import KE.DataFind
import HandS.ExcIs
import KE.KExcIs
import HandS.Lambda
import KE.BitLaws
import HandS.ExcValue
import HandS.MakeKwOnly
import KE.DataEq
import HandS.DictComp
import PyProof.TypeOfCall
import PyProof.IsRules
import PyProof.ReprRoads
import HandS.EndTab
import HandS.HeadWalk
import HandS.Head3
import HandS.NestedK
import HandS.SortInts
import HandS.SetKeys
import HandS.Iter
import HandS.Walk
import HandS.WordsDict
import HandS.Comp
import PySem.Challenge.RW_overfloors_k09_whole_numbers_in_order
set_option Elab.async false
set_option linter.all false
set_option exponentiation.threshold 20000
set_option maxRecDepth 100000
set_option maxHeartbeats 0
namespace Of
section
open PySem PySem.Spec PyProof.Rows
section
open Builtin
theorem int_add_inst (a : Int) (t : Tok) (x C dx : Addr) :
    Meets (Builtin.«int.__add__» ⟨[.int a t, .ref x], []⟩) (fun _ R s => s.heap.get? x = some (PySem.W.instObj C dx) ∧ R (.ok (.ret Value.notImplemented)) s) :=
  .of_wp fun prog w A R s h => by obtain ⟨hp, g, d, tk, os⟩ := s; obtain ⟨hl, h⟩ := h; wp_walk; exact ⟨_, rfl, h⟩
theorem int_sub_inst (a : Int) (t : Tok) (x C dx : Addr) :
    Meets (Builtin.«int.__sub__» ⟨[.int a t, .ref x], []⟩) (fun _ R s => s.heap.get? x = some (PySem.W.instObj C dx) ∧ R (.ok (.ret Value.notImplemented)) s) :=
  .of_wp fun prog w A R s h => by obtain ⟨hp, g, d, tk, os⟩ := s; obtain ⟨hl, h⟩ := h; wp_walk; exact ⟨_, rfl, h⟩
theorem int_mul_inst (a : Int) (t : Tok) (x C dx : Addr) :
    Meets (Builtin.«int.__mul__» ⟨[.int a t, .ref x], []⟩) (fun _ R s => s.heap.get? x = some (PySem.W.instObj C dx) ∧ R (.ok (.ret Value.notImplemented)) s) :=
  .of_wp fun prog w A R s h => by obtain ⟨hp, g, d, tk, os⟩ := s; obtain ⟨hl, h⟩ := h; wp_walk; exact ⟨_, rfl, h⟩
theorem int_mod_inst (a : Int) (t : Tok) (x C dx : Addr) :
    Meets (Builtin.«int.__mod__» ⟨[.int a t, .ref x], []⟩) (fun _ R s => s.heap.get? x = some (PySem.W.instObj C dx) ∧ R (.ok (.ret Value.notImplemented)) s) :=
  .of_wp fun prog w A R s h => by obtain ⟨hp, g, d, tk, os⟩ := s; obtain ⟨hl, h⟩ := h; wp_walk; exact ⟨_, rfl, h⟩
theorem int_floordiv_inst (a : Int) (t : Tok) (x C dx : Addr) :
    Meets (Builtin.«int.__floordiv__» ⟨[.int a t, .ref x], []⟩) (fun _ R s => s.heap.get? x = some (PySem.W.instObj C dx) ∧ R (.ok (.ret Value.notImplemented)) s) :=
  .of_wp fun prog w A R s h => by obtain ⟨hp, g, d, tk, os⟩ := s; obtain ⟨hl, h⟩ := h; wp_walk; exact ⟨_, rfl, h⟩
theorem int_eq_inst (a : Int) (t : Tok) (x C dx : Addr) :
    Meets (Builtin.«int.__eq__» ⟨[.int a t, .ref x], []⟩) (fun _ R s => s.heap.get? x = some (PySem.W.instObj C dx) ∧ R (.ok (.ret Value.notImplemented)) s) :=
  .of_wp fun prog w A R s h => by obtain ⟨hp, g, d, tk, os⟩ := s; obtain ⟨hl, h⟩ := h; wp_walk; exact ⟨_, rfl, h⟩
theorem int_lt_inst (a : Int) (t : Tok) (x C dx : Addr) :
    Meets (Builtin.«int.__lt__» ⟨[.int a t, .ref x], []⟩) (fun _ R s => s.heap.get? x = some (PySem.W.instObj C dx) ∧ R (.ok (.ret Value.notImplemented)) s) :=
  .of_wp fun prog w A R s h => by obtain ⟨hp, g, d, tk, os⟩ := s; obtain ⟨hl, h⟩ := h; wp_walk; exact ⟨_, rfl, h⟩
theorem int_le_inst (a : Int) (t : Tok) (x C dx : Addr) :
    Meets (Builtin.«int.__le__» ⟨[.int a t, .ref x], []⟩) (fun _ R s => s.heap.get? x = some (PySem.W.instObj C dx) ∧ R (.ok (.ret Value.notImplemented)) s) :=
  .of_wp fun prog w A R s h => by obtain ⟨hp, g, d, tk, os⟩ := s; obtain ⟨hl, h⟩ := h; wp_walk; exact ⟨_, rfl, h⟩
theorem int_gt_inst (a : Int) (t : Tok) (x C dx : Addr) :
    Meets (Builtin.«int.__gt__» ⟨[.int a t, .ref x], []⟩) (fun _ R s => s.heap.get? x = some (PySem.W.instObj C dx) ∧ R (.ok (.ret Value.notImplemented)) s) :=
  .of_wp fun prog w A R s h => by obtain ⟨hp, g, d, tk, os⟩ := s; obtain ⟨hl, h⟩ := h; wp_walk; exact ⟨_, rfl, h⟩
theorem int_ge_inst (a : Int) (t : Tok) (x C dx : Addr) :
    Meets (Builtin.«int.__ge__» ⟨[.int a t, .ref x], []⟩) (fun _ R s => s.heap.get? x = some (PySem.W.instObj C dx) ∧ R (.ok (.ret Value.notImplemented)) s) :=
  .of_wp fun prog w A R s h => by obtain ⟨hp, g, d, tk, os⟩ := s; obtain ⟨hl, h⟩ := h; wp_walk; exact ⟨_, rfl, h⟩
end
section
variable {prog : Program} {w : World} {A : Around} {E : Value → Shared → Prop} {s : Shared} {K : PySem.W.Frag} {x C f g : Addr} {dx : Addr} {od : Option Obj}
theorem rbin_K {op : Operator} {i : Int} {t : Tok} {id : String} {B : Builtin} {Q : Value → Shared → Prop} (X : K.In s.heap) (I : PySem.W.InstAt s.heap x (PySem.W.instObj C dx) C od) (hc : PySem.W.selfFirst K C = true)
    (hs : PySem.W.findIn K (.ref C) (PySem.dunder op.info.2) = some (some (.ref g))) (hr : PySem.W.findIn K (.ref C) (dunderR op.info.2) = some (some (.ref f))) (hf : PySem.W.isFn K (.ref f) = true) (hsub : PySem.W.subIn K (.ref C) (.type "int") = some false)
    (fills : fillsNumberSlot (.type "int") op.info.2 = pure true) (slot : Slot "int" (PySem.dunder op.info.2) id) (entry : entryFor table id = some B) (args : argsOk id ⟨[.int i t, .ref x], []⟩)
    (g0 : Meets (B ⟨[.int i t, .ref x], []⟩) (fun _ R s => s.heap.get? x = some (PySem.W.instObj C dx) ∧ R (.ok (.ret Value.notImplemented)) s))
    (h : wpAny (model prog w) A (call (.ref f) [.ref x, .int i t]) (PySem.W.CmpBack Q) E s) : wpAny (model prog w) A (binaryOp op (.int i t) (.ref x)) Q E s := by
  obtain ⟨cd, rest, hcd, hm⟩ := PySem.W.ksp_first hc
  rcases hi : op.info with ⟨sym, nm'⟩
  rw [hi] at hs hr fills slot
  dsimp only at hs hr fills slot
  have one := PySem.W.ksp_try X I hr hf h
  have dec : ∀ {Q' : Option Value → Shared → Prop}, Q' none s → wpAny (model prog w) A (tryMethod (.int i t) (PySem.dunder nm') (.ref x)) Q' E s := fun {Q'} q =>
    wpAny_tryMethod_declines (typeIs_int s i t) slot (call_meets slot (typeIs_int s i t) entry args g0 ⟨I.at_, rfl, q⟩)
  obtain ⟨hh, gg, d, tt, os⟩ := s
  have L1 : PySem.W.Looks (model prog w) hh (typeOf (.ref x)) (.ref C) := I.type
  have L2 : PySem.W.Looks (model prog w) hh (typeOf (.int i t)) (.type "int") := PySem.W.Looks.of_pure rfl
  have L3 : PySem.W.Looks (model prog w) hh (fillsNumberSlot (.ref C) nm') true := PySem.W.fills_K X hcd hm hs
  have L4 : PySem.W.Looks (model prog w) hh (fillsNumberSlot (.type "int") nm') true := PySem.W.Looks.of_pure fills
  have L5 : PySem.W.Looks (model prog w) hh (isSubtype (.ref C) (.type "int")) false := PySem.W.looks_subIn X hsub
  have L7 : PySem.W.Looks (model prog w) hh (numberSlotInPython (.type "int") nm') false := PySem.W.Looks.of_pure rfl
  have hne : (Value.type "int" == Value.ref C) = false := Bool.eq_false_iff.mpr fun q => by cases beq_iff_eq.mp q
  simp only [binaryOp, hi]
  refine wpAny_holding (wpAny_bind ?_)
  unfold binaryOp1
  refine wpAny_bind (L2.at (wpAny_bind (L1.at (wpAny_bind (L4.at ?_)))))
  simp only [hne, Bool.false_eq_true, if_false]
  ksp_lk
  refine dec ?_
  ksp_lk
  refine wpAny_mono one (fun r s' hr' => ?_) fun _ _ e => e
  obtain ⟨v, rfl, hq⟩ := hr'
  ksp_lk
  exact hq
end
end
section
open PySem PySem.Spec PyProof.Rows
section
variable {prog : Program} {w : World} {A : Around} {E : Value → Shared → Prop} {s : Shared} {K : PySem.W.Frag} {x C f g : Addr} {dx : Addr} {od : Option Obj}
theorem typeOf_int_ne {i : Int} {t : Tok} : (Value.type "int" != Value.ref C) = true := by
  rw [bne_iff_ne]; exact fun z => by cases z
/-- i op x with the reflected comparison of x's class -/
theorem rcmp_K {op : CmpOp} {i : Int} {t : Tok} {id : String} {B : Builtin} {Q : Value → Shared → Prop} (hu : A.units < cLine) (X : K.In s.heap) (I : PySem.W.InstAt s.heap x (PySem.W.instObj C dx) C od)
    (hr : PySem.W.findIn K (.ref C) (cmpInfo op).2.2 = some (some (.ref f))) (hf : PySem.W.isFn K (.ref f) = true) (hsub : PySem.W.subIn K (.ref C) (.type "int") = some false)
    (slot : Slot "int" (cmpInfo op).2.1 id) (entry : entryFor table id = some B) (args : argsOk id ⟨[.int i t, .ref x], []⟩)
    (g0 : Meets (B ⟨[.int i t, .ref x], []⟩) (fun _ R s => s.heap.get? x = some (PySem.W.instObj C dx) ∧ R (.ok (.ret Value.notImplemented)) s))
    (h : wpAny (model prog w) A (call (.ref f) [.ref x, .int i t]) (PySem.W.CmpBack Q) E s) : wpAny (model prog w) A (richCompare op (.int i t) (.ref x)) Q E s := by
  have one : wpAny (model prog w) A (tryCompare (.ref x) (cmpInfo op).2.2 (.int i t)) (fun r s' => ∃ v, r = some v ∧ Q v s') E s := by
    unfold tryCompare
    refine wpAny_bind (PySem.W.ifBound_K X I hr hf (wpAny_mono h (fun v s' hv => ?_) fun _ _ e => e))
    cases v <;> first | exact hv.elim | exact wpAny_pure ⟨_, rfl, hv⟩
  have dec : ∀ {Q' : Option Value → Shared → Prop}, Q' none s → wpAny (model prog w) A (tryCompare (.int i t) (cmpInfo op).2.1 (.ref x)) Q' E s := fun {Q'} q =>
    wpAny_tryCompare_declines (typeIs_int s i t) slot (call_meets slot (typeIs_int s i t) entry args g0 ⟨I.at_, rfl, q⟩)
  have L2 : PySem.W.Looks (model prog w) s.heap (typeOf (.int i t)) (.type "int") := PySem.W.Looks.of_pure rfl
  unfold richCompare
  have e1 : oneThing? op (.int i t) (.ref x) = none := by cases op <;> rfl
  simp only [e1]
  refine wpAny_holding (wpAny_bind (wpAny_cRoomFor hu ?_))
  refine wpAny_bind (L2.here (wpAny_bind (I.type.here ?_)))
  rw [if_pos (typeOf_int_ne (i := i) (t := t))]
  refine wpAny_bind ((PySem.W.looks_subIn X hsub).here ?_)
  simp only [Bool.false_eq_true, if_false]
  refine wpAny_bind (dec ?_)
  simp only [Bool.not_false, if_true]
  refine wpAny_bind (wpAny_mono one (fun r s' z => ?_) fun _ _ e => e)
  obtain ⟨v, rfl, hq⟩ := z
  exact wpAny_pure hq
/-- object.__ne__ by the own == -/
theorem ne_try {b : Value} {Q : Value → Shared → Prop} (hu : A.units + 1 < cLine) (X : K.In s.heap) (I : PySem.W.InstAt s.heap x (PySem.W.instObj C dx) C od)
    (hn : PySem.W.findIn K (.ref C) "__ne__" = some (some (.builtin "object.__ne__"))) (he : PySem.W.findIn K (.ref C) "__eq__" = some (some (.ref f))) (hf : PySem.W.isFn K (.ref f) = true) (hm : PySem.W.mroIn K C (.type "object") = some true)
    (h : wpAny (model prog w) A.in1 (call (.ref f) [.ref x, b]) (fun v s' => ∃ k, v = .bool k ∧ Q (.bool (!k)) s') E s) :
    wpAny (model prog w) A (tryCompare (.ref x) "__ne__" b) (fun r s' => ∃ v, r = some v ∧ Q v s') E s := by
  have NE := F.cmp_object.ne
  have sub : PySem.W.Looks (model prog w) s.heap (isInstance (.ref x) (.type "object")) true := I.type.andThen (PySem.W.looks_mroIn X hm)
  have body : wpAny (model prog w) A.in1 (Builtin.«object.__ne__» ⟨[.ref x, b], []⟩) (fun fin s' => match fin with | .done f => wants (fun v s' => ∃ k, v = .bool k ∧ Q (.bool k) s') E (.ok f) s' | .again c' => c'.quiet = true ∧ codeAny (model prog w) A c' (wants (fun v s' => ∃ k, v = .bool k ∧ Q (.bool k) s') E) s') (fun e s' => wants (fun v s' => ∃ k, v = .bool k ∧ Q (.bool k) s') E (.error e) s') s := by
    unfold Builtin.«object.__ne__»
    refine wpAny_bind (m := slotArgs "__ne__" 1 _) (wpAny_pure ?_)
    refine wpAny_bind (wpAny_cRoomFor hu ?_)
    refine wpAny_bind (m := callSpecialIfBound? (.ref x) (Str.ofString "__eq__") [b]) (PySem.W.ifBound_K X I he hf (wpAny_mono h (fun v s' hv => ?_) fun _ _ e => e))
    obtain ⟨k, rfl, hq⟩ := hv
    refine wpAny_bind (m := truthy (.bool k)) (wpAny_truthy_bool ?_)
    exact wpAny_pure ⟨!k, rfl, hq⟩
  have cal : wpAny (model prog w) A (call (.builtin "object.__ne__") [.ref x, b]) (fun v s' => ∃ k, v = .bool k ∧ Q (.bool k) s') E s :=
    wpAny_call (codeAny_call_builtin NE.plain F.cmpEntry_ne (PySem.W.check_slot F.cmpKind_ne F.cmpSplit_ne sub (F.cmpArgs_ne _ _) body))
  unfold tryCompare
  simp only [callSpecialIfBound?, bindSpecialIfBound?]
  refine wpAny_bind (wpAny_holding (wpAny_bind (wpAny_bind (wpAny_bind (I.type.here ((PySem.W.looks_findIn X hn).here ?_))))))
  have fin : wpAny (model prog w) A (call (.builtin "object.__ne__") ([.ref x] ++ [b]) >>= fun v => pure (some v)) (fun r s' => wpAny (model prog w) A (match r with
    | some .notImplemented | none => pure none
    | some v => pure (some v)) (fun r s' => ∃ v, r = some v ∧ Q v s') E s') E s := wpAny_bind (wpAny_mono cal (fun v s' hv => by
      obtain ⟨k, rfl, hq⟩ := hv
      exact wpAny_pure (wpAny_pure ⟨_, rfl, hq⟩)) fun _ _ e => e)
  simp only [NE.bind]
  refine wpAny_bind (wpAny_askSetting (wpAny_ite ?_))
  split
  · exact wpAny_bind (wpAny_pure (wpAny_pure fin))
  · exact wpAny_tryCatch (wpAny_bind (wpAny_pure (wpAny_pure fin)))
/-- x != b by the own == -/
theorem ne_K {b tb : Value} {Q : Value → Shared → Prop} (hu : A.units + 1 < cLine) (X : K.In s.heap) (I : PySem.W.InstAt s.heap x (PySem.W.instObj C dx) C od) (hb : PySem.W.Looks (model prog w) s.heap (typeOf b) tb) (hnf : PySem.W.notFirst K C tb = true)
    (hn : PySem.W.findIn K (.ref C) "__ne__" = some (some (.builtin "object.__ne__"))) (he : PySem.W.findIn K (.ref C) "__eq__" = some (some (.ref f))) (hf : PySem.W.isFn K (.ref f) = true) (hm : PySem.W.mroIn K C (.type "object") = some true)
    (h : wpAny (model prog w) A.in1 (call (.ref f) [.ref x, b]) (fun v s' => ∃ k, v = .bool k ∧ Q (.bool (!k)) s') E s) :
    wpAny (model prog w) A (richCompare .NotEq (.ref x) b) Q E s := by
  have one := ne_try (K := K) hu X I hn he hf hm h
  unfold richCompare
  simp only [oneThing_ref]
  refine wpAny_holding (wpAny_bind (wpAny_cRoomFor (Nat.lt_of_succ_lt hu) ?_))
  refine wpAny_bind (I.type.here (wpAny_bind (hb.here ?_)))
  rw [cmpInfo_NotEq]
  dsimp only
  split
  · rename_i q
    have e : PySem.W.subIn K tb (.ref C) = some false := by
      rcases Bool.or_eq_true_iff.mp hnf with e | e
      · rw [beq_iff_eq.mp e] at q; simp at q
      · exact beq_iff_eq.mp e
    refine wpAny_bind ((PySem.W.looks_subIn X e).here ?_)
    simp only [Bool.false_eq_true, if_false]
    refine wpAny_bind (wpAny_mono one (fun r s' z => ?_) fun _ _ e => e)
    obtain ⟨v, rfl, hq⟩ := z
    exact wpAny_pure hq
  · refine wpAny_bind (wpAny_pure ?_)
    simp only [Bool.false_eq_true, if_false]
    refine wpAny_bind (wpAny_mono one (fun r s' z => ?_) fun _ _ e => e)
    obtain ⟨v, rfl, hq⟩ := z
    exact wpAny_pure hq
/-- abs(x) by the own __abs__ -/
theorem abs_K {Q : Value → Shared → Prop} (X : K.In s.heap) (I : PySem.W.InstAt s.heap x (PySem.W.instObj C dx) C od) (hs : PySem.W.findIn K (.ref C) "__abs__" = some (some (.ref f))) (hf : PySem.W.isFn K (.ref f) = true)
    (h : wpAny (model prog w) A.in1 (call (.ref f) [.ref x]) Q E s) : wpAny (model prog w) A (call (.builtin "abs") [.ref x]) Q E s := by
  refine PySem.Calls.call_function_entry kind_abs plain_abs entry_abs (args_abs _) ?_
  unfold Builtin.«abs»
  refine wpAny_bind (m := oneArg "abs" _) (wpAny_pure ?_)
  refine wpAny_bind (m := callSpecial? (.ref x) (Str.ofString "__abs__")) (PySem.W.special_fn X I hs (beq_iff_eq.mp hf) (wpAny_mono h (fun v s' hv => ?_) fun _ _ e => e))
  exact wpAny_pure ⟨_, rfl, hv⟩
end
end
section
open PySem PySem.Spec PyProof.Rows L2
section
variable {prog : Program} {w : World} {A : Around} {E : Value → Shared → Prop} {s : Shared} {K : PySem.W.Frag} {x C f g : Addr} {dx : Addr} {od : Option Obj}
theorem boolnew_K {Q : Value → Shared → Prop} (X : K.In s.heap) (I : PySem.W.InstAt s.heap x (PySem.W.instObj C dx) C od) (hs : PySem.W.findIn K (.ref C) "__bool__" = some (some (.ref f))) (hf : PySem.W.isFn K (.ref f) = true)
    (h : wpAny (model prog w) A.in1.in1 (call (.ref f) [.ref x]) (PySem.W.BoolBack fun b s' => Q (.bool b) s') E s) : wpAny (model prog w) A (call (.type "bool") [.ref x]) Q E s := by
  refine callType_codes (T := "bool") (Bi := Builtin.«object.__init__») (Q₁ := fun r s₁ => ∃ b, r = .bool b ∧ Q r s₁) PySem.F.called_bool (PySem.F.typeCall_bool_1 _) PySem.F.entry_object_init ?_ ?_
  · refine codeAny_of_tree ?_
    show wpAny _ A.in1.in1 (do checkBuiltinCall "bool.__new__" ⟨[.type "bool", .ref x], []⟩; again (.builtin "bool.__new__" ⟨[.type "bool", .ref x], []⟩)) _ _ s
    refine wpAny_bind (wpAny_of_eq (PySem.F.newCall_bool_1 _) (wpAny_pure ⟨plainId_quiet (by decide +kernel) _, codeAny_builtin PySem.F.entry_bool_new ?_⟩))
    rw [Around.under_plainId (by decide +kernel) _]
    unfold Builtin.«bool.__new__»
    have f1 := F.conv_sub_bool
    have tr : ∀ {Q' : Bool → Shared → Prop}, (∀ b s', Q (.bool b) s' → Q' b s') → wpAny (model prog w) A.in1.in1 (truthy (.ref x)) Q' E s := fun {Q'} k => by
      unfold truthy
      refine wpAny_bind (m := callSpecial? (.ref x) (Str.ofString "__bool__")) (PySem.W.special_fn X I hs (beq_iff_eq.mp hf) (wpAny_mono h (fun r s' hr => ?_) fun _ _ y => y))
      cases r <;> first | exact hr.elim | skip
      exact wpAny_pure (k _ _ hr)
    repeat (any_goals (first | assumption | (with_reducible refine tr ?_; intro b s' q) | wp_step))
    all_goals first | exact ⟨_, rfl, q⟩ | exact ⟨_, rfl, _, rfl, q⟩ | skip
  · rintro obj s₁ ⟨b, rfl, hq⟩
    exact ⟨rfl, PySem.F.args_object_init_2 _ _, object_init_meets PySem.F.called_bool.init.lookup PySem.F.called_bool.made (by decide) prog w A.in1 _ s₁ ⟨rfl, rfl, hq⟩⟩
end
section
variable {X : Cx} {CX : CXT} {pins : List (Addr × Obj)} {σ : L2.St} {H : Hp} {s : Shared} {C C' f g : Addr} {n : Nat} {sp : Sp} {E : XK}
theorem ins_inst (I : Inv X pins σ H s) {a dx : Addr} {fs : List (Str × V)} (h : H a = some (.ins C dx fs)) : ∃ od, PySem.W.InstAt s.heap a (PySem.W.instObj C dx) C (some od) := by
  obtain ⟨mA, O, _⟩ := ins_get I.hok h
  obtain ⟨od, J, _⟩ := O.look
  exact ⟨od, J⟩
theorem cb_of {Q : VK} {v : Value} {s' : Shared} (h : EP X pins σ Q v s') : PySem.W.CmpBack (EP X pins σ Q) v s' := by
  obtain ⟨z, H', I', rz, q⟩ := h
  exact SlX.cmpback rz ⟨z, H', I', rz, q⟩
/-- what an operator asks: the promise of the class's def, of the instance and the other value -/
def rO (C : Addr) (sp : Sp) (E : XK) (ok : V → Hp → Prop) : R2 := fun x y H Q => ∃ a dx fs, x = .ref a ∧ H a = some (.ins C dx fs) ∧ ok y H ∧ sp [.ref a, y] H Q E
/-- reflected: the instance on the right -/
def rOr (C : Addr) (sp : Sp) (E : XK) : R2 := fun x y H Q => ∃ a dx fs i, x = .int i ∧ y = .ref a ∧ H a = some (.ins C dx fs) ∧ sp [.ref a, .int i] H Q E
def isIns (C : Addr) : V → Hp → Prop := fun y H => ∃ b dy gs, y = .ref b ∧ H b = some (.ins C dy gs)
def isInt : V → Hp → Prop := fun y _ => ∃ i, y = .int i
theorem op_bin2 {op : Operator} (hc : PySem.W.selfFirst X.K C = true) (hs : PySem.W.findIn X.K (.ref C) (PySem.dunder op.info.2) = some (some (.ref f))) (hf : PySem.W.isFn X.K (.ref f) = true) (F : FnR X.prog X.w X.K X.mg X.base CX n f sp) (hr : Room n X.A)
    (hx : Passes CX X E) : OpR X (binaryOp op) (rO C sp E (isIns C)) := by
  intro pins s σ H x y v u Q I rx ry h
  obtain ⟨a, dx, fs, rfl, ha, ⟨b, dy, gs, rfl, hb⟩, q⟩ := h
  cases (show v = Value.ref a from rx)
  cases (show u = Value.ref b from ry)
  obtain ⟨od, J⟩ := ins_inst I ha
  obtain ⟨od', J'⟩ := ins_inst I hb
  obtain ⟨m, hF⟩ := I.fr
  exact PySem.W.binop_K hF I.ok.mod.kin J J'.type hc hs hf (thn (wpAny_call (run_fnR (us := [.ref a, .ref b]) (vs := [.ref a, .ref b]) F hr hx I (.cons rfl (.cons rfl .nil)) q)) fun _ _ z => cb_of z)
theorem op_binI {op : Operator} {fo ro rc : Option Value} (hc : PySem.W.selfFirst X.K C = true) (hs : PySem.W.findIn X.K (.ref C) (PySem.dunder op.info.2) = some (some (.ref f))) (hf : PySem.W.isFn X.K (.ref f) = true)
    (hrc : PySem.W.findIn X.K (.ref C) (dunderR op.info.2) = some rc) (hp : rc = none ∨ ∃ g : Addr, rc = some (.ref g)) (h1 : PySem.W.findIn X.K (.type "int") (PySem.dunder op.info.2) = some fo) (h2 : PySem.W.findIn X.K (.type "int") (dunderR op.info.2) = some ro)
    (hsub : PySem.W.subIn X.K (.type "int") (.ref C) = some false) (F : FnR X.prog X.w X.K X.mg X.base CX n f sp) (hr : Room n X.A) (hx : Passes CX X E) : OpR X (binaryOp op) (rO C sp E isInt) := by
  intro pins s σ H x y v u Q I rx ry h
  obtain ⟨a, dx, fs, rfl, ha, ⟨i, rfl⟩, q⟩ := h
  cases (show v = Value.ref a from rx)
  obtain ⟨t, rfl⟩ := ry
  obtain ⟨od, J⟩ := ins_inst I ha
  obtain ⟨m, hF⟩ := I.fr
  exact PySem.W.ksp_binT (T := "int") hF I.ok.mod.kin J rfl hc hs hf hrc hp h1 h2 hsub (thn (wpAny_call (run_fnR (us := [.ref a, .int i t]) (vs := [.ref a, .int i]) F hr hx I (.cons rfl (.cons ⟨t, rfl⟩ .nil)) q)) fun _ _ z => cb_of z)
theorem op_rbin {op : Operator} {id : String} {B : Builtin} (hc : PySem.W.selfFirst X.K C = true) (hs : PySem.W.findIn X.K (.ref C) (PySem.dunder op.info.2) = some (some (.ref g))) (hrf : PySem.W.findIn X.K (.ref C) (dunderR op.info.2) = some (some (.ref f)))
    (hf : PySem.W.isFn X.K (.ref f) = true) (hsub : PySem.W.subIn X.K (.ref C) (.type "int") = some false)
    (fills : fillsNumberSlot (.type "int") op.info.2 = pure true) (slot : Slot "int" (PySem.dunder op.info.2) id) (entry : entryFor table id = some B) (args : ∀ a b : Value, argsOk id ⟨[a, b], []⟩)
    (g0 : ∀ i t x C dx, Meets (B ⟨[.int i t, .ref x], []⟩) (fun _ R s => s.heap.get? x = some (PySem.W.instObj C dx) ∧ R (.ok (.ret Value.notImplemented)) s))
    (F : FnR X.prog X.w X.K X.mg X.base CX n f sp) (hr : Room n X.A) (hx : Passes CX X E) : OpR X (binaryOp op) (rOr C sp E) := by
  intro pins s σ H x y v u Q I rx ry h
  obtain ⟨a, dx, fs, i, rfl, rfl, ha, q⟩ := h
  cases (show u = Value.ref a from ry)
  obtain ⟨t, rfl⟩ := rx
  obtain ⟨od, J⟩ := ins_inst I ha
  exact rbin_K I.kIn J hc hs hrf hf hsub fills slot entry (args _ _) (g0 i t a C dx) (thn (wpAny_call (run_fnR (us := [.ref a, .int i t]) (vs := [.ref a, .int i]) F hr hx I (.cons rfl (.cons ⟨t, rfl⟩ .nil)) q)) fun _ _ z => cb_of z)
/-- the type of the other value of a comparison, told by the abstract heap -/
inductive TyC (X : Cx) (H : Hp) : V → Value → Prop where
  | of {y : V} {t : Value} (h : TyX X.K H y t) : TyC X H y t
theorem ty_look {y : V} {t u : Value} (I : Inv X pins σ H s) (ry : RelV y u) (h : TyX X.K H y t) : PySem.W.Looks (model X.prog X.w) s.heap (typeOf u) t := by
  have ld : ∀ {a : Addr} {o : Obj} {c : Value}, s.heap.get? a = some o → o.cls = c → PySem.W.Looks (model X.prog X.w) s.heap (typeOf (.ref a)) c := fun {a o c} e z => by
    subst z
    exact (PySem.W.Looks.ld (part := none) e).andThen .now
  cases h with
  | base b =>
    cases b with
    | non => cases (show u = Value.none from ry); exact PySem.W.Looks.of_pure rfl
    | bl y => cases (show u = Value.bool y from ry); exact PySem.W.Looks.of_pure rfl
    | int i => obtain ⟨t, q⟩ := (show ∃ t, u = Value.int i t from ry); cases q; exact PySem.W.Looks.of_pure rfl
    | str y => obtain ⟨t, q⟩ := (show ∃ t, u = Value.str y t from ry); cases q; exact PySem.W.Looks.of_pure rfl
    | flt y => obtain ⟨t, q⟩ := (show ∃ t, u = Value.float y t from ry); cases q; exact PySem.W.Looks.of_pure rfl
    | @lst a xs ea =>
      cases (show u = Value.ref a from ry)
      obtain ⟨_, _, n, _, h1⟩ := (show ObjOk X.prog X.w H s.heap a (.lst xs) from I.hok a _ ea)
      exact ld h1 rfl
    | @frz a ob xs ea =>
      cases (show u = Value.ref a from ry)
      obtain ⟨_, _, _, n, _, h1⟩ := (show ObjOk X.prog X.w H s.heap a (.frz ob (.lst xs)) from I.hok a _ ea)
      exact ld h1 rfl
    | @tup a xs ea =>
      cases (show u = Value.ref a from ry)
      obtain ⟨_, _, _, o, h1, h2, _⟩ := (show ObjOk X.prog X.w H s.heap a (.tup xs) from I.hok a _ ea)
      exact ld h1 h2
    | @dK a kvs ea =>
      cases (show u = Value.ref a from ry)
      obtain ⟨_, _, vs, _, o, es, ep, h1, h2, _⟩ := (show ObjOk X.prog X.w H s.heap a (.dK kvs) from I.hok a _ ea)
      exact ld h1 h2.1
    | @dT a kvs ea =>
      cases (show u = Value.ref a from ry)
      obtain ⟨_, _, xs, _, o, es, ep, h1, h2, _⟩ := (show ObjOk X.prog X.w H s.heap a (.dT kvs) from I.hok a _ ea)
      exact ld h1 h2.1
    | @ins a C dx fs ea cl ha hn htk hm =>
      cases (show u = Value.ref a from ry)
      obtain ⟨od, J⟩ := ins_inst I ea
      exact J.type
  | byt y => obtain ⟨t, q⟩ := (show ∃ t, u = Value.bytes y t from ry); cases q; exact PySem.W.Looks.of_pure rfl
  | @set a S n ea =>
    cases (show u = Value.ref a from ry)
    obtain ⟨o, _, _, _, e, ex, _⟩ := I.hok a _ ea
    exact ld e ex.1
  | @kList a o e c => cases (show u = Value.ref a from ry); exact ld (I.kIn a o e) c
  | @kTuple a o e c => cases (show u = Value.ref a from ry); exact ld (I.kIn a o e) c
  | @kDict a o e c => cases (show u = Value.ref a from ry); exact ld (I.kIn a o e) c
  | @fTuple a ob xs ea =>
    cases (show u = Value.ref a from ry)
    obtain ⟨_, _, _, _, o, h1, h2, _⟩ := (show ObjOk X.prog X.w H s.heap a (.frz ob (.tup xs)) from I.hok a _ ea)
    exact ld h1 h2
  | @fDict a ob kvs ea =>
    cases (show u = Value.ref a from ry)
    obtain ⟨_, _, _, vs, _, o, es, ep, h1, h2, _⟩ := (show ObjOk X.prog X.w H s.heap a (.frz ob (.dK kvs)) from I.hok a _ ea)
    exact ld h1 h2.1
/-- the other value of a comparison: of a type that does not come first -/
def isAny (K : PySem.W.Frag) (C : Addr) : V → Hp → Prop := fun y H => ∃ t, TyX K H y t ∧ PySem.W.notFirst K C t = true
theorem op_cmp {op : CmpOp} (hop : ∀ a b, compareOp op a b = richCompare op a b) (hs : PySem.W.findIn X.K (.ref C) (cmpInfo op).2.1 = some (some (.ref f))) (hf : PySem.W.isFn X.K (.ref f) = true) (F : FnR X.prog X.w X.K X.mg X.base CX n f sp)
    (hr : Room n X.A) (hx : Passes CX X E) : OpR X (compareOp op) (rO C sp E (isAny X.K C)) := by
  intro pins s σ H x y v u Q I rx ry h
  obtain ⟨a, dx, fs, rfl, ha, ⟨t, ht, hn⟩, q⟩ := h
  cases (show v = Value.ref a from rx)
  obtain ⟨od, J⟩ := ins_inst I ha
  obtain ⟨m, hF⟩ := I.fr
  rw [hop]
  exact PySem.W.cmp_K hr.units0 hF I.ok.mod.kin J (ty_look I ry ht) hn hs hf (thn (wpAny_call (run_fnR (us := [.ref a, u]) (vs := [.ref a, y]) F hr hx I (.cons rfl (.cons ry .nil)) q)) fun _ _ z => cb_of z)
theorem op_rcmp {op : CmpOp} {id : String} {B : Builtin} (hop : ∀ a b, compareOp op a b = richCompare op a b) (hs : PySem.W.findIn X.K (.ref C) (cmpInfo op).2.2 = some (some (.ref f))) (hf : PySem.W.isFn X.K (.ref f) = true)
    (hsub : PySem.W.subIn X.K (.ref C) (.type "int") = some false) (slot : Slot "int" (cmpInfo op).2.1 id) (entry : entryFor table id = some B) (args : ∀ a b : Value, argsOk id ⟨[a, b], []⟩)
    (g0 : ∀ i t x C dx, Meets (B ⟨[.int i t, .ref x], []⟩) (fun _ R s => s.heap.get? x = some (PySem.W.instObj C dx) ∧ R (.ok (.ret Value.notImplemented)) s))
    (F : FnR X.prog X.w X.K X.mg X.base CX n f sp) (hr : Room n X.A) (hx : Passes CX X E) : OpR X (compareOp op) (rOr C sp E) := by
  intro pins s σ H x y v u Q I rx ry h
  obtain ⟨a, dx, fs, i, rfl, rfl, ha, q⟩ := h
  cases (show u = Value.ref a from ry)
  obtain ⟨t, rfl⟩ := rx
  obtain ⟨od, J⟩ := ins_inst I ha
  rw [hop]
  exact rcmp_K hr.units0 I.kIn J hs hf hsub slot entry (args _ _) (g0 i t a C dx) (thn (wpAny_call (run_fnR (us := [.ref a, .int i t]) (vs := [.ref a, .int i]) F hr hx I (.cons rfl (.cons ⟨t, rfl⟩ .nil)) q)) fun _ _ z => cb_of z)
/-- the callee runs one C level deeper -/
theorem run_fnR1 {Q : VK} {us : List Value} {vs : List V} {A : Around} (F : FnR X.prog X.w X.K X.mg X.base CX n f sp) (hr : Room n A) (e0 : Env0 X.prog X.w X.K X.mg X.base A X.stack s H) (hx : Passes CX X E) (I : Inv X pins σ H s) (r : Vals vs us) (h : sp vs H Q E) :
    wpAny (model X.prog X.w) A (call (.ref f) us) (EP X pins σ Q) X.xe s := wpAny_call (SlX.run_at F hr e0 hx I r h)
/-- what comes back is a bool -/
def kB (Q : VK) : VK := fun v H => ∃ b, v = .bl b ∧ Q (.bl b) H
def kNB (Q : VK) : VK := fun v H => ∃ b, v = .bl b ∧ Q (.bl (!b)) H
def rNO (C : Addr) (sp : Sp) (E : XK) (ok : V → Hp → Prop) : R2 := fun x y H Q => ∃ a dx fs, x = .ref a ∧ H a = some (.ins C dx fs) ∧ ok y H ∧ sp [.ref a, y] H (kNB Q) E
theorem op_ne1 (hn : PySem.W.findIn X.K (.ref C) "__ne__" = some (some (.builtin "object.__ne__"))) (hm : PySem.W.mroIn X.K C (.type "object") = some true) (hs : PySem.W.findIn X.K (.ref C) "__eq__" = some (some (.ref f))) (hf : PySem.W.isFn X.K (.ref f) = true)
    (F : FnR X.prog X.w X.K X.mg X.base CX n f sp) (hr : Room (n + 1) X.A) (hx : Passes CX X E) : OpR X (compareOp .NotEq) (rNO C sp E (isAny X.K C)) := by
  intro pins s σ H x y v u Q I rx ry h
  obtain ⟨a, dx, fs, rfl, ha, ⟨t, ht, hnf⟩, q⟩ := h
  cases (show v = Value.ref a from rx)
  obtain ⟨od, J⟩ := ins_inst I ha
  show wpAny _ _ (richCompare .NotEq _ _) _ _ _
  refine ne_K (by have := hr.units; omega) I.kIn J (ty_look I ry ht) hnf hn hs hf hm (thn (run_fnR1 (us := [.ref a, u]) (vs := [.ref a, y]) F hr.in1 I.env0.in1 hx I (.cons rfl (.cons ry .nil)) q) fun v s' z => ?_)
  obtain ⟨z, H', I', rz, b, ez, q'⟩ := z
  subst ez
  cases rz
  exact ⟨b, rfl, .bl (!b), H', I', rfl, q'⟩
def rU1 (C : Addr) (sp : Sp) (E : XK) : V → Hp → VK → Prop := fun x H Q => ∃ a dx fs, x = .ref a ∧ H a = some (.ins C dx fs) ∧ sp [.ref a] H Q E
theorem un_negO (hs : PySem.W.findIn X.K (.ref C) "__neg__" = some (some (.ref f))) (hf : PySem.W.isFn X.K (.ref f) = true) (F : FnR X.prog X.w X.K X.mg X.base CX n f sp) (hr : Room n X.A) (hx : Passes CX X E) : UnR X (unaryOp .USub) (rU1 C sp E) := by
  intro pins s σ H x v Q I rx h
  obtain ⟨a, dx, fs, rfl, ha, q⟩ := h
  cases (show v = Value.ref a from rx)
  obtain ⟨od, J⟩ := ins_inst I ha
  obtain ⟨m, hF⟩ := I.fr
  exact PySem.W.ksp_neg hF I.ok.mod.kin J hs hf (wpAny_call (run_fnR (us := [.ref a]) (vs := [.ref a]) F hr hx I (.cons rfl .nil) q))
theorem un_invO (hs : PySem.W.findIn X.K (.ref C) "__invert__" = some (some (.ref f))) (hf : PySem.W.isFn X.K (.ref f) = true) (F : FnR X.prog X.w X.K X.mg X.base CX n f sp) (hr : Room n X.A) (hx : Passes CX X E) : UnR X (unaryOp .Invert) (rU1 C sp E) := by
  intro pins s σ H x v Q I rx h
  obtain ⟨a, dx, fs, rfl, ha, q⟩ := h
  cases (show v = Value.ref a from rx)
  obtain ⟨od, J⟩ := ins_inst I ha
  obtain ⟨m, hF⟩ := I.fr
  exact PySem.W.ksp_inv hF I.ok.mod.kin J hs hf (wpAny_call (run_fnR (us := [.ref a]) (vs := [.ref a]) F hr hx I (.cons rfl .nil) q))
/-- a call of a built-in with one instance -/
def rC1 (C : Addr) (sp : Sp) (E : XK) (k : VK → VK) : List V → Hp → VK → Prop := fun xs H Q => ∃ a dx fs, xs = [.ref a] ∧ H a = some (.ins C dx fs) ∧ sp [.ref a] H (k Q) E
def kS (Q : VK) : VK := fun v H => ∃ z, v = .str z ∧ Q (.str z) H
theorem call_absO (hs : PySem.W.findIn X.K (.ref C) "__abs__" = some (some (.ref f))) (hf : PySem.W.isFn X.K (.ref f) = true) (F : FnR X.prog X.w X.K X.mg X.base CX n f sp) (hr : Room (n + 1) X.A) (hx : Passes CX X E) : CallR X (.builtin "abs") (rC1 C sp E id) := by
  intro pins s σ H xs us Q I r h
  obtain ⟨a, dx, fs, rfl, ha, q⟩ := h
  obtain ⟨u, rfl, ru⟩ := vals1 r
  cases (show u = Value.ref a from ru)
  obtain ⟨od, J⟩ := ins_inst I ha
  exact abs_K I.kIn J hs hf (run_fnR1 (us := [.ref a]) (vs := [.ref a]) F hr.in1 I.env0.in1 hx I (.cons rfl .nil) q)
theorem call_boolO (hs : PySem.W.findIn X.K (.ref C) "__bool__" = some (some (.ref f))) (hf : PySem.W.isFn X.K (.ref f) = true) (F : FnR X.prog X.w X.K X.mg X.base CX n f sp) (hr : Room (n + 2) X.A) (hx : Passes CX X E) : CallR X (.type "bool") (rC1 C sp E kB) := by
  intro pins s σ H xs us Q I r h
  obtain ⟨a, dx, fs, rfl, ha, q⟩ := h
  obtain ⟨u, rfl, ru⟩ := vals1 r
  cases (show u = Value.ref a from ru)
  obtain ⟨od, J⟩ := ins_inst I ha
  refine boolnew_K I.kIn J hs hf (thn (run_fnR1 (us := [.ref a]) (vs := [.ref a]) F (show Room n X.A.in1.in1 from (Room.in1 (k := n + 1) hr).in1) I.env0.in1.in1 hx I (.cons rfl .nil) q) fun v s' z => ?_)
  obtain ⟨z, H', I', rz, b, ez, q'⟩ := z
  subst ez
  cases rz
  exact ⟨.bl b, H', I', rfl, q'⟩
theorem call_strO (hs : PySem.W.findIn X.K (.ref C) "__str__" = some (some (.ref f))) (hf : PySem.W.isFn X.K (.ref f) = true) (F : FnR X.prog X.w X.K X.mg X.base CX n f sp) (hr : Room (n + 2) X.A) (hx : Passes CX X E) : CallR X (.type "str") (rC1 C sp E kS) := by
  intro pins s σ H xs us Q I r h
  obtain ⟨a, dx, fs, rfl, ha, q⟩ := h
  obtain ⟨u, rfl, ru⟩ := vals1 r
  cases (show u = Value.ref a from ru)
  obtain ⟨od, J⟩ := ins_inst I ha
  have hr2 : Room n X.A.in1.in1 := (Room.in1 (k := n + 1) hr).in1
  refine PySem.W.kso_call hr2.units0 I.kIn J hs hf (thn (run_fnR1 (us := [.ref a]) (vs := [.ref a]) F hr2 I.env0.in1.in1 hx I (.cons rfl .nil) q) fun v s' z => ?_)
  obtain ⟨z, H', I', rz, b, ez, q'⟩ := z
  subst ez
  obtain ⟨t, rfl⟩ := (show ∃ t, v = Value.str b t from rz)
  exact ⟨.str b, H', I', ⟨t, rfl⟩, q'⟩
/-- truth by the own __bool__ -/
theorem tru_O (hs : PySem.W.findIn X.K (.ref C) "__bool__" = some (some (.ref f))) (hf : PySem.W.isFn X.K (.ref f) = true) (F : FnR X.prog X.w X.K X.mg X.base CX n f sp) (hr : Room n X.A) (hx : Passes CX X E) :
    TruR X (fun x H Q => ∃ a dx fs, x = .ref a ∧ H a = some (.ins C dx fs) ∧ sp [.ref a] H (fun v H' => ∃ b, v = .bl b ∧ Q b H') E) := by
  intro pins s σ H x v Q I rx h
  obtain ⟨a, dx, fs, rfl, ha, q⟩ := h
  cases (show v = Value.ref a from rx)
  obtain ⟨od, J⟩ := ins_inst I ha
  obtain ⟨m, hF⟩ := I.fr
  refine PySem.W.truthy_K hF I.ok.mod.kin J hs hf (thn (wpAny_call (run_fnR (us := [.ref a]) (vs := [.ref a]) F hr hx I (.cons rfl .nil) q)) fun v s' z => ?_)
  obtain ⟨z, H', I', rz, b, ez, q'⟩ := z
  subst ez
  cases rz
  exact ⟨H', I', q'⟩
end
end
section
open PySem PySem.Spec PyProof.Rows L2
def Ex (H H' : Hp) : Prop := ∀ a o, H a = some o → H' a = some o
def Stab : HO → Prop
  | .dK _ => False
  | _ => True
/-- all but dicts stands as it was -/
def Le (H H' : Hp) : Prop := ∀ a o, H a = some o → Stab o → H' a = some o
theorem Ex.refl (H : Hp) : Ex H H := fun _ _ h => h
theorem Ex.trans {H H1 H2 : Hp} (a : Ex H H1) (b : Ex H1 H2) : Ex H H2 := fun x o h => b x o (a x o h)
theorem Ex.le {H H' : Hp} (e : Ex H H') : Le H H' := fun a o h _ => e a o h
theorem Le.refl (H : Hp) : Le H H := fun _ _ h _ => h
theorem Le.trans {H H1 H2 : Hp} (a : Le H H1) (b : Le H1 H2) : Le H H2 := fun x o h s => b x o (a x o h s) s
theorem Ex.new {H : Hp} {p : Addr} {o : HO} (h : H p = none) : Ex H (upd H p o) := fun a u e => by
  rw [upd_ne (ne_of_none e h)]
  exact e
theorem Ex.new2 {H : Hp} {p q : Addr} {o u : HO} (h : H p = none) (h' : H q = none) : Ex H (upd (upd H p o) q u) := fun a v e => by
  rw [upd_ne (ne_of_none e h'), upd_ne (ne_of_none e h)]
  exact e
theorem Le.dict {H : Hp} {p : Addr} {kvs : List (Key × V)} {o : HO} (h : H p = some (.dK kvs)) : Le H (upd H p o) := fun a u e s => by
  have : a ≠ p := fun z => by subst z; rw [h] at e; cases e; exact s
  rw [upd_ne this]
  exact e
structure Cl (P : Program) (w : World) (K : PySem.W.Frag) (mg : Str → Option Value) (base : Heap) (k : Nat) (x : Str) (sp : Sp) : Prop where
  ex : ∃ (f : Addr) (fd : FuncData) (ps : List Str), FnOk P w K mg base (L2.CX P w) k f fd ps sp ∧ mg x = some (.ref f) ∧ PySem.W.keepIn K (.ref f) = true ∧ Binds K fd ps []
structure Cm (P : Program) (w : World) (K : PySem.W.Frag) (mg : Str → Option Value) (base : Heap) (k : Nat) (C : Addr) (m : Str) (f : Addr) (sp : Sp) : Prop where
  ex : ∃ (fd : FuncData) (ps : List Str), FnOk P w K mg base (L2.CX P w) k f fd ps sp ∧ Binds K fd ps []
  me : Meth K C m f
section
variable {P : Program} {w : World} {K : PySem.W.Frag} {mg : Str → Option Value} {base : Heap} {k j : Nat} {x m : Str} {C f : Addr} {sp sp' : Sp}
theorem Cm.fnr (c : Cm P w K mg base k C m f sp) : FnR P w K mg base (L2.CX P w) k f sp := by
  obtain ⟨fd, ps, F, b⟩ := c.ex
  have q := F.raw (dvs := []) b .nil
  intro A outer s H us vs Q E hr e0 r hs
  exact q A outer s H us vs Q E hr e0 r (by show sp (vs ++ []) H Q E; rw [List.append_nil]; exact hs)
theorem Cm.fn (c : Cm P w K mg base k C m f sp) : PySem.W.isFn K (.ref f) = true := c.me.fn
theorem Cm.at_ (c : Cm P w K mg base k C m f sp) : PySem.W.findIn K (.ref C) m = some (some (.ref f)) := c.me.at_
theorem Cl.imp (c : Cl P w K mg base k x sp) (h : ∀ vs H Q E, sp' vs H Q E → sp vs H Q E) : Cl P w K mg base k x sp' := by
  obtain ⟨f, fd, ps, F, r⟩ := c.ex
  exact ⟨f, fd, ps, F.imp h, r⟩
theorem Cm.imp (c : Cm P w K mg base k C m f sp) (h : ∀ vs H Q E, sp' vs H Q E → sp vs H Q E) : Cm P w K mg base k C m f sp' := by
  obtain ⟨fd, ps, F, r⟩ := c.ex
  exact ⟨⟨fd, ps, F.imp h, r⟩, c.me⟩
end
section
variable {X : Cx} {k j : Nat} {x m : Str} {C f : Addr} {sp : Sp} {E : XK} {e o : Expr} {es : List Expr} {t : TA} {ta : TE} {p pos apos : Pos}
def tC1 (sp : Sp) (E : XK) (t : TA) : TE := fun σ H Q => t σ H fun vs H1 => sp vs H1 Q E
def tM1 (C : Addr) (m : Str) (sp : Sp) (E : XK) (ta : TE) (t : TA) : TE := fun σ H Q => ta σ H fun x H1 => ∃ a dx fs, x = .ref a ∧ H1 a = some (.ins C dx fs) ∧ fs.lookup m = none ∧ t σ H1 fun vs H2 => sp (.ref a :: vs) H2 Q E
theorem pe_cl (c : Cl X.prog X.w X.K X.mg X.base k x sp) (hr : Room j X.A) (hk : k ≤ j) (hg : Gl X x) (hx : Passes (L2.CX X.prog X.w) X E) (ha : PA X (e :: es) t) (hdb : (x == ("__debug__" : Str)) = false := by decide)
    (he : starEach (e :: es) X.env = (false, eval e X.env) :: starEach es X.env := by rfl) (hpl : (backTo pos (starEach es X.env)).any (·.1) = false := by rfl) : PE X (.Call (.Name x p) (e :: es) [] pos) (tC1 sp E t) := by
  obtain ⟨f, fd, ps, F, hm, hkp, hb⟩ := c.ex
  have q := pe_call (p := p) (pos := pos) F (hr.mono hk) hg hm hkp hb .nil hx ha hdb he hpl
  refine ⟨fun pins s σ H Q I h => q.run pins s σ H Q I ?_⟩
  show t σ H fun vs H1 => sp (vs ++ []) H1 Q E
  simp only [List.append_nil]
  exact h
theorem pe_cm {pl : Sem Bool} (cl : Cls X.K C) (c : Cm X.prog X.w X.K X.mg X.base k C m f sp) (hr : Room j X.A) (hk : k ≤ j) (hx : Passes (L2.CX X.prog X.w) X E) (he : PE X o ta) (ha : PA X (e :: es) t)
    (hst : starEach (e :: es) X.env = (false, eval e X.env) :: starEach es X.env := by rfl) (hpl : (backTo pos (starEach es X.env)).any (·.1) = false := by rfl)
    (ht : eval (.Call (.Attribute o m apos) (e :: es) [] pos) X.env = (do
      let ov ← eval o X.env
      standAt apos.atName
      let (f, first) ← holding [ov] (getMethod ov m pl)
      callWith pos f first (backTo pos (starEach (e :: es) X.env)) (backToKw pos (keywordEach [] X.env))) := by rfl) :
    PE X (.Call (.Attribute o m apos) (e :: es) [] pos) (tM1 C m sp E ta t) := by
  obtain ⟨fd, ps, F, b⟩ := c.ex
  have q := pe_meth (pos := pos) (apos := apos) he cl c.me F (hr.mono hk) b .nil hx ha hst hpl ht
  refine ⟨fun pins s σ H Q I h => q.run pins s σ H Q I ?_⟩
  show ta σ H fun x H1 => ∃ a dx fs, x = .ref a ∧ H1 a = some (.ins C dx fs) ∧ fs.lookup m = none ∧ t σ H1 fun vs H2 => sp (x :: (vs ++ [])) H2 Q E
  simp only [List.append_nil]
  have e : (fun (x : V) (H1 : Hp) => ∃ a dx fs, x = .ref a ∧ H1 a = some (.ins C dx fs) ∧ fs.lookup m = none ∧ t σ H1 fun vs H2 => sp (x :: vs) H2 Q E) = (fun (x : V) (H1 : Hp) => ∃ a dx fs, x = .ref a ∧ H1 a = some (.ins C dx fs) ∧ fs.lookup m = none ∧ t σ H1 fun vs H2 => sp (.ref a :: vs) H2 Q E) := by
    funext x H1
    apply propext
    constructor
    · rintro ⟨a, dx, fs, rfl, r⟩; exact ⟨a, dx, fs, rfl, r⟩
    · rintro ⟨a, dx, fs, rfl, r⟩; exact ⟨a, dx, fs, rfl, r⟩
  rw [e]
  exact h
theorem pe_cm0 {pl : Sem Bool} (cl : Cls X.K C) (c : Cm X.prog X.w X.K X.mg X.base k C m f sp) (hr : Room j X.A) (hk : k ≤ j) (hx : Passes (L2.CX X.prog X.w) X E) (he : PE X o ta)
    (ht : eval (.Call (.Attribute o m apos) [] [] pos) X.env = (do
      let ov ← eval o X.env
      standAt apos.atName
      let (f, first) ← holding [ov] (getMethod ov m pl)
      callWith pos f first (backTo pos (starEach [] X.env)) (backToKw pos (keywordEach [] X.env))) := by rfl) :
    PE X (.Call (.Attribute o m apos) [] [] pos) (tM1 C m sp E ta tNil) := by
  obtain ⟨fd, ps, F, b⟩ := c.ex
  have q := pe_meth0 (pos := pos) (apos := apos) he cl c.me F (hr.mono hk) b .nil hx ht
  refine ⟨fun pins s σ H Q I h => q.run pins s σ H Q I ?_⟩
  show ta σ H fun x H1 => ∃ a dx fs, x = .ref a ∧ H1 a = some (.ins C dx fs) ∧ fs.lookup m = none ∧ sp (x :: ([] ++ [])) H1 Q E
  have e : (fun (x : V) (H1 : Hp) => ∃ a dx fs, x = .ref a ∧ H1 a = some (.ins C dx fs) ∧ fs.lookup m = none ∧ sp (x :: ([] ++ [])) H1 Q E) = (fun (x : V) (H1 : Hp) => ∃ a dx fs, x = .ref a ∧ H1 a = some (.ins C dx fs) ∧ fs.lookup m = none ∧ sp (.ref a :: []) H1 Q E) := by
    funext x H1
    apply propext
    constructor
    · rintro ⟨a, dx, fs, rfl, r⟩; exact ⟨a, dx, fs, rfl, r⟩
    · rintro ⟨a, dx, fs, rfl, r⟩; exact ⟨a, dx, fs, rfl, r⟩
  rw [e]
  exact h
/-- C(e, ..), __init__'s promise given the fresh instance; dvs fill up the defaults -/
structure Ck (P : Program) (w : World) (K : PySem.W.Frag) (mg : Str → Option Value) (base : Heap) (k : Nat) (x : Str) (C : Addr) (dvs : List V) (sp : Sp) : Prop where
  ex : ∃ (f : Addr) (fd : FuncData) (ps : List Str) (ds : List Value), FnOk P w K mg base (L2.CX P w) k f fd ps sp ∧ Mk K C f ∧ mg x = some (.ref C) ∧ Binds K fd ps ds ∧ Vals dvs ds
def tK1 (C : Addr) (sp : Sp) (dvs : List V) (E : XK) (t : TA) : TE := tMake C sp dvs E t
theorem pe_ck {dvs : List V} (c : Ck X.prog X.w X.K X.mg X.base k x C dvs sp) (hr : Room j X.A) (hk : k + 1 ≤ j) (hg : Gl X x) (hx : Passes (L2.CX X.prog X.w) X E) (ha : PA X (e :: es) t) (hdb : (x == ("__debug__" : Str)) = false := by decide)
    (he : starEach (e :: es) X.env = (false, eval e X.env) :: starEach es X.env := by rfl) (hpl : (backTo pos (starEach es X.env)).any (·.1) = false := by rfl) : PE X (.Call (.Name x p) (e :: es) [] pos) (tK1 C sp dvs E t) := by
  obtain ⟨f, fd, ps, ds, F, M, hm, hb, hv⟩ := c.ex
  exact pe_make M F (hr.mono hk) hg hm hb hv hx ha hdb he hpl
end
/-- in a def's body what a callee raises goes on -/
theorem psE {P : Program} {w : World} {K : PySem.W.Frag} {mg : Str → Option Value} {base : Heap} {N : List Str} {q : Str} {sc : Scope} {f : Addr} {cdv : Value} {A : Around} {outer : List Env} {s : Shared} {H : Hp} {E : XK} :
    Passes (L2.CX P w) (cxOf (L2.CX P w) P w K mg base N q sc f cdv A outer s H E) E := passes_call (W := fun cls d _ H => E cls d H) (takes_of rfl rfl rfl rfl) fun _ _ _ _ h => h
theorem tkE {P : Program} {w : World} {K : PySem.W.Frag} {mg : Str → Option Value} {base : Heap} {N : List Str} {q : Str} {sc : Scope} {f : Addr} {cdv : Value} {A : Around} {outer : List Env} {s : Shared} {H : Hp} {E : XK} :
    Takes (cxOf (L2.CX P w) P w K mg base N q sc f cdv A outer s H E) (fun cls d _ H => E cls d H) := takes_of rfl rfl rfl rfl
section
variable {K : PySem.W.Frag} {σ : L2.St} {H : Hp} {Q : VK} {QT : Bool → Hp → Prop} {QA : List V → Hp → Prop} {D : Ends} {ta tb te : TE} {t u : TT} {tr : TA} {v x y : V} {i : Nat} {r : R2} {ts us ws : TS} {g : TG} {b : Bool}
theorem r_var (h : σ[i]? = some (some v)) (k : Q v H) : tVar i σ H Q := ⟨v, h, k⟩
theorem r_c (k : Q v H) : tC v σ H Q := k
theorem r_op (k : ta σ H fun x H1 => tb σ H1 fun y H2 => r x y H2 Q) : tOp r ta tb σ H Q := k
theorem r_un {ru : V → Hp → VK → Prop} (k : ta σ H fun x H1 => ru x H1 Q) : tUn ru ta σ H Q := k
theorem r_I0 {g : Int → Int → V} {a c : Int} (k : Q (g a c) H) : rI0 g (.int a) (.int c) H Q := ⟨a, c, rfl, rfl, k⟩
theorem r_I {C : Int → Int → Prop} {g : Int → Int → V} {a c : Int} (hc : C a c) (k : Q (g a c) H) : rI C g (.int a) (.int c) H Q := ⟨a, c, rfl, rfl, hc, k⟩
theorem r_U {g : Int → V} {a : Int} (k : Q (g a) H) : rU g (.int a) H Q := ⟨a, rfl, k⟩
theorem r_eqI {a c : Int} (k : Q (.bl (decide (a = c))) H) : rEq (.int a) (.int c) H Q := ⟨rfl, by rw [show decide (V.int a = V.int c) = decide (a = c) from by rw [Bool.eq_iff_iff]; simp]; exact k⟩
theorem r_neI {a c : Int} (k : Q (.bl (!decide (a = c))) H) : rNe (.int a) (.int c) H Q := ⟨rfl, by rw [show decide (V.int a = V.int c) = decide (a = c) from by rw [Bool.eq_iff_iff]; simp]; exact k⟩
theorem r_eqS {a c : Str} (k : Q (.bl (decide (a = c))) H) : rEq (.str a) (.str c) H Q := ⟨rfl, by rw [show decide (V.str a = V.str c) = decide (a = c) from by rw [Bool.eq_iff_iff]; simp]; exact k⟩
theorem r_neS {a c : Str} (k : Q (.bl (!decide (a = c))) H) : rNe (.str a) (.str c) H Q := ⟨rfl, by rw [show decide (V.str a = V.str c) = decide (a = c) from by rw [Bool.eq_iff_iff]; simp]; exact k⟩
theorem r_test (k : te σ H fun x H' => ∃ b, x = .bl b ∧ QT b H') : tTest te σ H QT := k
theorem r_B (k : te σ H fun x H' => ∃ b, x = .bl b ∧ QT b H') : tB te σ H QT := k
theorem r_bl (k : QT b H) : ∃ b', V.bl b = .bl b' ∧ QT b' H := ⟨b, rfl, k⟩
theorem r_and (k : t σ H fun c H1 => if c = true then u σ H1 QT else QT false H1) : tAnd t u σ H QT := k
theorem r_or (k : t σ H fun c H1 => if c = true then QT true H1 else u σ H1 QT) : tOr t u σ H QT := k
theorem r_not (k : t σ H fun c H1 => QT (!c) H1) : tNot t σ H QT := k
theorem r_andV (k : ta σ H fun x H1 => ∃ c, x = .bl c ∧ if c = true then tb σ H1 Q else Q (.bl false) H1) : tAndV ta tb σ H Q := k
theorem r_orV (k : ta σ H fun x H1 => ∃ c, x = .bl c ∧ if c = true then Q (.bl true) H1 else tb σ H1 Q) : tOrV ta tb σ H Q := k
theorem r_notV (k : ta σ H fun x H1 => ∃ c, x = .bl c ∧ Q (.bl (!c)) H1) : tNotV ta σ H Q := k
theorem r_ifE (k : t σ H fun c H1 => if c = true then ta σ H1 Q else tb σ H1 Q) : tIf t ta tb σ H Q := k
theorem r_seq (k : ts { D with nx := us D } σ H) : tSeq ts us D σ H := k
theorem r_next (k : D.nx σ H) : tNext D σ H := k
theorem r_break (k : D.bk σ H) : tBreak D σ H := k
theorem r_cont (k : D.ct σ H) : tCont D σ H := k
theorem r_asg (k : te σ H fun x H1 => g x σ H1 D.nx) : tAsg te g D σ H := k
theorem r_name {QS : L2.St → Hp → Prop} (k : QS (σ.set i (some v)) H) : gName i v σ H QS := k
theorem r_ifS (k : t σ H fun b H1 => if b = true then ts D σ H1 else us D σ H1) : tIfS t ts us D σ H := k
theorem r_ret (k : te σ H D.rt) : tRet te D σ H := k
theorem r_retN (k : D.rt .non H) : tRetN D σ H := k
theorem r_drop (k : te σ H fun _ H1 => D.nx σ H1) : tDrop te D σ H := k
theorem r_nil (k : QA [] H) : tNil σ H QA := k
theorem r_cons (k : ta σ H fun x H1 => tr σ H1 fun xs H2 => QA (x :: xs) H2) : tCons ta tr σ H QA := k
theorem r_c1 {sp : Sp} {E : XK} (k : tr σ H fun vs H1 => sp vs H1 Q E) : tC1 sp E tr σ H Q := k
theorem r_cb {rc : List V → Hp → VK → Prop} (k : tr σ H fun vs H1 => rc vs H1 Q) : tCB rc tr σ H Q := k
def LaidT (xs : List V) (H : Hp) (Q : VK) : Prop := xs.length ≤ sizeLine ∧ ∀ p, H p = none → Q (.ref p) (upd H p (.tup xs))
def LaidL (xs : List V) (H : Hp) (Q : VK) : Prop := xs.length ≤ sizeLine ∧ ∀ p, H p = none → Q (.ref p) (upd H p (.lst xs))
theorem r_tup (k : tr σ H fun xs H1 => LaidT xs H1 Q) : tTup tr σ H Q := k
theorem r_lst (k : tr σ H fun xs H1 => LaidL xs H1 Q) : tLst tr σ H Q := k
/-- an object laid: known from then on by what stands at it -/
theorem r_laidT {xs : List V} (hz : xs.length ≤ 1000) (k : ∀ p H', Ex H H' → H p = none → H' p = some (.tup xs) → Q (.ref p) H') : LaidT xs H Q :=
  ⟨Nat.le_trans hz (by decide), fun p hp => k p _ (Ex.new hp) hp upd_same⟩
theorem r_laidL {xs : List V} (hz : xs.length ≤ 1000) (k : ∀ p H', Ex H H' → H p = none → H' p = some (.lst xs) → Q (.ref p) H') : LaidL xs H Q :=
  ⟨Nat.le_trans hz (by decide), fun p hp => k p _ (Ex.new hp) hp upd_same⟩
theorem r_par {i j : Nat} (k : tr σ H fun vs H1 => ∃ v w, vs = [v, w] ∧ D.nx ((σ.set i (some v)).set j (some w)) H1) : tPar i j tr D σ H := k
theorem r_par2 {QS : L2.St → Hp → Prop} {i j : Nat} {v w : V} (k : QS ((σ.set i (some v)).set j (some w)) H) : ∃ v' w', [v, w] = [v', w'] ∧ QS ((σ.set i (some v')).set j (some w')) H := ⟨v, w, rfl, k⟩
theorem r_par3 {i j l : Nat} (k : tr σ H fun vs H1 => ∃ v w z, vs = [v, w, z] ∧ D.nx (((σ.set i (some v)).set j (some w)).set l (some z)) H1) : tPar3 i j l tr D σ H := k
theorem r_par33 {QS : L2.St → Hp → Prop} {i j l : Nat} {v w z : V} (k : QS (((σ.set i (some v)).set j (some w)).set l (some z)) H) : ∃ v' w' z', [v, w, z] = [v', w', z'] ∧ QS (((σ.set i (some v')).set j (some w')).set l (some z')) H := ⟨v, w, z, rfl, k⟩
theorem r_gTup {QS : L2.St → Hp → Prop} {K : PySem.W.Frag} {n : Nat} {gs : TGs} {a : Addr} {xs : List V} (h : H a = some (.tup xs)) (hn : xs.length = n) (k : gs xs σ H QS) : gTup K n gs (.ref a) σ H QS := ⟨a, xs, rfl, SqT.of h, hn, k⟩
theorem r_gCons {QS : L2.St → Hp → Prop} {g : TG} {gs : TGs} {v : V} {vs : List V} (k : g v σ H fun σ' H' => gs vs σ' H' QS) : gCons g gs (v :: vs) σ H QS := ⟨v, vs, rfl, k⟩
theorem r_gNil {QS : L2.St → Hp → Prop} (k : QS σ H) : gNil [] σ H QS := ⟨rfl, k⟩
theorem r_ix {ri : R2} (k : ta σ H fun x H1 => tb σ H1 fun y H2 => ri x y H2 Q) : tOp ri ta tb σ H Q := k
theorem r_ixT {p : Addr} {xs : List V} {i : Int} {v : V} (h : H p = some (.tup xs)) (e : atI xs i = some v) (k : Q v H) : rIxT K (.ref p) (.int i) H Q := ⟨p, xs, i, v, rfl, rfl, SqT.of h, e, k⟩
theorem r_ixL {p : Addr} {xs : List V} {i : Int} {v : V} (h : H p = some (.lst xs)) (e : atI xs i = some v) (k : Q v H) : rIxL K (.ref p) (.int i) H Q := ⟨p, xs, i, v, rfl, rfl, SqL.of h, e, k⟩
theorem iteT {A B : Prop} (h : A) : if true = true then A else B := by rw [if_pos rfl]; exact h
theorem iteF {A B : Prop} (h : B) : if false = true then A else B := by rw [if_neg Bool.false_ne_true]; exact h
theorem iteD {p A B : Prop} [Decidable p] (h : p) (k : A) : if decide p = true then A else B := by rw [decide_eq_true h]; exact iteT k
theorem iteDn {p A B : Prop} [Decidable p] (h : ¬ p) (k : B) : if decide p = true then A else B := by rw [decide_eq_false h]; exact iteF k
theorem iteN {p A B : Prop} [Decidable p] (h : p) (k : B) : if (!decide p) = true then A else B := by rw [decide_eq_true h]; exact iteF k
theorem iteNn {p A B : Prop} [Decidable p] (h : ¬ p) (k : A) : if (!decide p) = true then A else B := by rw [decide_eq_false h]; exact iteT k
theorem iteNT {A B : Prop} (h : B) : if (!true) = true then A else B := iteF h
theorem iteNF {A B : Prop} (h : A) : if (!false) = true then A else B := iteT h
theorem ite2 {p A B : Prop} [Decidable p] (h1 : p → A) (h2 : ¬ p → B) : if decide p = true then A else B := by
  by_cases h : p
  · exact iteD h (h1 h)
  · exact iteDn h (h2 h)
theorem ite2n {p A B : Prop} [Decidable p] (h1 : ¬ p → A) (h2 : p → B) : if (!decide p) = true then A else B := by
  by_cases h : p
  · exact iteN h (h2 h)
  · exact iteNn h (h1 h)
/-- int(i), int(b), max, abs, of ints -/
theorem r_int1 {a : Int} (k : Q (.int a) H) : (∃ i, [V.int a] = [.int i] ∧ Q (.int i) H) ∨ ∃ b, [V.int a] = [.bl b] ∧ Q (.int (if b then 1 else 0)) H := .inl ⟨a, rfl, k⟩
theorem r_intB {b : Bool} (k : Q (.int (if b then 1 else 0)) H) : (∃ i, [V.bl b] = [.int i] ∧ Q (.int i) H) ∨ ∃ b', [V.bl b] = [.bl b'] ∧ Q (.int (if b' then 1 else 0)) H := .inr ⟨b, rfl, k⟩
theorem r_bool1 {a : Int} (k : Q (.bl (a != 0)) H) : (∃ i, [V.int a] = [.int i] ∧ Q (.bl (i != 0)) H) ∨ ∃ b, [V.int a] = [.bl b] ∧ Q (.bl b) H := .inl ⟨a, rfl, k⟩
theorem r_boolB {b : Bool} (k : Q (.bl b) H) : (∃ i, [V.bl b] = [.int i] ∧ Q (.bl (i != 0)) H) ∨ ∃ b', [V.bl b] = [.bl b'] ∧ Q (.bl b') H := .inr ⟨b, rfl, k⟩
theorem r_abs1 {a : Int} (k : Q (.int (a.natAbs : Int)) H) : ∃ i, [V.int a] = [.int i] ∧ Q (.int (if i < 0 then -i else i)) H := ⟨a, rfl, by
  have e : (if a < 0 then -a else a) = (a.natAbs : Int) := by split <;> omega
  rw [e]; exact k⟩
theorem r_gcd {a c : Int} (k : Q (.int (Int.gcd a c : Int)) H) : rGcd [.int a, .int c] H Q := ⟨a, c, rfl, k⟩
theorem r_isi {x c : V} {t u : Value} {b : Bool} (hc : ClsV c u) (ht : TyX K H x t) (e : PySem.W.kitOne K t u = some b) (k : Q (.bl b) H) : rIsi K [x, c] H Q := ⟨x, c, t, u, b, rfl, hc, ht, e, k⟩
theorem r_truI {a : Int} (k : QT (decide (a ≠ 0)) H) : ∃ b, TruV K (.int a) H b ∧ QT b H := ⟨a != 0, rfl, by
  have e : (a != 0) = decide (a ≠ 0) := by rw [Bool.eq_iff_iff]; simp
  rw [e]; exact k⟩
theorem r_truB {b' : Bool} (k : QT b' H) : ∃ b, TruV K (.bl b') H b ∧ QT b H := ⟨b', rfl, k⟩
end
end
section
open PySem PySem.Spec PyProof.Rows L2
theorem d_add : PySem.dunder Operator.Add.info.2 = ("__add__" : Str) := by decide +kernel
theorem d_sub : PySem.dunder Operator.Sub.info.2 = ("__sub__" : Str) := by decide +kernel
theorem d_mul : PySem.dunder Operator.Mult.info.2 = ("__mul__" : Str) := by decide +kernel
theorem d_floordiv : PySem.dunder Operator.FloorDiv.info.2 = ("__floordiv__" : Str) := by decide +kernel
theorem d_mod : PySem.dunder Operator.Mod.info.2 = ("__mod__" : Str) := by decide +kernel
theorem d_pow : PySem.dunder Operator.Pow.info.2 = ("__pow__" : Str) := by decide +kernel
theorem d_and : PySem.dunder Operator.BitAnd.info.2 = ("__and__" : Str) := by decide +kernel
theorem dr_add : dunderR Operator.Add.info.2 = ("__radd__" : Str) := by decide +kernel
theorem dr_sub : dunderR Operator.Sub.info.2 = ("__rsub__" : Str) := by decide +kernel
theorem dr_mul : dunderR Operator.Mult.info.2 = ("__rmul__" : Str) := by decide +kernel
theorem dr_floordiv : dunderR Operator.FloorDiv.info.2 = ("__rfloordiv__" : Str) := by decide +kernel
theorem dr_mod : dunderR Operator.Mod.info.2 = ("__rmod__" : Str) := by decide +kernel
theorem dr_pow : dunderR Operator.Pow.info.2 = ("__rpow__" : Str) := by decide +kernel
section
variable {K : PySem.W.Frag}
theorem fi_add : PySem.W.findIn K (.type "int") "__add__" = some (some (.builtin "int.__add__")) := by show PySem.fastLookup "int" _ = _; kernel_rfl
theorem fi_sub : PySem.W.findIn K (.type "int") "__sub__" = some (some (.builtin "int.__sub__")) := by show PySem.fastLookup "int" _ = _; kernel_rfl
theorem fi_mul : PySem.W.findIn K (.type "int") "__mul__" = some (some (.builtin "int.__mul__")) := by show PySem.fastLookup "int" _ = _; kernel_rfl
theorem fi_floordiv : PySem.W.findIn K (.type "int") "__floordiv__" = some (some (.builtin "int.__floordiv__")) := by show PySem.fastLookup "int" _ = _; kernel_rfl
theorem fi_mod : PySem.W.findIn K (.type "int") "__mod__" = some (some (.builtin "int.__mod__")) := by show PySem.fastLookup "int" _ = _; kernel_rfl
theorem fi_pow : PySem.W.findIn K (.type "int") "__pow__" = some (some (.builtin "int.__pow__")) := by show PySem.fastLookup "int" _ = _; kernel_rfl
theorem fir_add : PySem.W.findIn K (.type "int") "__radd__" = some (some (.builtin "int.__radd__")) := by show PySem.fastLookup "int" _ = _; kernel_rfl
theorem fir_sub : PySem.W.findIn K (.type "int") "__rsub__" = some (some (.builtin "int.__rsub__")) := by show PySem.fastLookup "int" _ = _; kernel_rfl
theorem fir_mul : PySem.W.findIn K (.type "int") "__rmul__" = some (some (.builtin "int.__rmul__")) := by show PySem.fastLookup "int" _ = _; kernel_rfl
theorem fir_floordiv : PySem.W.findIn K (.type "int") "__rfloordiv__" = some (some (.builtin "int.__rfloordiv__")) := by show PySem.fastLookup "int" _ = _; kernel_rfl
theorem fir_mod : PySem.W.findIn K (.type "int") "__rmod__" = some (some (.builtin "int.__rmod__")) := by show PySem.fastLookup "int" _ = _; kernel_rfl
theorem fir_pow : PySem.W.findIn K (.type "int") "__rpow__" = some (some (.builtin "int.__rpow__")) := by show PySem.fastLookup "int" _ = _; kernel_rfl
end
/-- no built-in type has an own class above it -/
theorem sub_ty {K : PySem.W.Frag} {C : Addr} {T : String} {l : List Value} (e : PySem.fastBuiltinMro T = some l) (h : l.all (fun v => match v with | .type _ => true | _ => false) = true) : PySem.W.subIn K (.type T) (.ref C) = some false := by
  show (PySem.fastBuiltinMro T).map (·.contains (.ref C)) = some false
  rw [e]
  show some (l.contains (.ref C)) = some false
  congr 1
  rw [← Bool.not_eq_true, List.contains_iff_mem]
  intro hm
  have := List.all_eq_true.mp h _ hm
  cases this
theorem sub_int {K : PySem.W.Frag} {C : Addr} : PySem.W.subIn K (.type "int") (.ref C) = some false := sub_ty (l := [.type "int", .type "object"]) (by decide +kernel) rfl
theorem sub_str {K : PySem.W.Frag} {C : Addr} : PySem.W.subIn K (.type "str") (.ref C) = some false := sub_ty (l := [.type "str", .type "object"]) (by decide +kernel) rfl
theorem sub_bool {K : PySem.W.Frag} {C : Addr} : PySem.W.subIn K (.type "bool") (.ref C) = some false := sub_ty (l := [.type "bool", .type "int", .type "object"]) (by decide +kernel) rfl
theorem sub_none {K : PySem.W.Frag} {C : Addr} : PySem.W.subIn K (.type "NoneType") (.ref C) = some false := sub_ty (l := [.type "NoneType", .type "object"]) (by decide +kernel) rfl
theorem sub_tuple {K : PySem.W.Frag} {C : Addr} : PySem.W.subIn K (.type "tuple") (.ref C) = some false := sub_ty (l := [.type "tuple", .type "object"]) (by decide +kernel) rfl
theorem sub_list {K : PySem.W.Frag} {C : Addr} : PySem.W.subIn K (.type "list") (.ref C) = some false := sub_ty (l := [.type "list", .type "object"]) (by decide +kernel) rfl
theorem nf_of {K : PySem.W.Frag} {C : Addr} {t : Value} (h : PySem.W.subIn K t (.ref C) = some false) : PySem.W.notFirst K C t = true := by
  unfold PySem.W.notFirst
  rw [h]
  simp
theorem nf_self {K : PySem.W.Frag} {C : Addr} : PySem.W.notFirst K C (.ref C) = true := by
  unfold PySem.W.notFirst
  simp
/-- what the written part says of a plain own class -/
structure ClsO (K : PySem.W.Frag) (C : Addr) : Prop where
  cl : Cls K C
  sf : PySem.W.selfFirst K C = true
  ni : PySem.W.subIn K (.ref C) (.type "int") = some false
  ne : PySem.W.findIn K (.ref C) "__ne__" = some (some (.builtin "object.__ne__"))
  ca : PySem.W.findIn K (.ref C) "__class__" = some (some (.builtin "object.__class__"))
  cn : PySem.W.specialIn K (.builtin "object.__class__") "__get__" = some (some (.builtin "getset_descriptor.__get__"))
  ct : PySem.W.takesIn K (.builtin "object.__class__") = some true
  mo : PySem.W.mroIn K C (.type "object") = some true
  nrpow : PySem.W.findIn K (.ref C) "__rpow__" = some none
theorem ClsO.ty {K : PySem.W.Frag} {C a dx : Addr} {fs : List (Str × V)} {H : Hp} (k : ClsO K C) (h : H a = some (.ins C dx fs)) : TyX K H (.ref a) (.ref C) := .base (.ins h k.cl k.ca k.cn k.ct k.mo)
section
variable {X : Cx} {k j : Nat} {m m' : Str} {C f g : Addr} {sp sp' : Sp} {E : XK} {op : Operator}
theorem op2 (d : PySem.dunder op.info.2 = m) (kc : ClsO X.K C) (c : Cm X.prog X.w X.K X.mg X.base k C m f sp) (hr : Room j X.A) (hk : k ≤ j) (hx : Passes (L2.CX X.prog X.w) X E) : OpR X (binaryOp op) (rO C sp E (isIns C)) :=
  op_bin2 kc.sf (by rw [d]; exact c.at_) c.fn c.fnr (hr.mono hk) hx
theorem opI {rc fo ro : Option Value} (d : PySem.dunder op.info.2 = m) (dr : dunderR op.info.2 = m') (kc : ClsO X.K C) (c : Cm X.prog X.w X.K X.mg X.base k C m f sp) (hp : (∃ g : Addr, PySem.W.findIn X.K (.ref C) m' = some (some (.ref g))) ∨ PySem.W.findIn X.K (.ref C) m' = some none)
    (h1 : PySem.W.findIn X.K (.type "int") m = some fo) (h2 : PySem.W.findIn X.K (.type "int") m' = some ro) (hr : Room j X.A) (hk : k ≤ j) (hx : Passes (L2.CX X.prog X.w) X E) : OpR X (binaryOp op) (rO C sp E isInt) := by
  rcases hp with ⟨g, hp⟩ | hp
  · exact op_binI kc.sf (by rw [d]; exact c.at_) c.fn (rc := some (.ref g)) (by rw [dr]; exact hp) (.inr ⟨g, rfl⟩) (by rw [d]; exact h1) (by rw [dr]; exact h2) sub_int c.fnr (hr.mono hk) hx
  · exact op_binI kc.sf (by rw [d]; exact c.at_) c.fn (rc := none) (by rw [dr]; exact hp) (.inl rfl) (by rw [d]; exact h1) (by rw [dr]; exact h2) sub_int c.fnr (hr.mono hk) hx
theorem opR_add (kc : ClsO X.K C) (hs : PySem.W.findIn X.K (.ref C) "__add__" = some (some (.ref g))) (c : Cm X.prog X.w X.K X.mg X.base k C "__radd__" f sp) (hr : Room j X.A) (hk : k ≤ j) (hx : Passes (L2.CX X.prog X.w) X E) : OpR X (binaryOp .Add) (rOr C sp E) :=
  op_rbin kc.sf (by rw [d_add]; exact hs) (by rw [dr_add]; exact c.at_) c.fn kc.ni PySem.F.fills_int_add (by rw [d_add]; exact PySem.F.slot_int_add) PySem.F.entry_int_add (fun _ _ => PySem.F.args_int_add_2 _ _) int_add_inst c.fnr (hr.mono hk) hx
theorem opR_sub (kc : ClsO X.K C) (hs : PySem.W.findIn X.K (.ref C) "__sub__" = some (some (.ref g))) (c : Cm X.prog X.w X.K X.mg X.base k C "__rsub__" f sp) (hr : Room j X.A) (hk : k ≤ j) (hx : Passes (L2.CX X.prog X.w) X E) : OpR X (binaryOp .Sub) (rOr C sp E) :=
  op_rbin kc.sf (by rw [d_sub]; exact hs) (by rw [dr_sub]; exact c.at_) c.fn kc.ni PySem.F.fills_int_sub (by rw [d_sub]; exact PySem.F.slot_int_sub) PySem.F.entry_int_sub (fun _ _ => PySem.F.args_int_sub_2 _ _) int_sub_inst c.fnr (hr.mono hk) hx
theorem opR_mul (kc : ClsO X.K C) (hs : PySem.W.findIn X.K (.ref C) "__mul__" = some (some (.ref g))) (c : Cm X.prog X.w X.K X.mg X.base k C "__rmul__" f sp) (hr : Room j X.A) (hk : k ≤ j) (hx : Passes (L2.CX X.prog X.w) X E) : OpR X (binaryOp .Mult) (rOr C sp E) :=
  op_rbin kc.sf (by rw [d_mul]; exact hs) (by rw [dr_mul]; exact c.at_) c.fn kc.ni PySem.F.fills_int_mul (by rw [d_mul]; exact PySem.F.slot_int_mul) PySem.F.entry_int_mul (fun _ _ => PySem.F.args_int_mul_2 _ _) int_mul_inst c.fnr (hr.mono hk) hx
theorem opR_mod (kc : ClsO X.K C) (hs : PySem.W.findIn X.K (.ref C) "__mod__" = some (some (.ref g))) (c : Cm X.prog X.w X.K X.mg X.base k C "__rmod__" f sp) (hr : Room j X.A) (hk : k ≤ j) (hx : Passes (L2.CX X.prog X.w) X E) : OpR X (binaryOp .Mod) (rOr C sp E) :=
  op_rbin kc.sf (by rw [d_mod]; exact hs) (by rw [dr_mod]; exact c.at_) c.fn kc.ni PySem.F.fills_int_mod (by rw [d_mod]; exact PySem.F.slot_int_mod) PySem.F.entry_int_mod (fun _ _ => PySem.F.args_int_mod_2 _ _) int_mod_inst c.fnr (hr.mono hk) hx
theorem opR_floordiv (kc : ClsO X.K C) (hs : PySem.W.findIn X.K (.ref C) "__floordiv__" = some (some (.ref g))) (c : Cm X.prog X.w X.K X.mg X.base k C "__rfloordiv__" f sp) (hr : Room j X.A) (hk : k ≤ j) (hx : Passes (L2.CX X.prog X.w) X E) : OpR X (binaryOp .FloorDiv) (rOr C sp E) :=
  op_rbin kc.sf (by rw [d_floordiv]; exact hs) (by rw [dr_floordiv]; exact c.at_) c.fn kc.ni PySem.F.fills_int_floordiv (by rw [d_floordiv]; exact PySem.F.slot_int_floordiv) PySem.F.entry_int_floordiv (fun _ _ => PySem.F.args_int_floordiv_2 _ _) int_floordiv_inst c.fnr (hr.mono hk) hx
theorem opC_eq (c : Cm X.prog X.w X.K X.mg X.base k C "__eq__" f sp) (hr : Room j X.A) (hk : k ≤ j) (hx : Passes (L2.CX X.prog X.w) X E) : OpR X (compareOp .Eq) (rO C sp E (isAny X.K C)) := op_cmp (fun _ _ => rfl) c.at_ c.fn c.fnr (hr.mono hk) hx
theorem opC_lt (c : Cm X.prog X.w X.K X.mg X.base k C "__lt__" f sp) (hr : Room j X.A) (hk : k ≤ j) (hx : Passes (L2.CX X.prog X.w) X E) : OpR X (compareOp .Lt) (rO C sp E (isAny X.K C)) := op_cmp (fun _ _ => rfl) c.at_ c.fn c.fnr (hr.mono hk) hx
theorem opC_le (c : Cm X.prog X.w X.K X.mg X.base k C "__le__" f sp) (hr : Room j X.A) (hk : k ≤ j) (hx : Passes (L2.CX X.prog X.w) X E) : OpR X (compareOp .LtE) (rO C sp E (isAny X.K C)) := op_cmp (fun _ _ => rfl) c.at_ c.fn c.fnr (hr.mono hk) hx
theorem opC_gt (c : Cm X.prog X.w X.K X.mg X.base k C "__gt__" f sp) (hr : Room j X.A) (hk : k ≤ j) (hx : Passes (L2.CX X.prog X.w) X E) : OpR X (compareOp .Gt) (rO C sp E (isAny X.K C)) := op_cmp (fun _ _ => rfl) c.at_ c.fn c.fnr (hr.mono hk) hx
theorem opC_ge (c : Cm X.prog X.w X.K X.mg X.base k C "__ge__" f sp) (hr : Room j X.A) (hk : k ≤ j) (hx : Passes (L2.CX X.prog X.w) X E) : OpR X (compareOp .GtE) (rO C sp E (isAny X.K C)) := op_cmp (fun _ _ => rfl) c.at_ c.fn c.fnr (hr.mono hk) hx
theorem opNe (kc : ClsO X.K C) (c : Cm X.prog X.w X.K X.mg X.base k C "__eq__" f sp) (hr : Room j X.A) (hk : k + 1 ≤ j) (hx : Passes (L2.CX X.prog X.w) X E) : OpR X (compareOp .NotEq) (rNO C sp E (isAny X.K C)) := op_ne1 kc.ne kc.mo c.at_ c.fn c.fnr (hr.mono hk) hx
theorem opRC_eq (kc : ClsO X.K C) (c : Cm X.prog X.w X.K X.mg X.base k C "__eq__" f sp) (hr : Room j X.A) (hk : k ≤ j) (hx : Passes (L2.CX X.prog X.w) X E) : OpR X (compareOp .Eq) (rOr C sp E) := op_rcmp (fun _ _ => rfl) c.at_ c.fn kc.ni PySem.F.slot_int_eq PySem.F.entry_int_eq (fun _ _ => PySem.F.args_int_eq_2 _ _) int_eq_inst c.fnr (hr.mono hk) hx
theorem opRC_lt (kc : ClsO X.K C) (c : Cm X.prog X.w X.K X.mg X.base k C "__gt__" f sp) (hr : Room j X.A) (hk : k ≤ j) (hx : Passes (L2.CX X.prog X.w) X E) : OpR X (compareOp .Lt) (rOr C sp E) := op_rcmp (fun _ _ => rfl) c.at_ c.fn kc.ni PySem.F.slot_int_lt PySem.F.entry_int_lt (fun _ _ => PySem.F.args_int_lt_2 _ _) int_lt_inst c.fnr (hr.mono hk) hx
theorem opRC_le (kc : ClsO X.K C) (c : Cm X.prog X.w X.K X.mg X.base k C "__ge__" f sp) (hr : Room j X.A) (hk : k ≤ j) (hx : Passes (L2.CX X.prog X.w) X E) : OpR X (compareOp .LtE) (rOr C sp E) := op_rcmp (fun _ _ => rfl) c.at_ c.fn kc.ni PySem.F.slot_int_le PySem.F.entry_int_le (fun _ _ => PySem.F.args_int_le_2 _ _) int_le_inst c.fnr (hr.mono hk) hx
theorem opRC_gt (kc : ClsO X.K C) (c : Cm X.prog X.w X.K X.mg X.base k C "__lt__" f sp) (hr : Room j X.A) (hk : k ≤ j) (hx : Passes (L2.CX X.prog X.w) X E) : OpR X (compareOp .Gt) (rOr C sp E) := op_rcmp (fun _ _ => rfl) c.at_ c.fn kc.ni PySem.F.slot_int_gt PySem.F.entry_int_gt (fun _ _ => PySem.F.args_int_gt_2 _ _) int_gt_inst c.fnr (hr.mono hk) hx
theorem opRC_ge (kc : ClsO X.K C) (c : Cm X.prog X.w X.K X.mg X.base k C "__le__" f sp) (hr : Room j X.A) (hk : k ≤ j) (hx : Passes (L2.CX X.prog X.w) X E) : OpR X (compareOp .GtE) (rOr C sp E) := op_rcmp (fun _ _ => rfl) c.at_ c.fn kc.ni PySem.F.slot_int_ge PySem.F.entry_int_ge (fun _ _ => PySem.F.args_int_ge_2 _ _) int_ge_inst c.fnr (hr.mono hk) hx
/-- a test by a value's truth, told by a rule -/
def tTr (r : V → Hp → (Bool → Hp → Prop) → Prop) (ta : TE) : TT := fun σ H Q => ta σ H fun x H' => r x H' Q
theorem pt_tr {a : Expr} {ta : TE} {r : V → Hp → (Bool → Hp → Prop) → Prop} (ha : PE X a ta) (ht : TruR X r) (he : ∀ whole, isTrue a X.env whole = (do let v ← whole; standAt a.pos; holding [v] (truthy v))) : PT X a (tTr r ta) := by
  refine ⟨fun pins s σ H Q I h => ?_⟩
  exact isTrue_plain (thn (ha.run pins s σ H _ I h) fun v s1 ⟨x, H1, I1, r1, q1⟩ => ht pins s1 σ H1 x v Q I1 r1 q1) (he _)
theorem r_tr {r : V → Hp → (Bool → Hp → Prop) → Prop} {ta : TE} {σ : L2.St} {H : Hp} {Q : Bool → Hp → Prop} (h : ta σ H fun x H' => r x H' Q) : tTr r ta σ H Q := h
/-- // by any divisor but 0, below 2 ^ 9000 -/
def CDivZ (_ j : Int) : Prop := j ≠ 0 ∧ j.natAbs < 2 ^ 9000
theorem op_fdivZ : OpR X (binaryOp .FloorDiv) (rI CDivZ fun i j => .int (i.fdiv j)) := L2.opI fun i j _ _ _ _ _ hc q => by
  have h1 : j ≠ 0 := hc.1
  have h2 := PySem.Flt.log2_lt_of (by decide) hc.2
  exact floordiv_int h1 q (.inl (PyProof.noPylong_of_log2 h2))
theorem hu_of64 {A : Around} {k : Nat} (hr : Room k A) : A.units + 64 < cLine := hr.units
def tAMono (t : TA) : TA := fun σ H Q => ∃ Q0 : List V → Hp → Prop, t σ H Q0 ∧ ∀ vs H1, Q0 vs H1 → Q vs H1
theorem pa_mono {es : List Expr} {t : TA} (h : PA X es t) : PA X es (tAMono t) := by
  refine ⟨fun pos pins s σ H Q I q => ?_⟩
  obtain ⟨Q0, q0, w⟩ := q
  exact thn (h.run pos pins s σ H Q0 I q0) fun us s1 ⟨xs, H1, I1, r1, q1⟩ => ⟨xs, H1, I1, r1, w xs H1 q1⟩
def spEx (C : Addr) (fn : Str) : Sp := fun vs H Q _ => ∃ a v, vs = [.ref a, v] ∧ H a = some (exo a C none) ∧ ∀ dx, H dx = none → dx ≠ a → Q .non (upd (upd H dx (exd dx [(fn, v)])) a (exo a C (some dx)))
structure Cox (P : Program) (w : World) (K : PySem.W.Frag) (mg : Str → Option Value) (base : Heap) (k : Nat) (x : Str) (C : Addr) (fn : Str) : Prop where
  ox : OexC K C
  hm : mg x = some (.ref C)
  ex : ∃ (f : Addr) (fd : FuncData) (ps : List Str), PySem.W.findIn K (.ref C) "__init__" = some (some (.ref f)) ∧ PySem.W.typeIn K (.ref f) = some (.type "function") ∧ FnOk P w K mg base (L2.CX P w) k f fd ps (spEx C fn) ∧ Binds K fd ps []
def tRz (C : Addr) (fn : Str) (W : WX) (ta : TA) : TS := fun _ σ H => ta σ H fun vs H1 => ∃ v, vs = [v] ∧ ∀ d, H1 d = none → W (.ref C) (some d) σ (upd H1 d (.xd [(fn, v)]))
theorem ps_rz {x fn : Str} {W : WX} {e : Expr} {ta : TA} {p pos pos' : Pos} (c : Cox X.prog X.w X.K X.mg X.base k x C fn) (hr : Room j X.A) (hk : k + 1 ≤ j) (tk : Takes X W) (hg : Gl X x) (ha : PA X (e :: []) ta) (hc : X.calm = true := by rfl) (hdb : (x == ("__debug__" : Str)) = false := by decide)
    (he : starEach (e :: []) X.env = (false, eval e X.env) :: starEach [] X.env := by rfl) (hpl : (backTo pos (starEach [] X.env)).any (·.1) = false := by rfl) :
    PS X (.Raise (some (.Call (.Name x p) (e :: []) [] pos)) none pos') (tRz C fn W ta) := by
  obtain ⟨f, fd, ps, iC, tI, F, hb⟩ := c.ex
  have q := ps_raise (pos := pos') hc tk (pmk_oex (p := p) (pos := pos) c.ox iC tI F (hr.mono hk) hb .nil passL hg c.hm (pa_mono ha) hdb he hpl)
  refine ⟨fun pins s σ H D I h => q.run pins s σ H D I ?_⟩
  show tMkO C (spEx C fn) [] (tAMono ta) σ H fun cls d H' => W cls d σ H'
  unfold tMkO tAMono
  have key : ∀ (vs : List V) (H1 : Hp), (∃ v, vs = [v] ∧ ∀ d, H1 d = none → W (.ref C) (some d) σ (upd H1 d (.xd [(fn, v)]))) → (vs.length ≤ 1000 ∧ ∀ a, H1 a = none → spEx C fn (.ref a :: (vs ++ [])) (upd H1 a (exo a C none))
      (fun v H2 => v = .non ∧ ∃ (d : Addr) (fs : List (Str × V)), H2 a = some (exo a C (some d)) ∧ H2 d = some (exd d fs) ∧ H1 d = none ∧ W (.ref C) (some d) σ (upd (del H2 a) d (.xd fs))) (fun _ _ _ => False)) := by
    rintro vs H1 ⟨v, rfl, w⟩
    refine ⟨by show 1 ≤ 1000; decide, fun a ha => ⟨a, v, rfl, upd_same, fun dx hdx hne => ⟨rfl, dx, [(fn, v)], upd_same, ?_, ?_, ?_⟩⟩⟩
    · rw [upd_ne hne, upd_same]
    · rw [upd_ne hne] at hdx; exact hdx
    · have hd1 : H1 dx = none := by rw [upd_ne hne] at hdx; exact hdx
      have e : upd (del (upd (upd (upd H1 a (exo a C none)) dx (exd dx [(fn, v)])) a (exo a C (some dx))) a) dx (.xd [(fn, v)]) = upd H1 dx (.xd [(fn, v)]) := by
        funext b
        by_cases hb : b = dx
        · subst hb; rw [upd_same, upd_same]
        · rw [upd_ne hb, upd_ne hb]
          by_cases hba : b = a
          · subst hba; rw [del_same, ha]
          · rw [del_ne hba, upd_ne hba, upd_ne hb, upd_ne hba]
      rw [e]
      exact w dx hd1
  exact ⟨_, h, key⟩
theorem r_rz {fn : Str} {W : WX} {ta : TA} {D : Ends} {σ : L2.St} {H : Hp} (h : ta σ H fun vs H1 => ∃ v, vs = [v] ∧ ∀ d, H1 d = none → W (.ref C) (some d) σ (upd H1 d (.xd [(fn, v)]))) : tRz C fn W ta D σ H := h
end
end
section
open PySem PySem.Spec PyProof.Rows L2
/-- below 4000 bits -/
def Bt (i : Int) : Prop := i.natAbs < 2 ^ 4000
def Sz (n : Nat) (q : Rat) : Prop := q.num.natAbs < 2 ^ n ∧ q.den < 2 ^ n
def Bq (q : Rat) : Prop := Bt q.num ∧ Bt (q.den : Int)
theorem pow_mono {a b n : Nat} (h : a < 2 ^ n) (hb : n ≤ b) : a < 2 ^ b := Nat.lt_of_lt_of_le h (Nat.pow_le_pow_right (by decide) hb)
theorem bt_of {i : Int} {n : Nat} (h : i.natAbs < 2 ^ n) (hn : n ≤ 4000) : Bt i := pow_mono h hn
theorem Sz.bq {n : Nat} {q : Rat} (h : Sz n q) (hn : n ≤ 4000) : Bq q := ⟨pow_mono h.1 hn, by show ((q.den : Int)).natAbs < _; rw [Int.natAbs_natCast]; exact pow_mono h.2 hn⟩
theorem Sz.mono {n m : Nat} {q : Rat} (h : Sz n q) (hn : n ≤ m) : Sz m q := ⟨pow_mono h.1 hn, pow_mono h.2 hn⟩
theorem pow_mul_lt {a b n m : Nat} (ha : a < 2 ^ n) (hb : b < 2 ^ m) : a * b < 2 ^ (n + m) := by
  rw [Nat.pow_add]; exact Nat.mul_lt_mul'' ha hb
theorem lt_mul {i j : Int} {n m : Nat} (hi : i.natAbs < 2 ^ n) (hj : j.natAbs < 2 ^ m) : (i * j).natAbs < 2 ^ (n + m) := by
  rw [Int.natAbs_mul]; exact pow_mul_lt hi hj
theorem lt_add {i j : Int} {n m k : Nat} (hi : i.natAbs < 2 ^ n) (hj : j.natAbs < 2 ^ m) (h1 : n < k) (h2 : m < k) : (i + j).natAbs < 2 ^ k := by
  have a := pow_mono hi (show n ≤ k - 1 by omega)
  have b := pow_mono hj (show m ≤ k - 1 by omega)
  have e : 2 ^ k = 2 ^ (k - 1) + 2 ^ (k - 1) := by
    obtain ⟨r, rfl⟩ : ∃ r, k = r + 1 := ⟨k - 1, by omega⟩
    rw [Nat.add_sub_cancel, Nat.pow_succ]; omega
  omega
theorem lt_sub {i j : Int} {n m k : Nat} (hi : i.natAbs < 2 ^ n) (hj : j.natAbs < 2 ^ m) (h1 : n < k) (h2 : m < k) : (i - j).natAbs < 2 ^ k := by
  rw [Int.sub_eq_add_neg]; exact lt_add hi (by rw [Int.natAbs_neg]; exact hj) h1 h2
theorem natAbs_div_le (a : Int) (b : Nat) : (a / (b : Int)).natAbs ≤ a.natAbs := by
  exact Int.natAbs_ediv_le_natAbs a b
theorem Sz.divInt {a b : Int} {n : Nat} (ha : a.natAbs < 2 ^ n) (hb : b.natAbs < 2 ^ n) (h0 : 0 < n) : Sz n (Rat.divInt a b) := by
  constructor
  · rw [Rat.num_divInt]
    refine Nat.lt_of_le_of_lt (natAbs_div_le _ _) ?_
    rw [Int.natAbs_mul]
    refine Nat.lt_of_le_of_lt (Nat.mul_le_mul_right _ (show b.sign.natAbs ≤ 1 from ?_)) (by rw [Nat.one_mul]; exact ha)
    rw [Int.natAbs_sign]; split <;> omega
  · rw [Rat.den_divInt]
    split
    · exact Nat.one_lt_two_pow (by omega)
    · exact Nat.lt_of_le_of_lt (Nat.div_le_self _ _) hb
theorem den_ne (q : Rat) : (q.den : Int) ≠ 0 := by have := q.den_nz; omega
theorem den_pos (q : Rat) : 0 < (q.den : Int) := by have := den_ne q; omega
theorem Sz.add {n m k : Nat} {q r : Rat} (h : Sz n q) (g : Sz m r) (hk : n + m < k) : Sz k (q + r) := by
  rw [← Rat.num_divInt_den q, ← Rat.num_divInt_den r, Rat.divInt_add_divInt _ _ (den_ne q) (den_ne r)]
  refine Sz.divInt (lt_add (n := n + m) (m := m + n) (lt_mul h.1 ?_) (lt_mul g.1 ?_) hk (by omega)) (pow_mono (lt_mul (n := n) (m := m) ?_ ?_) (by omega)) (by omega)
  all_goals first | exact g.2 | exact h.2
theorem Sz.mul {n m : Nat} {q r : Rat} (h : Sz n q) (g : Sz m r) (hk : 0 < n + m) : Sz (n + m) (q * r) := by
  rw [← Rat.num_divInt_den q, ← Rat.num_divInt_den r, Rat.divInt_mul_divInt]
  refine Sz.divInt (lt_mul h.1 g.1) (lt_mul ?_ ?_) hk
  all_goals first | exact g.2 | exact h.2
theorem Sz.neg {n : Nat} {q : Rat} (h : Sz n q) : Sz n (-q) := ⟨by show (-q.num).natAbs < _; rw [Int.natAbs_neg]; exact h.1, h.2⟩
theorem Sz.int {n : Nat} {i : Int} (h : i.natAbs < 2 ^ n) (h0 : 0 < n) : Sz n (i : Rat) := ⟨h, by show 1 < 2 ^ n; exact Nat.one_lt_two_pow (by omega)⟩
/-- what Ratio's __init__ writes -/
theorem made_num {a b : Int} (hb : b ≠ 0) : a.fdiv (if b < 0 then -(Int.gcd a b : Int) else (Int.gcd a b : Int)) = (Rat.divInt a b).num := by
  rw [Rat.num_divInt]
  have hg : (Int.gcd a b : Int) ∣ a := Int.gcd_dvd_left ..
  have e : Int.gcd b a = Int.gcd a b := Int.gcd_comm ..
  rw [e]
  obtain ⟨c, hc⟩ := hg
  have hg0 : (Int.gcd a b : Int) ≠ 0 := by
    have := Int.gcd_ne_zero_right (a := a) hb; omega
  split
  · rename_i h
    rw [Int.sign_eq_neg_one_of_neg h, Int.fdiv_eq_ediv_of_dvd (by rw [Int.neg_dvd]; exact ⟨c, hc⟩), Int.ediv_neg, Int.neg_one_mul, Int.neg_ediv_of_dvd ⟨c, hc⟩]
  · rename_i h
    have : 0 < b := by omega
    rw [Int.sign_eq_one_of_pos this, Int.fdiv_eq_ediv_of_dvd ⟨c, hc⟩, Int.one_mul]
theorem made_den {a b : Int} (hb : b ≠ 0) : b.fdiv (if b < 0 then -(Int.gcd a b : Int) else (Int.gcd a b : Int)) = ((Rat.divInt a b).den : Int) := by
  rw [Rat.den_divInt, if_neg hb]
  have e : Int.gcd b a = Int.gcd a b := Int.gcd_comm ..
  rw [e]
  have hg : (Int.gcd a b : Int) ∣ b := Int.gcd_dvd_right ..
  rw [Int.natCast_ediv]
  split
  · rename_i h
    rw [Int.fdiv_eq_ediv_of_dvd (by rw [Int.neg_dvd]; exact hg), Int.ediv_neg, Int.ofNat_natAbs_of_nonpos (by omega), Int.neg_ediv_of_dvd hg]
  · rename_i h
    rw [Int.fdiv_eq_ediv_of_dvd hg, Int.natAbs_of_nonneg (by omega)]
theorem gcd_le {a b : Int} (hb : b ≠ 0) : Int.gcd a b ≤ b.natAbs := Nat.le_of_dvd (by omega) (Int.gcd_dvd_natAbs_right a b)
theorem divInt_one (n : Int) : Rat.divInt n 1 = (n : Rat) := by
  apply Rat.ext <;> simp [Rat.num_divInt, Rat.den_divInt]
theorem rat_add (q r : Rat) : Rat.divInt (q.num * r.den + r.num * q.den) (q.den * r.den) = q + r := by
  conv => rhs; rw [← Rat.num_divInt_den q, ← Rat.num_divInt_den r, Rat.divInt_add_divInt _ _ (den_ne q) (den_ne r)]
theorem rat_mul (q r : Rat) : Rat.divInt (q.num * r.num) (q.den * r.den) = q * r := by
  conv => rhs; rw [← Rat.num_divInt_den q, ← Rat.num_divInt_den r, Rat.divInt_mul_divInt]
theorem rat_neg (q : Rat) : Rat.divInt (-q.num) q.den = -q := by
  conv => rhs; rw [← Rat.num_divInt_den q, Rat.neg_divInt]
theorem eq_iff (q r : Rat) : (q.num = r.num ∧ (q.den : Int) = r.den) ↔ q = r := ⟨fun h => Rat.ext h.1 (by omega), fun h => by subst h; exact ⟨rfl, rfl⟩⟩
theorem den_one {q : Rat} (h : (q.den : Int) = 1) : q = (q.num : Rat) := Rat.ext rfl (by show q.den = 1; omega)
/-- floor(q / r) -/
theorem rat_fdiv (q r : Rat) (hr : r ≠ 0) : (q.num * r.den).fdiv (q.den * r.num) = (q / r).floor := by
  have hn : r.num ≠ 0 := fun h => hr (Rat.num_eq_zero.mp h)
  have e : q / r = Rat.divInt (q.num * r.den) (q.den * r.num) := by
    conv => lhs; rw [← Rat.num_divInt_den q, ← Rat.num_divInt_den r, Rat.div_def, Rat.inv_divInt, Rat.divInt_mul_divInt]
  have hd : q.den * r.num ≠ 0 := Int.mul_ne_zero (den_ne q) hn
  rw [e, Rat.floor_def, ← made_num hd, ← made_den hd]
  generalize q.num * r.den = a at *
  generalize (q.den : Int) * r.num = b at *
  have hga : (Int.gcd a b : Int) ∣ a := Int.gcd_dvd_left ..
  have hgb : (Int.gcd a b : Int) ∣ b := Int.gcd_dvd_right ..
  have hg0 : (Int.gcd a b : Int) ≠ 0 := by
    have := Int.gcd_ne_zero_right (a := a) hd; omega
  generalize hG : (if b < 0 then -(Int.gcd a b : Int) else (Int.gcd a b : Int)) = G
  have hG0 : G ≠ 0 := by subst hG; split <;> omega
  have hGa : G ∣ a := by subst hG; split; exact (Int.neg_dvd).mpr hga; exact hga
  have hGb : G ∣ b := by subst hG; split; exact (Int.neg_dvd).mpr hgb; exact hgb
  have hp : 0 ≤ b.fdiv G := by
    have := made_den (a := a) hd
    rw [hG] at this; rw [this]; omega
  rw [← Int.fdiv_eq_ediv_of_nonneg _ hp]
  obtain ⟨c, rfl⟩ := hGa
  obtain ⟨d, rfl⟩ := hGb
  rw [Int.mul_fdiv_cancel_left _ hG0] at hp
  rw [Int.mul_fdiv_cancel_left _ hG0, Int.mul_fdiv_cancel_left _ hG0]
  rcases Int.lt_or_gt_of_ne hG0 with g | g
  · rw [← Int.neg_fdiv_neg (G * c), ← Int.neg_mul, ← Int.neg_mul, Int.fdiv_eq_ediv_of_nonneg _ hp, Int.fdiv_eq_ediv_of_nonneg _ (Int.mul_nonneg (by omega) hp), Int.mul_ediv_mul_of_pos _ _ (by omega)]
  · rw [Int.fdiv_eq_ediv_of_nonneg _ hp, Int.fdiv_eq_ediv_of_nonneg _ (Int.mul_nonneg (by omega) hp), Int.mul_ediv_mul_of_pos _ _ g]
theorem dec_eq_i {q : Rat} {n : Int} (h : (q.den : Int) = 1) : decide (q = (n : Rat)) = decide (q.num = n) := by
  rw [decide_eq_decide]
  constructor
  · intro z; rw [z]; rfl
  · intro z; rw [den_one h, z]
theorem dec_eq_i' {q : Rat} {n : Int} (h : ¬ (q.den : Int) = 1) : decide (q = (n : Rat)) = false := by
  rw [decide_eq_false_iff_not]; intro z; rw [z] at h; exact h rfl
theorem dec_eq_r {q r : Rat} (h : q.num = r.num) : decide (q = r) = decide ((q.den : Int) = r.den) := by
  rw [decide_eq_decide, ← eq_iff]; exact ⟨fun z => z.2, fun z => ⟨h, z⟩⟩
theorem dec_eq_r' {q r : Rat} (h : ¬ q.num = r.num) : decide (q = r) = false := by
  rw [decide_eq_false_iff_not]; intro z; exact h (by rw [z])
theorem dec_lt {q r : Rat} : decide (q < r) = decide (q.num * r.den < r.num * q.den) := by rw [decide_eq_decide, Rat.lt_iff]
theorem dec_le {q r : Rat} : decide (q ≤ r) = decide (q.num * r.den ≤ r.num * q.den) := by rw [decide_eq_decide, Rat.le_iff]
theorem dec_gt {q r : Rat} : decide (r < q) = decide (r.num * q.den < q.num * r.den) := dec_lt
theorem dec_ge {q r : Rat} : decide (r ≤ q) = decide (r.num * q.den ≤ q.num * r.den) := dec_le
end
section
open PySem PySem.Spec PyProof.Rows L2
/-- what the written part says of a plain own class, with what isinstance asks -/
structure ClsP (K : PySem.W.Frag) (C : Addr) : Prop where
  o : ClsO K C
  nb : PySem.W.subIn K (.ref C) (.type "bool") = some false
  ci : (PySem.W.clsIn K C).isSome = true
  ct : PySem.W.typeIn K (.ref C) = some (.type "type")
section
variable {K : PySem.W.Frag} {C D : Addr} {b : Bool} {t : Value}
theorem kit_self : PySem.W.kitOne K t t = some true := by
  unfold PySem.W.kitOne; rw [if_pos (by exact beq_self_eq_true t)]
theorem kit_own (k : ClsP K C) (h : PySem.W.subIn K t (.ref C) = some b) (hne : (t == Value.ref C) = false) : PySem.W.kitOne K t (.ref C) = some b := by
  unfold PySem.W.kitOne; rw [if_neg (by rw [hne]; simp)]
  show (if ((PySem.W.clsIn K C).isSome && PySem.W.typeIn K (.ref C) == some (.type "type")) = true then _ else _) = _
  rw [k.ci, k.ct, if_pos (by simp)]; exact h
theorem kit_ni (k : ClsP K C) : PySem.W.kitOne K (.ref C) (.type "int") = some false := by
  unfold PySem.W.kitOne; rw [if_neg (by intro z; cases beq_iff_eq.mp z)]
  show (if PySem.W.kitMeta "int" = true then PySem.W.subIn K (.ref C) (.type "int") else none) = _
  rw [if_pos (by decide +kernel)]; exact k.o.ni
theorem kit_nb (k : ClsP K C) : PySem.W.kitOne K (.ref C) (.type "bool") = some false := by
  unfold PySem.W.kitOne; rw [if_neg (by intro z; cases beq_iff_eq.mp z)]
  show (if PySem.W.kitMeta "bool" = true then PySem.W.subIn K (.ref C) (.type "bool") else none) = _
  rw [if_pos (by decide +kernel)]; exact k.nb
theorem kit_int (k : ClsP K C) : PySem.W.kitOne K (.type "int") (.ref C) = some false := kit_own k sub_int (Bool.eq_false_iff.mpr fun z => by cases beq_iff_eq.mp z)
theorem kit_str (k : ClsP K C) : PySem.W.kitOne K (.type "str") (.ref C) = some false := kit_own k sub_str (Bool.eq_false_iff.mpr fun z => by cases beq_iff_eq.mp z)
theorem kit_bool (k : ClsP K C) : PySem.W.kitOne K (.type "bool") (.ref C) = some false := kit_own k sub_bool (Bool.eq_false_iff.mpr fun z => by cases beq_iff_eq.mp z)
theorem kit_none (k : ClsP K C) : PySem.W.kitOne K (.type "NoneType") (.ref C) = some false := kit_own k sub_none (Bool.eq_false_iff.mpr fun z => by cases beq_iff_eq.mp z)
theorem kit_tup (k : ClsP K C) : PySem.W.kitOne K (.type "tuple") (.ref C) = some false := kit_own k sub_tuple (Bool.eq_false_iff.mpr fun z => by cases beq_iff_eq.mp z)
theorem kit_lst (k : ClsP K C) : PySem.W.kitOne K (.type "list") (.ref C) = some false := kit_own k sub_list (Bool.eq_false_iff.mpr fun z => by cases beq_iff_eq.mp z)
theorem ki_ii : PySem.W.kitOne K (.type "int") (.type "int") = some true := kit_ty (by decide +kernel)
theorem ki_ib : PySem.W.kitOne K (.type "int") (.type "bool") = some false := kit_ty (by decide +kernel)
theorem ki_bi : PySem.W.kitOne K (.type "bool") (.type "int") = some true := kit_ty (by decide +kernel)
theorem ki_bb : PySem.W.kitOne K (.type "bool") (.type "bool") = some true := kit_ty (by decide +kernel)
theorem ki_si : PySem.W.kitOne K (.type "str") (.type "int") = some false := kit_ty (by decide +kernel)
theorem ki_ni : PySem.W.kitOne K (.type "NoneType") (.type "int") = some false := kit_ty (by decide +kernel)
theorem ki_ti : PySem.W.kitOne K (.type "tuple") (.type "int") = some false := kit_ty (by decide +kernel)
theorem ki_li : PySem.W.kitOne K (.type "list") (.type "int") = some false := kit_ty (by decide +kernel)
theorem tyI {H : Hp} {n : Int} : TyX K H (.int n) (.type "int") := .base (.int n)
theorem tyB {H : Hp} {n : Bool} : TyX K H (.bl n) (.type "bool") := .base (.bl n)
theorem tyS {H : Hp} {n : Str} : TyX K H (.str n) (.type "str") := .base (.str n)
theorem tyN {H : Hp} : TyX K H .non (.type "NoneType") := .base .non
theorem tyT {H : Hp} {a : Addr} {xs : List V} (h : H a = some (.tup xs)) : TyX K H (.ref a) (.type "tuple") := .base (.tup h)
theorem tyL {H : Hp} {a : Addr} {xs : List V} (h : H a = some (.lst xs)) : TyX K H (.ref a) (.type "list") := .base (.lst h)
end
def CMulA (i j : Int) : Prop := CMul i j ∨ CMulW i j
section
variable {X : Cx}
theorem op_mulA : OpR X (binaryOp .Mult) (rI CMulA fun i j => .int (i * j)) := L2.opI fun _ _ _ _ _ _ _ hc q => mul_int q (hc.elim CMul.ok CMulW.ok)
variable {a b : Value} {r1 r2 : R2}
/-- two rules, of which one serves -/
theorem op_or {f : Value → Value → Sem Value} (h1 : OpR X f r1) (h2 : OpR X f r2) : OpR X f (fun x y H Q => r1 x y H Q ∨ r2 x y H Q) := by
  intro pins s σ H x y v u Q I rx ry h
  exact h.elim (h1 pins s σ H x y v u Q I rx ry) (h2 pins s σ H x y v u Q I rx ry)
theorem un_or {f : Value → Sem Value} {r1 r2 : V → Hp → VK → Prop} (h1 : UnR X f r1) (h2 : UnR X f r2) : UnR X f (fun x H Q => r1 x H Q ∨ r2 x H Q) := by
  intro pins s σ H x v Q I rx h
  exact h.elim (h1 pins s σ H x v Q I rx) (h2 pins s σ H x v Q I rx)
theorem tru_or {r1 r2 : V → Hp → (Bool → Hp → Prop) → Prop} (h1 : TruR X r1) (h2 : TruR X r2) : TruR X (fun x H Q => r1 x H Q ∨ r2 x H Q) := by
  intro pins s σ H x v Q I rx h
  exact h.elim (h1 pins s σ H x v Q I rx) (h2 pins s σ H x v Q I rx)
theorem call_or {f : Value} {r1 r2 : List V → Hp → VK → Prop} (h1 : CallR X f r1) (h2 : CallR X f r2) : CallR X f (fun x H Q => r1 x H Q ∨ r2 x H Q) := by
  intro pins s σ H xs us Q I r h
  exact h.elim (h1 pins s σ H xs us Q I r) (h2 pins s σ H xs us Q I r)
end
theorem cmA_bt {i j : Int} (hi : Bt i) (hj : Bt j) : CMulA i j := .inr (wide_mul hi hj (by decide) (by decide) (by decide))
theorem le64 {i : Int} (h : i.natAbs < 2 ^ 64) : -(2 ^ 64) < i ∧ i < 2 ^ 64 := by
  have e : (2 : Nat) ^ 64 = 18446744073709551616 := by decide
  have e' : (2 : Int) ^ 64 = 18446744073709551616 := by decide
  rw [e']; rw [e] at h; omega
theorem cmA_l {i j : Int} (h : i.natAbs < 2 ^ 64) : CMulA i j := .inl (.inl (le64 h))
theorem cmA_r {i j : Int} (h : j.natAbs < 2 ^ 64) : CMulA i j := .inl (.inr (le64 h))
theorem cmA_w {i j : Int} {n m : Nat} (hi : i.natAbs < 2 ^ n) (hj : j.natAbs < 2 ^ m) (h : n + m ≤ 999998) : CMulA i j :=
  .inr (wide_mul (a := n + 1) (b := m + 1) (pow_mono hi (Nat.le_succ n)) (pow_mono hj (Nat.le_succ m)) (Nat.succ_pos _) (Nat.succ_pos _) (by omega))
def fR (q : Rat) : List (Str × V) := [("top", .int q.num), ("bottom", .int (q.den : Int))]
def IsR (C : Addr) (H : Hp) (p : Addr) (q : Rat) : Prop := ∃ dx, H p = some (.ins C dx (fR q))
def NumV (C : Addr) (H : Hp) (v : V) (q : Rat) : Prop := (∃ n : Int, v = .int n ∧ q = (n : Rat)) ∨ ∃ p, v = .ref p ∧ IsR C H p q
/-- a value that is neither an int nor a Ratio -/
def Wrong (K : PySem.W.Frag) (C : Addr) (H : Hp) (v : V) : Prop := ∃ t, TyX K H v t ∧ PySem.W.kitOne K t (.ref C) = some false ∧ (PySem.W.kitOne K t (.type "int") = some false ∨ (PySem.W.kitOne K t (.type "int") = some true ∧ PySem.W.kitOne K t (.type "bool") = some true))
theorem IsR.le {C p : Addr} {H H' : Hp} {q : Rat} (l : Le H H') (h : IsR C H p q) : IsR C H' p q := by
  obtain ⟨dx, h⟩ := h
  exact ⟨dx, l _ _ h trivial⟩
theorem IsR.ex {C p : Addr} {H H' : Hp} {q : Rat} (l : Ex H H') (h : IsR C H p q) : IsR C H' p q := h.le l.le
theorem NumV.le {C : Addr} {v : V} {H H' : Hp} {q : Rat} (l : Le H H') (h : NumV C H v q) : NumV C H' v q := by
  rcases h with h | ⟨p, e, h⟩
  · exact .inl h
  · exact .inr ⟨p, e, h.le l⟩
theorem NumV.ex {C : Addr} {v : V} {H H' : Hp} {q : Rat} (l : Ex H H') (h : NumV C H v q) : NumV C H' v q := h.le l.le
structure RT (K : PySem.W.Frag) (mg : Str → Option Value) (C : Addr) : Prop where
  k : ClsP K C
  nT : NoAttr K C "top"
  nB : NoAttr K C "bottom"
  mgC : mg "Ratio" = some (.ref C)
theorem tb_ne : ¬ (("top" : Str) = "bottom") := by decide +kernel
theorem tb_ne' : ¬ (("bottom" : Str) = "top") := by decide +kernel
theorem lk_top {q : Rat} : (fR q).lookup ("top" : Str) = some (.int q.num) := by
  unfold fR; rw [List.lookup_cons]; simp
theorem lk_bot {q : Rat} : (fR q).lookup ("bottom" : Str) = some (.int (q.den : Int)) := by
  unfold fR
  rw [List.lookup_cons, show (("bottom" : Str) == "top") = false from by decide +kernel]
  show ([(("bottom" : Str), V.int (q.den : Int))]).lookup ("bottom" : Str) = _
  rw [List.lookup_cons]; simp
theorem lk_no {q : Rat} {m : Str} (h1 : (m == ("top" : Str)) = false) (h2 : (m == ("bottom" : Str)) = false) : (fR q).lookup m = none := by
  unfold fR
  rw [List.lookup_cons, h1]
  show ([(("bottom" : Str), V.int (q.den : Int))]).lookup m = _
  rw [List.lookup_cons, h2]; rfl
theorem fR_made {a b : Int} : putF "bottom" (.int b) (putF "top" (.int a) []) = [(("top" : Str), V.int a), (("bottom" : Str), V.int b)] := by
  show (if ("top" : Str) = "bottom" then _ else (("top" : Str), V.int a) :: putF "bottom" (V.int b) []) = _
  rw [if_neg tb_ne]; rfl
section
variable {K : PySem.W.Frag} {mg : Str → Option Value} {C a : Addr} {H : Hp} {Q : VK} {q : Rat} {E : XK} {σ : L2.St} {ta : TE} {f : Str} {v : V} {D : Ends}
/-- the field f of the instance x -/
def FldAt (K : PySem.W.Frag) (f : Str) (x : V) (H : Hp) (Q : VK) : Prop := ∃ a C dx fs v, x = .ref a ∧ H a = some (.ins C dx fs) ∧ Cls K C ∧ NoAttr K C f ∧ fs.lookup f = some v ∧ Q v H
theorem r_fld (k : ta σ H fun x H1 => FldAt K f x H1 Q) : tFld K ta f σ H Q := k
theorem r_top {K' : PySem.W.Frag} (T : RT K mg C) (e : K' = K) (h : IsR C H a q) (k : Q (.int q.num) H) : FldAt K' "top" (.ref a) H Q := by
  subst e
  obtain ⟨dx, h⟩ := h
  exact ⟨a, C, dx, _, _, rfl, h, T.k.o.cl, T.nT, lk_top, k⟩
theorem r_bot {K' : PySem.W.Frag} (T : RT K mg C) (e : K' = K) (h : IsR C H a q) (k : Q (.int (q.den : Int)) H) : FldAt K' "bottom" (.ref a) H Q := by
  subst e
  obtain ⟨dx, h⟩ := h
  exact ⟨a, C, dx, _, _, rfl, h, T.k.o.cl, T.nB, lk_bot, k⟩
/-- the store of a field -/
def PutAt (K : PySem.W.Frag) (f : Str) (x v : V) (H : Hp) (N : Hp → Prop) : Prop := ∃ a C dx fs, x = .ref a ∧ H a = some (.ins C dx fs) ∧ Cls K C ∧ NoAttr K C f ∧ fs.length < 1000 ∧ N (upd H a (.ins C dx (putF f v fs)))
theorem IsR.tyx (T : RT K mg C) (h : IsR C H a q) : TyX K H (.ref a) (.ref C) := by
  obtain ⟨dx, h⟩ := h
  exact T.k.o.ty h
def spIsInt (K : PySem.W.Frag) : Sp := fun vs H Q _ => ∃ v t r s, vs = [v] ∧ TyX K H v t ∧ PySem.W.kitOne K t (.type "int") = some r ∧ (r = true → PySem.W.kitOne K t (.type "bool") = some s) ∧ Q (.bl (r && !s)) H
theorem q_isInt_i {n : Int} (k : Q (.bl true) H) : spIsInt K [.int n] H Q E := ⟨_, _, true, false, rfl, tyI, ki_ii, fun _ => ki_ib, k⟩
theorem q_isInt_r (T : RT K mg C) (h : IsR C H a q) (k : Q (.bl false) H) : spIsInt K [.ref a] H Q E := ⟨_, _, false, false, rfl, h.tyx T, kit_ni T.k, (fun z => nomatch z), k⟩
theorem q_isInt_w (h : Wrong K C H v) (k : Q (.bl false) H) : spIsInt K [v] H Q E := by
  obtain ⟨t, ht, _, h | ⟨h1, h2⟩⟩ := h
  · exact ⟨v, t, false, false, rfl, ht, h, (fun z => nomatch z), k⟩
  · exact ⟨v, t, true, true, rfl, ht, h1, (fun _ => h2), k⟩
def spIsNum (K : PySem.W.Frag) (C : Addr) : Sp := fun vs H Q _ => ∃ v, vs = [v] ∧ (((∃ q, NumV C H v q) ∧ Q (.bl true) H) ∨ (Wrong K C H v ∧ Q (.bl false) H))
theorem q_isNum (h : NumV C H v q) (k : Q (.bl true) H) : spIsNum K C [v] H Q E := ⟨v, rfl, .inl ⟨⟨q, h⟩, k⟩⟩
/-- raises the own error CX with the value v -/
def Rz (E : XK) (CX : Addr) (fn : Str) (v : V) (H : Hp) : Prop := ∀ d H', Ex H H' → H' d = some (.xd [(fn, v)]) → H d = none → E (.ref CX) (some d) H'
theorem Rz.at {CX : Addr} {fn : Str} {v : V} (h : Rz E CX fn v H) : ∃ v', [v] = [v'] ∧ ∀ d, H d = none → E (.ref CX) (some d) (upd H d (.xd [(fn, v')])) := ⟨v, rfl, fun d hd => h d _ (Ex.new hd) upd_same hd⟩
theorem Rz.ex {CX : Addr} {fn : Str} {v : V} {H' : Hp} (h : Rz E CX fn v H) (e : Ex H H') : Rz E CX fn v H' := fun d H2 e2 hd hn => h d H2 (e.trans e2) hd (by
  cases z : H d with
  | none => rfl
  | some o => have := e d o z; rw [hn] at this; cases this)
def spRatioOf (K : PySem.W.Frag) (C CB : Addr) : Sp := fun vs H Q E => ∃ v, vs = [v] ∧ ((∃ q, NumV C H v q ∧ Bq q ∧ ∀ H' p, Ex H H' → IsR C H' p q → Q (.ref p) H') ∨ (Wrong K C H v ∧ Rz E CB "value" v H))
/-- __init__ -/
def spRInit (K : PySem.W.Frag) (C CB : Addr) : Sp := fun vs H Q E => ∃ p dx x y, vs = [.ref p, x, y] ∧ H p = some (.ins C dx []) ∧
  ((∃ a b : Int, x = .int a ∧ y = .int b ∧ b ≠ 0 ∧ b.natAbs < 2 ^ 9000 ∧ ∀ H', (∀ c o, H c = some o → c ≠ p → H' c = some o) → IsR C H' p (Rat.divInt a b) → Q .non H') ∨
   (Wrong K C H x ∧ Rz E CB "value" x H) ∨ (∃ a : Int, x = .int a ∧ Wrong K C H y ∧ Rz E CB "value" y H) ∨ (∃ a : Int, x = .int a ∧ y = .int 0 ∧ Rz E CB "value" (.int 0) H))
/-- a new Ratio, whatever it was made of -/
def NewR (C : Addr) (Q : VK) (H : Hp) (q : Rat) : Prop := ∀ H' p, Ex H H' → IsR C H' p q → Q (.ref p) H'
/-- the reading of C(..): the instance is new, __init__ keeps sp -/
def MkAt (C : Addr) (sp : Sp) (dvs : List V) (E : XK) (vs : List V) (H : Hp) (Q : VK) : Prop := ∀ x dx, H x = none → H dx = none → dx ≠ x → sp (.ref x :: (vs ++ dvs)) (upd (upd H dx (.own x)) x (.ins C dx [])) (fun v H2 => v = .non ∧ Q (.ref x) H2) E
/-- the reading of Ratio(a, b) -/
theorem q_mk {CB : Addr} {a b : Int} {dvs vs : List V} (e : vs ++ dvs = [.int a, .int b]) (hb : b ≠ 0) (h9 : b.natAbs < 2 ^ 9000) (k : NewR C Q H (Rat.divInt a b)) : MkAt C (spRInit K C CB) dvs E vs H Q := by
  intro x dx hx hdx hne
  rw [e]
  refine ⟨x, dx, _, _, rfl, upd_same, .inl ⟨a, b, rfl, rfl, hb, h9, fun H' st h => ⟨rfl, k H' x (fun c o hc => ?_) h⟩⟩⟩
  exact st c o (by rw [upd_ne (ne_of_none hc hx), upd_ne (ne_of_none hc hdx)]; exact hc) (ne_of_none hc hx)
/-- a method of one argument: a number of either kind -/
def spR1 (C : Addr) (g : Rat → Rat → Rat) (ok : Rat → Rat → Prop) : Sp := fun vs H Q _ => ∃ a v q r, vs = [.ref a, v] ∧ IsR C H a q ∧ NumV C H v r ∧ Bq q ∧ Bq r ∧ ok q r ∧ NewR C Q H (g q r)
/-- .. an int alone -/
def spRI (C : Addr) (g : Rat → Rat → Rat) (ok : Rat → Rat → Prop) : Sp := fun vs H Q _ => ∃ a q n, vs = [.ref a, .int n] ∧ IsR C H a q ∧ Bq q ∧ Bt n ∧ ok q (n : Rat) ∧ NewR C Q H (g q (n : Rat))
/-- a value, whatever was made on the way -/
def NewV (Q : VK) (H : Hp) (v : V) : Prop := ∀ H', Ex H H' → Q v H'
/-- a comparison -/
def spRB (C : Addr) (g : Rat → Rat → Bool) : Sp := fun vs H Q _ => ∃ a v q r, vs = [.ref a, v] ∧ IsR C H a q ∧ NumV C H v r ∧ Bq q ∧ Bq r ∧ NewV Q H (.bl (g q r))
/-- without an argument -/
def spR0 (C : Addr) (g : Rat → Rat) : Sp := fun vs H Q _ => ∃ a q, vs = [.ref a] ∧ IsR C H a q ∧ Bq q ∧ NewR C Q H (g q)
def spRV (C : Addr) (g : Rat → V) : Sp := fun vs H Q _ => ∃ a q, vs = [.ref a] ∧ IsR C H a q ∧ Bq q ∧ Q (g q) H
end
section
variable {X : Cx} {pos : Pos}
/-- a name that is not reached -/
theorem pe_ni {e : Expr} : PE X e (fun _ _ _ => False) := ⟨fun _ _ _ _ _ _ h => h.elim⟩
end
end
section
open PySem PySem.Spec PyProof.Rows L2
theorem st_set {σ : L2.St} {i : Nat} {v : Option V} {τ : L2.St} {QS : L2.St → Hp → Prop} {H : Hp} (e : σ.set i v = τ) (h : QS τ H) : QS (σ.set i v) H := by rw [e]; exact h
theorem r_blP {b : Bool} {R : Bool → Prop} (k : R b) : ∃ b', V.bl b = .bl b' ∧ R b' := ⟨b, rfl, k⟩
theorem Bq.n {q : Rat} (h : Bq q) : Bt q.num := h.1
theorem Bq.d {q : Rat} (h : Bq q) : Bt (q.den : Int) := h.2
theorem bt_abs {i : Int} (h : Bt i) : Bt (i.natAbs : Int) := by unfold Bt; rw [Int.natAbs_natCast]; exact h
theorem bt_neg {i : Int} (h : Bt i) : Bt (-i) := by unfold Bt; rw [Int.natAbs_neg]; exact h
theorem bt_mul9 {i j : Int} (hi : Bt i) (hj : Bt j) : (i * j).natAbs < 2 ^ 9000 := pow_mono (lt_mul hi hj) (by decide)
theorem bt_9 {i : Int} (hi : Bt i) : i.natAbs < 2 ^ 9000 := pow_mono hi (by decide)
section
variable {K : PySem.W.Frag} {mg : Str → Option Value} {C a p CB : Addr} {H : Hp} {Q : VK} {q r : Rat} {E : XK} {σ : L2.St} {t : TA} {ta : TE} {sp : Sp} {dvs : List V} {f m : Str} {v : V} {D : Ends} {k : Nat} {ok : Rat → Rat → Prop} {g : Rat → Rat → Rat}
theorem r_ck (h : t σ H fun vs H1 => MkAt C sp dvs E vs H1 Q) : tK1 C sp dvs E t σ H Q := h
theorem r_cm (h : ta σ H fun x H1 => ∃ a dx fs, x = .ref a ∧ H1 a = some (.ins C dx fs) ∧ fs.lookup m = none ∧ t σ H1 fun vs H2 => sp (.ref a :: vs) H2 Q E) : tM1 C m sp E ta t σ H Q := h
theorem q_ratioOf (h : NumV C H v q) (b : Bq q) (k : NewR C Q H q) : spRatioOf K C CB [v] H Q E := ⟨v, rfl, .inl ⟨q, h, b, k⟩⟩
theorem q_ratioOfW (h : Wrong K C H v) (k : Rz E CB "value" v H) : spRatioOf K C CB [v] H Q E := ⟨v, rfl, .inr ⟨h, k⟩⟩
theorem q_isNumW (h : Wrong K C H v) (k : Q (.bl false) H) : spIsNum K C [v] H Q E := ⟨v, rfl, .inr ⟨h, k⟩⟩
theorem NewR.ex {H' : Hp} (k : NewR C Q H q) (e : Ex H H') : NewR C Q H' q := fun H2 p e2 h => k H2 p (e.trans e2) h
theorem NewV.ex {H' : Hp} (k : NewV Q H v) (e : Ex H H') : NewV Q H' v := fun H2 e2 => k H2 (e.trans e2)
theorem NewV.here (k : NewV Q H v) : Q v H := k H (Ex.refl H)
theorem num_i {n : Int} : NumV C H (.int n) (n : Rat) := .inl ⟨n, rfl, rfl⟩
theorem num_r (h : IsR C H p q) : NumV C H (.ref p) q := .inr ⟨p, rfl, h⟩
theorem bq_i {n : Int} (h : Bt n) : Bq (n : Rat) := ⟨h, by show (1 : Int).natAbs < _; exact Nat.one_lt_two_pow (by decide)⟩
/-- an operator's reading, x a Ratio -/
theorem o_O {y : V} {ok : V → Hp → Prop} (h : IsR C H a q) (ho : ok y H) (k : sp [.ref a, y] H Q E) : rO C sp E ok (.ref a) y H Q := by
  obtain ⟨dx, h⟩ := h; exact ⟨a, dx, _, rfl, h, ho, k⟩
theorem o_ins (h : IsR C H p q) : isIns C (.ref p) H := by
  obtain ⟨dx, h⟩ := h; exact ⟨p, dx, _, rfl, h⟩
theorem o_int {n : Int} : isInt (.int n) H := ⟨n, rfl⟩
theorem o_any {t : Value} {y : V} (h : TyX K H y t) (n : PySem.W.notFirst K C t = true) : isAny K C y H := ⟨t, h, n⟩
theorem o_anyR (T : RT K mg C) (h : IsR C H p q) : isAny K C (.ref p) H := ⟨_, h.tyx T, nf_self⟩
theorem o_anyI {n : Int} : isAny K C (.int n) H := ⟨_, tyI, nf_of sub_int⟩
theorem o_Or {n : Int} (h : IsR C H a q) (k : sp [.ref a, .int n] H Q E) : rOr C sp E (.int n) (.ref a) H Q := by
  obtain ⟨dx, h⟩ := h; exact ⟨a, dx, _, n, rfl, rfl, h, k⟩
theorem o_NO {y : V} {ok : V → Hp → Prop} (h : IsR C H a q) (ho : ok y H) (k : sp [.ref a, y] H (kNB Q) E) : rNO C sp E ok (.ref a) y H Q := by
  obtain ⟨dx, h⟩ := h; exact ⟨a, dx, _, rfl, h, ho, k⟩
theorem o_U (h : IsR C H a q) (k : sp [.ref a] H Q E) : rU1 C sp E (.ref a) H Q := by
  obtain ⟨dx, h⟩ := h; exact ⟨a, dx, _, rfl, h, k⟩
theorem o_C {kk : VK → VK} (h : IsR C H a q) (k : sp [.ref a] H (kk Q) E) : rC1 C sp E kk [.ref a] H Q := by
  obtain ⟨dx, h⟩ := h; exact ⟨a, dx, _, rfl, h, k⟩
theorem o_T {QT : Bool → Hp → Prop} (h : IsR C H a q) (k : sp [.ref a] H (fun v H' => ∃ b, v = .bl b ∧ QT b H') E) : ∃ a' dx fs, V.ref a = .ref a' ∧ H a' = some (.ins C dx fs) ∧ sp [.ref a'] H (fun v H' => ∃ b, v = .bl b ∧ QT b H') E := by
  obtain ⟨dx, h⟩ := h; exact ⟨a, dx, _, rfl, h, k⟩
theorem o_M {R : Addr → Prop} (h : IsR C H a q) (hm : (m == ("top" : Str)) = false) (hm' : (m == ("bottom" : Str)) = false) (k : R a) : ∃ a' dx fs, V.ref a = .ref a' ∧ H a' = some (.ins C dx fs) ∧ fs.lookup m = none ∧ R a' := by
  obtain ⟨dx, h⟩ := h; exact ⟨a, dx, _, rfl, h, lk_no hm hm', k⟩
theorem q_R1 (h : IsR C H a q) (hv : NumV C H v r) (b : Bq q) (b' : Bq r) (o : ok q r) (k : NewR C Q H (g q r)) : spR1 C g ok [.ref a, v] H Q E := ⟨a, v, q, r, rfl, h, hv, b, b', o, k⟩
theorem q_RI {n : Int} (h : IsR C H a q) (b : Bq q) (b' : Bt n) (o : ok q (n : Rat)) (k : NewR C Q H (g q (n : Rat))) : spRI C g ok [.ref a, .int n] H Q E := ⟨a, q, n, rfl, h, b, b', o, k⟩
theorem q_RB {g : Rat → Rat → Bool} (h : IsR C H a q) (hv : NumV C H v r) (b : Bq q) (b' : Bq r) (k : NewV Q H (.bl (g q r))) : spRB C g [.ref a, v] H Q E := ⟨a, v, q, r, rfl, h, hv, b, b', k⟩
theorem q_R0 {g : Rat → Rat} (h : IsR C H a q) (b : Bq q) (k : NewR C Q H (g q)) : spR0 C g [.ref a] H Q E := ⟨a, q, rfl, h, b, k⟩
theorem q_RV {g : Rat → V} (h : IsR C H a q) (b : Bq q) (k : Q (g q) H) : spRV C g [.ref a] H Q E := ⟨a, q, rfl, h, b, k⟩
end
/-- a fact carried to the heap of the goal -/
theorem r_sfld {K : PySem.W.Frag} {σ : L2.St} {H : Hp} {ta tv : TE} {f : Str} {D : Ends} (k : tv σ H fun y H1 => ta σ H1 fun x H2 => PutAt K f x y H2 (fun H' => D.nx σ H')) : sFld K ta tv f D σ H := k
/-- a field of an instance of which all is known -/
theorem r_put {K K' : PySem.W.Frag} {C p dx : Addr} {fs : List (Str × V)} {f : Str} {v : V} {H : Hp} {N : Hp → Prop} (c : Cls K C) (n : NoAttr K C f) (e : K' = K) (h : H p = some (.ins C dx fs)) (hl : fs.length < 1000) (k : N (upd H p (.ins C dx (putF f v fs)))) : PutAt K' f (.ref p) v H N := by
  subst e
  exact ⟨p, C, dx, fs, rfl, h, c, n, hl, k⟩
theorem upd_upd {H : Hp} {p : Addr} {o o' : HO} : upd (upd H p o) p o' = upd H p o' := by
  funext b
  by_cases e : b = p
  · subst e; rw [upd_same, upd_same]
  · rw [upd_ne e, upd_ne e, upd_ne e]
theorem r_Ibt {a b : Int} {g : Int → Int → V} {H : Hp} {Q : VK} (ha : Bt a) (hb : Bt b) (k : Q (g a b) H) : rI CMulA g (.int a) (.int b) H Q := r_I (cmA_bt ha hb) k
theorem r_Ir {a b : Int} {g : Int → Int → V} {H : Hp} {Q : VK} (hb : b.natAbs < 2 ^ 64) (k : Q (g a b) H) : rI CMulA g (.int a) (.int b) H Q := r_I (cmA_r hb) k
theorem r_Il {a b : Int} {g : Int → Int → V} {H : Hp} {Q : VK} (ha : a.natAbs < 2 ^ 64) (k : Q (g a b) H) : rI CMulA g (.int a) (.int b) H Q := r_I (cmA_l ha) k
end
open PySem PySem.Spec PyProof.Rows L2
local macro_rules | `(tactic| wtm_at "of_up") => `(tactic| first | assumption | (apply IsR.ex; assumption; wtm_at "of_up") | (apply NumV.ex; assumption; wtm_at "of_up") | (apply num_r; wtm_at "of_up") | exact num_i | (apply NewR.ex; wtm_at "of_up"; assumption) | (apply NewV.ex; wtm_at "of_up"; assumption) | (apply Rz.ex; wtm_at "of_up"; assumption))
section
open PySem PySem.Spec PyProof.Rows L2
end
open PySem PySem.Spec PyProof.Rows L2
local macro_rules | `(tactic| wtm_at "of_btl") => `(tactic| first | assumption | exact Bq.n (by assumption) | exact Bq.d (by assumption) | (refine bt_neg ?_; wtm_at "of_btl") | (refine bt_abs ?_; wtm_at "of_btl") | (refine bq_i ?_; wtm_at "of_btl"))
section
open PySem PySem.Spec PyProof.Rows L2
end
open PySem PySem.Spec PyProof.Rows L2
local macro_rules | `(tactic| wtm_at "of_rd1") => `(tactic| with_reducible first
  | refine r_seq ?_ | refine r_asg ?_ | refine r_ret ?_ | refine r_sfld ?_ | refine r_ifS ?_ | refine r_drop ?_ | refine r_next ?_ | refine r_retN ?_ | refine r_gcd ?_
  | refine r_op ?_ | refine r_un ?_ | refine r_fld ?_ | refine r_cons ?_ | refine r_nil ?_ | refine r_c ?_ | refine r_c1 ?_ | refine r_cb ?_ | refine r_ck ?_ | refine r_cm ?_
  | refine r_test ?_ | refine r_B ?_ | refine r_and ?_ | refine r_or ?_ | refine r_not ?_ | refine r_andV ?_ | refine r_orV ?_ | refine r_notV ?_ | refine r_ifE ?_
  | refine r_tr ?_ | refine r_name ?_ | refine r_blP ?_ | refine r_tup ?_ | refine r_lst ?_ | refine r_gCons ?_ | refine r_gNil ?_ | refine r_rz ?_
  | refine r_var (by with_unfolding_all rfl) ?_
  | refine iteT ?_ | refine iteF ?_ | refine iteNT ?_ | refine iteNF ?_
  | refine r_I0 ?_ | refine r_Ibt (by wtm_at "of_btl") (by wtm_at "of_btl") ?_ | refine r_U ?_ | refine r_eqI ?_ | refine r_neI ?_
  | refine r_top (by assumption) (by with_unfolding_all rfl) (by wtm_at "of_up") ?_ | refine r_bot (by assumption) (by with_unfolding_all rfl) (by wtm_at "of_up") ?_)
section
open PySem PySem.Spec PyProof.Rows L2
end
open PySem PySem.Spec PyProof.Rows L2
local macro_rules | `(tactic| wtm_at "of_rd") => `(tactic| repeat wtm_at "of_rd1")
section
open PySem PySem.Spec PyProof.Rows L2
end
section
open PySem PySem.Spec PyProof.Rows L2 RZ
section
variable {K : PySem.W.Frag} {σ : L2.St} {H : Hp} {Q : VK} {QA : List V → Hp → Prop} {D : Ends} {ta tb te : TE} {tr : TA} {wi : TI} {g : TG} {ts : TS} {tt : TT} {vs : List Nat} {a l p : Addr} {xs : List V} {x y v : V} {R : It → Hp → Prop}
def ForIt (J : It) (g : TG) (tb : TS) (D : Ends) (σ : L2.St) (H : Hp) : Prop := ∃ W : Nat → Nat → L2.St → Hp → Prop, (∃ m, W 0 m σ H) ∧ ∀ i m σ H, W i m σ H →
  (J.stop i H ∧ D.nx σ H) ∨ (J.go i H ∧ ∃ N : L2.St → Hp → Prop, (∀ σ' H', N σ' H' → ∃ m', m' < m ∧ W (i + 1) m' σ' H') ∧ ∀ x H', J.yld i H x H' → g x σ H' fun σ2 H2 => tb { D with nx := N, ct := N, bk := D.nx } σ2 H2)
theorem r_for (k : wi σ H fun J H1 => ForIt J g ts D σ H1) : tFor wi g ts D σ H := k
def LcIt (J : It) (g : TG) (tt : TT) (te : TE) (vs : List Nat) (σ : L2.St) (H1 : Hp) (Q : VK) : Prop := ∀ D, H1 D = none → ∃ W : Nat → Nat → Hp → Prop, (∃ m, W 0 m (upd H1 D (.lst []))) ∧ ∀ i m H, W i m H →
  (J.stop i H ∧ Q (.ref D) H) ∨ (J.go i H ∧ ∃ Nx : Hp → Prop, (∀ H', Nx H' → ∃ m', m' < m ∧ W (i + 1) m' H') ∧ ∀ x H', J.yld i H x H' → g x (wipe σ vs) H' fun σ2 H2 => wipe σ2 vs = wipe σ vs ∧ tt σ2 H2 fun b H3 =>
    if b = true then te σ2 H3 fun y H4 => ∃ acc, H4 D = some (.lst acc) ∧ acc.length < sizeLine ∧ Nx (upd H4 D (.lst (acc ++ [y]))) else Nx H3)
theorem r_lc (k : wi σ H fun J H1 => LcIt J g tt te vs σ H1 Q) : tLc wi g tt te vs σ H Q := k
def ItL (K : PySem.W.Frag) (x : V) (H : Hp) (R : It → Hp → Prop) : Prop := ∃ a, x = .ref a ∧ (∃ xs, SqL K H a xs) ∧ R (Itl K a) H
def ItT (K : PySem.W.Frag) (x : V) (H : Hp) (R : It → Hp → Prop) : Prop := ∃ a, x = .ref a ∧ (∃ xs, SqT K H a xs) ∧ R (Itt K a) H
def ItR (vs : List V) (H : Hp) (R : It → Hp → Prop) : Prop := ∃ j : Int, vs = [.int j] ∧ -(2 ^ 62) ≤ j ∧ j < 2 ^ 62 ∧ R (Itr 0 j.toNat) H
def ItR2 (vs : List V) (H : Hp) (R : It → Hp → Prop) : Prop := ∃ i j : Int, vs = [.int i, .int j] ∧ (-(2 ^ 62) ≤ i ∧ i < 2 ^ 62 ∧ -(2 ^ 62) ≤ j ∧ j < 2 ^ 62) ∧ R (Itr i (j - i).toNat) H
def ItR3 (vs : List V) (H : Hp) (R : It → Hp → Prop) : Prop := ∃ (i j c : Int) (n : Nat), vs = [.int i, .int j, .int c] ∧ RgC i j c n ∧ R (Itc i c n) H
def ItZ (K : PySem.W.Frag) (vs : List V) (H : Hp) (R : It → Hp → Prop) : Prop := ∃ a b xs ys, vs = [.ref a, .ref b] ∧ ((SqL K H a xs ∧ SqL K H b ys ∧ R (Itz K a b) H) ∨ (SqT K H a xs ∧ SqT K H b ys ∧ R (ItzT K a b) H))
theorem r_iL (k : ta σ H fun x H1 => ItL K x H1 R) : iList K ta σ H R := k
theorem r_iT (k : ta σ H fun x H1 => ItT K x H1 R) : iTup K ta σ H R := k
theorem r_iR1 (k : tr σ H fun x H1 => ItR x H1 R) : iRng1 tr σ H R := k
theorem r_iR2 (k : tr σ H fun x H1 => ItR2 x H1 R) : iRng2 tr σ H R := k
theorem r_iR3 (k : tr σ H fun x H1 => ItR3 x H1 R) : iRng3 tr σ H R := k
theorem r_iZ (k : tr σ H fun x H1 => ItZ K x H1 R) : iZipA K tr σ H R := k
theorem i_L (h : H a = some (.lst xs)) (k : R (Itl K a) H) : ItL K (.ref a) H R := ⟨a, rfl, ⟨xs, SqL.of h⟩, k⟩
theorem i_T (h : H a = some (.tup xs)) (k : R (Itt K a) H) : ItT K (.ref a) H R := ⟨a, rfl, ⟨xs, SqT.of h⟩, k⟩
theorem n62 {n : Nat} (h : n ≤ 1000000000) : -(2 ^ 62) ≤ (n : Int) ∧ (n : Int) < 2 ^ 62 := by
  have e : (2 : Int) ^ 62 = 4611686018427387904 := by decide
  rw [e]; omega
theorem i_R {n : Nat} {j : Int} (e : j = (n : Int)) (h : n ≤ 1000000000) (k : R (Itr 0 n) H) : ItR [.int j] H R := by
  subst e
  exact ⟨_, rfl, (n62 h).1, (n62 h).2, k⟩
theorem i_ZT {b : Addr} {ys : List V} (h : H a = some (.tup xs)) (h' : H b = some (.tup ys)) (k : R (ItzT K a b) H) : ItZ K [.ref a, .ref b] H R := ⟨a, b, xs, ys, rfl, .inr ⟨SqT.of h, SqT.of h', k⟩⟩
theorem i_ZL {b : Addr} {ys : List V} (h : H a = some (.lst xs)) (h' : H b = some (.lst ys)) (k : R (Itz K a b) H) : ItZ K [.ref a, .ref b] H R := ⟨a, b, xs, ys, rfl, .inl ⟨SqL.of h, SqL.of h', k⟩⟩
/-- one turn of a loop: the body, with where it goes on -/
def Turn1 (g : TG) (tb : TS) (D : Ends) (N : L2.St → Hp → Prop) (x : V) (σ : L2.St) (H : Hp) : Prop := g x σ H fun σ2 H2 => tb { D with nx := N, ct := N, bk := D.nx } σ2 H2
theorem fL (Pv : Nat → L2.St → Hp → Prop) (h0 : Pv 0 σ H) (hl : ∀ i σ H, i ≤ xs.length → Pv i σ H → H a = some (.lst xs))
    (hs : ∀ i x σ H, xs[i]? = some x → Pv i σ H → Turn1 g ts D (Pv (i + 1)) x σ H) (hd : ∀ σ H, Pv xs.length σ H → D.nx σ H) : ForIt (Itl K a) g ts D σ H := for_list Pv h0 (fun i σ H hi h => SqL.of (hl i σ H hi h)) hs hd
theorem fR' {lo : Int} {n : Nat} (Pv : Nat → L2.St → Hp → Prop) (h0 : Pv 0 σ H) (hs : ∀ i σ H, i < n → Pv i σ H → Turn1 g ts D (Pv (i + 1)) (.int (lo + i)) σ H) (hd : ∀ σ H, Pv n σ H → D.nx σ H) : ForIt (Itr lo n) g ts D σ H := for_range Pv h0 hs hd
theorem fZT {b : Addr} {ys : List V} (hl : xs.length = ys.length) (Pv : Nat → L2.St → Hp → Prop) (h0 : Pv 0 σ H) (hq : ∀ i σ H, Pv i σ H → H a = some (.tup xs) ∧ H b = some (.tup ys))
    (hs : ∀ (i : Nat) (x y : V) (T : Addr) (σ : L2.St) (H H' : Hp), xs[i]? = some x → ys[i]? = some y → Pv i σ H → Ex H H' → H T = none → H' T = some (.tup [x, y]) → Turn1 g ts D (Pv (i + 1)) (.ref T) σ H') (hd : ∀ σ H, Pv xs.length σ H → D.nx σ H) : ForIt (ItzT K a b) g ts D σ H :=
  for_zipT hl Pv h0 (fun i σ H h => ⟨SqT.of (hq i σ H h).1, SqT.of (hq i σ H h).2⟩) (fun i x y T σ H h1 h2 h3 h4 => hs i x y T σ H _ h1 h2 h3 (Ex.new h4) h4 upd_same) hd
/-- a comprehension's item is put to its list -/
def LPut (L : Addr) (P : List V → Hp → Prop) (y : V) (H : Hp) : Prop := ∃ acc, H L = some (.lst acc) ∧ acc.length < sizeLine ∧ ∃ acc', upd H L (.lst (acc ++ [y])) L = some (.lst acc') ∧ P acc' (upd H L (.lst (acc ++ [y])))
theorem lput {L : Addr} {P : List V → Hp → Prop} {acc : List V} (h : H L = some (.lst acc)) (hn : acc.length ≤ 1000000) (k : P (acc ++ [y]) (upd H L (.lst (acc ++ [y])))) : LPut L P y H :=
  ⟨acc, h, by rw [sizeLine_eq]; omega, acc ++ [y], upd_same, k⟩
/-- a turn of a comprehension -/
def LTurn (g : TG) (tt : TT) (te : TE) (vs : List Nat) (σ : L2.St) (L : Addr) (P : List V → Hp → Prop) (x : V) (H : Hp) : Prop :=
  g x (wipe σ vs) H fun σ2 H2 => wipe σ2 vs = wipe σ vs ∧ tt σ2 H2 fun b H3 => if b = true then te σ2 H3 fun y H4 => LPut L P y H4 else ∃ acc, H3 L = some (.lst acc) ∧ P acc H3
theorem lL (Pv : Addr → Nat → List V → Hp → Prop) (h0 : ∀ L, H L = none → ∀ H', Ex H H' → H' L = some (.lst []) → Pv L 0 [] H')
    (hl : ∀ L i acc H', H L = none → i ≤ xs.length → Pv L i acc H' → H' a = some (.lst xs))
    (hs : ∀ L i x acc H', H L = none → xs[i]? = some x → Pv L i acc H' → H' L = some (.lst acc) → LTurn g tt te vs σ L (Pv L (i + 1)) x H')
    (hd : ∀ L acc H', H L = none → H' L = some (.lst acc) → Pv L xs.length acc H' → Q (.ref L) H') : LcIt (Itl K a) g tt te vs σ H Q := by
  intro L hL
  refine lc_list (xs := xs) (fun i H' => ∃ acc, H' L = some (.lst acc) ∧ Pv L i acc H') ⟨[], upd_same, h0 L hL _ (Ex.new hL) upd_same⟩ (fun i H' hi ⟨acc, h1, h2⟩ => SqL.of (hl L i acc H' hL hi h2)) (fun i x H' hx' ⟨acc, h1, h2⟩ => ?_) (fun H' ⟨acc, h1, h2⟩ => hd L acc H' hL h1 h2)
  exact hs L i x acc H' hL hx' h2 h1
theorem lR {lo : Int} {n : Nat} (Pv : Addr → Nat → List V → Hp → Prop) (h0 : ∀ L, H L = none → ∀ H', Ex H H' → H' L = some (.lst []) → Pv L 0 [] H')
    (hs : ∀ L i acc H', H L = none → i < n → Pv L i acc H' → H' L = some (.lst acc) → LTurn g tt te vs σ L (Pv L (i + 1)) (.int (lo + i)) H')
    (hd : ∀ L acc H', H L = none → H' L = some (.lst acc) → Pv L n acc H' → Q (.ref L) H') : LcIt (Itr lo n) g tt te vs σ H Q := by
  intro L hL
  refine lc_range (fun i H' => ∃ acc, H' L = some (.lst acc) ∧ Pv L i acc H') ⟨[], upd_same, h0 L hL _ (Ex.new hL) upd_same⟩ (fun i H' hi ⟨acc, h1, h2⟩ => ?_) (fun H' ⟨acc, h1, h2⟩ => hd L acc H' hL h1 h2)
  exact hs L i acc H' hL hi h2 h1
theorem lRC {lo c : Int} {n : Nat} (Pv : Addr → Nat → List V → Hp → Prop) (h0 : ∀ L, H L = none → ∀ H', Ex H H' → H' L = some (.lst []) → Pv L 0 [] H')
    (hs : ∀ L i acc H', H L = none → i < n → Pv L i acc H' → H' L = some (.lst acc) → LTurn g tt te vs σ L (Pv L (i + 1)) (.int (lo + (i : Nat) * c)) H')
    (hd : ∀ L acc H', H L = none → H' L = some (.lst acc) → Pv L n acc H' → Q (.ref L) H') : LcIt (Itc lo c n) g tt te vs σ H Q := by
  intro L hL
  refine ⟨fun i m H' => m = n - i ∧ i ≤ n ∧ ∃ acc, H' L = some (.lst acc) ∧ Pv L i acc H', ⟨n, by simp, Nat.zero_le _, [], upd_same, h0 L hL _ (Ex.new hL) upd_same⟩, ?_⟩
  rintro i m H' ⟨rfl, hi, acc, h1, h2⟩
  by_cases hlt : i < n
  · refine .inr ⟨hlt, fun H' => ∃ acc, H' L = some (.lst acc) ∧ Pv L (i + 1) acc H', fun H' p' => ⟨n - (i + 1), by omega, rfl, hlt, p'⟩, fun x H'' y => ?_⟩
    obtain ⟨e, y⟩ := y
    subst e y
    exact hs L i acc _ hL hlt h2 h1
  · have e : i = n := by omega
    subst e
    exact .inl ⟨Nat.le_refl _, hd L acc H' hL h1 h2⟩
theorem lT (Pv : Addr → Nat → List V → Hp → Prop) (h0 : ∀ L, H L = none → ∀ H', Ex H H' → H' L = some (.lst []) → Pv L 0 [] H')
    (hl : ∀ L i acc H', H L = none → i ≤ xs.length → Pv L i acc H' → H' a = some (.tup xs))
    (hs : ∀ L i x acc H', H L = none → xs[i]? = some x → Pv L i acc H' → H' L = some (.lst acc) → LTurn g tt te vs σ L (Pv L (i + 1)) x H')
    (hd : ∀ L acc H', H L = none → H' L = some (.lst acc) → Pv L xs.length acc H' → Q (.ref L) H') : LcIt (Itt K a) g tt te vs σ H Q := by
  intro L hL
  refine lc_tup (xs := xs) (fun i H' => ∃ acc, H' L = some (.lst acc) ∧ Pv L i acc H') ⟨[], upd_same, h0 L hL _ (Ex.new hL) upd_same⟩ (fun i H' hi ⟨acc, h1, h2⟩ => SqT.of (hl L i acc H' hL hi h2)) (fun i x H' hx' ⟨acc, h1, h2⟩ => ?_) (fun H' ⟨acc, h1, h2⟩ => hd L acc H' hL h1 h2)
  exact hs L i x acc H' hL hx' h2 h1
/-- a list or a tuple -/
def SeqAt1 (H : Hp) (a : Addr) (xs : List V) : Prop := H a = some (.lst xs) ∨ H a = some (.tup xs)
theorem lLT {J : It} (hJ : (J = Itl K a ∧ H a = some (.lst xs)) ∨ (J = Itt K a ∧ H a = some (.tup xs))) (Pv : Addr → Nat → List V → Hp → Prop) (h0 : ∀ L, H L = none → ∀ H', Ex H H' → H' L = some (.lst []) → Pv L 0 [] H')
    (hl : ∀ L i acc H', H L = none → i ≤ xs.length → Pv L i acc H' → Ex H H')
    (hs : ∀ L i x acc H', H L = none → xs[i]? = some x → Pv L i acc H' → H' L = some (.lst acc) → LTurn g tt te vs σ L (Pv L (i + 1)) x H')
    (hd : ∀ L acc H', H L = none → H' L = some (.lst acc) → Pv L xs.length acc H' → Q (.ref L) H') : LcIt J g tt te vs σ H Q := by
  rcases hJ with ⟨rfl, h⟩ | ⟨rfl, h⟩
  · exact lL Pv h0 (fun L i acc H' h1 h2 h3 => hl L i acc H' h1 h2 h3 _ _ h) hs hd
  · exact lT Pv h0 (fun L i acc H' h1 h2 h3 => hl L i acc H' h1 h2 h3 _ _ h) hs hd
def iOr (w1 w2 : TI) : TI := fun σ H R => w1 σ H R ∨ w2 σ H R
theorem i_LT {i : Nat} (e : σ[i]? = some (some (V.ref a))) (h : SeqAt1 H a xs) (k : ∀ J, ((J = Itl K a ∧ H a = some (.lst xs)) ∨ (J = Itt K a ∧ H a = some (.tup xs))) → R J H) : iOr (iList K (tVar i)) (iTup K (tVar i)) σ H R := by
  rcases h with h | h
  · exact .inl ⟨.ref a, e, a, rfl, ⟨xs, SqL.of h⟩, k _ (.inl ⟨rfl, h⟩)⟩
  · exact .inr ⟨.ref a, e, a, rfl, ⟨xs, SqT.of h⟩, k _ (.inr ⟨rfl, h⟩)⟩
theorem r_lturn {L : Addr} {P : List V → Hp → Prop} (k : g x (wipe σ vs) H fun σ2 H2 => wipe σ2 vs = wipe σ vs ∧ tt σ2 H2 fun b H3 => if b = true then te σ2 H3 fun y H4 => LPut L P y H4 else ∃ acc, H3 L = some (.lst acc) ∧ P acc H3) : LTurn g tt te vs σ L P x H := k
theorem r_yes {QT : Bool → Hp → Prop} (k : QT true H) : tYes σ H QT := k
/-- a while -/
def Tn (Pv : L2.St → Hp → Prop) (μ : L2.St → Hp → Nat) (m : Nat) (tb : TS) (D : Ends) (σ : L2.St) (H1 : Hp) : Prop := ∃ N : L2.St → Hp → Prop, (∀ σ' H', N σ' H' → ∃ m', m' < m ∧ (m' = μ σ' H' ∧ Pv σ' H')) ∧ tb { D with nx := N, ct := N, bk := D.nx } σ H1
theorem tn {Pv : L2.St → Hp → Prop} {μ : L2.St → Hp → Nat} {m : Nat} (k : ts { D with nx := fun σ' H' => Pv σ' H' ∧ μ σ' H' < m, ct := fun σ' H' => Pv σ' H' ∧ μ σ' H' < m, bk := D.nx } σ H) : Tn Pv μ m ts D σ H :=
  ⟨_, fun σ' H' h => ⟨_, h.2, rfl, h.1⟩, k⟩
theorem r_while {c : TT} (Pv : L2.St → Hp → Prop) (μ : L2.St → Hp → Nat) (h0 : Pv σ H) (hs : ∀ σ H, Pv σ H → c σ H fun b H1 => if b = true then Tn Pv μ (μ σ H) ts D σ H1 else D.nx σ H1) : tWhile c ts D σ H := by
  refine ⟨fun m σ H => m = μ σ H ∧ Pv σ H, ⟨_, rfl, h0⟩, ?_⟩
  rintro m σ H ⟨rfl, p⟩
  exact hs σ H p
/-- slices -/
theorem r_sl {r : V → Option Int → Option Int → Hp → VK → Prop} {tl th : TO} (k : te σ H fun x H1 => tl σ H1 fun l H2 => th σ H2 fun u H3 => r x l u H3 Q) : L2.tSl r te tl th σ H Q := k
theorem r_slL {lo hi : Option Int} (h : H a = some (.lst xs)) (k : ∀ p H', Ex H H' → H p = none → H' p = some (.lst (cutV xs lo hi)) → Q (.ref p) H') : rSlL K (.ref a) lo hi H Q := ⟨a, xs, rfl, SqL.of h, fun p hp => k p _ (Ex.new hp) hp upd_same⟩
/-- methods of built-in types -/
theorem r_bm {T : String} {r : V → List V → Hp → VK → Prop} (k : ta σ H fun x H1 => tyV K T x H1 ∧ tr σ H1 fun xs H2 => r x xs H2 Q) : tBM K T r ta tr σ H Q := k
theorem ty_l (h : H a = some (.lst xs)) : tyV K "list" (.ref a) H := .inl ⟨rfl, xs, SqL.of h⟩
theorem r_app (h : H l = some (.lst xs)) (hn : xs.length ≤ 1000000) (k : Q .non (upd H l (.lst (xs ++ [y])))) : rAppend (.ref l) [y] H Q := ⟨l, xs, y, rfl, rfl, h, by rw [sizeLine_eq]; omega, k⟩
theorem r_cat {b : Addr} {zs : List V} (h : H a = some (.lst xs)) (h' : H b = some (.lst zs)) (hn : xs.length + zs.length ≤ 1000000) (k : ∀ p H', Ex H H' → H p = none → H' p = some (.lst (xs ++ zs)) → Q (.ref p) H') : rCat (.ref a) (.ref b) H Q :=
  ⟨a, b, xs, zs, rfl, rfl, h, h', by rw [sizeLine_eq]; omega, fun p hp => k p _ (Ex.new hp) hp upd_same⟩
end
theorem none_of {H H' : Hp} {p : Addr} (e : Ex H H') (h : H' p = none) : H p = none := by
  cases z : H p with
  | none => rfl
  | some o => rw [e _ _ z] at h; cases h
/-- what was there before L stays whatever becomes of L -/
theorem Ex.put {H H' : Hp} {L : Addr} {o : HO} (e : Ex H H') (h : H L = none) : Ex H (upd H' L o) := fun a u q => by
  rw [upd_ne (ne_of_none q h)]; exact e a u q
theorem Le.put {H H' : Hp} {L : Addr} {o : HO} (e : Le H H') (h : H L = none) : Le H (upd H' L o) := fun a u q s => by
  rw [upd_ne (ne_of_none q h)]; exact e a u q s
theorem IsR.put {C p L : Addr} {H : Hp} {q : Rat} {xs : List V} {o : HO} (h : IsR C H p q) (hl : H L = some (.lst xs)) : IsR C (upd H L o) p q := by
  obtain ⟨dx, h⟩ := h
  exact ⟨dx, by rw [upd_ne (ne_of h hl (by intro z; cases z))]; exact h⟩
theorem cutV_all (xs : List V) : cutV xs none none = xs := by
  unfold cutV
  show (xs.drop 0).take (xs.length - 0) = xs
  simp
def rLen (K : PySem.W.Frag) : List V → Hp → VK → Prop := fun xs H Q => ∃ p ys, xs = [.ref p] ∧ (SqL K H p ys ∨ SqT K H p ys) ∧ Q (.int (List.length ys : Int)) H
def rListOf (K : PySem.W.Frag) : List V → Hp → VK → Prop := fun xs H Q => ∃ p ys, xs = [.ref p] ∧ (SqL K H p ys ∨ SqT K H p ys) ∧ ∀ l, H l = none → Q (.ref l) (upd H l (.lst ys))
def rTru (K : PySem.W.Frag) : V → Hp → (Bool → Hp → Prop) → Prop := fun x H Q => ∃ k, TruV K x H k ∧ Q k H
section
variable {X : Cx} {K : PySem.W.Frag} {e o : Expr} {es : List Expr} {ta tv tl to : TE} {tr : TA} {f : Str} {pos pos' p tpos : Pos} {tg : Expr} {value : Expr}
theorem kix_l (h : X.K = K) : IxR X (rIxL K) := by subst h; exact ix_list
theorem kix_t (h : X.K = K) : IxR X (rIxT K) := by subst h; exact ix_tup
theorem kc_len (h : X.K = K) : CallR X (.builtin "len") (rLen K) := by subst h; exact call_len_seq
theorem kc_listof (h : X.K = K) : CallR X (.type "list") (rListOf K) := by subst h; exact call_list_of
theorem kc_isi (h : X.K = K) : CallR X (.builtin "isinstance") (rIsi K) := by subst h; exact call_isi
theorem kc_isiT (h : X.K = K) : CallR X (.builtin "isinstance") (rIsiT K) := by subst h; exact call_isiT
theorem kfld (h : X.K = K) (he : PE X e ta) (hb : attributeBase e f X.env (eval e X.env) = eval e X.env) : PE X (.Attribute e f pos) (tFld K ta f) := by subst h; exact pe_fld he hb
theorem ksfld (h : X.K = K) (ha : PE X o ta) (hv : PE X value tv) (hs : swapsWith value (some (.Attribute o f pos')) pos.line X.env = pure false) : PS X (.Assign [.Attribute o f pos'] value pos) (sFld K ta tv f) := by subst h; exact ps_fld ha hv hs
theorem kpg_tup {es : List Expr} {k : Nat} {t : TGs} (n : Nat) (h : X.K = K) (hc : X.calm = true) (hp : PGs X es t)
    (hn : (assignEach es X.env).length = n := by rfl) (hst : (assignEach es X.env).findIdx? (·.1) = none := by rfl) : PG X (.Tuple es k pos) (gTup K n t) := by subst h; exact pg_tup hc hp hn hst
theorem kpi_l (h : X.K = K) (hl : PE X e tl) : PI X tg e (iList K tl) := by subst h; exact pi_list hl
theorem kpi_t (h : X.K = K) (hl : PE X e tl) : PI X tg e (iTup K tl) := by subst h; exact pi_tup hl
theorem kpi_or {w1 w2 : TI} (h1 : PI X tg e w1) (h2 : PI X tg e w2) : PI X tg e (iOr w1 w2) := ⟨fun pins s σ H R I h => h.elim (h1.run pins s σ H R I) (h2.run pins s σ H R I)⟩
theorem kpi_zip {e2 : Expr} {elts : List Expr} {kk : Nat} (h : X.K = K) (hg : Gl X "zip") (hm : X.mg "zip" = none) (ha : PA X [e, e2] tr)
    (hs : starEach [e, e2] X.env = (false, eval e X.env) :: starEach [e2] X.env := by rfl) (hpl : (backTo pos (starEach [e2] X.env)).any (·.1) = false := by rfl) :
    PI X (.Tuple elts kk tpos) (.Call (.Name "zip" p) [e, e2] [] pos) (RZ.iZipA K tr) := by subst h; exact RZ.pi_zipA hg hm ha hs hpl
theorem ksl_l (h : X.K = K) : SlR X (rSlL K) := by subst h; exact sl_list
theorem ksl_t (h : X.K = K) : SlR X (rSlT K) := by subst h; exact sl_tup
theorem kop_eqD (h : X.K = K) (hu : X.A.units + 64 < cLine) : OpR X (compareOp .Eq) (rEqD K) := by subst h; exact op_eqD hu
theorem kop_neD (h : X.K = K) (hu : X.A.units + 64 < cLine) : OpR X (compareOp .NotEq) (rNeD K) := by subst h; exact op_neD hu
theorem ktru (h : X.K = K) : TruR X (rTru K) := by subst h; exact tru_ok
theorem kapp {e : Expr} {es : List Expr} {apos cpos : Pos} {T id : String} {r : V → List V → Hp → VK → Prop} {name : Str} (h : X.K = K) (pa : PlainAttrs T) (slot : Slot T name id) (hty : typeOf (.builtin id) = pure (.type "method_descriptor")) (hm : MtR X id r) (ho : PE X o to) (ha : PA X (e :: es) tr)
    (hbase : attributeBase o name X.env (eval o X.env) = eval o X.env := by rfl)
    (hfew : ((backTo cpos (starEach (e :: es) X.env)).all (fun x => !x.1) && (backToKw cpos (keywordEach [] X.env)).all (fun x => x.1.isSome)
      && decide ((e :: es).length + ([] : List Keyword).length + (if ([] : List Keyword).isEmpty then 0 else 1) < 30)) = true := by rfl)
    (hline : (apos.endLine == cpos.line) = true := by rfl) (hs : starEach (e :: es) X.env = (false, eval e X.env) :: starEach es X.env := by rfl) (hplain : (backTo cpos (starEach es X.env)).any (·.1) = false := by rfl) :
    PE X (.Call (.Attribute o name apos) (e :: es) [] cpos) (tBM K T r to tr) := by subst h; exact pe_bm pa slot hty hm ho ha hbase hfew hline hs hplain
section
variable {k j : Nat} {C f g : Addr} {sp : Sp} {E : XK}
theorem kC_eq (h : X.K = K) (c : Cm X.prog X.w K X.mg X.base k C "__eq__" f sp) (hr : Room j X.A) (hk : k ≤ j) (hx : Passes (L2.CX X.prog X.w) X E) : OpR X (compareOp .Eq) (rO C sp E (isAny K C)) := by subst h; exact opC_eq c hr hk hx
theorem kC_lt (h : X.K = K) (c : Cm X.prog X.w K X.mg X.base k C "__lt__" f sp) (hr : Room j X.A) (hk : k ≤ j) (hx : Passes (L2.CX X.prog X.w) X E) : OpR X (compareOp .Lt) (rO C sp E (isAny K C)) := by subst h; exact opC_lt c hr hk hx
theorem kC_le (h : X.K = K) (c : Cm X.prog X.w K X.mg X.base k C "__le__" f sp) (hr : Room j X.A) (hk : k ≤ j) (hx : Passes (L2.CX X.prog X.w) X E) : OpR X (compareOp .LtE) (rO C sp E (isAny K C)) := by subst h; exact opC_le c hr hk hx
theorem kC_gt (h : X.K = K) (c : Cm X.prog X.w K X.mg X.base k C "__gt__" f sp) (hr : Room j X.A) (hk : k ≤ j) (hx : Passes (L2.CX X.prog X.w) X E) : OpR X (compareOp .Gt) (rO C sp E (isAny K C)) := by subst h; exact opC_gt c hr hk hx
theorem kC_ge (h : X.K = K) (c : Cm X.prog X.w K X.mg X.base k C "__ge__" f sp) (hr : Room j X.A) (hk : k ≤ j) (hx : Passes (L2.CX X.prog X.w) X E) : OpR X (compareOp .GtE) (rO C sp E (isAny K C)) := by subst h; exact opC_ge c hr hk hx
theorem kNe (h : X.K = K) (kc : ClsO K C) (c : Cm X.prog X.w K X.mg X.base k C "__eq__" f sp) (hr : Room j X.A) (hk : k + 1 ≤ j) (hx : Passes (L2.CX X.prog X.w) X E) : OpR X (compareOp .NotEq) (rNO C sp E (isAny K C)) := by subst h; exact opNe kc c hr hk hx
end
end
section
variable {K : PySem.W.Frag} {H : Hp} {Q : VK} {a : Addr} {xs : List V}
theorem q_lenL (h : H a = some (.lst xs)) (k : Q (.int (xs.length : Int)) H) : rLen K [.ref a] H Q := ⟨a, xs, rfl, .inl (SqL.of h), k⟩
theorem q_lenT (h : H a = some (.tup xs)) (k : Q (.int (xs.length : Int)) H) : rLen K [.ref a] H Q := ⟨a, xs, rfl, .inr (SqT.of h), k⟩
theorem q_lenLT (h : SeqAt1 H a xs) (k : Q (.int (xs.length : Int)) H) : rLen K [.ref a] H Q := by
  rcases h with h | h
  · exact ⟨a, xs, rfl, .inl (SqL.of h), k⟩
  · exact ⟨a, xs, rfl, .inr (SqT.of h), k⟩
theorem q_listL (h : H a = some (.lst xs)) (k : ∀ p H', Ex H H' → H p = none → H' p = some (.lst xs) → Q (.ref p) H') : rListOf K [.ref a] H Q := ⟨a, xs, rfl, .inl (SqL.of h), fun l hl => k l _ (Ex.new hl) hl upd_same⟩
theorem q_truI {i : Int} {QT : Bool → Hp → Prop} (k : QT (decide (i ≠ 0)) H) : rTru K (.int i) H QT := ⟨i != 0, rfl, by
  have e : (i != 0) = decide (i ≠ 0) := by rw [Bool.eq_iff_iff]; simp
  rw [e]; exact k⟩
theorem q_truB {b : Bool} {QT : Bool → Hp → Prop} (k : QT b H) : rTru K (.bl b) H QT := ⟨b, rfl, k⟩
end
theorem r_part {te : TE} {σ : L2.St} {H : Hp} {QO : Option Int → Hp → Prop} (k : te σ H fun x H1 => ∃ i, x = .int i ∧ QO (some i) H1) : tPart te σ H QO := k
theorem r_nopart {σ : L2.St} {H : Hp} {QO : Option Int → Hp → Prop} (k : QO none H) : tNoPart σ H QO := k
theorem r_intP {j : Int} {R : Int → Prop} (k : R j) : ∃ i, V.int j = .int i ∧ R i := ⟨j, rfl, k⟩
theorem r_parP {v w : V} {R : V → V → Prop} (k : R v w) : ∃ v' w', [v, w] = [v', w'] ∧ R v' w' := ⟨v, w, rfl, k⟩
theorem r_parP3 {v w z : V} {R : V → V → V → Prop} (k : R v w z) : ∃ v' w' z', [v, w, z] = [v', w', z'] ∧ R v' w' z' := ⟨v, w, z, rfl, k⟩
theorem r_turn1 {g : TG} {tb : TS} {D : Ends} {N : L2.St → Hp → Prop} {x : V} {σ : L2.St} {H : Hp} (k : g x σ H fun σ2 H2 => tb { D with nx := N, ct := N, bk := D.nx } σ2 H2) : Turn1 g tb D N x σ H := k
end
open PySem PySem.Spec PyProof.Rows L2 RZ
local macro_rules | `(tactic| wtm_at "of_rd1") => `(tactic| with_reducible first
  | refine r_par ?_ | refine r_par3 ?_ | refine r_parP ?_ | refine r_parP3 ?_ | refine r_part ?_ | refine r_nopart ?_ | refine r_intP ?_ | refine r_for ?_ | refine r_iL ?_ | refine r_iT ?_ | refine r_iR1 ?_ | refine r_iR2 ?_ | refine r_iR3 ?_ | refine r_iZ ?_ | refine r_lc ?_ | refine r_sl ?_ | refine r_bm ?_ | refine r_turn1 ?_ | refine r_lturn ?_ | refine r_yes ?_
  | refine r_seq ?_ | refine r_asg ?_ | refine r_ret ?_ | refine r_sfld ?_ | refine r_ifS ?_ | refine r_drop ?_ | refine r_next ?_ | refine r_retN ?_ | refine r_gcd ?_
  | refine r_op ?_ | refine r_un ?_ | refine r_fld ?_ | refine r_cons ?_ | refine r_nil ?_ | refine r_c ?_ | refine r_c1 ?_ | refine r_cb ?_ | refine r_ck ?_ | refine r_cm ?_
  | refine r_test ?_ | refine r_B ?_ | refine r_and ?_ | refine r_or ?_ | refine r_not ?_ | refine r_andV ?_ | refine r_orV ?_ | refine r_notV ?_ | refine r_ifE ?_
  | refine r_tr ?_ | refine r_name ?_ | refine r_blP ?_ | refine r_tup ?_ | refine r_lst ?_ | refine r_gCons ?_ | refine r_gNil ?_ | refine r_rz ?_
  | refine r_var (by with_unfolding_all rfl) ?_
  | refine iteT ?_ | refine iteF ?_ | refine iteNT ?_ | refine iteNF ?_
  | refine r_I0 ?_ | refine r_Ibt (by wtm_at "of_btl") (by wtm_at "of_btl") ?_ | refine r_U ?_ | refine r_eqI ?_ | refine r_neI ?_
  | refine r_top (by assumption) (by with_unfolding_all rfl) (by wtm_at "of_up") ?_ | refine r_bot (by assumption) (by with_unfolding_all rfl) (by wtm_at "of_up") ?_)
section
open PySem PySem.Spec PyProof.Rows L2 RZ
section
variable {K : PySem.W.Frag} {σ : L2.St} {H : Hp} {Q : VK} {QT : Bool → Hp → Prop} {D : Ends} {te : TE} {x : V} {i : Nat} {p : Addr} {xs : List V} {v : V}
theorem r_aug {ti : TIp} (h : σ[i]? = some (some x)) (k : te σ H fun y H1 => ti x y H1 fun z H2 => D.nx (σ.set i (some z)) H2) : tAug i te ti D σ H := ⟨x, h, k⟩
theorem r_ipI {f : Int → Int → Int} {a b : Int} (k : Q (.int (f a b)) H) : ipI f (.int a) (.int b) H Q := ⟨a, b, rfl, rfl, k⟩
theorem r_iL1 (h : H p = some (.lst xs)) {j : Int} (e : atI xs j = some v) (k : Q v H) : rIxL K (.ref p) (.int j) H Q := ⟨p, xs, j, v, rfl, rfl, SqL.of h, e, k⟩
theorem r_iT1 (h : H p = some (.tup xs)) {j : Int} (e : atI xs j = some v) (k : Q v H) : rIxT K (.ref p) (.int j) H Q := ⟨p, xs, j, v, rfl, rfl, SqT.of h, e, k⟩
end
/-- a comprehension's items, all new objects -/
structure Acc (P : Nat → Addr → Hp → Prop) (acc : List V) (i : Nat) (H : Hp) : Prop where
  len : acc.length = i
  at_ : ∀ j, j < i → ∃ p : Addr, acc[j]? = some (V.ref p) ∧ P j p H
theorem Acc.nil {P : Nat → Addr → Hp → Prop} {H : Hp} : Acc P [] 0 H := ⟨rfl, fun j h => absurd h (Nat.not_lt_zero j)⟩
theorem Acc.snoc {P : Nat → Addr → Hp → Prop} {acc : List V} {i : Nat} {H H' : Hp} {p : Addr} (hP : ∀ j q, P j q H → P j q H') (a : Acc P acc i H) (h : P i p H') : Acc P (acc ++ [V.ref p]) (i + 1) H' := by
  refine ⟨by rw [List.length_append, a.len]; rfl, fun j hj => ?_⟩
  by_cases e : j < i
  · obtain ⟨q, h1, h2⟩ := a.at_ j e
    exact ⟨q, by rw [List.getElem?_append_left (by rw [a.len]; exact e)]; exact h1, hP j q h2⟩
  · have : j = i := by omega
    subst this
    exact ⟨p, by rw [List.getElem?_append_right (by rw [a.len]; omega), a.len]; simp, h⟩
theorem r_iRC {i j c : Int} {n : Nat} {H : Hp} {R : It → Hp → Prop} (h : RgC i j c n) (k : R (Itc i c n) H) : ItR3 [.int i, .int j, .int c] H R := ⟨i, j, c, n, rfl, h, k⟩
theorem rg2 {m : Nat} (h : 2 ≤ m) (h' : m ≤ 1000000) : RgC 0 ((m : Int) - 1) 2 (m / 2) := by
  have e : Builtin.Range.rangeSize 0 ((m : Int) - 1) 2 = ((m / 2 : Nat) : Int) := by
    unfold Builtin.Range.rangeSize
    rw [if_pos (by decide), if_pos (by omega)]; omega
  refine ⟨by decide, by decide, ?_, e⟩
  unfold Builtin.Range.small
  rw [e]
  simp only [Builtin.Range.rangeFitsLong, Bool.and_eq_true, Bool.or_eq_true, decide_eq_true_eq, beq_iff_eq, show (2 : Int) > 0 by decide, if_true]
  omega
end
section
open PySem PySem.Spec PyProof.Rows L2
theorem rlt_asymm {a b : Rat} (h : a < b) : ¬ b < a := by grind
theorem rlt_trans {a b c : Rat} (h : a < b) (h' : b < c) : a < c := by grind
theorem rlt_tri {a b : Rat} (h : a ≠ b) : a < b ∨ b < a := by grind
def lexLt : List Rat → List Rat → Bool
  | a :: as, b :: bs => if a = b then lexLt as bs else decide (a < b)
  | [], _ :: _ => true
  | _, [] => false
theorem lexLt_asymm : ∀ a b : List Rat, lexLt a b = true → lexLt b a = false
  | [], [], h => by cases h
  | [], _ :: _, _ => rfl
  | _ :: _, [], h => by cases h
  | a :: as, b :: bs, h => by
    unfold lexLt at h ⊢
    by_cases e : a = b
    · rw [if_pos e] at h; rw [if_pos e.symm]; exact lexLt_asymm as bs h
    · rw [if_neg e] at h; rw [if_neg (fun z => e z.symm)]
      rw [decide_eq_true_iff] at h; rw [decide_eq_false_iff_not]
      exact rlt_asymm h
theorem lexLt_step : ∀ a b c : List Rat, lexLt c a = true → lexLt c b = true ∨ lexLt b a = true
  | [], _, [], h => by cases h
  | [], _, _ :: _, h => by cases h
  | _ :: _, [], [], _ => .inr rfl
  | _ :: _, _ :: _, [], _ => .inl rfl
  | _ :: _, [], _ :: _, _ => .inr rfl
  | a :: as, b :: bs, c :: cs, h => by
    unfold lexLt at h ⊢
    by_cases e : c = a
    · rw [if_pos e] at h
      subst e
      by_cases e2 : c = b
      · rw [if_pos e2, if_pos e2.symm]; exact lexLt_step as bs cs h
      · rw [if_neg e2, if_neg (fun z => e2 z.symm), decide_eq_true_iff, decide_eq_true_iff]
        rcases rlt_tri e2 with z | z
        · exact .inl z
        · exact .inr z
    · rw [if_neg e, decide_eq_true_iff] at h
      by_cases e2 : c = b
      · subst e2; rw [if_neg e, decide_eq_true_iff]; exact .inr h
      · rw [if_neg e2, decide_eq_true_iff]
        rcases rlt_tri e2 with z | z
        · exact .inl z
        · right
          rw [if_neg (fun w => by subst w; exact rlt_asymm h z), decide_eq_true_iff]
          exact rlt_trans z h
def leftOf (n i : Nat) (σ : L2.St) : Nat := match σ[i]? with
  | some (some (V.int a)) => n - a.toNat
  | _ => 0
/-- the Ratios of a tuple or list -/
def RsL (C : Addr) (H : Hp) (xs : List V) (k : List Rat) : Prop := xs.length = k.length ∧ ∀ (i : Nat) (q : Rat), k[i]? = some q → ∃ p : Addr, xs[i]? = some (V.ref p) ∧ IsR C H p q
def KeyT (C : Addr) (H : Hp) (a : Addr) (k : List Rat) : Prop := ∃ xs, H a = some (.tup xs) ∧ RsL C H xs k
def Keys (C : Addr) (H : Hp) (a : Addr) (ks : List (List Rat)) : Prop := ∃ xs, H a = some (.lst xs) ∧ xs.length = ks.length ∧ ∀ (i : Nat) (k : List Rat), ks[i]? = some k → ∃ p : Addr, xs[i]? = some (V.ref p) ∧ KeyT C H p k
/-- keys of one length, of no great numbers -/
def KOk (m : Nat) (ks : List (List Rat)) : Prop := ∀ k ∈ ks, k.length = m ∧ ∀ q ∈ k, Bq q
abbrev nat (n : Nat) : V := .int n
def leK (ks : List (List Rat)) (i j : Nat) : Bool := !(lexLt (ks.getD j []) (ks.getD i []))
def spBefore (C : Addr) : Sp := fun vs H Q _ => ∃ (a b : Addr) (ka kb : List Rat), vs = [.ref a, .ref b] ∧ KeyT C H a ka ∧ KeyT C H b kb ∧ ka.length = kb.length ∧ (∀ q ∈ ka, Bq q) ∧ (∀ q ∈ kb, Bq q) ∧ NewV Q H (.bl (lexLt ka kb))
def spMerged (C : Addr) : Sp := fun vs H Q _ => ∃ (l r k : Addr) (L R : List Nat) (ks : List (List Rat)) (m : Nat), vs = [.ref l, .ref r, .ref k] ∧ H l = some (.lst (L.map nat)) ∧ H r = some (.lst (R.map nat)) ∧ Keys C H k ks ∧ KOk m ks ∧ L.length + R.length ≤ 1000 ∧ (∀ i ∈ L, i < ks.length) ∧ (∀ i ∈ R, i < ks.length) ∧
  ∀ (H' : Hp) (p : Addr), Ex H H' → H p = none → H' p = some (.lst ((List.merge L R (leK ks)).map nat)) → Q (.ref p) H'
def spRanked (C : Addr) : Sp := fun vs H Q _ => ∃ (k : Addr) (ks : List (List Rat)) (m : Nat), vs = [.ref k] ∧ Keys C H k ks ∧ KOk m ks ∧ ks.length ≤ 1000 ∧
  ∀ (H' : Hp) (p : Addr) (idx : List Nat), Ex H H' → H' p = some (.lst (idx.map nat)) → idx.Perm (List.range ks.length) → idx.Pairwise (fun i j => leK ks i j = true) → Q (.ref p) H'
def spAscending (C : Addr) : Sp := fun vs H Q _ => ∃ (k : Addr) (xs : List V) (qs : List Rat), vs = [.ref k] ∧ SeqAt1 H k xs ∧ xs.length = qs.length ∧ (∀ (i : Nat) (q : Rat), qs[i]? = some q → ∃ v, xs[i]? = some v ∧ NumV C H v q) ∧ (∀ q ∈ qs, Bq q) ∧ qs.length ≤ 1000 ∧
  ∀ (H' : Hp) (p : Addr) (ys : List V) (rs : List Rat), Ex H H' → H p = none → H' p = some (.lst ys) → RsL C H' ys rs → rs.Perm qs → rs.Pairwise (· ≤ ·) → Q (.ref p) H'
theorem lex_at {C : Addr} {H : Hp} {xs ys : List V} {ka kb : List Rat} {x y : V} {i : Nat} (hx : RsL C H xs ka) (hy : RsL C H ys kb) (hl : ka.length = kb.length) (h1 : xs[i]? = some x) (h2 : ys[i]? = some y) :
    ∃ q p r p', ka[i]? = some q ∧ kb[i]? = some r ∧ x = .ref p ∧ y = .ref p' ∧ IsR C H p q ∧ IsR C H p' r ∧ lexLt (ka.drop i) (kb.drop i) = if q = r then lexLt (ka.drop (i + 1)) (kb.drop (i + 1)) else decide (q < r) := by
  have i1 : i < xs.length := (List.getElem?_eq_some_iff.mp h1).1
  have ia : i < ka.length := by rw [← hx.1]; exact i1
  have ib : i < kb.length := by rw [← hl]; exact ia
  obtain ⟨p, hp, R1⟩ := hx.2 i ka[i] (List.getElem?_eq_getElem ia)
  obtain ⟨p', hp', R2⟩ := hy.2 i kb[i] (List.getElem?_eq_getElem ib)
  rw [hp] at h1; rw [hp'] at h2
  cases h1; cases h2
  refine ⟨ka[i], p, kb[i], p', List.getElem?_eq_getElem ia, List.getElem?_eq_getElem ib, rfl, rfl, R1, R2, ?_⟩
  rw [List.drop_eq_getElem_cons ia, List.drop_eq_getElem_cons ib]
  rfl
theorem leK_trans (ks : List (List Rat)) (a b c : Nat) (h1 : leK ks a b = true) (h2 : leK ks b c = true) : leK ks a c = true := by
  unfold leK at *
  rw [Bool.not_eq_true'] at *
  cases h : lexLt (ks.getD c []) (ks.getD a []) with
  | false => rfl
  | true =>
    rcases lexLt_step _ (ks.getD b []) _ h with z | z
    · rw [z] at h2; cases h2
    · rw [z] at h1; cases h1
theorem leK_total (ks : List (List Rat)) (a b : Nat) : (leK ks a b || leK ks b a) = true := by
  unfold leK
  cases h : lexLt (ks.getD b []) (ks.getD a []) with
  | false => rfl
  | true => rw [lexLt_asymm _ _ h]; rfl
/-- one step of a merge -/
theorem merge_at {le : Nat → Nat → Bool} {L R : List Nat} {a i x y : Nat} (hx : L[a]? = some x) (hy : R[i]? = some y) :
    List.merge (L.drop a) (R.drop i) le = if le x y = true then x :: List.merge (L.drop (a + 1)) (R.drop i) le else y :: List.merge (L.drop a) (R.drop (i + 1)) le := by
  obtain ⟨ha, rfl⟩ := List.getElem?_eq_some_iff.mp hx
  obtain ⟨hi, rfl⟩ := List.getElem?_eq_some_iff.mp hy
  rw [List.drop_eq_getElem_cons ha, List.drop_eq_getElem_cons hi, List.cons_merge_cons]
theorem nat_at {L : List Nat} {i : Nat} {v : V} (h : (L.map nat)[i]? = some v) : ∃ x, L[i]? = some x ∧ v = nat x := by
  rw [List.getElem?_map] at h
  cases e : L[i]? with
  | none => rw [e] at h; cases h
  | some x => rw [e] at h; exact ⟨x, rfl, (Option.some.inj h).symm⟩
theorem key_at {C : Addr} {H : Hp} {xs : List V} {ks : List (List Rat)} {i : Nat} (hl : xs.length = ks.length) (h : ∀ (i : Nat) (k : List Rat), ks[i]? = some k → ∃ p : Addr, xs[i]? = some (V.ref p) ∧ KeyT C H p k) (hi : i < ks.length) :
    ∃ p, atI xs (i : Int) = some (V.ref p) ∧ KeyT C H p (ks.getD i []) := by
  obtain ⟨p, h1, h2⟩ := h i ks[i] (List.getElem?_eq_getElem hi)
  refine ⟨p, atI_nat h1, ?_⟩
  rw [List.getD_eq_getElem?_getD, List.getElem?_eq_getElem hi]; exact h2
theorem key_ok {m : Nat} {ks : List (List Rat)} {i : Nat} (h : KOk m ks) (hi : i < ks.length) : (ks.getD i []).length = m ∧ ∀ q ∈ ks.getD i [], Bq q := by
  rw [List.getD_eq_getElem?_getD, List.getElem?_eq_getElem hi]; exact h _ (List.getElem_mem hi)
theorem RsL.ex {C : Addr} {H H' : Hp} {xs : List V} {k : List Rat} (e : Ex H H') (h : RsL C H xs k) : RsL C H' xs k := ⟨h.1, fun i q hq => by
  obtain ⟨p, h1, h2⟩ := h.2 i q hq
  exact ⟨p, h1, h2.ex e⟩⟩
theorem KeyT.ex {C a : Addr} {H H' : Hp} {k : List Rat} (e : Ex H H') (h : KeyT C H a k) : KeyT C H' a k := by
  obtain ⟨xs, h1, h2⟩ := h
  exact ⟨xs, e _ _ h1, h2.ex e⟩
theorem Keys.ex {C a : Addr} {H H' : Hp} {k : List (List Rat)} (e : Ex H H') (h : Keys C H a k) : Keys C H' a k := by
  obtain ⟨xs, h1, h2, h3⟩ := h
  exact ⟨xs, e _ _ h1, h2, fun i k hk => by
    obtain ⟨p, h4, h5⟩ := h3 i k hk
    exact ⟨p, h4, h5.ex e⟩⟩
theorem cutV_from {xs : List V} {a : Nat} (h : a ≤ xs.length) : cutV xs (some (a : Int)) none = xs.drop a := by
  unfold cutV
  have e1 : HT.sIx xs.length 0 (some (a : Int)) = a := by
    unfold HT.sIx
    show (if (a : Int) < 0 then ((a : Int) + xs.length).toNat else min (a : Int).toNat xs.length) = a
    rw [if_neg (by omega)]; omega
  have e2 : HT.sIx xs.length xs.length none = xs.length := rfl
  rw [e1, e2, List.take_of_length_le (by rw [List.length_drop]; omega)]
/-- a list of lists of indexes -/
def RowsAt (H : Hp) (r : Addr) (rs : List (List Nat)) : Prop := ∃ xs, H r = some (.lst xs) ∧ Acc (fun j p H => ∃ s, rs[j]? = some s ∧ H p = some (.lst (s.map nat))) xs rs.length H
theorem RowsAt.ex {H H' : Hp} {r : Addr} {rs : List (List Nat)} (e : Ex H H') (h : RowsAt H r rs) : RowsAt H' r rs := by
  obtain ⟨xs, h1, h2⟩ := h
  exact ⟨xs, e _ _ h1, h2.len, fun j hj => by
    obtain ⟨p, h3, s, h4, h5⟩ := h2.at_ j hj
    exact ⟨p, h3, s, h4, e _ _ h5⟩⟩
def rowsLeft (σ : L2.St) (H : Hp) : Nat := match σ[1]? with
  | some (some (V.ref r)) => (match H r with | some (.lst xs) => xs.length | _ => 0)
  | _ => 0
theorem rowsLeft_at {a b c d : Option V} {r : Addr} {H : Hp} {rs : List (List Nat)} (h : RowsAt H r rs) : rowsLeft [a, some (V.ref r), b, c, d] H = rs.length := by
  obtain ⟨xs, h1, h2⟩ := h
  show (match H r with | some (.lst xs) => xs.length | _ => 0) = _
  rw [h1]; exact h2.len
/-- pairs of rows merged -/
def joinRows (le : Nat → Nat → Bool) : List (List Nat) → List (List Nat)
  | a :: b :: rs => List.merge a b le :: joinRows le rs
  | rs => rs
theorem joinRows_perm (le : Nat → Nat → Bool) : ∀ rs, (joinRows le rs).flatten.Perm rs.flatten
  | [] => .refl _
  | [_] => .refl _
  | a :: b :: rs => by
    show (List.merge a b le ++ (joinRows le rs).flatten).Perm (a ++ (b ++ rs.flatten))
    rw [← List.append_assoc]
    exact (List.merge_perm_append le).append (joinRows_perm le rs)
theorem joinRows_sorted {le : Nat → Nat → Bool} (tr : ∀ a b c, le a b = true → le b c = true → le a c = true) (to : ∀ a b, (le a b || le b a) = true) : ∀ rs : List (List Nat), (∀ s ∈ rs, s.Pairwise (fun a b => le a b = true)) → ∀ s ∈ joinRows le rs, s.Pairwise (fun a b => le a b = true)
  | [], h => h
  | [_], h => h
  | a :: b :: rs, h => by
    intro s hs
    rcases List.mem_cons.mp hs with e | e
    · subst e
      exact List.pairwise_merge tr to a b (h a (by simp)) (h b (by simp))
    · exact joinRows_sorted tr to rs (fun s z => h s (by simp [z])) s e
theorem joinRows_length (le : Nat → Nat → Bool) : ∀ rs, (joinRows le rs).length = (rs.length + 1) / 2
  | [] => rfl
  | [_] => by simp [joinRows]
  | a :: b :: rs => by
    show (joinRows le rs).length + 1 = (rs.length + 1 + 1 + 1) / 2
    rw [joinRows_length le rs]; omega
theorem joinRows_at (le : Nat → Nat → Bool) : ∀ (rs : List (List Nat)) (i : Nat), 2 * i + 1 < rs.length → ∃ a b, rs[2 * i]? = some a ∧ rs[2 * i + 1]? = some b ∧ (joinRows le rs)[i]? = some (List.merge a b le)
  | [], i, h => by simp at h
  | [_], i, h => by simp at h
  | a :: b :: rs, 0, h => ⟨a, b, rfl, rfl, rfl⟩
  | a :: b :: rs, i + 1, h => by
    obtain ⟨x, y, h1, h2, h3⟩ := joinRows_at le rs i (by simp at h; omega)
    refine ⟨x, y, ?_, ?_, h3⟩
    · rw [show 2 * (i + 1) = 2 * i + 1 + 1 from by omega]; exact h1
    · rw [show 2 * (i + 1) + 1 = 2 * i + 1 + 1 + 1 from by omega]; exact h2
theorem joinRows_tail (le : Nat → Nat → Bool) : ∀ rs : List (List Nat), (joinRows le rs).drop (rs.length / 2) = rs.drop (rs.length / 2 * 2)
  | [] => rfl
  | [_] => by simp [joinRows]
  | a :: b :: rs => by
    show (List.merge a b le :: joinRows le rs).drop ((rs.length + 1 + 1) / 2) = (a :: b :: rs).drop ((rs.length + 1 + 1) / 2 * 2)
    rw [show (rs.length + 1 + 1) / 2 = rs.length / 2 + 1 from by omega, show (rs.length / 2 + 1) * 2 = rs.length / 2 * 2 + 1 + 1 from by omega]
    exact joinRows_tail le rs
theorem flat_mem {n : Nat} {rs : List (List Nat)} (h : rs.flatten.Perm (List.range n)) {s : List Nat} (hs : s ∈ rs) : ∀ i ∈ s, i < n := fun i hi => by
  have : i ∈ List.range n := h.mem_iff.mp (List.mem_flatten.mpr ⟨s, hs, hi⟩)
  exact List.mem_range.mp this
theorem flat_len : ∀ {rs : List (List Nat)} {a b : Nat} {s t : List Nat}, rs[a]? = some s → rs[b]? = some t → a < b → s.length + t.length ≤ rs.flatten.length
  | [], _, _, _, _, h, _, _ => by simp at h
  | r :: rs, 0, b + 1, s, t, h1, h2, _ => by
    cases h1
    have : t.length ≤ rs.flatten.length := by
      have hm : t ∈ rs := List.mem_of_getElem? h2
      obtain ⟨l1, l2, rfl⟩ := List.append_of_mem hm
      simp; omega
    show r.length + t.length ≤ (r ++ rs.flatten).length
    rw [List.length_append]; omega
  | r :: rs, a + 1, b + 1, s, t, h1, h2, hab => by
    have := flat_len (rs := rs) (a := a) (b := b) h1 h2 (by omega)
    show _ ≤ (r ++ rs.flatten).length
    rw [List.length_append]; omega
theorem rows_next {le : Nat → Nat → Bool} {rs : List (List Nat)} {acc xs : List V} {H H' : Hp} {L p : Addr} (hx : Acc (fun j p H => ∃ s, rs[j]? = some s ∧ H p = some (.lst (s.map nat))) xs rs.length H)
    (ha : Acc (fun j p H => p ≠ L ∧ ∃ s, (joinRows le rs)[j]? = some s ∧ H p = some (.lst (s.map nat))) acc (rs.length / 2) H) (e : Ex H H') (hp : H' p = some (.lst (acc ++ xs.drop (rs.length / 2 * 2)))) : RowsAt H' p (joinRows le rs) := by
  refine ⟨_, hp, ?_, fun j hj => ?_⟩
  · rw [List.length_append, ha.len, List.length_drop, hx.len, joinRows_length]; omega
  · rw [joinRows_length] at hj
    by_cases h : j < rs.length / 2
    · obtain ⟨q, h1, _, s, h3, h4⟩ := ha.at_ j h
      exact ⟨q, by rw [List.getElem?_append_left (by rw [ha.len]; exact h)]; exact h1, s, h3, e _ _ h4⟩
    · have hj2 : rs.length / 2 * 2 + (j - rs.length / 2) < rs.length := by omega
      obtain ⟨q, h1, s, h3, h4⟩ := hx.at_ _ hj2
      refine ⟨q, by rw [List.getElem?_append_right (by rw [ha.len]; omega), ha.len, List.getElem?_drop]; exact h1, s, ?_, e _ _ h4⟩
      have t := congrArg (fun l => l[j - rs.length / 2]?) (joinRows_tail le rs)
      simp only [List.getElem?_drop] at t
      rw [show rs.length / 2 + (j - rs.length / 2) = j from by omega] at t
      rw [t]; exact h3
theorem RsL.put {C L : Addr} {H : Hp} {xs ys : List V} {k : List Rat} {o : HO} (h : RsL C H xs k) (hl : H L = some (.lst ys)) : RsL C (upd H L o) xs k := ⟨h.1, fun i q hq => by
  obtain ⟨p, h1, h2⟩ := h.2 i q hq
  exact ⟨p, h1, h2.put hl⟩⟩
theorem KeyT.put {C a L : Addr} {H : Hp} {ys : List V} {k : List Rat} {o : HO} (h : KeyT C H a k) (hl : H L = some (.lst ys)) : KeyT C (upd H L o) a k := by
  obtain ⟨xs, h1, h2⟩ := h
  exact ⟨xs, by rw [upd_ne (ne_of h1 hl (by intro z; cases z))]; exact h1, h2.put hl⟩
theorem RsL.of_acc {C : Addr} {H : Hp} {xs : List V} {qs : List Rat} (h : Acc (fun j p H => ∃ q, qs[j]? = some q ∧ IsR C H p q) xs qs.length H) : RsL C H xs qs := ⟨h.len, fun i q hq => by
  obtain ⟨p, h1, q', h2, h3⟩ := h.at_ i (List.getElem?_eq_some_iff.mp hq).1
  rw [hq] at h2; cases h2
  exact ⟨p, h1, h3⟩⟩
theorem one_key {C : Addr} {H : Hp} {a : Addr} {p : Addr} {q : Rat} (h : H a = some (.tup [V.ref p])) (hp : IsR C H p q) : KeyT C H a [q] := ⟨_, h, rfl, fun i r hr => by
  match i, hr with
  | 0, hr => cases hr; exact ⟨p, rfl, hp⟩⟩
theorem ord_perm {qs : List Rat} {idx : List Nat} (h : idx.Perm (List.range qs.length)) : (idx.map fun i => qs.getD i 0).Perm qs := by
  have := h.map (fun i => qs.getD i 0)
  refine this.trans (List.Perm.of_eq ?_)
  apply List.ext_getElem?
  intro i
  rw [List.getElem?_map]
  by_cases hi : i < qs.length
  · rw [List.getElem?_range hi, List.getElem?_eq_getElem hi]
    show some (qs.getD i 0) = _
    rw [List.getD_eq_getElem?_getD, List.getElem?_eq_getElem hi]; rfl
  · rw [List.getElem?_eq_none (by rw [List.length_range]; omega), List.getElem?_eq_none (by omega)]; rfl
theorem ord_sorted {qs : List Rat} {idx : List Nat} (hlt : ∀ i ∈ idx, i < qs.length) (h : idx.Pairwise (fun i j => leK (qs.map fun q => [q]) i j = true)) : (idx.map fun i => qs.getD i 0).Pairwise (· ≤ ·) := by
  rw [List.pairwise_map]
  refine List.Pairwise.imp_of_mem (fun {a b} ha hb z => ?_) h
  have la := hlt a ha
  have lb := hlt b hb
  unfold leK at z
  rw [List.getD_eq_getElem?_getD, List.getD_eq_getElem?_getD, List.getElem?_map, List.getElem?_map, List.getElem?_eq_getElem la, List.getElem?_eq_getElem lb] at z
  rw [List.getD_eq_getElem?_getD, List.getD_eq_getElem?_getD, List.getElem?_eq_getElem la, List.getElem?_eq_getElem lb]
  show qs[a] ≤ qs[b]
  have z' : (!(if qs[b] = qs[a] then lexLt [] [] else decide (qs[b] < qs[a]))) = true := z
  by_cases e : qs[b] = qs[a]
  · rw [e]; exact Rat.le_refl
  · rw [if_neg e, Bool.not_eq_true', decide_eq_false_iff_not, Rat.not_lt] at z'; exact z'
/-- least (m = 0), greatest (m = 1) -/
def spLeast (C CN : Addr) (m : Nat) : Sp := fun vs H Q E => ∃ (k : Addr) (xs : List V), vs = [.ref k] ∧ SeqAt1 H k xs ∧ ((xs = [] ∧ Rz E CN "number" (.int 0) H) ∨
  ∃ qs : List Rat, xs.length = qs.length ∧ (∀ (i : Nat) (q : Rat), qs[i]? = some q → ∃ v, xs[i]? = some v ∧ NumV C H v q) ∧ (∀ q ∈ qs, Bq q) ∧ qs.length ≤ 1000 ∧ 0 < qs.length ∧
  ∀ (H' : Hp) (p : Addr) (rs : List Rat) (q : Rat), Ex H H' → rs.Perm qs → rs.Pairwise (· ≤ ·) → ((m = 0 ∧ rs[0]? = some q) ∨ (m = 1 ∧ rs[rs.length - 1]? = some q)) → IsR C H' p q → Q (.ref p) H')
def spII (g : Int → Int → Int) : Sp := fun vs H Q _ => ∃ a b : Int, vs = [.int a, .int b] ∧ Bt a ∧ Bt b ∧ Q (.int (g a b)) H
theorem atI_last {xs : List V} {v : V} (h : 0 < xs.length) (e : xs[xs.length - 1]? = some v) : atI xs (-1) = some v := by
  unfold atI
  have : ixN xs.length (-1) = some (xs.length - 1) := by
    unfold ixN
    rw [if_neg (by decide), if_pos (by omega)]
    congr 1
    omega
  rw [this]; exact e
/-- math.lcm -/
def rLcm : List V → Hp → VK → Prop := fun vs H Q => ∃ a b : Int, vs = [.int a, .int b] ∧ Bt a ∧ Bt b ∧ Q (.int ((Int.lcm a b : Nat) : Int)) H
theorem bt_log {a : Nat} (h : a < 2 ^ 4000) : a.log2 < 4000 := PySem.Flt.log2_lt_of (by decide) h
theorem cr_lcm {X : Cx} : CallR X (.builtin "math.lcm") rLcm := by
  intro pins s σ H vs us Q I r h
  obtain ⟨a, b, rfl, ha, hb, q⟩ := h
  obtain ⟨t, u, rfl⟩ := Vals.int2 r
  have la := bt_log ha
  have lb := bt_log hb
  have e : ((Nat.lcm 1 a.natAbs).lcm b.natAbs) = Int.lcm a b := by rw [Nat.lcm_one_left]; rfl
  have l1 : (max 1 a.natAbs).log2 < 4000 := by
    rcases Nat.le_total 1 a.natAbs with z | z
    · rw [Nat.max_eq_right z]; exact la
    · rw [Nat.max_eq_left z]; decide
  have l2 : (max a.natAbs b.natAbs).log2 < 4000 := by
    rcases Nat.le_total a.natAbs b.natAbs with z | z
    · rw [Nat.max_eq_right z]; exact lb
    · rw [Nat.max_eq_left z]; exact la
  have l3 : (((Nat.lcm 1 a.natAbs).lcm b.natAbs : Nat) : Int).natAbs.log2 < bitsLine := by
    rw [Int.natAbs_natCast, e]
    have : Int.lcm a b < 2 ^ 8000 := by
      show Nat.lcm a.natAbs b.natAbs < _
      refine Nat.lt_of_le_of_lt (Nat.div_le_self _ _) ?_
      exact pow_mono (pow_mul_lt ha hb) (by decide)
    have z := PySem.Flt.log2_lt_of (by decide) this
    have e : bitsLine = 134217728 := by decide
    omega
  exact call_function_meets PySem.W.MGF.kind_lcm PySem.W.MGF.plain_lcm PySem.W.MGF.entry_lcm (PySem.W.MGF.args_lcm _ _) (PySem.W.mg_run_lcm a t b u (by omega) (by omega) l3).meets ⟨.int _, H, I.tok _, ⟨_, rfl⟩, by rw [e]; exact q⟩
def spBez : Sp := fun vs H Q _ => ∃ a b : Int, vs = [.int a, .int b] ∧ Bt a ∧ Bt b ∧ ∀ (H' : Hp) (p : Addr) (s t : Int), Ex H H' → H p = none → H' p = some (.tup [.int ((Int.gcd a b : Nat) : Int), .int s, .int t]) → s * a + t * b = ((Int.gcd a b : Nat) : Int) → s.natAbs < 2 ^ 4002 → t.natAbs < 2 ^ 8010 → Q (.ref p) H'
/-- the state of the walk -/
structure Bez (a b u l s f : Int) : Prop where
  co : ∃ x y, u = s * a + x * b ∧ l = f * a + y * b
  gc : Int.gcd u l = Int.gcd a b
  ab : f.natAbs * u.natAbs + s.natAbs * l.natAbs = b.natAbs
  sg : (u = a ∧ l = b ∧ s = 1 ∧ f = 0) ∨ (u ≠ 0 ∧ ((0 ≤ u ∧ 0 ≤ l) ∨ (u ≤ 0 ∧ l ≤ 0)) ∧ ((0 ≤ s ∧ f ≤ 0) ∨ (s ≤ 0 ∧ 0 ≤ f)))
  bs : s.natAbs ≤ b.natAbs + 1
  bf : f.natAbs ≤ b.natAbs + 1
  bu : u.natAbs ≤ a.natAbs + b.natAbs
  bl : l.natAbs ≤ b.natAbs
theorem Bez.start (a b : Int) : Bez a b a b 1 0 := ⟨⟨0, 1, by omega, by omega⟩, rfl, by simp, .inl ⟨rfl, rfl, rfl, rfl⟩, by simp, by simp, by omega, Nat.le_refl _⟩
theorem fmod_facts {u l : Int} (h : l ≠ 0) : (0 < l → 0 ≤ u - u.fdiv l * l ∧ u - u.fdiv l * l < l) ∧ (l < 0 → l < u - u.fdiv l * l ∧ u - u.fdiv l * l ≤ 0) := by
  have e : u - u.fdiv l * l = u.fmod l := by rw [Int.fmod_def, Int.mul_comm]
  rw [e]
  exact ⟨fun hl => ⟨Int.fmod_nonneg_of_pos u hl, Int.fmod_lt_of_pos u hl⟩, fun hl => ⟨by
    have := Int.fmod_lt_of_pos (-u) (show 0 < -l by omega)
    have e2 := Int.neg_fmod_neg (a := u) (b := l)
    omega, by
    have := Int.fmod_nonneg_of_pos (-u) (show 0 < -l by omega)
    have e2 := Int.neg_fmod_neg (a := u) (b := l)
    omega⟩⟩
theorem abs_p {x : Int} (h : 0 ≤ x) : (x.natAbs : Int) = x := Int.natAbs_of_nonneg h
theorem abs_n {x : Int} (h : x ≤ 0) : (x.natAbs : Int) = -x := by omega
theorem Bez.step {a b u l s f q : Int} (B : Bez a b u l s f) (h : l ≠ 0) (hq : q = u.fdiv l) : Bez a b l (u - q * l) f (s - q * f) ∧ (u - q * l).natAbs < l.natAbs := by
  obtain ⟨⟨x, y, e1, e2⟩, gc, ab, sg, bs, bf, bu, bl⟩ := B
  have fm := fmod_facts (u := u) h
  rw [← hq] at fm
  have lt : (u - q * l).natAbs < l.natAbs := by
    rcases Int.lt_or_gt_of_ne h with z | z
    · have := fm.2 z; omega
    · have := fm.1 z; omega
  have sgn : (0 ≤ l ∧ 0 ≤ u - q * l) ∨ (l ≤ 0 ∧ u - q * l ≤ 0) := by
    rcases Int.lt_or_gt_of_ne h with z | z
    · exact .inr ⟨by omega, (fm.2 z).2⟩
    · exact .inl ⟨by omega, (fm.1 z).1⟩
  have gc' : Int.gcd l (u - q * l) = Int.gcd a b := by
    rw [← gc, Int.gcd_comm u l]
    have : u - q * l = u + l * (-q) := by grind
    rw [this, Int.gcd_add_mul_left_right]
  have co' : ∃ x y, l = f * a + x * b ∧ u - q * l = (s - q * f) * a + y * b := ⟨y, x - q * y, e2, by rw [e1]; grind⟩
  have main : (s - q * f).natAbs * l.natAbs + f.natAbs * (u - q * l).natAbs = b.natAbs ∧ ((0 ≤ f ∧ s - q * f ≤ 0) ∨ (f ≤ 0 ∧ 0 ≤ s - q * f)) := by
    rcases sg with ⟨rfl, rfl, rfl, rfl⟩ | ⟨hu, hs, hsf⟩
    · refine ⟨by simp, .inr ⟨by omega, by omega⟩⟩
    · have q0 : 0 ≤ q := by
        rw [hq]
        rcases hs with ⟨z1, z2⟩ | ⟨z1, z2⟩
        · exact Int.fdiv_nonneg z1 z2
        · rw [← Int.neg_fdiv_neg]; exact Int.fdiv_nonneg (by omega) (by omega)
      have key : (0 ≤ f ∧ s - q * f ≤ 0 ∧ s ≤ 0) ∨ (f ≤ 0 ∧ 0 ≤ s - q * f ∧ 0 ≤ s) := by
        rcases hsf with ⟨z1, z2⟩ | ⟨z1, z2⟩
        · right
          have := Int.mul_nonpos_of_nonneg_of_nonpos q0 z2
          exact ⟨z2, by omega, z1⟩
        · left
          have := Int.mul_nonneg q0 z2
          exact ⟨z2, by omega, z1⟩
      refine ⟨?_, key.elim (fun z => .inl ⟨z.1, z.2.1⟩) (fun z => .inr ⟨z.1, z.2.1⟩)⟩
      have hs' : (0 ≤ l ∧ 0 ≤ u ∧ 0 ≤ u - q * l) ∨ (l ≤ 0 ∧ u ≤ 0 ∧ u - q * l ≤ 0) := by
        rcases Int.lt_or_gt_of_ne h with z | z
        · right
          have := fm.2 z
          exact ⟨by omega, by omega, by omega⟩
        · left
          have := fm.1 z
          exact ⟨by omega, by omega, by omega⟩
      apply Int.ofNat_inj.mp
      rw [← ab]
      push_cast
      rcases key with ⟨k1, k2, k3⟩ | ⟨k1, k2, k3⟩ <;> rcases hs' with ⟨l1, l2, l3⟩ | ⟨l1, l2, l3⟩
      · rw [abs_n k2, abs_p l1, abs_p k1, abs_p l3, abs_p l2, abs_n k3]; grind
      · rw [abs_n k2, abs_n l1, abs_p k1, abs_n l3, abs_n l2, abs_n k3]; grind
      · rw [abs_p k2, abs_p l1, abs_n k1, abs_p l3, abs_p l2, abs_p k3]; grind
      · rw [abs_p k2, abs_n l1, abs_n k1, abs_n l3, abs_n l2, abs_p k3]; grind
  have bnd : (s - q * f).natAbs ≤ b.natAbs := by
    have h1 : 1 ≤ l.natAbs := by omega
    have := Nat.mul_le_mul_left (s - q * f).natAbs h1
    omega
  exact ⟨⟨co', gc', main.1, .inr ⟨h, sgn, main.2⟩, bf, by omega, by omega, by omega⟩, lt⟩
/-- the products of a step are not great -/
theorem Bez.small {a b u l s f q : Int} (B : Bez a b u l s f) (h : l ≠ 0) (hq : q = u.fdiv l) (ha : Bt a) (hb : Bt b) : CDivZ u l ∧ CMulA q l ∧ CMulA q f := by
  have st := (B.step h hq).2
  have bl := B.bl
  have bu := B.bu
  have bf := B.bf
  have a4 : a.natAbs < 2 ^ 4000 := ha
  have b4 : b.natAbs < 2 ^ 4000 := hb
  have e1 : (2 : Nat) ^ 4002 = 4 * 2 ^ 4000 := by rw [show (4002 : Nat) = 4000 + 2 from rfl, Nat.pow_add, Nat.mul_comm]
  have q1 : q.natAbs ≤ u.natAbs + l.natAbs := by
    have z : q.natAbs * l.natAbs ≤ u.natAbs + l.natAbs := by
      rw [← Int.natAbs_mul]; omega
    have h1 : 1 ≤ l.natAbs := by omega
    have := Nat.mul_le_mul_left q.natAbs h1
    omega
  have q2 : q.natAbs < 2 ^ 4002 := by rw [e1]; omega
  have p1 : 0 < 2 ^ 4000 := Nat.two_pow_pos 4000
  exact ⟨⟨h, Nat.lt_of_lt_of_le (Nat.lt_of_le_of_lt bl b4) (Nat.pow_le_pow_right (by decide) (by decide))⟩, cmA_w q2 (show l.natAbs < 2 ^ 4000 from Nat.lt_of_le_of_lt bl b4) (by decide), cmA_w q2 (show f.natAbs < 2 ^ 4002 by omega) (by decide)⟩
def absAt (i : Nat) (σ : L2.St) : Nat := match σ[i]? with
  | some (some (V.int a)) => a.natAbs
  | _ => 0
/-- the end of the walk -/
theorem Bez.fin {a b u s f : Int} (B : Bez a b u 0 s f) : (u.natAbs : Int) = ((Int.gcd a b : Nat) : Int) ∧ ∃ x, u = s * a + x * b := by
  obtain ⟨⟨x, y, e1, e2⟩, gc, ab, sg, bs, bf, bu, bl⟩ := B
  refine ⟨?_, x, e1⟩
  rw [← gc, Int.gcd_zero_right]
theorem bez_t {a b s t : Int} (e : s * a + t * b = ((Int.gcd a b : Nat) : Int)) (hb : b ≠ 0) (hs : s.natAbs < 2 ^ 4002) (ha : Bt a) (hb4 : Bt b) : t.natAbs < 2 ^ 8010 := by
  have h1 : t.natAbs ≤ (t * b).natAbs := by
    rw [Int.natAbs_mul]
    exact Nat.le_mul_of_pos_right _ (by omega)
  have h2 : t * b = ((Int.gcd a b : Nat) : Int) - s * a := by omega
  have h3 : (s * a).natAbs < 2 ^ (4002 + 4000) := lt_mul hs ha
  have h4 : Int.gcd a b < 2 ^ 4000 := Nat.lt_of_le_of_lt (gcd_le hb) hb4
  have h5 : (((Int.gcd a b : Nat) : Int) - s * a).natAbs < 2 ^ 8010 := lt_sub (n := 4000) (m := 8002) (by rw [Int.natAbs_natCast]; exact h4) h3 (by decide) (by decide)
  rw [← h2] at h5
  omega
theorem lcm_eq {a b : Int} : ((Int.lcm a b : Nat) : Int) = (a.natAbs : Int).fdiv ((Int.gcd a b : Nat) : Int) * (b.natAbs : Int) := by
  have hg : Int.gcd a b ∣ a.natAbs := Int.gcd_dvd_natAbs_left a b
  rw [Int.fdiv_eq_ediv_of_nonneg _ (by omega), ← Int.natCast_ediv, ← Int.natCast_mul]
  congr 1
  show a.natAbs * b.natAbs / Nat.gcd a.natAbs b.natAbs = a.natAbs / Nat.gcd a.natAbs b.natAbs * b.natAbs
  exact Nat.mul_div_right_comm hg b.natAbs
end
section
open PySem PySem.Spec PyProof.Rows L2 He
def oexB (K : PySem.W.Frag) (C : Addr) : Bool := (match K.lookup C with
  | some ⟨.type "type", _, .cls cd, sl⟩ => (match cd.mro, sl.toList with
    | .ref C' :: bm, [_, _, _, _, some (.builtin n), _] => decide (C' = C) && (decide (n = "ValueError.__new__") && (!cd.hasDel && (cd.hasDict && PySem.HandSPX.refsVE bm)))
    | _, _ => false)
  | _ => false) && (eqO (PySem.W.findIn K (.ref C) "__setattr__") (some (some (.builtin "object.__setattr__"))) && (decide (PySem.W.subIn K (.ref C) (.type "BaseException") = some true) && (decide (PySem.W.typeIn K (.ref C) = some (.type "type")) && PySem.W.keepIn K (.ref C))))
theorem oexB_ok {K : PySem.W.Frag} {C : Addr} (h : oexB K C = true) : OexC K C := by
  obtain ⟨h1, h2⟩ := ba h
  obtain ⟨h2, h3⟩ := ba h2
  obtain ⟨h3, h4⟩ := ba h3
  obtain ⟨h4, h5⟩ := ba h4
  refine ⟨?_, eqO_ok h2, of_decide_eq_true h3, of_decide_eq_true h4, h5⟩
  cases e : K.lookup C with
  | none => rw [e] at h1; cases h1
  | some o =>
    rw [e] at h1
    obtain ⟨oc, od, dt, sl⟩ := o
    skip
    split at h1
    · rename_i cd sl' ho
      cases ho
      split at h1
      · rename_i C' bm a0 a1 a2 a3 n a5 hm hs
        obtain ⟨nm, bs, mro, N, q, hd, sn, sub, ab, col, hdel⟩ := cd
        replace h1 : (decide (C' = C) && (decide (n = "ValueError.__new__") && (!hdel && (hd && PySem.HandSPX.refsVE bm)))) = true := h1
        simp only [Bool.and_eq_true, decide_eq_true_eq, Bool.not_eq_true'] at h1
        obtain ⟨e1, e2, e3, e4, g5⟩ := h1
        replace hm : mro = .ref C' :: bm := hm
        subst e1 e2 e3 e4 hm
        have e6 : sl = #[a0, a1, a2, a3, some (.builtin "ValueError.__new__"), a5] := by
          apply Array.ext'
          rw [hs]
        subst e6
        exact ⟨nm, q, N, bs, bm, sn, sub, ab, col, _, a0, a1, a2, a3, a5, rfl, g5⟩
      · cases h1
    · cases h1
def clsPB (K : PySem.W.Frag) (C : Addr) : Bool :=
  PySem.W.selfFirst K C && (decide (PySem.W.subIn K (.ref C) (.type "int") = some false) && (eqO (PySem.W.findIn K (.ref C) "__ne__") (some (some (.builtin "object.__ne__"))) && (eqO (PySem.W.findIn K (.ref C) "__class__") (some (some (.builtin "object.__class__"))) &&
  (decide (PySem.W.specialIn K (.builtin "object.__class__") "__get__" = some (some (.builtin "getset_descriptor.__get__"))) && (decide (PySem.W.takesIn K (.builtin "object.__class__") = some true) && (decide (PySem.W.mroIn K C (.type "object") = some true) &&
  (eqO (PySem.W.findIn K (.ref C) "__rpow__") (some none) && (decide (PySem.W.subIn K (.ref C) (.type "bool") = some false) && ((PySem.W.clsIn K C).isSome && decide (PySem.W.typeIn K (.ref C) = some (.type "type")))))))))))
theorem clsPB_ok {K : PySem.W.Frag} {C : Addr} (c : Cls K C) (h : clsPB K C = true) : ClsP K C := by
  obtain ⟨h1, h⟩ := ba h
  obtain ⟨h2, h⟩ := ba h
  obtain ⟨h3, h⟩ := ba h
  obtain ⟨h4, h⟩ := ba h
  obtain ⟨h5, h⟩ := ba h
  obtain ⟨h6, h⟩ := ba h
  obtain ⟨h7, h⟩ := ba h
  obtain ⟨h8, h⟩ := ba h
  obtain ⟨h9, h⟩ := ba h
  obtain ⟨h10, h11⟩ := ba h
  exact ⟨⟨c, h1, of_decide_eq_true h2, eqO_ok h3, eqO_ok h4, of_decide_eq_true h5, of_decide_eq_true h6, of_decide_eq_true h7, eqO_ok h8⟩, of_decide_eq_true h9, h10, of_decide_eq_true h11⟩
section
variable {X : Cx} {K : PySem.W.Frag} {o e : Expr} {to te : TE} {f : Str} {p' pos : Pos}
theorem kps_ost (h : X.K = K) (ho : PE X o to) (he : PE X e te) (hs : swapsWith e (some (.Attribute o f p')) pos.line X.env = pure false := by rfl) : PS X (.Assign [.Attribute o f p'] e pos) (tOst K f to te) := by subst h; exact ps_ost ho he hs
end
section
variable {P : Program} {w : World} {K : PySem.W.Frag} {mg : Str → Option Value} {base : Heap} {k : Nat} {x m : Str} {f C : Addr} {fd : FuncData} {ps : List Str} {sp : Sp} {pa : Arguments} {bd : List Stmt} {sc : Scope}
/-- a def as callers take it -/
theorem mkCl {q : Str} (F : FunD K x q pa bd sc [] [] f fd) (hm : mg x = some (.ref f)) (ok : FnOk P w K mg base (L2.CX P w) k f fd ps sp) (b : Binds K fd ps []) : Cl P w K mg base k x sp := ⟨f, fd, ps, ok, hm, F.kp, b⟩
theorem mkCm (me : Meth K C m f) (ok : FnOk P w K mg base (L2.CX P w) k f fd ps sp) (b : Binds K fd ps []) : Cm P w K mg base k C m f sp := ⟨⟨fd, ps, ok, b⟩, me⟩
theorem mkCk {dvs : List V} {ds : List Value} (M : Mk K C f) (hm : mg x = some (.ref C)) (ok : FnOk P w K mg base (L2.CX P w) k f fd ps sp) (b : Binds K fd ps ds) (hv : Vals dvs ds) : Ck P w K mg base k x C dvs sp := ⟨f, fd, ps, ds, ok, M, hm, b, hv⟩
theorem mkCox {fn : Str} (ox : OexC K C) (hm : mg x = some (.ref C)) (me : Meth K C "__init__" f) (ti : PySem.W.typeIn K (.ref f) = some (.type "function")) (ok : FnOk P w K mg base (L2.CX P w) k f fd ps (spEx C fn)) (b : Binds K fd ps []) : Cox P w K mg base k x C fn := ⟨ox, hm, f, fd, ps, me.at_, ti, ok, b⟩
/-- the same contract with a wider level is not needed: a Room serves all below it -/
theorem Cl.up' {k' : Nat} (c : Cl P w K mg base k x sp) : Cl P w K mg base k x sp := c
end
end
section
open PySem PySem.Spec PyProof.Rows L2
def reps (x : Str) (n : Int) : Str := if n < 1 then Str.empty else if (n == 1 || x.length == 0) = true then x else ⟨(List.replicate n.toNat x.cps).foldl (· ++ ·) #[]⟩
def tenText (f : Nat) : Str := ("1" : Str) ++ reps ("0" : Str) (f : Int)
theorem foldl_toList {a : Array Nat} : ∀ (n : Nat) (acc : Array Nat), ((List.replicate n a).foldl (· ++ ·) acc).toList = acc.toList ++ (List.replicate n a.toList).flatten
  | 0, acc => by simp
  | n + 1, acc => by
    rw [List.replicate_succ, List.replicate_succ, List.foldl_cons, foldl_toList n, Array.toList_append, List.flatten_cons, List.append_assoc]
theorem flat_one (n x : Nat) : (List.replicate n [x]).flatten = List.replicate n x := by
  induction n with
  | zero => rfl
  | succ n ih => rw [List.replicate_succ, List.replicate_succ, List.flatten_cons, ih]; rfl
theorem zero_cps : ("0" : Str).cps.toList = [48] := by decide +kernel
theorem one_cps : ("1" : Str).cps.toList = [49] := by decide +kernel
theorem reps_cps (f : Nat) : (reps ("0" : Str) (f : Int)).cps.toList = List.replicate f 48 := by
  unfold reps
  match f with
  | 0 => rw [if_pos (by omega)]; rfl
  | 1 => rw [if_neg (by omega), if_pos (by rfl)]; exact zero_cps
  | f + 2 =>
    rw [if_neg (by omega), if_neg (by
      rw [show ((((f + 2 : Nat) : Int)) == 1) = false from by rw [beq_eq_false_iff_ne]; omega]
      rw [show ((("0" : Str).length == 0)) = false from by decide +kernel]
      decide)]
    show ((List.replicate ((f + 2 : Nat) : Int).toNat ("0" : Str).cps).foldl (· ++ ·) #[]).toList = _
    rw [foldl_toList, zero_cps, Int.toNat_natCast, flat_one]; rfl
theorem ten_cps (f : Nat) : (tenText f).cps.toList = 49 :: List.replicate f 48 := by
  show (("1" : Str).cps ++ (reps ("0" : Str) (f : Int)).cps).toList = _
  rw [Array.toList_append, one_cps, reps_cps]; rfl
theorem ten_len (f : Nat) : (tenText f).length = f + 1 := by
  show (tenText f).cps.size = _
  rw [← Array.length_toList, ten_cps, List.length_cons, List.length_replicate]
theorem reps_len (f : Nat) : (reps ("0" : Str) (f : Int)).length = f := by
  show (reps ("0" : Str) (f : Int)).cps.size = _
  rw [← Array.length_toList, reps_cps, List.length_replicate]
theorem val_zeros : ∀ (f acc : Nat), (List.replicate f 48).foldl (fun acc c => acc * 10 + (c - 48)) acc = acc * 10 ^ f
  | 0, acc => by simp
  | f + 1, acc => by
    rw [List.replicate_succ, List.foldl_cons, val_zeros f, Nat.pow_succ]
    show (acc * 10 + 0) * 10 ^ f = _
    rw [Nat.add_zero, Nat.mul_assoc, Nat.mul_comm 10]
theorem ten_ok {f : Nat} (h : f ≤ 600) : PySem.intText? (tenText f) = some (((10 ^ f : Nat) : Int)) ∧ (tenText f).length ≤ 640 := by
  refine ⟨?_, by rw [ten_len]; omega⟩
  rw [intText_digits (x := tenText f)]
  · congr 2
    rw [ten_cps]
    show (List.replicate f 48).foldl (fun acc c => acc * 10 + (c - 48)) (0 * 10 + (49 - 48)) = _
    rw [val_zeros]; omega
  · rw [ten_cps]
    intro c hc
    rcases List.mem_cons.mp hc with e | e
    · omega
    · have := List.eq_of_mem_replicate e; omega
  · rw [ten_cps]; exact List.cons_ne_nil _ _
  · rw [ten_len]; omega
theorem flat_len_const {l a : List Nat} {n : Nat} : (a ++ (List.replicate n l).flatten).length = a.length + n * l.length := by
  rw [List.length_append]
  congr 1
  induction n with
  | zero => simp
  | succ n ih => rw [List.replicate_succ, List.flatten_cons, List.length_append, ih, Nat.succ_mul]; omega
def rMulS : R2 := fun x y H Q => ∃ (z : Str) (n : Nat), x = .str z ∧ y = .int n ∧ n ≤ 1000 ∧ z.length ≤ 1000 ∧ Q (.str (reps z (n : Int))) H
theorem op_mul_str {X : Cx} : OpR X (binaryOp .Mult) rMulS := by
  intro pins s σ H x y v u Q I rx ry h
  obtain ⟨z, n, rfl, rfl, hn, hz, q⟩ := h
  obtain ⟨t, rfl⟩ := rx
  obtain ⟨t', rfl⟩ := ry
  have hlen : z.length * n ≤ 1000 * 1000 := Nat.mul_le_mul hz hn
  refine P.mul_str (by
    rw [decide_eq_false (show ¬ (n : Int) < -(2 ^ 63) by omega), decide_eq_false (show ¬ (n : Int) ≥ 2 ^ 63 by
      have e : (2 : Int) ^ 63 = 9223372036854775808 := by decide
      omega)]; rfl) (fun h1 _ => ?_) (fun h1 _ => ?_) ?_
  · have hn0 : 0 < (n : Int) := by omega
    have e : (2 : Int) ^ 63 - 1 = 9223372036854775807 := by decide
    rw [e]
    have : (z.length : Int) ≤ 9223372036854775807 / (n : Int) := by
      rw [Int.le_ediv_iff_mul_le hn0]
      have : (z.length : Int) * (n : Int) ≤ 1000 * 1000 := by exact_mod_cast hlen
      omega
    omega
  · show decide (z.length * ((n : Nat) : Int).toNat > sizeLine) = false
    rw [decide_eq_false_iff_not, sizeLine_eq, Int.toNat_natCast]; omega
  · unfold reps at q
    split
    · rename_i h1
      rw [if_pos h1] at q
      exact ⟨by decide, .str Str.empty, H, I.tok _, ⟨_, rfl⟩, q⟩
    · rename_i h1
      rw [if_neg h1] at q
      split
      · rename_i h2
        rw [if_pos h2] at q
        exact ⟨.str z, H, I, ⟨_, rfl⟩, q⟩
      · rename_i h2
        rw [if_neg h2] at q
        refine ⟨?_, .str _, H, I.tok _, ⟨_, rfl⟩, q⟩
        show ((List.replicate ((n : Nat) : Int).toNat z.cps).foldl (· ++ ·) #[]).size ≤ sizeLine
        rw [← Array.length_toList, foldl_toList, Int.toNat_natCast, flat_len_const, sizeLine_eq]
        show 0 + n * z.cps.toList.length ≤ _
        have e : z.cps.toList.length = z.length := Array.length_toList
        rw [e, Nat.mul_comm]; omega
def DAt (x y : V) (H : Hp) (Q : VK) : Prop := ∃ a v, x = .ref a ∧ DGet H a y (some v) ∧ Q v H
def DPutAt (x y v : V) (H : Hp) (N : Hp → Prop) : Prop := ∃ a H', x = .ref a ∧ DPut H a y v H' ∧ N H'
section
variable {σ : L2.St} {H : Hp} {Q : VK} {D : Ends} {td ty tv : TE} {a c : Addr} {kvs : List (Key × V)} {s : Str} {v x y : V} {N : Hp → Prop} {QS : L2.St → Hp → Prop}
theorem r_dget (k : td σ H fun x H1 => ty σ H1 fun y H2 => DAt x y H2 Q) : tDGet td ty σ H Q := k
theorem dAt (h : H a = some (.dK kvs)) (e : valV kvs (Sum.inr s) = some v) (k : Q v H) : DAt (.ref a) (.str s) H Q := ⟨a, v, rfl, by
  have := DGet.k (k := (Sum.inr s : Key)) h
  rw [e] at this; exact this, k⟩
theorem r_dput (k : tv σ H fun v H1 => td σ H1 fun x H2 => ty σ H2 fun y H3 => DPutAt x y v H3 (fun H4 => D.nx σ H4)) : sDPut td ty tv D σ H := k
theorem dPut {kvs' : List (Key × V)} (h : H a = some (.dK kvs)) (hn : kvs.length ≤ 1000) (e : putK kvs (Sum.inr s) v = kvs') (k : N (upd H a (.dK kvs'))) : DPutAt (.ref a) (.str s) v H N :=
  ⟨a, _, rfl, DPut.k (k := (Sum.inr s : Key)) h (small1000 hn), by rw [e]; exact k⟩
theorem r_gsub {v : V} (k : td σ H fun x H1 => ty σ H1 fun y H2 => DPutAt x y v H2 (fun H3 => QS σ H3)) : gSub td ty rSetD v σ H QS := k
end
def rInt1 : List V → Hp → VK → Prop := fun xs H Q => (∃ i, xs = [.int i] ∧ Q (.int i) H) ∨ ∃ k, xs = [.bl k] ∧ Q (.int (if k then 1 else 0)) H
def rIntS : List V → Hp → VK → Prop := fun xs H Q => ∃ a n, xs = [.str a] ∧ PySem.intText? a = some n ∧ a.length ≤ 640 ∧ Q (.int n) H
def rAddS : R2 := fun x y H Q => ∃ i j, x = .str i ∧ y = .str j ∧ i.length + j.length ≤ sizeLine ∧ Q (.str (i ++ j)) H
def rMax2 : List V → Hp → VK → Prop := fun xs H Q => ∃ i j, xs = [.int i, .int j] ∧ Q (.int (if j > i then j else i)) H
def rAbs1 : List V → Hp → VK → Prop := fun xs H Q => ∃ i, xs = [.int i] ∧ Q (.int (if i < 0 then -i else i)) H
section
variable {X : Cx} {H : Hp} {Q : VK} {a b : Int} {k : Bool} {x y : Str}
theorem kc_int1 : CallR X (.type "int") rInt1 := call_int1
theorem kc_intS : CallR X (.type "int") rIntS := call_int_str
theorem kop_addS : OpR X (binaryOp .Add) rAddS := op_add_str
theorem kc_max (hc : X.calm = true) : CallR X (.builtin "max") rMax2 := call_max2 hc
theorem kc_abs : CallR X (.builtin "abs") rAbs1 := call_abs
theorem q_intI (h : Q (.int a) H) : rInt1 [.int a] H Q := .inl ⟨a, rfl, h⟩
theorem q_intB (h : Q (.int (if k then 1 else 0)) H) : rInt1 [.bl k] H Q := .inr ⟨k, rfl, h⟩
theorem q_intS {n : Int} (e : PySem.intText? x = some n) (l : x.length ≤ 640) (h : Q (.int n) H) : rIntS [.str x] H Q := ⟨x, n, rfl, e, l, h⟩
theorem q_addS (l : x.length + y.length ≤ sizeLine) (h : Q (.str (x ++ y)) H) : rAddS (.str x) (.str y) H Q := ⟨x, y, rfl, rfl, l, h⟩
theorem q_max (h : Q (.int (max a b)) H) : rMax2 [.int a, .int b] H Q := ⟨a, b, rfl, by
  have e : (if b > a then b else a) = max a b := by
    rw [Int.max_def]; split <;> split <;> omega
  rw [e]; exact h⟩
theorem q_abs (h : Q (.int (a.natAbs : Int)) H) : rAbs1 [.int a] H Q := ⟨a, rfl, by
  have e : (if a < 0 then -a else a) = (a.natAbs : Int) := by split <;> omega
  rw [e]; exact h⟩
end
theorem at_mod {ns : List Int} {a : Int} (h : 0 < ns.length) : ∃ z, atI (ns.map V.int) (a % (((ns.map V.int).length : Nat) : Int)) = some (V.int z) := by
  have hl : (ns.map V.int).length = ns.length := List.length_map _
  rw [hl]
  have h0 : 0 ≤ a % (ns.length : Int) := Int.emod_nonneg _ (by omega)
  have h1 : a % (ns.length : Int) < ns.length := Int.emod_lt_of_pos _ (by omega)
  obtain ⟨j, hj⟩ : ∃ j : Nat, a % (ns.length : Int) = j := ⟨(a % (ns.length : Int)).toNat, by omega⟩
  rw [hj]
  refine ⟨ns[j]'(by omega), atI_nat ?_⟩
  rw [List.getElem?_map, List.getElem?_eq_getElem (by omega)]; rfl
end
open PySem PySem.Spec PyProof.Rows L2
local macro_rules | `(tactic| wtm_at "of_rd1") => `(tactic| with_reducible first
  | refine r_dget ?_ | refine r_dput ?_ | refine r_gsub ?_ | refine q_intI ?_ | refine q_intB ?_
  | refine r_par ?_ | refine r_par3 ?_ | refine r_parP ?_ | refine r_parP3 ?_ | refine r_part ?_ | refine r_nopart ?_ | refine r_intP ?_ | refine r_for ?_ | refine r_iL ?_ | refine r_iT ?_ | refine r_iR1 ?_ | refine r_iR2 ?_ | refine r_iR3 ?_ | refine r_iZ ?_ | refine r_lc ?_ | refine r_sl ?_ | refine r_bm ?_ | refine r_turn1 ?_ | refine r_lturn ?_ | refine r_yes ?_
  | refine r_seq ?_ | refine r_asg ?_ | refine r_ret ?_ | refine r_sfld ?_ | refine r_ifS ?_ | refine r_drop ?_ | refine r_next ?_ | refine r_retN ?_ | refine r_gcd ?_
  | refine r_op ?_ | refine r_un ?_ | refine r_fld ?_ | refine r_cons ?_ | refine r_nil ?_ | refine r_c ?_ | refine r_c1 ?_ | refine r_cb ?_ | refine r_ck ?_ | refine r_cm ?_
  | refine r_test ?_ | refine r_B ?_ | refine r_and ?_ | refine r_or ?_ | refine r_not ?_ | refine r_andV ?_ | refine r_orV ?_ | refine r_notV ?_ | refine r_ifE ?_
  | refine r_tr ?_ | refine r_name ?_ | refine r_blP ?_ | refine r_tup ?_ | refine r_lst ?_ | refine r_gCons ?_ | refine r_gNil ?_ | refine r_rz ?_
  | refine r_var (by with_unfolding_all rfl) ?_
  | refine iteT ?_ | refine iteF ?_ | refine iteNT ?_ | refine iteNF ?_
  | refine r_I0 ?_ | refine r_Ibt (by wtm_at "of_btl") (by wtm_at "of_btl") ?_ | refine r_Ir (by decide) ?_ | refine r_Il (by decide) ?_ | refine r_U ?_ | refine r_eqI ?_ | refine r_neI ?_
  | refine r_top (by assumption) (by with_unfolding_all rfl) (by wtm_at "of_up") ?_ | refine r_bot (by assumption) (by with_unfolding_all rfl) (by wtm_at "of_up") ?_)
section
open PySem PySem.Spec PyProof.Rows L2
section
variable {σ : L2.St} {H : Hp} {tk tv : TE} {r : List (TE × TE)} {QP : List (V × V) → Hp → Prop} {Q : VK} {trs : List (TE × TE)} {K : PySem.W.Frag} {a : Addr} {xs : List V}
theorem r_pairs (k : tk σ H fun x H1 => tv σ H1 fun y H2 => tPairs r σ H2 fun ps H3 => QP ((x, y) :: ps) H3) : tPairs ((tk, tv) :: r) σ H QP := k
theorem r_pairs0 (k : QP [] H) : tPairs [] σ H QP := k
def DispEnd (p : Addr) (Q : VK) (ps : List (V × V)) (H2 : Hp) : Prop := H2 p = some (.dK []) ∧ ∃ kvs : List (Key × V), ps = kvs.map (fun kv => (kV kv.1, kv.2)) ∧ kvs.length ≤ 15 ∧ Q (.ref p) (upd H2 p (.dK (mergeK [] kvs)))
theorem r_disp (k : ∀ p H', Ex H H' → H p = none → H' p = some (.dK []) → tPairs trs σ H' (DispEnd p Q)) : tDisp trs σ H Q := fun p hp => k p _ (Ex.new hp) hp upd_same
theorem disp_end {p : Addr} {kvs kvs' : List (Key × V)} (h : H p = some (.dK [])) (hl : kvs.length ≤ 15) (e : mergeK [] kvs = kvs') (k : Q (.ref p) (upd H p (.dK kvs'))) {ps : List (V × V)} (ep : ps = kvs.map (fun kv => (kV kv.1, kv.2))) : DispEnd p Q ps H := ⟨h, kvs, ep, hl, by rw [e]; exact k⟩
theorem r_slS {K' : PySem.W.Frag} {lo hi : Option Int} (e : K' = K) (h : SqL K H a xs) (k : ∀ p H', Ex H H' → H p = none → H' p = some (.lst (cutV xs lo hi)) → Q (.ref p) H') : rSlL K' (.ref a) lo hi H Q := by subst e; exact ⟨a, xs, rfl, h, fun p hp => k p _ (Ex.new hp) hp upd_same⟩
theorem q_lenS {K' : PySem.W.Frag} (e : K' = K) (h : SqL K H a xs) (k : Q (.int (xs.length : Int)) H) : rLen K' [.ref a] H Q := by subst e; exact ⟨a, xs, rfl, .inl h, k⟩
theorem r_rep {n : Int} (h : H a = some (.lst xs)) (h0 : 0 ≤ n) (h1 : n ≤ 1000) (hx : xs.length ≤ 1000) (k : ∀ p H', Ex H H' → H p = none → H' p = some (.lst (List.replicate n.toNat xs).flatten) → Q (.ref p) H') : rRep (.ref a) (.int n) H Q := by
  have e : (2 : Int) ^ 63 = 9223372036854775808 := by decide
  have hm : xs.length * n.toNat ≤ 1000 * 1000 := Nat.mul_le_mul hx (by omega)
  exact ⟨a, n, xs, rfl, rfl, h, by omega, by omega, by rw [sizeLine_eq]; omega, fun p hp => k p _ (Ex.new hp) hp upd_same⟩
theorem cutV_upto {n : Nat} (h : xs.length ≤ n) : cutV xs none (some (n : Int)) = xs := by
  unfold cutV
  have e1 : HT.sIx xs.length 0 none = 0 := rfl
  have e2 : HT.sIx xs.length xs.length (some (n : Int)) = xs.length := by
    unfold HT.sIx
    show (if (n : Int) < 0 then ((n : Int) + xs.length).toNat else min (n : Int).toNat xs.length) = _
    rw [if_neg (by omega)]; omega
  rw [e1, e2, Nat.sub_zero, List.drop_zero, List.take_length]
end
theorem Ex.seq {K : PySem.W.Frag} {H H' : Hp} {a : Addr} {xs : List V} (e : Ex H H') (h : SqL K H a xs) : SqL K H' a xs := Same.seq e h
def tpK (c : Addr) (a r : Int) : List (Key × V) := [(Sum.inr "cells", .ref c), (Sum.inr "at", .int a), (Sum.inr "rest", .int r)]
section
variable {c : Addr} {a r z : Int}
theorem tp_cells : valV (tpK c a r) (Sum.inr "cells") = some (.ref c) := by kernel_rfl
theorem tp_at : valV (tpK c a r) (Sum.inr "at") = some (.int a) := by kernel_rfl
theorem tp_rest : valV (tpK c a r) (Sum.inr "rest") = some (.int r) := by kernel_rfl
theorem tp_putAt : putK (tpK c a r) (Sum.inr "at") (.int z) = tpK c z r := by kernel_rfl
theorem tp_putRest : putK (tpK c a r) (Sum.inr "rest") (.int z) = tpK c a z := by kernel_rfl
end
theorem tp_new {c : Addr} : mergeK [] (tpK c 0 0) = tpK c 0 0 := by kernel_rfl
/-- the tape at p, of at most n cells read -/
def Tape (H : Hp) (p c : Addr) (n : Nat) : Prop := ∃ (a r : Int) (ns : List Int), H p = some (.dK (tpK c a r)) ∧ H c = some (.lst (ns.map V.int)) ∧ 0 < ns.length ∧ ns.length ≤ 63 ∧ 0 ≤ a ∧ a ≤ (n : Int)
theorem Tape.mono {H : Hp} {p c : Addr} {n m : Nat} (h : Tape H p c n) (hm : n ≤ m) : Tape H p c m := by
  obtain ⟨a, r, ns, h1, h2, h3, h4, h5, h6⟩ := h
  exact ⟨a, r, ns, h1, h2, h3, h4, h5, by omega⟩
theorem Tape.ex {H H' : Hp} {p c : Addr} {n : Nat} (e : Ex H H') (h : Tape H p c n) : Tape H' p c n := by
  obtain ⟨a, r, ns, h1, h2, h3⟩ := h
  exact ⟨a, r, ns, e _ _ h1, e _ _ h2, h3⟩
theorem Tape.put {H : Hp} {p c L : Addr} {n : Nat} {xs : List V} {o : HO} (h : Tape H p c n) (hl : H L = some (.lst xs)) (hc : c ≠ L) : Tape (upd H L o) p c n := by
  obtain ⟨a, r, ns, h1, h2, h3⟩ := h
  exact ⟨a, r, ns, by rw [upd_ne (ne_of h1 hl (by intro z; cases z))]; exact h1, by rw [upd_ne hc]; exact h2, h3⟩
theorem Le.lst {H H' : Hp} {p : Addr} {xs : List V} (e : Le H H') (h : H p = some (.lst xs)) : H' p = some (.lst xs) := e _ _ h trivial
theorem Le.tup {H H' : Hp} {p : Addr} {xs : List V} (e : Le H H') (h : H p = some (.tup xs)) : H' p = some (.tup xs) := e _ _ h trivial
/-- a draw: below the limit -/
def spDraw : Sp := fun vs H Q _ => ∃ (p : Addr) (m : Int) (n : Nat), vs = [.ref p, .int m] ∧ ∃ c, Tape H p c n ∧ n < 1000000 ∧ 0 < m ∧ m.natAbs < 2 ^ 4000 ∧ ∀ (H' : Hp) (d : Int), Le H H' → Tape H' p c (n + 1) → 0 ≤ d → d < m → Q (.int d) H'
def spBegin (K : PySem.W.Frag) : Sp := fun vs H Q _ => ∃ (a : Addr) (ns : List Int), vs = [.ref a] ∧ SqL K H a (ns.map V.int) ∧ ns.length ≤ 63 ∧ ∀ (H' : Hp) (p c : Addr), Ex H H' → H p = none → H c = none → Tape H' p c 0 → Q (.ref p) H'
def spPick : Sp := fun vs H Q _ => ∃ (p k : Addr) (xs : List V) (n : Nat), vs = [.ref p, .ref k] ∧ ∃ c, Tape H p c n ∧ n < 1000000 ∧ H k = some (.lst xs) ∧ 0 < xs.length ∧ xs.length ≤ 1000000 ∧ ∀ (H' : Hp) (i : Nat) (v : V), Le H H' → Tape H' p c (n + 1) → xs[i]? = some v → Q v H'
def spTen : Sp := fun vs H Q _ => ∃ f : Nat, vs = [.int f] ∧ f ≤ 600 ∧ Q (.int ((10 ^ f : Nat) : Int)) H
/-- a number of so many figures -/
def spNum (c lo : Nat) (neg : Bool) : Sp := fun vs H Q _ => ∃ (p : Addr) (f n : Nat), vs = [.ref p, .int f] ∧ ∃ c', Tape H p c' n ∧ n + c < 900000 ∧ lo ≤ f ∧ f ≤ 500 ∧
  ∀ (H' : Hp) (d : Int), Le H H' → Tape H' p c' (n + c) → (neg = false → 0 ≤ d) → d.natAbs < 10 ^ f → Q (.int d) H'
/-- Euclid's walk, counted -/
structure Euc (A B i u l : Nat) : Prop where
  g : Nat.gcd u l = Nat.gcd A B
  c : (i = 0 ∧ u = A ∧ l = B) ∨ (0 < i ∧ l < u ∧ u * l * 2 ^ (i - 1) ≤ A * B)
theorem Euc.step {A B i u l : Nat} (e : Euc A B i u l) (h : l ≠ 0) : Euc A B (i + 1) l (u % l) := by
  have hlt : u % l < l := Nat.mod_lt _ (by omega)
  refine ⟨by rw [← e.g, Nat.gcd_comm u l, Nat.gcd_comm l (u % l)]; exact (Nat.gcd_rec l u).symm, .inr ⟨by omega, hlt, ?_⟩⟩
  rcases e.c with ⟨rfl, rfl, rfl⟩ | ⟨h0, h1, h2⟩
  · show l * (u % l) * 2 ^ 0 ≤ u * l
    rw [Nat.pow_zero, Nat.mul_one, Nat.mul_comm]
    exact Nat.mul_le_mul_right _ (Nat.mod_le _ _)
  · have key : 2 * (u % l) ≤ u := by
      have hd := Nat.div_add_mod u l
      have h3 : 1 ≤ u / l := (Nat.one_le_div_iff (by omega)).mpr (by omega)
      have h4 : l * 1 ≤ l * (u / l) := Nat.mul_le_mul_left l h3
      omega
    refine Nat.le_trans ?_ h2
    obtain ⟨j, rfl⟩ : ∃ j, i = j + 1 := ⟨i - 1, by omega⟩
    rw [Nat.add_sub_cancel, Nat.add_sub_cancel, Nat.pow_succ]
    have : l * (u % l) * (2 ^ j * 2) = (2 * (u % l)) * l * 2 ^ j := by
      generalize 2 ^ j = y
      generalize u % l = x
      grind
    rw [this]
    exact Nat.mul_le_mul_right _ (Nat.mul_le_mul_right _ key)
theorem Euc.done {A B u l : Nat} (e : Euc A B 1000000 u l) (hA : A < 2 ^ 4000) (hB : B < 2 ^ 4000) : l = 0 := by
  rcases e.c with ⟨h, _, _⟩ | ⟨_, h1, h2⟩
  · omega
  · rcases Nat.eq_zero_or_pos l with z | z
    · exact z
    · exfalso
      have h3 : A * B < 2 ^ (4000 + 4000) := pow_mul_lt hA hB
      have h4 : 1 ≤ u * l := Nat.mul_pos (by omega) z
      have h5 : 2 ^ (1000000 - 1) ≤ A * B := Nat.le_trans (Nat.le_mul_of_pos_left _ h4) h2
      have h6 : 2 ^ (1000000 - 1) < 2 ^ (4000 + 4000) := Nat.lt_of_le_of_lt h5 h3
      have := (Nat.pow_lt_pow_iff_right (a := 2) (by decide)).mp h6
      omega
def spWhole (K : PySem.W.Frag) : Sp := fun vs H Q _ => ∃ a b : Int, vs = [.int a, .int b] ∧ Q (.bl (decide (a = b))) H
def spRatioIs (C : Addr) : Sp := fun vs H Q _ => ∃ (p : Addr) (q : Rat) (t b : Int), vs = [.ref p, .int t, .int b] ∧ IsR C H p q ∧ Bq q ∧ Bt t ∧ Bt b ∧ Q (.bl (decide (q.num * b = t * (q.den : Int)))) H
end
section
open PySem PySem.Spec PyProof.Rows L2
abbrev Pr : Type := Int × Int
def pairD (r : Pr) : PyData := .tuple [.int r.1, .int r.2]
def pairV (r : Pr) : List V := [.int r.1, .int r.2]
/-- the items are tuples of these pairs -/
inductive RowsX (H : Hp) : List V → List Pr → Prop where
  | nil : RowsX H [] []
  | cons {p : Addr} {r : Pr} {xs : List V} {rs : List Pr} : H p = some (.tup (pairV r)) → RowsX H xs rs → RowsX H (V.ref p :: xs) (r :: rs)
def Rows (H : Hp) (l : Addr) (rs : List Pr) : Prop := ∃ xs, H l = some (.lst xs) ∧ RowsX H xs rs
section
variable {H H' : Hp} {xs ys : List V} {rs qs : List Pr} {l p L : Addr} {r : Pr} {o : HO}
theorem RowsX.length (h : RowsX H xs rs) : xs.length = rs.length := by
  induction h with
  | nil => rfl
  | cons _ _ ih => rw [List.length_cons, List.length_cons, ih]
theorem RowsX.le (e : Le H H') (h : RowsX H xs rs) : RowsX H' xs rs := by
  induction h with
  | nil => exact .nil
  | cons h1 _ ih => exact .cons (e.tup h1) ih
theorem RowsX.put (hl : H L = some (.lst ys)) (h : RowsX H xs rs) : RowsX (upd H L o) xs rs := by
  induction h with
  | nil => exact .nil
  | cons h1 _ ih => exact .cons (by rw [upd_ne (ne_of h1 hl (by intro z; cases z))]; exact h1) ih
theorem RowsX.snoc (h : RowsX H xs rs) (hp : H p = some (.tup (pairV r))) : RowsX H (xs ++ [V.ref p]) (rs ++ [r]) := by
  induction h with
  | nil => exact .cons hp .nil
  | cons h1 _ ih => exact .cons h1 ih
theorem RowsX.at_ (h : RowsX H xs rs) : ∀ {i : Nat} {v : V}, xs[i]? = some v → ∃ p r, v = .ref p ∧ rs[i]? = some r ∧ H p = some (.tup (pairV r)) := by
  induction h with
  | nil => intro i v h; simp at h
  | cons h1 _ ih =>
    intro i v hv
    match i, hv with
    | 0, hv => cases hv; exact ⟨_, _, rfl, rfl, h1⟩
    | i + 1, hv => exact ih hv
theorem RowsX.get (h : RowsX H xs rs) : ∀ {i : Nat} {r : Pr}, rs[i]? = some r → ∃ p, xs[i]? = some (.ref p) ∧ H p = some (.tup (pairV r)) := by
  induction h with
  | nil => intro i v h; simp at h
  | cons h1 _ ih =>
    intro i v hv
    match i, hv with
    | 0, hv => cases hv; exact ⟨_, rfl, h1⟩
    | i + 1, hv => exact ih hv
theorem RowsX.erase (h : RowsX H xs rs) : ∀ i : Nat, RowsX H (xs.eraseIdx i) (rs.eraseIdx i) := by
  induction h with
  | nil => intro i; exact .nil
  | cons h1 h2 ih =>
    intro i
    match i with
    | 0 => exact h2
    | i + 1 => exact .cons h1 (ih i)
variable {K : PySem.W.Frag}
theorem dp_pair (h : H p = some (.tup (pairV r))) : Dp K H (.ref p) (pairD r) := .tup (SqT.of h) (.cons (.int _) (.cons (.int _) .nil))
theorem RowsX.dp (h : RowsX H xs rs) : DpAll K H xs (rs.map pairD) := by
  induction h with
  | nil => exact .nil
  | cons h1 _ ih => exact .cons (dp_pair h1) ih
theorem rows_dp (hl : H l = some (.lst xs)) (h : RowsX H xs rs) : Dp K H (.ref l) (.list (rs.map pairD)) := .lst (SqL.of hl) h.dp
theorem nil_dp (hl : H l = some (.lst [])) : Dp K H (.ref l) (.list []) := .lst (SqL.of hl) .nil
theorem pair_lay (r : Pr) : (pairD r).canLay0 = true := rfl
theorem rows_lay : ∀ rs : List Pr, PyData.canLayAll0 (rs.map pairD) = true
  | [] => rfl
  | r :: rs => by
    show (PyData.canLay0 (pairD r) && PyData.canLayAll0 (rs.map pairD)) = true
    rw [pair_lay, rows_lay rs]; rfl
theorem rows_depth : ∀ rs : List Pr, PyData.depthAll (rs.map pairD) ≤ 1
  | [] => Nat.zero_le _
  | r :: rs => by
    show max (PyData.depth (pairD r)) (PyData.depthAll (rs.map pairD)) ≤ 1
    have h1 : PyData.depth (pairD r) = 1 := rfl
    have := rows_depth rs
    omega
theorem rows_shaped (rs : List Pr) : SeqAt.shaped (.list (rs.map pairD)) = true := by
  unfold SeqAt.shaped
  have h1 : PyData.canLay0 (.list (rs.map pairD)) = true := rows_lay rs
  have h2 : PyData.depth (.list (rs.map pairD)) ≤ 64 := by
    show PyData.depthAll (rs.map pairD) + 1 ≤ 64
    have := rows_depth rs
    omega
  rw [h1, decide_eq_true h2]; rfl
theorem nil_shaped : SeqAt.shaped (.list []) = true := by decide +kernel
theorem rows_eqv_nil (rs : List Pr) : PyData.eqv (.list (rs.map pairD)) (.list []) = decide (rs = []) := by
  cases rs with
  | nil => rfl
  | cons r rs => rfl
theorem pair_eqv (r q : Pr) : PyData.eqv (pairD r) (pairD q) = decide (r = q) := by
  show (r.1 == q.1 && (r.2 == q.2 && true)) = decide (r = q)
  rw [Bool.and_true, Bool.eq_iff_iff, Bool.and_eq_true, beq_iff_eq, beq_iff_eq, decide_eq_true_iff, Prod.ext_iff]
/-- rows != [], rows == [] -/
theorem r_neNil {Q : VK} {e : Addr} (hl : H l = some (.lst xs)) (h : RowsX H xs rs) (he : H e = some (.lst [])) (k : Q (.bl (!decide (rs = []))) H) : rNeD K (.ref l) (.ref e) H Q := ⟨_, _, rows_dp hl h, nil_dp he, rows_shaped rs, nil_shaped, by rw [rows_eqv_nil]; exact k⟩
theorem r_eqNil {Q : VK} {e : Addr} (hl : H l = some (.lst xs)) (h : RowsX H xs rs) (he : H e = some (.lst [])) (k : Q (.bl (decide (rs = []))) H) : rEqD K (.ref l) (.ref e) H Q := ⟨_, _, rows_dp hl h, nil_dp he, rows_shaped rs, nil_shaped, by rw [rows_eqv_nil]; exact k⟩
/-- l.remove(x), data in data: the first equal item goes -/
def rRemD (K : PySem.W.Frag) : V → List V → Hp → VK → Prop := fun x vs H Q => ∃ (l : Addr) (xs : List V) (y : V) (ds : List PyData) (d : PyData) (j : Nat), x = .ref l ∧ vs = [y] ∧ H l = some (.lst xs) ∧ DpAll K H xs ds ∧ Dp K H y d ∧ PyData.canLayAll0 ds = true ∧ d.canLay0 = true ∧ PyData.depthAll ds ≤ 60 ∧
  SeqAt.dataPlace ds d = some j ∧ Q .non (upd H l (.lst (xs.eraseIdx j)))
theorem erase_len (xs : List V) (j : Nat) : (xs.eraseIdx j).length ≤ xs.length := by
  rw [List.length_eraseIdx]; split <;> omega
theorem mt_removeD {X : Cx} (h : X.K = K) (hu : X.A.units + 64 < cLine) : MtM X "list.remove" (rRemD K) := by
  subst h
  intro pins s σ H x vs v us Q I rx rxs h
  obtain ⟨l, xs, y, ds, d, j, rfl, rfl, hH, hds, hd, c1, c2, hdep, hj, q⟩ := h
  cases rx
  obtain ⟨u, rfl, ru⟩ := rxs.one
  obtain ⟨z, its, n, r, hl, e⟩ := I.lstM hH
  obtain ⟨as, q1⟩ := Dp.readsAll I ds _ _ hds r
  obtain ⟨bs, q2⟩ := Dp.reads I d _ _ hd ru
  refine SeqAt.remove_list_data (vs := its.toArray) (xs := ds) (d := d) (as := as) (bs := bs) ⟨_, e, rfl, n, rfl⟩ (by simpa using q1) q2 (PyData.plainAll_of_canLay0 _ c1) (PyData.plain_of_canLay0 _ c2) (by omega) hj (by rw [List.size_toArray]; omega) ?_
  have rr := r.eraseIdx j
  refine ⟨.non, _, I.lset (its' := its.eraseIdx j) (t' := s.toks) hH e ?_ rr ?_, rfl, q⟩
  · show its.toArray.eraseIdxIfInBounds j = (its.eraseIdx j).toArray
    rw [List.eraseIdxIfInBounds_toArray]
  · have := erase_len xs j
    omega
end
def spDiv : Sp := fun vs H Q _ => ∃ a b : Int, vs = [.int a, .int b] ∧ Bt a ∧ Bt b ∧ NewV Q H (.bl true)
def PrOk (N : Nat) (r : Pr) : Prop := r.1.natAbs < 2 ^ N ∧ r.2.natAbs < 2 ^ N ∧ 0 < r.2
def spNear : Sp := fun vs H Q _ => ∃ (p l : Addr) (rs : List Pr) (n N : Nat), vs = [.ref p, .ref l] ∧ ∃ c, Tape H p c n ∧ n + 500 < 900000 ∧ Rows H l rs ∧ rs.length ≤ 1000 ∧ 240 ≤ N ∧ N ≤ 3000 ∧ (∀ r ∈ rs, PrOk N r) ∧
  ∀ (H' : Hp) (q : Addr) (r : Pr), Le H H' → Tape H' p c (n + 500) → H' q = some (.tup (pairV r)) → PrOk (N + 5) r → Q (.ref q) H'
theorem p5 (N : Nat) : 2 ^ (N + 5) = 32 * 2 ^ N := by rw [Nat.pow_add, Nat.mul_comm]
theorem near_ok {N : Nat} {r : Pr} {f d : Int} (h : PrOk N r) (f0 : 1 ≤ f) (f1 : f ≤ 9) (d0 : -1 ≤ d) (d1 : d ≤ 1) : PrOk (N + 5) (r.1 * f + d, r.2 * f) := by
  obtain ⟨h1, h2, h3⟩ := h
  have e := p5 N
  have p : 0 < 2 ^ N := Nat.two_pow_pos N
  have m1 : (r.1 * f).natAbs ≤ r.1.natAbs * 9 := by rw [Int.natAbs_mul]; exact Nat.mul_le_mul_left _ (by omega)
  have m2 : (r.2 * f).natAbs ≤ r.2.natAbs * 9 := by rw [Int.natAbs_mul]; exact Nat.mul_le_mul_left _ (by omega)
  have m3 : 0 < r.2 * f := Int.mul_pos h3 (by omega)
  exact ⟨by show (r.1 * f + d).natAbs < _; rw [e]; omega, by show (r.2 * f).natAbs < _; rw [e]; omega, m3⟩
def toQ (r : Pr) : Rat := Rat.divInt r.1 r.2
/-- the numbers handed in are those of the rows -/
def Handed (C : Addr) (H : Hp) (k : Addr) (rs : List Pr) : Prop := ∃ ys, SeqAt1 H k ys ∧ ys.length = rs.length ∧ ∀ (i : Nat) (r : Pr), rs[i]? = some r → ∃ v, ys[i]? = some v ∧ NumV C H v (toQ r)
def spOrder (C : Addr) : Sp := fun vs H Q _ => ∃ (l k : Addr) (rs : List Pr), vs = [.ref l, .ref k] ∧ Rows H l rs ∧ Handed C H k rs ∧ 0 < rs.length ∧ rs.length ≤ 1000 ∧ (∀ r ∈ rs, PrOk 3000 r) ∧ NewV Q H (.bl true)
theorem PrOk.bq {N : Nat} {r : Pr} (h : PrOk N r) (hN : N ≤ 4000) : Bq (toQ r) := by
  obtain ⟨h1, h2, h3⟩ := h
  rcases Nat.eq_zero_or_pos N with z | z
  · subst z
    have : r.2.natAbs < 1 := h2
    omega
  · exact (Sz.divInt h1 h2 z).bq hN
theorem dec_ratio {q : Rat} {r : Pr} (h : 0 < r.2) : decide (q.num * r.2 = r.1 * (q.den : Int)) = decide (q = toQ r) := by
  rw [decide_eq_decide]
  unfold toQ
  conv => rhs; rw [← Rat.num_divInt_den q]
  rw [Rat.divInt_eq_divInt_iff (den_ne q) (by omega)]
theorem dec_same {q r : Rat} (h : q = r) : decide (q.num * (r.den : Int) = r.num * (q.den : Int)) = true := by
  subst h; exact decide_eq_true rfl
theorem place_of {r : Pr} {rs : List Pr} (h : r ∈ rs) : ∃ j, SeqAt.dataPlace (rs.map pairD) (pairD r) = some j ∧ rs[j]? = some r := by
  unfold SeqAt.dataPlace
  cases e : (rs.map pairD).findIdx? (fun y => PyData.eqv y (pairD r)) with
  | none =>
    have := List.findIdx?_eq_none_iff.mp e (pairD r) (List.mem_map.mpr ⟨r, h, rfl⟩)
    rw [pair_eqv] at this
    simp at this
  | some j =>
    obtain ⟨h1, h2, _⟩ := List.findIdx?_eq_some_iff_getElem.mp e
    refine ⟨j, rfl, ?_⟩
    rw [List.length_map] at h1
    rw [List.getElem_map, pair_eqv, decide_eq_true_iff] at h2
    rw [List.getElem?_eq_getElem h1, h2]
theorem erase_perm {r : Pr} : ∀ {rs : List Pr} {j : Nat}, rs[j]? = some r → (r :: rs.eraseIdx j).Perm rs
  | [], j, h => by simp at h
  | q :: rs, 0, h => by cases h; exact .refl _
  | q :: rs, j + 1, h => (List.Perm.swap q r _).trans ((erase_perm (rs := rs) (j := j) h).cons q)
theorem filter_step {t : Pr → Bool} {rs : List Pr} {r : Pr} {i : Nat} (h : rs[i]? = some r) : (rs.take (i + 1)).filter t = (rs.take i).filter t ++ (if t r = true then [r] else []) := by
  rw [List.take_add_one, h, List.filter_append]
  congr 1
  show List.filter t [r] = _
  rw [List.filter_cons, List.filter_nil]
theorem sorted_unique {a b : List Rat} (h : a.Perm b) (ha : a.Pairwise (· ≤ ·)) (hb : b.Pairwise (· ≤ ·)) : a = b :=
  List.Perm.eq_of_pairwise (fun x y _ _ h1 h2 => Rat.le_antisymm h1 h2) ha hb h
def rTupOf (K : PySem.W.Frag) : List V → Hp → VK → Prop := fun xs H Q => ∃ p ys, xs = [.ref p] ∧ ((SqL K H p ys ∧ ∀ l, H l = none → Q (.ref l) (upd H l (.tup ys))) ∨ (SqT K H p ys ∧ Q (.ref p) H))
theorem kc_tupof {X : Cx} {K : PySem.W.Frag} (h : X.K = K) : CallR X (.type "tuple") (rTupOf K) := by subst h; exact call_tuple_of
theorem kc_all {X : Cx} {K : PySem.W.Frag} (h : X.K = K) (hc : X.calm = true) : CallR X (.builtin "all") (rAll K) := by subst h; exact cr_all hc
theorem q_tupL {K : PySem.W.Frag} {H : Hp} {Q : VK} {a : Addr} {xs : List V} (h : H a = some (.lst xs)) (k : ∀ p H', Ex H H' → H p = none → H' p = some (.tup xs) → Q (.ref p) H') : rTupOf K [.ref a] H Q :=
  ⟨a, xs, rfl, .inl ⟨SqL.of h, fun l hl => k l _ (Ex.new hl) hl upd_same⟩⟩
theorem q_allB {K : PySem.W.Frag} {H : Hp} {Q : VK} {a : Addr} {bs : List Bool} (h : H a = some (.lst (bs.map V.bl))) (k : Q (.bl (bs.all id)) H) : rAll K [.ref a] H Q := ⟨a, bs, rfl, SqL.of h, k⟩
theorem PrOk.mono {N M : Nat} {r : Pr} (h : PrOk N r) (hm : N ≤ M) : PrOk M r := ⟨pow_mono h.1 hm, pow_mono h.2.1 hm, h.2.2⟩
theorem toQ_one {r : Pr} (h : r.2 = 1) : toQ r = (r.1 : Rat) := by unfold toQ; rw [h, divInt_one]
def negP (r : Pr) : Pr := (-r.1, r.2)
theorem PrOk.neg {N : Nat} {r : Pr} (h : PrOk N r) : PrOk N (negP r) := ⟨by show (-r.1).natAbs < _; rw [Int.natAbs_neg]; exact h.1, h.2.1, h.2.2⟩
end
section
open PySem PySem.Spec PyProof.Rows L2 PySem.W PySem.Calls
section
variable {prog : Program} {w : World} {A : Around} {E : Value → Shared → Prop} {s : Shared} {K : Frag} {x D : Addr} {ox : Obj} {od : Option Obj}
theorem kit_exc (C : ExcC K D) : KitX K (.ref x) (.ref D) (fun h => InstAt h x ox D od) :=
  kitx_exc (by obtain ⟨_, hc, _⟩ := any_some C.hd; rw [hc]; rfl) C.hg C.hk C.hs C.ha C.hn C.ht C.hm
end
/-- isinstance(e, c) in the suite, e with a dict -/
theorem call_isEd {X : Cx} {a D : Addr} {oe : Obj} {pn : List (Addr × Obj)} {dd : Addr} {K : Frag} (hK : X.K = K) (C : ExcC K D) (hz : Zc (.ref D) (some dd) oe) (hf : ∃ vs, oe.data = .fields vs) :
    CallR (X.suite a ((a, oe) :: pn)) (.builtin "isinstance") (fun xs H Q => (∃ fs, H dd = some (.xd fs)) ∧ rIsE K D a xs H Q) := by
  subst hK
  intro pins s σ H xs us Q I r h
  obtain ⟨⟨fs, hdd⟩, c, cv, b, rfl, hcv, e, q⟩ := h
  cases r with
  | cons rx rr =>
    cases rr with
    | cons rt rr =>
      cases rr; cases rx
      obtain rfl := hcv _ rt
      obtain ⟨hget, _⟩ := I.pin (a, oe) (List.mem_append.mpr (.inl List.mem_cons_self))
      obtain ⟨vs, hv⟩ := hf
      obtain ⟨mA, hns, hr⟩ := (show ObjOk X.prog X.w H s.heap dd (.xd fs) from I.hok dd _ hdd)
      obtain ⟨od, ho, hl⟩ := lookIn_ns hns
      have J : InstAt s.heap a oe D (some od) := ⟨hget, hz.1, by unfold notCls; rw [hv] <;> rfl, by rw [hz.2]; exact ho⟩
      exact kia_one (kit_exc C) I.kIn J e (fun z => nomatch z) fun tk => ⟨.bl b, H, I.kept (t' := tk) fun _ _ z => z, rfl, q⟩
theorem call_isEx {X : Cx} {a D : Addr} {oe : Obj} {pn : List (Addr × Obj)} {cls : Value} {d : Option Addr} {K : Frag} (hK : X.K = K) (C : ExcC K D) (hz : Zc cls d oe) (hf : ∃ vs, oe.data = .fields vs) :
    CallR (X.suite a ((a, oe) :: pn)) (.builtin "isinstance") (fun xs H Q => cls = .ref D ∧ (∃ dd fs, d = some dd ∧ H dd = some (.xd fs)) ∧ rIsE K D a xs H Q) := by
  intro pins s σ H xs us Q I r h
  obtain ⟨rfl, ⟨dd, fs, rfl, hdd⟩, q⟩ := h
  exact call_isEd hK C hz hf pins s σ H xs us Q I r ⟨⟨fs, hdd⟩, q⟩
theorem takes_len {X : Cx} {W : WX} (tk : Takes X W) : Takes X (fun cls d σ H => σ.length = X.N.length → W cls d σ H) := fun u s' h => by
  obtain ⟨a, B, sI, pins, σ, H, cls, d, e, I, nb, up, sky, na, os, ag, w⟩ := h
  exact tk u s' ⟨a, B, sI, pins, σ, H, cls, d, e, I, nb, up, sky, na, os, ag, w I.len⟩
/-- what a refused call leaves: NoSuch's number -/
def TEmpty (CN : Addr) : (XK → Hp → VK → Prop) → Hp → VK → Prop := fun tl H Q => tl (fun cls d H' => cls = .ref CN ∧ ∃ dd v, d = some dd ∧ H' dd = some (.xd [("number", v)]) ∧ Q v H') H (fun _ H' => ∃ v : V, some (some (V.str "fine")) = some (some v) ∧ Q v H')
end
section
open PySem PySem.Spec PyProof.Rows L2
def spLaw (K : PySem.W.Frag) (T : List (Addr × Str)) : Sp := fun vs H Q _ => ∃ (a : Addr) (ns : List Int), vs = [.ref a] ∧ SqL K H a (ns.map V.int) ∧ ns.length ≤ 63 ∧ LamX.Tabs T H ∧ ∀ H', Q (.bl true) H'
theorem tabs_le {T : List (Addr × Str)} {H H' : Hp} (t : LamX.Tabs T H) (e : Le H H') : LamX.Tabs T H' := fun p hp => by
  obtain ⟨ps, h1, h2, h3⟩ := t p hp
  refine ⟨ps, e _ _ h1 trivial, h2, fun pos cv hc => ?_⟩
  obtain ⟨c, e1, e2⟩ := h3 pos cv hc
  exact ⟨c, e1, e _ _ e2 trivial⟩
end
section
open PySem PySem.Spec PyProof.Rows L2
abbrev qL : Str := (("law" : Str) ++ ".<locals>.") ++ "<lambda>"
theorem psL {X : Cx} {A : Around} {outer : List Env} {s : Shared} {H : Hp} {E : XK} {scope : Scope} {f c' : Addr} : Passes (L2.CX X.prog X.w) (LamX.lamCx X A outer s H E scope f c') E :=
  passes_call (X := LamX.lamCx X A outer s H E scope f c') (W := fun cls d _ H => E cls d H) (takes_of rfl rfl rfl rfl) (fun _ _ _ _ h => h)
theorem r_lam {T : List (Addr × Str)} {TT : (XK → Hp → VK → Prop) → Hp → VK → Prop} {t : XK → TE} {σ : L2.St} {H : Hp} {Q : VK} (h : LamX.Tabs T H) (k : ∀ H1, LamX.ExtN H H1 → LamX.Tabs T H1 → TT (fun E H' Q' => t E σ H' Q') H1 Q) : LamX.tLam T TT t σ H Q := ⟨h, k⟩
end
section
open PySem PySem.Spec PyProof.Rows L2
theorem lam_mem {q : Str} {PT : Addr} (e : q ++ ("<lambda>" : Str) = qL) : (PT, q ++ ("<lambda>" : Str)) ∈ [(PT, qL)] := by rw [e]; exact List.mem_singleton.mpr rfl
theorem lam_uni {q : Str} {PT : Addr} (e : q ++ ("<lambda>" : Str) = qL) : ∀ p ∈ [(PT, qL)], p.1 = PT → p.2 = q ++ ("<lambda>" : Str) := by
  rw [e]
  intro p hp _
  rw [List.mem_singleton.mp hp]
end
section
open PySem PySem.Spec PyProof.Rows L2
theorem lamGl {X : Cx} {A : Around} {outer : List Env} {s : Shared} {H : Hp} {E : XK} {scope : Scope} {f c' : Addr} {x : Str} (h : scope.names.lookup x = some .globalImplicit) : Gl (LamX.lamCx X A outer s H E scope f c') x := h
end
section
open PySem PySem.Spec PyProof.Rows L2
def absQ (q : Rat) : Rat := if q.num < 0 then -q else q
theorem cdz_den {q : Rat} {i : Int} (h : Bq q) : CDivZ i (q.den : Int) := ⟨den_ne q, by exact pow_mono h.2 (by decide)⟩
theorem flo_num (q : Rat) : q.num.fdiv (q.den : Int) = q.floor := by
  rw [Rat.floor_def, Int.fdiv_eq_ediv_of_nonneg _ (by omega)]
theorem flo_neg (q : Rat) : (-q.num).fdiv (q.den : Int) = (-q).floor := flo_num (-q)
theorem dd_ne (q r : Rat) : (q.den : Int) * r.den ≠ 0 := Int.mul_ne_zero (den_ne q) (den_ne r)
theorem dd_lt {q r : Rat} (h : Bq q) (g : Bq r) : ((q.den : Int) * r.den).natAbs < 2 ^ 9000 := pow_mono (lt_mul h.2 g.2) (by decide)
theorem rat_abs (q : Rat) : Rat.divInt (if q.num < 0 then -q.num else q.num) q.den = absQ q := by
  unfold absQ
  split
  · exact rat_neg q
  · exact Rat.num_divInt_den q
theorem q_absI {i : Int} {H : Hp} {Q : VK} (k : Q (.int (if i < 0 then -i else i)) H) : rAbs1 [.int i] H Q := ⟨i, rfl, k⟩
end
section
open PySem PySem.Spec PyProof.Rows L2
def spFloQ (K : PySem.W.Frag) (C CB : Addr) : Sp := fun vs H Q E => ∃ u v q r, vs = [u, v] ∧ NumV C H u q ∧ NumV C H v r ∧ Bq q ∧ Bq r ∧ ((r = 0 ∧ Rz E CB "value" v H) ∨ (r ≠ 0 ∧ NewV Q H (.int (q / r).floor)))
def spOver (K : PySem.W.Frag) (C CB : Addr) : Sp := fun vs H Q E => ∃ a v q, vs = [.ref a, v] ∧ IsR C H a q ∧ Bq q ∧ ((Wrong K C H v ∧ Rz E CB "value" v H) ∨ ∃ r, NumV C H v r ∧ Bq r ∧ ((r = 0 ∧ Rz E CB "value" v H) ∨ (r ≠ 0 ∧ NewR C Q H (q / r))))
end
section
open PySem PySem.Spec PyProof.Rows L2
theorem num_ne {r : Rat} (h : r ≠ 0) : r.num ≠ 0 := fun z => h (Rat.num_eq_zero.mp z)
def spRF (C CB : Addr) (g : Rat → Rat → Int) : Sp := fun vs H Q E => ∃ a v q r, vs = [.ref a, v] ∧ IsR C H a q ∧ NumV C H v r ∧ Bq q ∧ Bq r ∧ ((r = 0 ∧ Rz E CB "value" v H) ∨ (r ≠ 0 ∧ NewV Q H (.int (g q r))))
def spRFI (C CB : Addr) (g : Rat → Rat → Int) : Sp := fun vs H Q E => ∃ a q n, vs = [.ref a, .int n] ∧ IsR C H a q ∧ Bq q ∧ Bt n ∧ ((q = 0 ∧ Rz E CB "value" (.ref a) H) ∨ (q ≠ 0 ∧ NewV Q H (.int (g q (n : Rat)))))
end
section
open PySem PySem.Spec PyProof.Rows L2
def spRM (C CB : Addr) (g : Rat → Rat → Rat) : Sp := fun vs H Q E => ∃ a v q r, vs = [.ref a, v] ∧ IsR C H a q ∧ NumV C H v r ∧ Bq q ∧ Bq r ∧ ((r = 0 ∧ Rz E CB "value" v H) ∨ (r ≠ 0 ∧ Bq (r * ((q / r).floor : Rat)) ∧ Bt (q / r).floor ∧ NewR C Q H (g q r)))
def spRMI (C CB : Addr) (g : Rat → Rat → Rat) : Sp := fun vs H Q E => ∃ a q n, vs = [.ref a, .int n] ∧ IsR C H a q ∧ Bq q ∧ Bt n ∧ ((q = 0 ∧ Rz E CB "value" (.ref a) H) ∨ (q ≠ 0 ∧ Bq (q * (((n : Rat) / q).floor : Rat)) ∧ Bt ((n : Rat) / q).floor ∧ NewR C Q H (g q (n : Rat))))
def strQ (q : Rat) : Str := if (q.den : Int) = 1 then Str.ofString (toString q.num) else ((Str.empty ++ Str.ofString (toString q.num)) ++ ("/" : Str)) ++ Str.ofString (toString (q.den : Int))
def spRS (C : Addr) : Sp := fun vs H Q _ => ∃ a q, vs = [.ref a] ∧ IsR C H a q ∧ q.num.natAbs.log2 < 1920 ∧ q.den.log2 < 1920 ∧ Q (.str (strQ q)) H
def spPow : Sp := fun vs H Q _ => ∃ (x : Int) (n : Nat), vs = [.int x, .int n, .int 1] ∧ Bt x ∧ n < 120 ∧ Q (.int (x ^ n)) H
end
section
open PySem PySem.Spec PyProof.Rows L2
theorem rat_div (q r : Rat) : Rat.divInt (q.num * r.den) (q.den * r.num) = q / r := by
  conv => rhs; rw [← Rat.num_divInt_den q, ← Rat.num_divInt_den r, Rat.div_def, Rat.inv_divInt, Rat.divInt_mul_divInt]
end
section
open PySem PySem.Spec PyProof.Rows L2
theorem pw_lt {x : Int} (h : Bt x) : ∀ {m : Nat}, m < 120 → (x ^ m).natAbs < 2 ^ (4000 * 120 + 1) := by
  intro m hm
  rw [Int.natAbs_pow]
  have h1 : x.natAbs ^ m ≤ (2 ^ 4000) ^ m := Nat.pow_le_pow_left (Nat.le_of_lt h) m
  rw [← Nat.pow_mul] at h1
  exact Nat.lt_of_le_of_lt h1 (Nat.pow_lt_pow_right (by decide) (by omega))
def spRP (C : Addr) : Sp := fun vs H Q _ => ∃ (a : Addr) (q : Rat) (n : Nat), vs = [.ref a, .int n] ∧ IsR C H a q ∧ Bq q ∧ n < 120 ∧ (((q.den : Int)) ^ n).natAbs < 2 ^ 9000 ∧ NewR C Q H (q ^ n)
end
section
open PySem PySem.Spec PyProof.Rows L2
theorem rat_pow (q : Rat) : ∀ n : Nat, Rat.divInt (q.num ^ n) ((q.den : Int) ^ n) = q ^ n
  | 0 => by rw [Int.pow_zero, Int.pow_zero, Rat.pow_zero]; rfl
  | n + 1 => by rw [Rat.pow_succ, ← rat_pow q n, Int.pow_succ, Int.pow_succ, ← Rat.divInt_mul_divInt, Rat.num_divInt_den]
end
section
open PySem PySem.Spec PyProof.Rows L2
theorem Ex.get {H H' : Hp} {a : Addr} {o : HO} (e : Ex H H') (h : H a = some o) : H' a = some o := e a o h
/-- q is n over d -/
def FrQ (q : Rat) (n d : Int) : Prop := q * (d : Rat) = (n : Rat)
theorem frq_of {n d : Int} (h : d ≠ 0) : FrQ (Rat.divInt n d) n d := by
  unfold FrQ
  rw [Rat.divInt_eq_div]
  have : (d : Rat) ≠ 0 := by exact_mod_cast h
  grind
theorem rat_nd (q : Rat) : (q.num : Rat) = q * ((q.den : Int) : Rat) := by
  have e : Rat.divInt q.num q.den = q := Rat.num_divInt_den q
  rw [Rat.divInt_eq_div] at e
  have d0 : ((q.den : Int) : Rat) ≠ 0 := by exact_mod_cast den_ne q
  generalize hy : ((q.den : Int) : Rat) = y at *
  generalize hx : (q.num : Rat) = x at *
  rw [← e]
  grind
theorem FrQ.num {q : Rat} {t b : Int} (h : FrQ q t b) : q.num * b = t * (q.den : Int) := by
  have : ((q.num * b : Int) : Rat) = ((t * (q.den : Int) : Int) : Rat) := by
    rw [Rat.intCast_mul, Rat.intCast_mul, rat_nd q, ← h]
    grind
  exact_mod_cast this
theorem FrQ.of_num {q : Rat} {t b : Int} (h : q.num * b = t * (q.den : Int)) : FrQ q t b := by
  unfold FrQ
  have h2 : ((q.num * b : Int) : Rat) = ((t * (q.den : Int) : Int) : Rat) := by rw [h]
  rw [Rat.intCast_mul, Rat.intCast_mul, rat_nd q] at h2
  have d0 : ((q.den : Int) : Rat) ≠ 0 := by exact_mod_cast den_ne q
  generalize ((q.den : Int) : Rat) = y at *
  grind
theorem FrQ.eq {q : Rat} {n d : Int} (h : FrQ q n d) (h0 : d ≠ 0) : q = Rat.divInt n d := by
  have g := frq_of (n := n) h0
  unfold FrQ at h g
  have : (d : Rat) ≠ 0 := by exact_mod_cast h0
  grind
theorem frq_self (q : Rat) : FrQ q q.num q.den := (rat_nd q).symm
theorem frq_int (n : Int) : FrQ (n : Rat) n 1 := by unfold FrQ; grind
/-- sizes of integers -/
def Sb (n : Nat) (i : Int) : Prop := i.natAbs < 2 ^ n
/-- sizes of fractions -/
def Sr (n : Nat) (q : Rat) : Prop := Sz (n + 1) q
section
variable {i j : Int} {n m : Nat} {q r : Rat}
theorem Sb.mono (h : Sb n i) (hn : n ≤ m) : Sb m i := pow_mono h hn
theorem Sb.bt (h : Sb n i) (hn : n ≤ 4000) : Bt i := pow_mono h hn
theorem Sb.lt (h : Sb n i) {k : Nat} (hn : n ≤ k) : i.natAbs < 2 ^ k := pow_mono h hn
theorem Sb.mul (h : Sb n i) (g : Sb m j) : Sb (n + m) (i * j) := lt_mul h g
theorem Sb.add (h : Sb n i) (g : Sb m j) : Sb (max n m + 1) (i + j) := lt_add h g (by omega) (by omega)
theorem Sb.sub (h : Sb n i) (g : Sb m j) : Sb (max n m + 1) (i - j) := lt_sub h g (by omega) (by omega)
theorem Sb.neg (h : Sb n i) : Sb n (-i) := by unfold Sb; rw [Int.natAbs_neg]; exact h
theorem Sb.abs (h : Sb n i) : Sb n (i.natAbs : Int) := by unfold Sb; rw [Int.natAbs_natCast]; exact h
theorem Sb.absi (h : Sb n i) : Sb n (if i < 0 then -i else i) := by split; exact h.neg; exact h
theorem Sb.one : Sb 1 1 := by unfold Sb; decide
theorem Sb.small (h : i.natAbs < 2 ^ 64) : Sb 64 i := h
theorem Sb.fdiv (h : Sb n i) : Sb n (i.fdiv j) := by
  unfold Sb
  by_cases hj : j = 0
  · subst hj; rw [Int.fdiv_zero]; exact Nat.two_pow_pos _
  refine Nat.lt_of_le_of_lt ?_ h
  rcases Int.lt_or_gt_of_ne hj with h0 | h0
  · rw [← Int.neg_fdiv_neg, Int.fdiv_eq_ediv_of_nonneg _ (by omega)]
    have := Int.natAbs_ediv_le_natAbs (-i) (-j)
    rw [Int.natAbs_neg] at this
    exact this
  · rw [Int.fdiv_eq_ediv_of_nonneg _ (by omega)]
    exact Int.natAbs_ediv_le_natAbs i j
theorem Sr.bq (h : Sr n q) (hn : n + 1 ≤ 4000) : Bq q := Sz.bq h hn
theorem Sr.mono (h : Sr n q) (hn : n ≤ m) : Sr m q := Sz.mono h (by omega)
theorem Sr.int (h : Sb n i) : Sr n (i : Rat) := Sz.int (pow_mono h (by omega)) (by omega)
theorem Sr.add (h : Sr n q) (g : Sr m r) : Sr (n + m + 2) (q + r) := Sz.add h g (by omega)
theorem Sr.neg (h : Sr n q) : Sr n (-q) := Sz.neg h
theorem Sr.sub (h : Sr n q) (g : Sr m r) : Sr (n + m + 2) (q - r) := by rw [Rat.sub_eq_add_neg]; exact h.add g.neg
theorem Sr.mul (h : Sr n q) (g : Sr m r) : Sr (n + m + 1) (q * r) := Sz.mono (Sz.mul h g (by omega)) (by omega)
theorem Sr.abs (h : Sr n q) : Sr n (absQ q) := by unfold absQ; split; exact h.neg; exact h
theorem Sr.divInt (h : Sb n i) (g : Sb m j) : Sr (max n m) (Rat.divInt i j) := Sz.divInt (pow_mono h (by omega)) (pow_mono g (by omega)) (by omega)
theorem Sr.inv (h : Sr n q) : Sr n q⁻¹ := by
  rw [← Rat.num_divInt_den q, Rat.inv_divInt]
  exact Sz.divInt h.2 h.1 (by omega)
theorem Sr.div (h : Sr n q) (g : Sr m r) : Sr (n + m + 1) (q / r) := by rw [Rat.div_def]; exact h.mul g.inv
theorem Sr.num (h : Sr n q) : Sb (n + 1) q.num := h.1
theorem Sr.den (h : Sr n q) : Sb (n + 1) (q.den : Int) := by show ((q.den : Int)).natAbs < _; rw [Int.natAbs_natCast]; exact h.2
theorem Sr.frq {d : Int} (h : FrQ q i d) (h0 : d ≠ 0) (a : Sb n i) (b : Sb m d) : Sr (max n m) q := by rw [h.eq h0]; exact .divInt a b
theorem Bq.sr (h : Bq q) : Sr 4000 q := Sz.mono (n := 4000) ⟨h.1, by have := h.2; unfold Bt at this; rw [Int.natAbs_natCast] at this; exact this⟩ (by omega)
end
end
open PySem PySem.Spec PyProof.Rows L2
local macro_rules | `(tactic| wtm_at "of_exs") => `(tactic| first | assumption | exact Ex.refl _ | (refine Ex.trans ?_ (by assumption); wtm_at "of_exs"))
section
open PySem PySem.Spec PyProof.Rows L2
end
open PySem PySem.Spec PyProof.Rows L2
local macro_rules | `(tactic| wtm_at "of_szb") => `(tactic| first | assumption | exact Sr.bq (by wtm_at "of_szi") (by decide) | exact Sb.bt (by wtm_at "of_szi") (by decide) | exact Sb.lt (by wtm_at "of_szi") (by decide))
section
open PySem PySem.Spec PyProof.Rows L2
section
variable {K : PySem.W.Frag} {C a p CB : Addr} {H : Hp} {Q : VK} {q r : Rat} {E : XK} {v : V}
def spREq (K : PySem.W.Frag) (C : Addr) : Sp := fun vs H Q _ => ∃ a v q, vs = [.ref a, v] ∧ IsR C H a q ∧ ((∃ r, NumV C H v r ∧ Q (.bl (decide (q = r))) H) ∨ (Wrong K C H v ∧ Q (.bl false) H))
theorem q_REq (h : IsR C H a q) (hv : NumV C H v r) (k : Q (.bl (decide (q = r))) H) : spREq K C [.ref a, v] H Q E := ⟨a, v, q, rfl, h, .inl ⟨r, hv, k⟩⟩
theorem q_REqW (h : IsR C H a q) (hv : Wrong K C H v) (k : Q (.bl false) H) : spREq K C [.ref a, v] H Q E := ⟨a, v, q, rfl, h, .inr ⟨hv, k⟩⟩
theorem q_rIs {t b : Int} (h : IsR C H p q) (hq : Bq q) (ht : Bt t) (hb : Bt b) (e : FrQ q t b) (k : Q (.bl true) H) : spRatioIs C [.ref p, .int t, .int b] H Q E := ⟨p, q, t, b, rfl, h, hq, ht, hb, by rw [decide_eq_true e.num]; exact k⟩
theorem q_rIsD {t b : Int} (h : IsR C H p q) (hq : Bq q) (ht : Bt t) (hb : Bt b) (k : Q (.bl (decide (q.num * b = t * (q.den : Int)))) H) : spRatioIs C [.ref p, .int t, .int b] H Q E := ⟨p, q, t, b, rfl, h, hq, ht, hb, k⟩
theorem q_whT {i j : Int} (e : i = j) (k : Q (.bl true) H) : spWhole K [.int i, .int j] H Q E := ⟨i, j, rfl, by rw [decide_eq_true e]; exact k⟩
end
theorem r_lq {xs : List V} {H : Hp} {Q : VK} (hz : Nat.ble xs.length 1000 = true) (k : ∀ p H', Ex H H' → H p = none → H' p = some (.tup xs) → Q (.ref p) H') : LaidT xs H Q := r_laidT (Nat.le_of_ble_eq_true hz) k
theorem r_ll {xs : List V} {H : Hp} {Q : VK} (hz : Nat.ble xs.length 1000 = true) (k : ∀ p H', Ex H H' → H p = none → H' p = some (.lst xs) → Q (.ref p) H') : LaidL xs H Q := r_laidL (Nat.le_of_ble_eq_true hz) k
section
variable {K : PySem.W.Frag} {mg : Str → Option Value} {C a p : Addr} {H : Hp} {Q : VK} {q r : Rat} {E : XK} {sp : Sp} {n : Int} {m : Str}
/-- operators of Ratios, by kinds -/
theorem a_OI {ok : V → Hp → Prop} (h : IsR C H a q) (ho : ok (.int n) H) (k : sp [.ref a, .int n] H Q E) : rO C sp E ok (.ref a) (.int n) H Q := o_O h ho k
theorem a_2 (h : IsR C H a q) (h' : IsR C H p r) (k : sp [.ref a, .ref p] H Q E) : rO C sp E (isIns C) (.ref a) (.ref p) H Q := o_O h (o_ins h') k
theorem a_I (h : IsR C H a q) (k : sp [.ref a, .int n] H Q E) : rO C sp E isInt (.ref a) (.int n) H Q := o_O h o_int k
theorem a_c2 (T : RT K mg C) (h : IsR C H a q) (h' : IsR C H p r) (k : sp [.ref a, .ref p] H Q E) : rO C sp E (isAny K C) (.ref a) (.ref p) H Q := o_O h (o_anyR T h') k
theorem a_cI (h : IsR C H a q) (k : sp [.ref a, .int n] H Q E) : rO C sp E (isAny K C) (.ref a) (.int n) H Q := o_O h o_anyI k
theorem a_n2 (T : RT K mg C) (h : IsR C H a q) (h' : IsR C H p r) (k : sp [.ref a, .ref p] H (kNB Q) E) : rNO C sp E (isAny K C) (.ref a) (.ref p) H Q := o_NO h (o_anyR T h') k
theorem a_M {R : Addr → Prop} (h : IsR C H a q) (hm : (!(m == ("top" : Str)) && !(m == ("bottom" : Str))) = true) (k : R a) : ∃ a' dx fs, V.ref a = .ref a' ∧ H a' = some (.ins C dx fs) ∧ fs.lookup m = none ∧ R a' := by
  obtain ⟨h1, h2⟩ := Bool.and_eq_true_iff.mp hm
  exact o_M h (by simpa using h1) (by simpa using h2) k
theorem a_lt {g : Rat → Rat → Bool} {v : V} (h : IsR C H a q) (hv : NumV C H v r) (b : Bq q) (b' : Bq r) (k : ∀ H', Ex H H' → Q (.bl (g q r)) H') : spRB C g [.ref a, v] H Q E := q_RB h hv b b' k
theorem a_R1 {g : Rat → Rat → Rat} {v : V} (h : IsR C H a q) (hv : NumV C H v r) (b : Bq q) (b' : Bq r) (k : ∀ H' p, Ex H H' → IsR C H' p (g q r) → Q (.ref p) H') : spR1 C g (fun _ _ => True) [.ref a, v] H Q E := q_R1 h hv b b' trivial k
theorem a_RI {g : Rat → Rat → Rat} (h : IsR C H a q) (b : Bq q) (b' : Bt n) (k : ∀ H' p, Ex H H' → IsR C H' p (g q (n : Rat)) → Q (.ref p) H') : spRI C g (fun _ _ => True) [.ref a, .int n] H Q E := q_RI h b b' trivial k
theorem a_R0 {g : Rat → Rat} (h : IsR C H a q) (b : Bq q) (k : ∀ H' p, Ex H H' → IsR C H' p (g q) → Q (.ref p) H') : spR0 C g [.ref a] H Q E := q_R0 h b k
theorem a_RV {g : Rat → V} (h : IsR C H a q) (b : Bq q) (k : Q (g q) H) : spRV C g [.ref a] H Q E := q_RV h b k
theorem a_id {v : V} (k : Q v H) : id Q v H := k
theorem a_dz {g : Int → Int → V} {i j : Int} (h0 : j ≠ 0) (h1 : j.natAbs < 2 ^ 9000) (k : Q (g i j) H) : rI CDivZ g (.int i) (.int j) H Q := r_I ⟨h0, h1⟩ k
theorem a_whD {i j : Int} (k : Q (.bl (decide (i = j))) H) : spWhole K [.int i, .int j] H Q E := ⟨i, j, rfl, k⟩
theorem a_kNB {b : Bool} (k : Q (.bl (!b)) H) : kNB Q (.bl b) H := ⟨b, rfl, k⟩
theorem a_kB {b : Bool} (k : Q (.bl b) H) : kB Q (.bl b) H := ⟨b, rfl, k⟩
end
end
open PySem PySem.Spec PyProof.Rows L2
local macro_rules | `(tactic| wtm_at "of_ra") => `(tactic| repeat wtm_at "of_ra1")
section
open PySem PySem.Spec PyProof.Rows L2
end
section
open PySem PySem.Spec PyProof.Rows L2
def spTruth : Sp := fun vs H Q _ => ∃ a b : Bool, vs = [.bl a, .bl b] ∧ Q (.bl (decide (a = b))) H
def spLPow : Sp := fun vs H Q _ => ∃ (x : Int) (n : Nat), vs = [.int x, .int n] ∧ Sb 400 x ∧ n ≤ 7 ∧ Q (.int (x ^ n)) H
def spFrac : Sp := fun vs H Q _ => ∃ (p : Addr) (n : Nat), vs = [.ref p] ∧ ∃ c, Tape H p c n ∧ n + 101 < 900000 ∧ ∀ (H' : Hp) (t : Addr) (x y : Int), Le H H' → Tape H' p c (n + 101) → H' t = some (.tup [.int x, .int y]) → x.natAbs < 10 ^ 80 → 0 < y → y.natAbs ≤ 10 ^ 79 → Q (.ref t) H'
/-- a told fraction and its Ratio -/
structure Fr (C : Addr) (H : Hp) (o a : Addr) (n d : Int) (q : Rat) : Prop where
  t : H o = some (.tup [.int n, .int d])
  r : IsR C H a q
  e : FrQ q n d
  d0 : 0 < d
  sn : Sb 400 n
  sd : Sb 400 d
theorem Fr.ex {C o a : Addr} {H H' : Hp} {n d : Int} {q : Rat} (h : Fr C H o a n d q) (e : Ex H H') : Fr C H' o a n d q := ⟨e _ _ h.t, h.r.ex e, h.e, h.d0, h.sn, h.sd⟩
theorem Fr.s {C o a : Addr} {H : Hp} {n d : Int} {q : Rat} (h : Fr C H o a n d q) : Sr 400 q := Sr.frq h.e (by have := h.d0; omega) h.sn h.sd
def spTwo (C : Addr) : Sp := fun vs H Q _ => ∃ o t a b n d m e qa qb, vs = [.ref o, .ref t, .ref a, .ref b] ∧ Fr C H o a n d qa ∧ Fr C H t b m e qb ∧ ∀ H', Ex H H' → Q (.bl true) H'
end
section
open PySem PySem.Spec PyProof.Rows L2
section
variable {q r : Rat} {n d m e : Int}
theorem frq_add (h : FrQ q n d) (g : FrQ r m e) : FrQ (q + r) (n * e + m * d) (d * e) := by
  unfold FrQ at *; push_cast; grind
theorem frq_sub (h : FrQ q n d) (g : FrQ r m e) : FrQ (q - r) (n * e - m * d) (d * e) := by
  unfold FrQ at *; push_cast; grind
theorem frq_mul (h : FrQ q n d) (g : FrQ r m e) : FrQ (q * r) (n * m) (d * e) := by
  unfold FrQ at *; push_cast; grind
theorem frq_neg (h : FrQ q n d) : FrQ (-q) (-n) d := by
  unfold FrQ at *; push_cast; grind
theorem frq_addI (h : FrQ q n d) : FrQ (q + (m : Rat)) (n + m * d) d := by
  unfold FrQ at *; push_cast; grind
theorem frq_Iadd (h : FrQ q n d) : FrQ ((m : Rat) + q) (n + m * d) d := by
  unfold FrQ at *; push_cast; grind
theorem frq_subI (h : FrQ q n d) : FrQ (q - (m : Rat)) (n - m * d) d := by
  unfold FrQ at *; push_cast; grind
theorem frq_Isub (h : FrQ q n d) : FrQ ((m : Rat) - q) (m * d - n) d := by
  unfold FrQ at *; push_cast; grind
theorem frq_mulI (h : FrQ q n d) : FrQ (q * (m : Rat)) (n * m) d := by
  unfold FrQ at *; push_cast; grind
theorem frq_Imul (h : FrQ q n d) : FrQ ((m : Rat) * q) (n * m) d := by
  unfold FrQ at *; push_cast; grind
theorem frq_abs (h : FrQ q n d) (d0 : 0 < d) : FrQ (absQ q) (if n < 0 then -n else n) d := by
  have hs : q.num < 0 ↔ n < 0 := by
    have := h.num
    have := den_pos q
    constructor
    · intro z
      have h1 : q.num * d < 0 := Int.mul_neg_of_neg_of_pos z d0
      apply Int.lt_of_not_ge; intro h2
      have := Int.mul_nonneg h2 (Int.le_of_lt this)
      omega
    · intro z
      have h1 : n * (q.den : Int) < 0 := Int.mul_neg_of_neg_of_pos z this
      apply Int.lt_of_not_ge; intro h2
      have := Int.mul_nonneg h2 (Int.le_of_lt d0)
      omega
  unfold absQ
  by_cases z : n < 0
  · rw [if_pos z, if_pos (hs.mpr z)]; exact frq_neg h
  · rw [if_neg z, if_neg (fun c => z (hs.mp c))]; exact h
theorem frq_floor (h : FrQ q n d) (d0 : 0 < d) : q.floor = n.fdiv d := by
  have dp : (0 : Rat) < (d : Rat) := by exact_mod_cast d0
  have e1 : n.fdiv d * d + n.fmod d = n := by rw [Int.mul_comm]; exact Int.mul_fdiv_add_fmod n d
  have m0 : 0 ≤ n.fmod d := Int.fmod_nonneg_of_pos n d0
  have m1 : n.fmod d < d := Int.fmod_lt_of_pos n d0
  apply Int.le_antisymm
  · apply Int.le_of_lt_add_one
    rw [Rat.floor_lt_iff]
    unfold FrQ at h
    have : (n : Rat) < ((n.fdiv d + 1 : Int) : Rat) * (d : Rat) := by
      have : n < (n.fdiv d + 1) * d := by rw [Int.add_mul]; omega
      exact_mod_cast this
    rw [← h] at this
    exact Rat.lt_of_mul_lt_mul_right this (Rat.le_of_lt dp)
  · rw [Rat.le_floor_iff]
    unfold FrQ at h
    have : ((n.fdiv d : Int) : Rat) * (d : Rat) ≤ (n : Rat) := by
      have : n.fdiv d * d ≤ n := by omega
      exact_mod_cast this
    rw [← h] at this
    exact Rat.le_of_mul_le_mul_right this dp
end
end
section
open PySem PySem.Spec PyProof.Rows L2 PySem.W PySem.Calls PySem.HandSPX
section
variable {prog : Program} {w : World} {A : Around} {E : Value → Shared → Prop} {R : Result → Shared → Prop} {h : Heap} {g : Array GenState} {d : Drawn} {t : Nat} {os : OsState}
variable {nm q : Str} {C N : Addr} {bs bm bmB : List Value} {hdct : Bool} {sn : List Str} {sub : List Value} {ab : Bool} {col : Option Bool} {dd : Option Addr} {k0 k1 k2 k3 k5 : Option Value} {B newId initId : String} {rest : List Value} {kw : List (Str × Value)}
theorem kwNew (F : ExcBaseFacts B newId initId bmB) (hT : ∀ X : String, bm.contains (.type X) = bmB.contains (.type X)) {Q : Unit → Shared → Prop}
    (hC : h.get? C = some (excClassObj nm q C N bs bm hdct sn sub ab col dd k0 k1 k2 k3 k5 newId)) (hq : Q () ⟨h, g, d, t, os⟩) : wpAny (model prog w) A (checkBuiltinCall newId ⟨.ref C :: rest, kw⟩) Q E ⟨h, g, d, t, os⟩ := by
  have c1 : (Value.ref C :: bm).contains (.type B) = true := by rw [List.contains_cons, hT, F.hasB, Bool.or_true]
  have c2 := F.noStar
  simp only [checkBuiltinCall, F.newKind, F.newSplit, F.newRow]
  repeat (first | refine wpAny_loadPart_at hC ?_ | (refine wpAny_isSubtype_exc hC ?_; rw [c1]) | refine wpAny_staticBase_exc hC ?_ | refine wpAny_madeBy_exc hC ?_ | simp only [bne_self_eq_false, Bool.false_eq_true, if_false] | wp_step)
  exact hq
theorem newKw (F : ExcBaseFacts B newId initId bmB) (hT : ∀ X : String, bm.contains (.type X) = bmB.contains (.type X)) (hC : h.get? C = some (excClassObj nm q C N bs bm hdct sn sub ab col dd k0 k1 k2 k3 k5 newId))
    (hq : R (.ok (.ret (.ref (h.objs.size + 1)))) ⟨(h.push (PySem.W.kdv_tup rest)).push (excO C h.objs.size), g, d, t, os⟩) (hl : rest.length ≤ sizeLine) : codeAny (model prog w) A (.builtin newId ⟨.ref C :: rest, kw⟩) R ⟨h, g, d, t, os⟩ := by
  have e0 := F.ends
  have c1 : (Value.ref C :: bm).contains (.type B) = true := by rw [List.contains_cons, hT, F.hasB, Bool.or_true]
  have c2 : (Value.ref C :: bm).contains (.type "AttributeError") = false := by rw [List.contains_cons, hT, F.noAttr] <;> rfl
  have c3 : (Value.ref C :: bm).contains (.type "NameError") = false := by rw [List.contains_cons, hT, F.noName] <;> rfl
  refine codeAny_builtinAt F.entry ?_
  unfold Builtin.«BaseException.__new__»
  refine PySem.wpAt_bind ?_
  show PySem.wpAt _ _ _ (stack >>= _) _ _ _
  refine PySem.wpAt_bind (PySem.wpAt_stack fun p below => PySem.wpAt_of_wpAny ?_)
  wp_walk
  refine PySem.wpAt_of_wpAny ?_
  rw [F.owner]
  repeat (first | with_reducible refine wpAny_madeHere_exc F.canon hC ?_ | with_reducible refine wpAny_loadPart_at hC ?_ | (with_reducible refine wpAny_isSubtype_exc hC ?_; first | rw [c1] | rw [c2] | rw [c3]) | wp_step)
  show R _ _
  rw [Heap.size_push]
  exact hq
theorem tcKw (F : ExcBaseFacts B newId initId bmB) (hT : ∀ X : String, bm.contains (.type X) = bmB.contains (.type X)) {fI : Addr} {Q : Fin → Shared → Prop} (hC : h.get? C = some (excClassObj nm q C N bs bm hdct sn sub ab col dd k0 k1 k2 k3 k5 newId))
    (hi : PySem.W.Looks (model prog w) h (typeLookup (.ref C) "__init__") (some (.ref fI))) (hb : ∀ self, PySem.W.Looks (model prog w) h (bindSpecial (.ref fI) self) (.ref fI, [self])) (hl : rest.length ≤ sizeLine)
    (hq : codeAny (model prog w) A (.call (.ref fI) ⟨.ref (h.objs.size + 1) :: rest, kw⟩) (fun r s' => match r with | .ok (.ret v) => v = .none ∧ Q (.done (.ret (.ref (h.objs.size + 1)))) s' | .ok _ => False | .error e => E e s') ⟨(h.push (PySem.W.kdv_tup rest)).push (excO C h.objs.size), g, d, t, os⟩) :
    wpAny (model prog w) A (Builtin.«type.__call__» ⟨.ref C :: rest, kw⟩) Q E ⟨h, g, d, t, os⟩ := by
  repeat (first | with_reducible refine wpAny_loadPart_at hC ?_ | with_reducible refine wpAny_madeBy_exc hC ?_ | wp_step)
  refine codeAny_call_builtin_code (Code.quiet_builtin _ F.quiet) (kwNew F hT hC (newKw F hT hC ?_ hl))
  show wpAny _ _ _ _ _ _
  have k : ∀ b o, h.get? b = some o → ((h.push (PySem.W.kdv_tup rest)).push (excO C h.objs.size)).get? b = some o := fun b o e => Heap.get?_push_of_some _ (Heap.get?_push_of_some _ e)
  have hC1 := k _ _ hC
  have hg : ((h.push (PySem.W.kdv_tup rest)).push (excO C h.objs.size)).get? (h.objs.size + 1) = some (excO C h.objs.size) := by heap_get
  have cc : (Value.ref C :: bm).contains (.ref C) = true := by simp
  have i1 := hi.keeps k
  have b1 := (hb (.ref (h.objs.size + 1))).keeps k
  unfold isInstance
  repeat (first | with_reducible refine wpAny_loadPart_at hg ?_ | (with_reducible refine wpAny_isSubtype_exc hC1 ?_; rw [cc]) | wp_step)
  show wpAny _ _ (typeLookup (.ref C) _) _ _ _
  refine i1.at (wpAny_holding (wpAny_bind (b1.at (wpAny_bind (wpAny_call (codeAny_mono hq fun r s' z => ?_))))))
  rcases r with e | (v | _ | _ | _) <;> first | exact z | exact z.elim | skip
  obtain ⟨rfl, z⟩ := z
  first | exact wpAny_pure (wpAny_pure z) | (wp_walk; exact z)
theorem callKw (F : ExcBaseFacts B newId initId bmB) (hT : ∀ X : String, bm.contains (.type X) = bmB.contains (.type X)) {fI : Addr} (hC : h.get? C = some (excClassObj nm q C N bs bm hdct sn sub ab col dd k0 k1 k2 k3 k5 newId))
    (hi : PySem.W.Looks (model prog w) h (typeLookup (.ref C) "__init__") (some (.ref fI))) (hb : ∀ self, PySem.W.Looks (model prog w) h (bindSpecial (.ref fI) self) (.ref fI, [self])) (hl : rest.length ≤ sizeLine)
    (hq : codeAny (model prog w) (A.under (.builtin "type.__call__" ⟨.ref C :: rest, kw⟩)) (.call (.ref fI) ⟨.ref (h.objs.size + 1) :: rest, kw⟩) (PySem.W.InitBack (h.objs.size + 1) R) ⟨(h.push (PySem.W.kdv_tup rest)).push (excO C h.objs.size), g, d, t, os⟩) :
    codeAny (model prog w) A (.call (.ref C) ⟨rest, kw⟩) R ⟨h, g, d, t, os⟩ := by
  have f1 := tc_lookup
  have f2 := tc_bind (.ref C)
  have ty : (⟨h, g, d, t, os⟩ : Shared).TypeIs (.ref C) "type" := ⟨_, hC, rfl⟩
  refine codeAny_of_tree ?_
  show wpAny _ _ (callAny (.ref C) _) _ _ _
  repeat (any_goals (first | assumption | with_reducible refine wpAny_loadPart_at hC ?_ | wp_step))
  refine ⟨rfl, ?_⟩
  refine codeAny_call_builtin_at (Code.quiet_builtin _ (by decide +kernel)) entry_typeCall (wpAny_check_type_call_sub hC (tcKw F hT hC hi hb hl ?_))
  refine codeAny_mono hq fun r s' z => ?_
  rcases r with e | (v | _ | _ | _) <;> exact z
end
end
section
open PySem PySem.Spec PyProof.Rows L2
/-- at a stands an exception of the class at C with these fields -/
def IsX (C : Addr) (fs : List (Str × V)) (H : Hp) (a : Addr) : Prop := ∃ d, H a = some (exo a C (some d)) ∧ H d = some (exd d fs) ∧ d ≠ a
def AnyX (C : Addr) (H : Hp) (a : Addr) : Prop := H a = some (exo a C none) ∨ ∃ fs, IsX C fs H a
theorem IsX.ex {C a : Addr} {fs : List (Str × V)} {H H' : Hp} (h : IsX C fs H a) (e : Ex H H') : IsX C fs H' a := by
  obtain ⟨d, h1, h2, h3⟩ := h
  exact ⟨d, e _ _ h1, e _ _ h2, h3⟩
theorem AnyX.ex {C a : Addr} {H H' : Hp} (h : AnyX C H a) (e : Ex H H') : AnyX C H' a := by
  rcases h with h | ⟨fs, h⟩
  · exact .inl (e _ _ h)
  · exact .inr ⟨fs, h.ex e⟩
def spExs (C : Addr) (fl : List Str) : Sp := fun vs H Q _ => ∃ a ys, vs = .ref a :: ys ∧ ys.length = fl.length ∧ H a = some (exo a C none) ∧
  ∀ d H', (∀ b o, H b = some o → b ≠ a → H' b = some o) → H' a = some (exo a C (some d)) → H' d = some (exd d (fl.zip ys).reverse) → H d = none → Q .non H'
structure Cxv (P : Program) (w : World) (K : PySem.W.Frag) (mg : Str → Option Value) (base : Heap) (k : Nat) (x : Str) (C : Addr) (fl : List Str) : Prop where
  ox : OexC K C
  hm : mg x = some (.ref C)
  ex : ∃ (f : Addr) (fd : FuncData), PySem.W.findIn K (.ref C) "__init__" = some (some (.ref f)) ∧ PySem.W.typeIn K (.ref f) = some (.type "function") ∧ FnOk P w K mg base (L2.CX P w) k f fd ("self" :: fl) (spExs C fl) ∧
    ∀ n, n ≤ fl.length → KBn K fd ("self" :: fl) (n + 1) (fl.drop n) (fun us ws => us ++ ws) (fun vs zs => vs ++ zs)
/-- X(e, .., f = e, ..) -/
def tOx (C : Addr) (fl : List Str) (n : Nat) (ta tk : TA) : TE := fun σ H Q => ta σ H fun vs H1 => tk σ H1 fun zs H2 => vs.length = n ∧ zs.length = fl.length - n ∧ ∀ a H', Ex H2 H' → H2 a = none → IsX C (fl.zip (vs ++ zs)).reverse H' a → Q (.ref a) H'
section
variable {X : Cx} {k j n : Nat} {C : Addr} {fl : List Str} {x : Str} {p pos : Pos} {e : Expr} {es : List Expr} {kws : List Keyword} {ta tk : TA}
theorem run_ox {pins : List (Addr × Obj)} {σ : L2.St} {H1 : Hp} {s1 : Shared} {Q : VK} {us ws : List Value} {vs zs : List V} (c : Cxv X.prog X.w X.K X.mg X.base k x C fl) (hr : Room (k + 1) X.A) (hn : n ≤ fl.length) (hz : fl.length ≤ 100)
    (I1 : Inv X pins σ H1 s1) (r : Vals vs us) (rv2 : Vals zs ws) (l1 : vs.length = n) (l2 : zs.length = fl.length - n) (hq : ∀ a H', Ex H1 H' → H1 a = none → IsX C (fl.zip (vs ++ zs)).reverse H' a → Q (.ref a) H') :
    wpAny (model X.prog X.w) X.A (call (.ref C) us ((fl.drop n).zip ws)) (EP X pins σ Q) X.xe s1 := by
  obtain ⟨f, fd, iC, tI, F1, kb⟩ := c.ex
  have hb := kb n hn
  obtain ⟨nm, q, N, bs, bm, sn, sub, ab, col, dd, k0, k1, k2, k3, k5, hC, hbm⟩ := c.ox.cls
  obtain ⟨hp, g0, dr, tk0, os⟩ := s1
  have h0 : H1 (hp.objs.size + 1) = none := I1.hok.fresh (Nat.le_succ _)
  have kk : ∀ b o, hp.get? b = some o → ((hp.push (PySem.W.kdv_tup us)).push (PySem.HandSPX.excO C hp.objs.size)).get? b = some o := fun b o e => Heap.get?_push_of_some _ (Heap.get?_push_of_some _ e)
  have hget : ((hp.push (PySem.W.kdv_tup us)).push (PySem.HandSPX.excO C hp.objs.size)).get? (hp.objs.size + 1) = some (PySem.HandSPX.excO C hp.objs.size) := by heap_get
  have I2 : Inv X pins σ (upd H1 (hp.objs.size + 1) (exo (hp.objs.size + 1) C none)) ⟨(hp.push (PySem.W.kdv_tup us)).push (PySem.HandSPX.excO C hp.objs.size), g0, dr, tk0, os⟩ := I1.laid (t' := tk0) kk (Nat.le_succ _) (exo_ok hget)
  have r1 : Vals (V.ref (hp.objs.size + 1) :: vs) (Value.ref (hp.objs.size + 1) :: us) := .cons rfl r
  have r2 := hb.rel r1 rv2
  have n1 : (Value.ref (hp.objs.size + 1) :: us).length = n + 1 := by rw [List.length_cons, ← r.length, l1]
  have n2 : ws.length = (fl.drop n).length := by rw [List.length_drop, ← rv2.length]; exact l2
  have hus : us.length ≤ sizeLine := by rw [← r.length, sizeLine_eq]; omega
  have sp1 : spExs C fl (V.ref (hp.objs.size + 1) :: vs ++ zs) (upd H1 (hp.objs.size + 1) (exo (hp.objs.size + 1) C none)) (fun v H3 => v = .non ∧ Q (.ref (hp.objs.size + 1)) H3) (fun _ _ _ => False) := by
    refine ⟨_, vs ++ zs, rfl, by rw [List.length_append, l1, l2]; omega, upd_same, fun d H' kp ha hd hn => ⟨rfl, hq _ H' (fun b o hb => kp b o ?_ ?_) h0 ⟨d, ha, hd, fun z => by rw [z, upd_same] at hn; cases hn⟩⟩⟩
    · rw [upd_ne (ne_of_none hb h0)]; exact hb
    · exact ne_of_none hb h0
  refine wpAny_call (callKw F.excBase_ValueError (fun Y => PySem.HandSPX.refsVE_contains Y bm hbm) (I1.kIn _ _ hC) (PySem.W.looks_findIn I1.kIn iC) (fun self => PySem.W.bind_fn I1.kIn self tI) hus
    (codeAny_mono (F1.run _ X.stack _ _ ⟨Value.ref (hp.objs.size + 1) :: us, (fl.drop n).zip ws⟩ (Value.ref (hp.objs.size + 1) :: us ++ ws) _ _ (fun _ _ _ => False) (hr.make C us _) (I2.env0.make C us _) (hb.to _ _ ws I2.kIn n1 n2) r2 sp1) fun r s' hq' => ?_))
  cases r with
  | error er => exact passL pins σ _ _ er s' I2 hq'
  | ok fl2 =>
    cases fl2 with
    | ret u =>
      obtain ⟨v, H', I3, rv, ev, q3⟩ := I2.after hq'
      subst ev
      exact ⟨rv, ⟨V.ref (hp.objs.size + 1), H', I3, rfl, q3⟩⟩
    | next => exact False.elim hq'
    | brk => exact False.elim hq'
    | cont => exact False.elim hq'
end
end
section
open PySem PySem.Spec PyProof.Rows L2
section
variable {X : Cx} {k j n : Nat} {C : Addr} {fl : List Str} {x : Str} {p pos : Pos} {e : Expr} {es : List Expr} {kws : List Keyword} {ta tk : TA}
theorem pe_xvP (c : Cxv X.prog X.w X.K X.mg X.base k x C fl) (hr : Room j X.A) (hk : k + 1 ≤ j) (hg : Gl X x) (ha : PA X (e :: es) ta) (hz : fl.length ≤ 100 := by decide)
    (he : starEach (e :: es) X.env = (false, eval e X.env) :: starEach es X.env := by rfl) (hpl : (backTo pos (starEach es X.env)).any (·.1) = false := by rfl) (hdb : (x == ("__debug__" : Str)) = false := by decide) :
    PE X (.Call (.Name x p) (e :: es) [] pos) (tOx C fl fl.length ta tNil) := by
  refine ⟨fun pins s σ H Q I h => ?_⟩
  refine wpAny_Call_Name_kw (ld_glob I hg c.hm ?_ hdb)
  refine PySem.W.callWith_K (h₀ := X.base) I.ok.mod.kin c.ox.kC (thn (ha.run pos pins s σ H _ I h) fun us s1 ⟨vs, H1, I1, r1, l1, l2, q1⟩ => ⟨I1.kIn, ?_⟩) he hpl
  have z := run_ox (zs := []) (ws := []) c (hr.mono hk) (Nat.le_refl _) hz I1 r1 .nil l1 l2 q1
  rw [List.drop_length] at z
  exact z
theorem pe_xvK (c : Cxv X.prog X.w X.K X.mg X.base k x C fl) (hr : Room j X.A) (hk : k + 1 ≤ j) (hg : Gl X x) (hkw : PK X kws tk) (hz : fl.length ≤ 100 := by decide)
    (hall : (backToKw pos (keywordEach kws X.env)).all (·.1.isSome) = true := by rfl) (hks : (backToKw pos (keywordEach kws X.env)).filterMap (·.1) = fl := by rfl) (hdb : (x == ("__debug__" : Str)) = false := by decide)
    (hpl : ((backTo pos (starEach [] X.env)).any (·.1) || (backToKw pos (keywordEach kws X.env)).any (·.1.isNone)) = false := by rfl) : PE X (.Call (.Name x p) [] kws pos) (tOx C fl 0 tNil tk) := by
  refine ⟨fun pins s σ H Q I h => ?_⟩
  refine wpAny_Call_Name_kw (ld_glob I hg c.hm ?_ hdb)
  refine PySem.W.callWith_KW0 (h₀ := X.base) I.ok.mod.kin c.ox.kC hall ?_ hpl
  refine thn (hkw.run pos pins s σ H _ I h) fun ws s2 ⟨zs, H2, I2, rv2, l1, l2, q2⟩ => ⟨I2.kIn, ?_⟩
  rw [hks]
  exact run_ox (us := []) (vs := []) c (hr.mono hk) (Nat.zero_le _) hz I2 .nil rv2 rfl l2 q2
theorem pe_xvM (c : Cxv X.prog X.w X.K X.mg X.base k x C fl) (hr : Room j X.A) (hk : k + 1 ≤ j) (hg : Gl X x) (n : Nat) (hn : n ≤ fl.length) (ha : PA X (e :: es) ta) (hkw : PK X kws tk) (hz : fl.length ≤ 100 := by decide)
    (hall : (backToKw pos (keywordEach kws X.env)).all (·.1.isSome) = true := by rfl) (hks : (backToKw pos (keywordEach kws X.env)).filterMap (·.1) = fl.drop n := by rfl) (hdb : (x == ("__debug__" : Str)) = false := by decide)
    (he : starEach (e :: es) X.env = (false, eval e X.env) :: starEach es X.env := by rfl) (hpl : ((backTo pos (starEach (e :: es) X.env)).any (·.1) || (backToKw pos (keywordEach kws X.env)).any (·.1.isNone)) = false := by rfl) :
    PE X (.Call (.Name x p) (e :: es) kws pos) (tOx C fl n ta tk) := by
  refine ⟨fun pins s σ H Q I h => ?_⟩
  refine wpAny_Call_Name_kw (ld_glob I hg c.hm ?_ hdb)
  refine PySem.W.callWith_KW (h₀ := X.base) I.ok.mod.kin c.ox.kC hall (thn (ha.run pos pins s σ H _ I h) fun us s1 ⟨vs, H1, I1, r, q⟩ => ?_) hpl he
  refine thn (hkw.run pos pins s1 σ H1 _ I1 q) fun ws s2 ⟨zs, H2, I2, rv2, l1, l2, q2⟩ => ⟨I2.kIn, ?_⟩
  rw [hks]
  exact run_ox c (hr.mono hk) hn hz I2 r rv2 l1 l2 q2
/-- X(), the class without an own __init__ -/
theorem pe_xv0 {bmB : List Value} {B newId initId : String} (F : ExcBaseFacts B newId initId bmB) (q : PySem.W.excIn X.K C bmB newId = true) (gC : X.mg x = some (.ref C)) (kC : PySem.W.keepIn X.K (.ref C) = true) (hg : Gl X x) (hdb : (x == ("__debug__" : Str)) = false := by decide) :
    PE X (.Call (.Name x p) [] [] pos) (fun σ H Q => ∀ a H', Ex H H' → H a = none → H' a = some (exo a C none) → Q (.ref a) H') := by
  refine ⟨fun pins s σ H Q I h => ?_⟩
  refine wpAny_Call_Name_kw (ld_glob I hg gC ?_ hdb)
  refine PySem.W.callWith_K0 I.kIn kC ?_
  show wpAny _ _ (call (.ref C) []) _ _ _
  obtain ⟨bm, N, nm, qn, bs, hdct, sn, sub, ab, col, dd, k0, k1, k2, k3, k5, mN, hC, hN, hni, T⟩ := exc_obj I.kIn q
  refine wpAny_call_exc_subT F T hC hN hni (fun h' a hm => ?_) (by show 0 ≤ sizeLine; omega)
  have h0 : H a = none := I.hok.gone hm.new
  obtain ⟨t, ht, _, _⟩ := hm.there
  exact ⟨.ref a, upd H a (exo a C none), I.laidN hm.keeps hm.new h0 (exo_ok ht), rfl, h a _ (Ex.new h0) h0 upd_same⟩
/-- x.f, x such an exception -/
def tXa (K : PySem.W.Frag) (C : Addr) (f : Str) (te : TE) : TE := fun σ H Q => te σ H fun x H1 => ∃ a fs v, x = .ref a ∧ IsX C fs H1 a ∧ fs.lookup f = some v ∧ Q v H1
theorem xdict {H : Hp} {s : Shared} {pins : List (Addr × Obj)} {σ : L2.St} {a d : Addr} {fs : List (Str × V)} (I : Inv X pins σ H s) (h1 : H a = some (exo a C (some d))) (h2 : H d = some (exd d fs)) :
    ∃ (oe od : Obj) (mA : Str → Option Value), PySem.W.InstAt s.heap a oe C (some od) ∧ (∀ f, RelO (fs.lookup f) (mA f)) ∧ ∀ f, PySem.W.lookIn f od = some (mA f) := by
  obtain ⟨t1, ho⟩ := exo_at I.hok h1
  obtain ⟨mA, hns, rel⟩ := exd_at I.hok h2
  obtain ⟨od, hd, hl⟩ := lookIn_ns hns
  exact ⟨_, od, mA, ⟨ho, rfl, rfl, hd⟩, rel, hl⟩
theorem pe_xa {te : TE} {f : Str} (T : XfC X.K C) (hno : PySem.W.findIn X.K (.ref C) f = some none) (he : PE X e te) (hb : attributeBase e f X.env (eval e X.env) = eval e X.env := by rfl) : PE X (.Attribute e f pos) (tXa X.K C f te) := by
  refine ⟨fun pins s σ H Q I h => ?_⟩
  refine attr_of hb (thn (he.run pins s σ H _ I h) fun u s1 ⟨v0, H1, I1, rx, a, fs, v, ex, ⟨d, h1, h2⟩, l, q⟩ => ?_)
  subst ex
  obtain rfl : u = Value.ref a := rx
  obtain ⟨oe, od, mA, J, rel, hl⟩ := xdict I1 h1 h2.1
  obtain ⟨u, hu, ru⟩ := RelO.some_of (v := v) (o := mA f) (by rw [← l]; exact rel f)
  exact HandSPX.exc_get I1.kIn J T.ga T.gg T.exC (PySem.W.findObj_own T.hdC hno rfl (by rw [hl, hu])) (handed_of ru) ⟨v, H1, I1.tok _, ru, q⟩
/-- isinstance(x, c), x such an exception, c a class or a tuple of classes -/
def rIsV (K : PySem.W.Frag) : List V → Hp → VK → Prop := fun xs H Q => ∃ (a C : Addr) (c : V) (b : Bool), xs = [.ref a, c] ∧ ExcC K C ∧ AnyX C H a ∧
  ((∃ cv, (∀ u, RelV c u → u = cv) ∧ PySem.W.kitOne K (.ref C) cv = some b) ∨ ∃ (t : Addr) (cs : List Addr), c = .ref t ∧ H t = some (.tup (cs.map V.ref)) ∧ PySem.W.kitAny K (.ref C) (cs.map Value.ref) = some b) ∧ Q (.bl b) H
theorem anyInst {H : Hp} {s : Shared} {pins : List (Addr × Obj)} {σ : L2.St} {a : Addr} (I : Inv X pins σ H s) (h : AnyX C H a) : ∃ (oe : Obj) (od : Option Obj), PySem.W.InstAt s.heap a oe C od := by
  rcases h with h | ⟨fs, d, h1, h2⟩
  · obtain ⟨t1, ho⟩ := exo_at I.hok h
    exact ⟨_, none, ho, rfl, rfl, trivial⟩
  · obtain ⟨oe, od, _, J, _⟩ := xdict I h1 h2.1
    exact ⟨oe, some od, J⟩
theorem vals_refs : ∀ {cs : List Addr} {us : List Value}, Vals (cs.map V.ref) us → us = cs.map Value.ref
  | [], _, h => by cases h; rfl
  | c :: cs, _, h => by
    cases h with
    | cons r rr => rw [vals_refs rr, show _ = Value.ref c from r]; rfl
theorem cr_isV : CallR X (.builtin "isinstance") (rIsV X.K) := by
  intro pins s σ H xs us Q I r h
  obtain ⟨a, C, c, b, rfl, EC, hx, hc, q⟩ := h
  obtain ⟨oe, od, J⟩ := anyInst I hx
  cases r with
  | cons rx rr =>
    cases rr with
    | cons rt rr =>
      cases rr; cases rx
      rcases hc with ⟨cv, hcv, hk⟩ | ⟨t, cs, rfl, ht, hk⟩
      · obtain rfl := hcv _ rt
        exact PySem.W.kia_one (kit_exc EC) I.kIn J hk (fun z => nomatch z) fun tk => ⟨.bl b, H, I.kept (t' := tk) fun _ _ z => z, rfl, q⟩
      · cases rt
        obtain ⟨_, its, rv, pl⟩ := (show ObjOk X.prog X.w H s.heap t (.tup _) from I.hok t _ ht)
        obtain rfl := vals_refs rv
        obtain ⟨⟨oc, od2, dt, sl⟩, ho, h1, n, h2⟩ := pl
        replace h1 : oc = .type "tuple" := h1
        replace h2 : dt = .seq _ n := h2
        subst h1 h2
        exact PySem.W.kia_tup (kit_exc EC) I.kIn J ho hk (fun z => nomatch z) fun tk => ⟨.bl b, H, I.kept (t' := tk) fun _ _ z => z, rfl, q⟩
/-- raise x, x such an exception made in this def -/
theorem pmk_x {te : TE} (hx : X.ex = []) (he : PE X e te) : PMk X e (fun σ H Q => te σ H fun x H1 => ∃ (a C : Addr) (od : Option Addr), x = .ref a ∧ H1 a = some (exo a C od) ∧ Fr0 X.H_0 a ∧ Raises X (.ref C) ∧ Q (.ref C) od (delH H1 a)) := by
  intro pins s σ H Q I h
  refine wpAny_mono (he.run pins s σ H _ I h) (fun u s1 hu => ?_) fun _ _ x => x
  obtain ⟨v, H1, I1, r1, a, C, od, rfl, ha, h0, hr, q⟩ := hu
  cases r1
  obtain ⟨t1, ho⟩ := exo_at I1.hok ha
  obtain ⟨G, gs, ga, J⟩ := I1.untrack ha h0 hx
  exact ⟨a, _, _, { s1 with heap := G }, delH H1 a, .ref C, od, rfl, J, gs, ga, ho, ⟨rfl, rfl⟩, rfl, rfl, delH_same, rfl, I1.bare, hr, q⟩
end
end
section
open PySem PySem.Spec PyProof.Rows L2
/-- all stays but dicts with something in them -/
def Kn (H H' : Hp) : Prop := ∀ b o, H b = some o → (∀ kv kvs, o ≠ .dK (kv :: kvs)) → H' b = some o
theorem Kn.refl (H : Hp) : Kn H H := fun _ _ h _ => h
theorem Kn.trans {H H1 H2 : Hp} (a : Kn H H1) (b : Kn H1 H2) : Kn H H2 := fun x o h s => b x o (a x o h s) s
theorem Ex.kn {H H' : Hp} (e : Ex H H') : Kn H H' := fun a o h _ => e a o h
theorem Kn.dict {H : Hp} {p : Addr} {kv : Key × V} {kvs : List (Key × V)} {o : HO} (h : H p = some (.dK (kv :: kvs))) : Kn H (upd H p o) := fun a u e s => by
  rw [upd_ne (ne_of e h (s _ _))]
  exact e
theorem Kn.put {H H' : Hp} {L : Addr} {o : HO} (e : Kn H H') (h : H L = none) : Kn H (upd H' L o) := fun a u q s => by
  rw [upd_ne (ne_of_none q h)]
  exact e a u q s
theorem Kn.lst {H H' : Hp} {p : Addr} {xs : List V} (e : Kn H H') (h : H p = some (.lst xs)) : H' p = some (.lst xs) := e _ _ h fun _ _ z => by cases z
theorem Kn.tup {H H' : Hp} {p : Addr} {xs : List V} (e : Kn H H') (h : H p = some (.tup xs)) : H' p = some (.tup xs) := e _ _ h fun _ _ z => by cases z
inductive V12 (H : Hp) : V → Prop
  | non : V12 H .non
  | tr : V12 H (.bl true)
  | i (n : Int) (h : n.natAbs < 2 ^ 64) : V12 H (.int n)
  | s (x : Str) (h : SeqAt.shaped (.str x) = true) : V12 H (.str x)
  | tup {t : Addr} (h : H t = some (.tup [.int 1, .int 2])) : V12 H (.ref t)
  | lst {t : Addr} (h : H t = some (.lst [.str "x"])) : V12 H (.ref t)
  | dic {t : Addr} (h : H t = some (.dK [])) : V12 H (.ref t)
  | nest {t u : Addr} (h : H t = some (.tup [.ref u, .int 2])) (h2 : H u = some (.tup [.int 0, .int 1])) : V12 H (.ref t)
theorem V12.kn {H H' : Hp} {v : V} (h : V12 H v) (e : Kn H H') : V12 H' v := by
  cases h with
  | non => exact .non
  | tr => exact .tr
  | i n h => exact .i n h
  | s x h => exact .s x h
  | tup h => exact .tup (e.tup h)
  | lst h => exact .lst (e.lst h)
  | dic h => exact .dic (e _ _ h fun _ _ z => by cases z)
  | nest h h2 => exact .nest (e.tup h) (e.tup h2)
theorem V12.put {H : Hp} {v : V} {L : Addr} {xs : List V} {o : HO} (h : V12 H v) (hL : H L = some (.lst xs)) (hx : xs.length ≠ 1) : V12 (upd H L o) v := by
  cases h with
  | non => exact .non
  | tr => exact .tr
  | i n h => exact .i n h
  | s x h => exact .s x h
  | tup h => exact .tup (by rw [upd_ne (ne_of h hL (by intro z; cases z))]; exact h)
  | lst h => exact .lst (by rw [upd_ne (ne_of h hL (by intro z; cases z; exact hx rfl))]; exact h)
  | dic h => exact .dic (by rw [upd_ne (ne_of h hL (by intro z; cases z))]; exact h)
  | nest h h2 => exact .nest (by rw [upd_ne (ne_of h hL (by intro z; cases z))]; exact h) (by rw [upd_ne (ne_of h2 hL (by intro z; cases z))]; exact h2)
theorem V12.data {K : PySem.W.Frag} {H : Hp} {v : V} (h : V12 H v) : (∃ d, Dp K H v d ∧ SeqAt.shaped d = true ∧ PyData.eqv d d = true) ∨ ∃ a, v = .ref a ∧ H a = some (.dK []) := by
  have sh : ∀ d : PyData, d.canLay0 = true → d.depth ≤ 64 → SeqAt.shaped d = true := fun d h1 h2 => by unfold SeqAt.shaped; rw [h1, decide_eq_true h2]; rfl
  cases h with
  | non => exact .inl ⟨_, .non, by decide, by decide⟩
  | tr => exact .inl ⟨_, .bl _, by decide, by decide⟩
  | i n h => exact .inl ⟨_, .int n, sh _ rfl (by show 0 ≤ 64; decide), SeqAt.eqv_refl _ rfl⟩
  | s x h => exact .inl ⟨_, .str x, h, SeqAt.eqv_refl _ (SeqAt.canLay_of_shaped h)⟩
  | tup h => exact .inl ⟨_, .tup (SqT.of h) (.cons (.int _) (.cons (.int _) .nil)), by decide, by decide⟩
  | lst h => exact .inl ⟨_, .lst (SqL.of h) (.cons (.str _) .nil), by decide +kernel, by decide +kernel⟩
  | dic h => exact .inr ⟨_, rfl, h⟩
  | nest h h2 => exact .inl ⟨_, .tup (SqT.of h) (.cons (.tup (SqT.of h2) (.cons (.int _) (.cons (.int _) .nil))) (.cons (.int _) .nil)), by decide, by decide⟩
theorem kitB (K : PySem.W.Frag) (n : String) (b : Bool) (h : PySem.W.kitOne [] (.type n) (.type "bool") = some b) : PySem.W.kitOne K (.type n) (.type "bool") = some b := h
theorem V12.ty {K : PySem.W.Frag} {H : Hp} {v : V} (h : V12 H v) : ∃ t b, TyX K H v t ∧ PySem.W.kitOne K t (.type "bool") = some b := by
  cases h with
  | non => exact ⟨_, false, .base .non, kitB K _ _ (by decide +kernel)⟩
  | tr => exact ⟨_, true, .base (.bl _), kitB K _ _ (by decide +kernel)⟩
  | i n h => exact ⟨_, false, .base (.int _), kitB K _ _ (by decide +kernel)⟩
  | s x h => exact ⟨_, false, .base (.str _), kitB K _ _ (by decide +kernel)⟩
  | tup h => exact ⟨_, false, .base (.tup h), kitB K _ _ (by decide +kernel)⟩
  | lst h => exact ⟨_, false, .base (.lst h), kitB K _ _ (by decide +kernel)⟩
  | dic h => exact ⟨_, false, .base (.dK h), kitB K _ _ (by decide +kernel)⟩
  | nest h h2 => exact ⟨_, false, .base (.tup h), kitB K _ _ (by decide +kernel)⟩
end
section
open PySem PySem.Spec PyProof.Rows L2
def GetX (C : Addr) (f : Str) (x : V) (H : Hp) (Q : VK) : Prop := ∃ a fs v, x = .ref a ∧ IsX C fs H a ∧ fs.lookup f = some v ∧ Q v H
def MkX (C : Addr) (fl : List Str) (n : Nat) (vs zs : List V) (H : Hp) (Q : VK) : Prop := vs.length = n ∧ zs.length = fl.length - n ∧ ∀ a H', Ex H H' → H a = none → IsX C (fl.zip (vs ++ zs)).reverse H' a → Q (.ref a) H'
/-- a class without fields -/
structure Cx0 (K : PySem.W.Frag) (mg : Str → Option Value) (x : Str) (C : Addr) : Prop where
  q : PySem.W.excIn K C He.veBase "ValueError.__new__" = true
  hm : mg x = some (.ref C)
  kp : PySem.W.keepIn K (.ref C) = true
def MkX0 (C : Addr) (H : Hp) (Q : VK) : Prop := ∀ a H', Ex H H' → H a = none → H' a = some (exo a C none) → Q (.ref a) H'
def tO0 (C : Addr) : TE := fun _ H Q => MkX0 C H Q
/-- what a raise takes -/
def Rzx (X : Cx) (x : V) (H : Hp) (Q : XK) : Prop := ∃ (a C : Addr) (od : Option Addr), x = .ref a ∧ H a = some (exo a C od) ∧ Fr0 X.H_0 a ∧ Raises X (.ref C) ∧ Q (.ref C) od (delH H a)
section
variable {K K' : PySem.W.Frag} {C : Addr} {f : Str} {fl : List Str} {n : Nat} {ta tk : TA} {te : TE} {σ : L2.St} {H : Hp} {Q : VK} {v x y : V} {vs zs : List V}
theorem r_xa (k : te σ H fun x H1 => GetX C f x H1 Q) : tXa K' C f te σ H Q := k
theorem r_ox (k : ta σ H fun vs H1 => tk σ H1 fun zs H2 => MkX C fl n vs zs H2 Q) : tOx C fl n ta tk σ H Q := k
theorem r_ox0 (k : MkX0 C H Q) : tO0 C σ H Q := k
theorem mkget (l1 : vs.length = n) (l2 : zs.length = fl.length - n) (hl : (fl.zip (vs ++ zs)).reverse.lookup f = some v) (k : ∀ H', Ex H H' → Q v H') : MkX C fl n vs zs H (fun x H1 => GetX C f x H1 Q) := ⟨l1, l2, fun a H' e _ h => ⟨a, _, v, rfl, h, hl, k H' e⟩⟩
theorem mkx (l1 : vs.length = n) (l2 : zs.length = fl.length - n) (k : ∀ a H', Ex H H' → H a = none → AnyX C H' a → Q (.ref a) H') : MkX C fl n vs zs H Q := ⟨l1, l2, fun a H' e h0 h => k a H' e h0 (.inr ⟨_, h⟩)⟩
theorem mkx0 (k : ∀ a H', Ex H H' → H a = none → AnyX C H' a → Q (.ref a) H') : MkX0 C H Q := fun a H' e h0 h => k a H' e h0 (.inl h)
/-- two values of a kind are never unlike themselves -/
def rNeW (K : PySem.W.Frag) : R2 := fun x y H Q => rNeD K x y H Q ∨ rNeDA x y H Q
theorem q_neW (h : V12 H v) (k : Q (.bl false) H) : rNeW K v v H Q := by
  rcases h.data (K := K) with ⟨d, h1, h2, h3⟩ | ⟨a, rfl, ha⟩
  · exact .inl ⟨d, d, h1, h1, h2, h2, by rw [h3]; exact k⟩
  · exact .inr ⟨a, a, [], [], rfl, rfl, ha, ha, rfl, fun p hp => (nomatch hp), k⟩
theorem q_isB (h : V12 H v) (e : K' = K) (k : ∀ b, (∀ Q' : VK, Q' (.bl b) H → rIsi K' [v, .ty "bool"] H Q') → Q (.bl b) H) : rIsi K' [v, .ty "bool"] H Q := by
  obtain ⟨t, b, h1, h2⟩ := h.ty (K := K')
  exact r_isi (.ty _) h1 h2 (k b fun Q' q => r_isi (.ty _) h1 h2 q)
end
section
variable {X : Cx} {K : PySem.W.Frag} {C : Addr} {x f : Str} {e : Expr} {te : TE} {p pos : Pos}
theorem kpe_xa (hK : X.K = K) (T : XfC K C) (hno : PySem.W.findIn K (.ref C) f = some none) (he : PE X e te) (hb : attributeBase e f X.env (eval e X.env) = eval e X.env := by rfl) : PE X (.Attribute e f pos) (tXa K C f te) := by subst hK; exact pe_xa T hno he hb
theorem pe_x0 (hK : X.K = K) (c : Cx0 K X.mg x C) (hg : Gl X x) (hdb : (x == ("__debug__" : Str)) = false := by decide) : PE X (.Call (.Name x p) [] [] pos) (tO0 C) := by subst hK; exact pe_xv0 F.excBase_ValueError c.q c.hm c.kp hg hdb
theorem kc_isV (hK : X.K = K) : CallR X (.builtin "isinstance") (rIsV K) := by subst hK; exact cr_isV
theorem kc_sum (hK : X.K = K) (hc : X.calm = true) : CallR X (.builtin "sum") (rSum K) := by subst hK; exact cr_sum hc
def rMin2 : List V → Hp → VK → Prop := fun xs H Q => ∃ i j, xs = [.int i, .int j] ∧ Q (.int (if j < i then j else i)) H
theorem kc_min (hc : X.calm = true) : CallR X (.builtin "min") rMin2 := call_min2 hc
theorem kop_neW (hK : X.K = K) (h1 : X.A.units + 64 < cLine) : OpR X (compareOp .NotEq) (rNeW K) := op_or (kop_neD hK h1) (op_ne_dictA (by omega))
theorem pmk_rx (hx : X.ex = []) (he : PE X e te) : PMk X e (fun σ H Q => te σ H fun x H1 => Rzx X x H1 Q) := pmk_x hx he
end
theorem r_rzx {X : Cx} {te : TE} {W : WX} {σ : L2.St} {H : Hp} (k : te σ H fun x H1 => Rzx X x H1 (fun cls d H' => W cls d σ H')) : (fun (σ : L2.St) (H : Hp) (Q : XK) => te σ H fun x H1 => Rzx X x H1 Q) σ H (fun cls d H' => W cls d σ H') := k
end
open PySem PySem.Spec PyProof.Rows L2
local macro_rules | `(tactic| wtm_at "of_rz1") => `(tactic| with_reducible first
  | refine r_xa ?_ | refine r_ox ?_ | refine r_ox0 ?_
  | refine r_dget ?_ | refine r_dput ?_ | refine r_gsub ?_ | refine q_intI ?_ | refine q_intB ?_
  | refine r_par ?_ | refine r_par3 ?_ | refine r_parP ?_ | refine r_parP3 ?_ | refine r_part ?_ | refine r_nopart ?_ | refine r_intP ?_ | refine r_for ?_ | refine r_iL ?_ | refine r_iT ?_ | refine r_iR1 ?_ | refine r_iR2 ?_ | refine r_iR3 ?_ | refine r_iZ ?_ | refine r_lc ?_ | refine r_sl ?_ | refine r_bm ?_ | refine r_turn1 ?_ | refine r_lturn ?_ | refine r_yes ?_
  | refine r_seq ?_ | refine r_asg ?_ | refine r_ret ?_ | refine r_sfld ?_ | refine r_ifS ?_ | refine r_drop ?_ | refine r_next ?_ | refine r_retN ?_
  | refine r_op ?_ | refine r_un ?_ | refine r_fld ?_ | refine r_cons ?_ | refine r_nil ?_ | refine r_c ?_ | refine r_c1 ?_ | refine r_cb ?_
  | refine r_test ?_ | refine r_B ?_ | refine r_and ?_ | refine r_or ?_ | refine r_not ?_ | refine r_andV ?_ | refine r_orV ?_ | refine r_notV ?_ | refine r_ifE ?_
  | refine r_tr ?_ | refine r_name ?_ | refine r_blP ?_ | refine r_tup ?_ | refine r_lst ?_ | refine r_gCons ?_ | refine r_gNil ?_
  | refine r_var (by with_unfolding_all rfl) ?_
  | refine iteT ?_ | refine iteF ?_ | refine iteNT ?_ | refine iteNF ?_
  | refine r_I0 ?_ | refine r_Ir (by decide) ?_ | refine r_Il (by decide) ?_ | refine r_U ?_ | refine r_eqI ?_ | refine r_neI ?_)
section
open PySem PySem.Spec PyProof.Rows L2
end
open PySem PySem.Spec PyProof.Rows L2
local macro_rules | `(tactic| wtm_at "of_rz") => `(tactic| repeat wtm_at "of_rz1")
section
open PySem PySem.Spec PyProof.Rows L2
def pnK (c : Addr) (a r : Int) : List (Key × V) := [(Sum.inr "cells", .ref c), (Sum.inr "stop", .int a), (Sum.inr "rest", .int r)]
section
variable {c : Addr} {a r z : Int}
theorem pn_cells : valV (pnK c a r) (Sum.inr "cells") = some (.ref c) := by kernel_rfl
theorem pn_stop : valV (pnK c a r) (Sum.inr "stop") = some (.int a) := by kernel_rfl
theorem pn_rest : valV (pnK c a r) (Sum.inr "rest") = some (.int r) := by kernel_rfl
theorem pn_putStop : putK (pnK c a r) (Sum.inr "stop") (.int z) = pnK c z r := by kernel_rfl
theorem pn_putRest : putK (pnK c a r) (Sum.inr "rest") (.int z) = pnK c a z := by kernel_rfl
end
theorem pn_new {c : Addr} : mergeK [] (pnK c 0 0) = pnK c 0 0 := by kernel_rfl
def Pen (H : Hp) (p c : Addr) (n : Nat) : Prop := ∃ (a r : Int) (ns : List Int), H p = some (.dK (pnK c a r)) ∧ H c = some (.lst (ns.map V.int)) ∧ ns.length ≤ 63 ∧ 0 ≤ a ∧ a ≤ (n : Int)
theorem Pen.mono {H : Hp} {p c : Addr} {n m : Nat} (h : Pen H p c n) (hm : n ≤ m) : Pen H p c m := by
  obtain ⟨a, r, ns, h1, h2, h4, h5, h6⟩ := h
  exact ⟨a, r, ns, h1, h2, h4, h5, by omega⟩
theorem Pen.ex {H H' : Hp} {p c : Addr} {n : Nat} (e : Ex H H') (h : Pen H p c n) : Pen H' p c n := by
  obtain ⟨a, r, ns, h1, h2, h3⟩ := h
  exact ⟨a, r, ns, e _ _ h1, e _ _ h2, h3⟩
theorem Pen.put {H : Hp} {p c L : Addr} {n : Nat} {xs : List V} {o : HO} (h : Pen H p c n) (hl : H L = some (.lst xs)) (hc : c ≠ L) : Pen (upd H L o) p c n := by
  obtain ⟨a, r, ns, h1, h2, h3⟩ := h
  exact ⟨a, r, ns, by rw [upd_ne (ne_of h1 hl (by intro z; cases z))]; exact h1, by rw [upd_ne hc]; exact h2, h3⟩
def spPen (K : PySem.W.Frag) : Sp := fun vs H Q _ => ∃ (a : Addr) (ns : List Int), vs = [.ref a] ∧ SqL K H a (ns.map V.int) ∧ ns.length ≤ 63 ∧ ∀ (H' : Hp) (p c : Addr), Ex H H' → H p = none → H c = none → Pen H' p c 0 → Q (.ref p) H'
def spPDraw : Sp := fun vs H Q _ => ∃ (p : Addr) (m : Int) (n : Nat), vs = [.ref p, .int m] ∧ ∃ c, Pen H p c n ∧ n < 1000000 ∧ 0 < m ∧ m.natAbs < 2 ^ 64 ∧ ∀ (H' : Hp) (d : Int), Kn H H' → Pen H' p c (n + 1) → 0 ≤ d → d < m → Q (.int d) H'
def spPPick : Sp := fun vs H Q _ => ∃ (p k : Addr) (xs : List V) (n : Nat), vs = [.ref p, .ref k] ∧ ∃ c, Pen H p c n ∧ n < 1000000 ∧ H k = some (.lst xs) ∧ 0 < xs.length ∧ xs.length ≤ 1000000 ∧ ∀ (H' : Hp) (v : V), Kn H H' → Pen H' p c (n + 1) → v ∈ xs → Q v H'
end
section
open PySem PySem.Spec PyProof.Rows L2
section
variable {K : PySem.W.Frag} {H : Hp} {l e : Addr} {ns : List Int} {Q : VK}
theorem ints_dp : ∀ ns : List Int, DpAll K H (ns.map V.int) (ns.map PyData.int)
  | [] => .nil
  | n :: ns => .cons (.int n) (ints_dp ns)
theorem ints_lay : ∀ ns : List Int, PyData.canLayAll0 (ns.map PyData.int) = true
  | [] => rfl
  | n :: ns => by
    show (PyData.canLay0 (.int n) && PyData.canLayAll0 (ns.map PyData.int)) = true
    rw [ints_lay ns]; rfl
theorem ints_depth : ∀ ns : List Int, PyData.depthAll (ns.map PyData.int) ≤ 1
  | [] => by decide
  | n :: ns => by
    show max (PyData.depth (.int n)) (PyData.depthAll (ns.map PyData.int)) ≤ 1
    have := ints_depth ns
    have h2 : PyData.depth (.int n) ≤ 1 := by show (0 : Nat) ≤ 1; decide
    omega
theorem ints_shaped (ns : List Int) : SeqAt.shaped (.list (ns.map PyData.int)) = true := by
  unfold SeqAt.shaped
  have h1 : PyData.canLay0 (.list (ns.map PyData.int)) = true := ints_lay ns
  have h2 : PyData.depth (.list (ns.map PyData.int)) = PyData.depthAll (ns.map PyData.int) + 1 := rfl
  rw [h1, h2, decide_eq_true (by have := ints_depth ns; omega)]; rfl
theorem q_neInts (hl : H l = some (.lst (ns.map V.int))) (he : H e = some (.lst [])) (k : Q (.bl (!decide (ns = []))) H) : rNeD K (.ref l) (.ref e) H Q :=
  ⟨_, _, .lst (SqL.of hl) (ints_dp ns), .lst (SqL.of he) .nil, ints_shaped ns, nil_shaped, by
    have e1 : PyData.eqv (.list (ns.map PyData.int)) (.list []) = decide (ns = []) := by
      cases ns with
      | nil => rfl
      | cons n ns => rfl
    rw [e1]; exact k⟩
end
end
section
open PySem PySem.Spec PyProof.Rows L2
def spAlone : Sp := fun vs H Q _ => ∃ v, vs = [v] ∧ ∀ H' L ts, Ex H H' → H' L = some (.lst ts) → ts.length = 14 → (∀ t ∈ ts, ∃ a, t = .ref a ∧ H' a = some (.tup [v, v])) → Q (.ref L) H'
def spMore : Sp := fun vs H Q _ => ∃ x y, vs = [x, y] ∧ ∀ H' L ts, Ex H H' → H' L = some (.lst ts) → ts.length ≤ 100 → (∀ t ∈ ts, ∃ a u, t = .ref a ∧ H' a = some (.tup [u, u]) ∧ (u = x ∨ u = y)) → Q (.ref L) H'
def spRaise (Cs : List Addr) : Sp := fun vs H _ E => ∃ (i : Int) (y : V), vs = [.int i, y] ∧ 0 ≤ i ∧ i < 5 ∧ ∀ C ∈ Cs, ∀ od H', Ex H H' → E (.ref C) od H'
def spCaught : Sp := fun vs H Q _ => ∃ (i : Int) (y : V), vs = [.int i, y] ∧ 0 ≤ i ∧ i < 5 ∧ ∀ H', Ex H H' → Q (.bl true) H'
theorem Ex.del {H H' : Hp} {a : Addr} (e : Ex H H') (h : H a = none) : Ex H (delH H' a) := fun b o q => by
  rw [delH_ne (ne_of_none q h)]
  exact e b o q
end
section
open PySem PySem.Spec PyProof.Rows L2
def spLaw0 (K : PySem.W.Frag) : Sp := fun vs H Q _ => ∃ (a : Addr) (ns : List Int), vs = [.ref a] ∧ SqL K H a (ns.map V.int) ∧ ns.length ≤ 63 ∧ ∀ H', Q (.bl true) H'
end
section
open PySem PySem.Spec PyProof.Rows L2
theorem r_dnew {σ : L2.St} {H : Hp} {Q : VK} (k : ∀ p H', Ex H H' → H p = none → H' p = some (.dK []) → Q (.ref p) H') : tDNewK σ H Q := fun p hp => k p _ (Ex.new hp) hp upd_same
theorem r_neB0 {b : Bool} {H : Hp} {Q : VK} (k : Q (.bl false) H) : rNe (.bl b) (.bl b) H Q := ⟨rfl, by rw [decide_eq_true rfl]; exact k⟩
theorem q_isV {K : PySem.W.Frag} {a C : Addr} {c : V} {cv : Value} {b : Bool} {H : Hp} {Q : VK} (EC : ExcC K C) (hx : AnyX C H a) (hc : ∀ u, RelV c u → u = cv) (hk : PySem.W.kitOne K (.ref C) cv = some b) (k : Q (.bl b) H) : rIsV K [.ref a, c] H Q := ⟨a, C, c, b, rfl, EC, hx, .inl ⟨cv, hc, hk⟩, k⟩
theorem q_isVT {K : PySem.W.Frag} {a C t : Addr} {cs : List Addr} {b : Bool} {H : Hp} {Q : VK} (EC : ExcC K C) (hx : AnyX C H a) (ht : H t = some (.tup (cs.map V.ref))) (hk : PySem.W.kitAny K (.ref C) (cs.map Value.ref) = some b) (k : Q (.bl b) H) : rIsV K [.ref a, .ref t] H Q := ⟨a, C, .ref t, b, rfl, EC, hx, .inr ⟨t, cs, rfl, ht, hk⟩, k⟩
theorem AnyX.put {C a L : Addr} {H : Hp} {xs : List V} {o : HO} (h : AnyX C H a) (hL : H L = some (.lst xs)) : AnyX C (upd H L o) a := by
  have ne1 : ∀ {b e C' : Addr} {d : Option Addr}, H b = some (exo e C' d) → b ≠ L := fun h => ne_of h hL (fun z => by have z' : HO.ext _ = HO.lst xs := z; cases z')
  have ne2 : ∀ {b e : Addr} {fs : List (Str × V)}, H b = some (exd e fs) → b ≠ L := fun h => ne_of h hL (fun z => by have z' : HO.ext _ = HO.lst xs := z; cases z')
  rcases h with h | ⟨fs, d, h1, h2⟩
  · exact .inl (by rw [upd_ne (ne1 h)]; exact h)
  · exact .inr ⟨fs, d, by rw [upd_ne (ne1 h1)]; exact h1, by rw [upd_ne (ne2 h2.1)]; exact h2⟩
end
section
open PySem PySem.Spec PyProof.Rows L2
theorem Kn.putN {H G G' : Hp} {L : Addr} {o : HO} (k1 : Kn H G) (z : G L = none) (k2 : Kn H G') : Kn H (upd G' L o) := fun b u q s => by
  have ne : b ≠ L := fun e => by
    have := k1 b u q s
    rw [e, z] at this
    cases this
  rw [upd_ne ne]
  exact k2 b u q s
theorem q_sum {K : PySem.W.Frag} {H : Hp} {Q : VK} {a : Addr} {ns : List Int} (h : H a = some (.lst (ns.map V.int))) (k : Q (.int ns.sum) H) : rSum K [.ref a] H Q := ⟨a, ns, rfl, SqL.of h, k⟩
end
section
open PySem PySem.Spec PyProof.Rows L2
section
variable {X : Cx} {pins : List (Addr × Obj)} {σ : L2.St} {H : Hp} {s : Shared}
theorem ty_is {y : V} {n : String} {u : Value} (I : Inv X pins σ H s) (ry : RelV y u) (h : TyX X.K H y (.type n)) : s.TypeIs u n := by
  generalize e : Value.type n = t at h
  cases h with
  | base b =>
    cases b with
    | non => cases e; cases (show u = Value.none from ry); rfl
    | bl y => cases e; cases (show u = Value.bool y from ry); rfl
    | int i => cases e; obtain ⟨t, q⟩ := (show ∃ t, u = Value.int i t from ry); cases q; rfl
    | str y => cases e; obtain ⟨t, q⟩ := (show ∃ t, u = Value.str y t from ry); cases q; rfl
    | flt y => cases e; obtain ⟨t, q⟩ := (show ∃ t, u = Value.float y t from ry); cases q; rfl
    | @lst a xs ea =>
      cases e
      cases (show u = Value.ref a from ry)
      obtain ⟨_, _, n, _, h1⟩ := (show ObjOk X.prog X.w H s.heap a (.lst xs) from I.hok a _ ea)
      exact ⟨_, h1, rfl⟩
    | @frz a ob xs ea =>
      cases e
      cases (show u = Value.ref a from ry)
      obtain ⟨_, _, _, n, _, h1⟩ := (show ObjOk X.prog X.w H s.heap a (.frz ob (.lst xs)) from I.hok a _ ea)
      exact ⟨_, h1, rfl⟩
    | @tup a xs ea =>
      cases e
      cases (show u = Value.ref a from ry)
      obtain ⟨_, _, _, o, h1, h2, _⟩ := (show ObjOk X.prog X.w H s.heap a (.tup xs) from I.hok a _ ea)
      exact ⟨_, h1, h2⟩
    | @dK a kvs ea =>
      cases e
      cases (show u = Value.ref a from ry)
      obtain ⟨_, _, vs, _, o, es, ep, h1, h2, _⟩ := (show ObjOk X.prog X.w H s.heap a (.dK kvs) from I.hok a _ ea)
      exact ⟨_, h1, h2.1⟩
    | @dT a kvs ea =>
      cases e
      cases (show u = Value.ref a from ry)
      obtain ⟨_, _, xs, _, o, es, ep, h1, h2, _⟩ := (show ObjOk X.prog X.w H s.heap a (.dT kvs) from I.hok a _ ea)
      exact ⟨_, h1, h2.1⟩
    | @ins a C dx fs ea cl ha hn htk hm => cases e
  | byt y => cases e; obtain ⟨t, q⟩ := (show ∃ t, u = Value.bytes y t from ry); cases q; rfl
  | @set a S n ea =>
    cases e
    cases (show u = Value.ref a from ry)
    obtain ⟨o, _, _, _, e, ex, _⟩ := I.hok a _ ea
    exact ⟨_, e, ex.1⟩
  | @kList a o e' c => cases e; cases (show u = Value.ref a from ry); exact ⟨_, I.kIn a o e', c⟩
  | @kTuple a o e' c => cases e; cases (show u = Value.ref a from ry); exact ⟨_, I.kIn a o e', c⟩
  | @kDict a o e' c => cases e; cases (show u = Value.ref a from ry); exact ⟨_, I.kIn a o e', c⟩
  | @fTuple a ob xs ea =>
    cases e
    cases (show u = Value.ref a from ry)
    obtain ⟨_, _, _, _, o, h1, h2, _⟩ := (show ObjOk X.prog X.w H s.heap a (.frz ob (.tup xs)) from I.hok a _ ea)
    exact ⟨_, h1, h2⟩
  | @fDict a ob kvs ea =>
    cases e
    cases (show u = Value.ref a from ry)
    obtain ⟨_, _, _, vs, _, o, es, ep, h1, h2, _⟩ := (show ObjOk X.prog X.w H s.heap a (.frz ob (.dK kvs)) from I.hok a _ ea)
    exact ⟨_, h1, h2.1⟩
theorem tyx_kinds {K : PySem.W.Frag} {y : V} {t : Value} (h : TyX K H y t) : (∃ n : String, t = .type n ∧ (Value.type n == Value.type "builtin_function_or_method") = false) ∨ (∃ (a C dx : Addr) (fs : List (Str × V)), y = .ref a ∧ t = .ref C ∧ H a = some (.ins C dx fs)) := by
  cases h with
  | base b =>
    cases b with
    | @ins a C dx fs ea cl ha hn htk hm => exact .inr ⟨a, C, dx, fs, rfl, rfl, ea⟩
    | _ => exact .inl ⟨_, rfl, by decide +kernel⟩
  | _ => exact .inl ⟨_, rfl, by decide +kernel⟩
/-- type(x): its class as a value -/
def tyV : Value → V
  | .type n => .ty n
  | .ref C => .ref C
  | _ => .non
def rType (K : PySem.W.Frag) : List V → Hp → VK → Prop := fun xs H Q => ∃ v t, xs = [v] ∧ TyX K H v t ∧ Q (tyV t) H
theorem cr_typeV : CallR X (.type "type") (rType X.K) := by
  intro pins s σ H xs us Q I r h
  obtain ⟨v, t, rfl, ht, q⟩ := h
  cases r with
  | cons ry rt =>
    cases rt
    rcases tyx_kinds ht with ⟨n, rfl, hb⟩ | ⟨a, C, dx, fs, rfl, rfl, ha⟩
    · exact call_type_of (ty_is I ry ht) hb ⟨.ty n, H, I, rfl, q⟩
    · obtain rfl := (show _ = Value.ref a from ry)
      obtain ⟨od, J⟩ := ins_inst I ha
      exact PySem.W.kto_own J ⟨.ref C, H, I, rfl, q⟩
/-- is not, a built-in class on the right -/
def rNotTy : R2 := fun x y H Q => ∃ (t : Value) (n : String), x = tyV t ∧ y = .ty n ∧ ((∃ m, t = .type m) ∨ ∃ C, t = .ref C) ∧ Q (.bl (!decide (t = .type n))) H
theorem op_isnot_ty : OpR X (compareOp .IsNot) rNotTy := by
  intro pins s σ H x y v u Q I rx ry h
  obtain ⟨t, n, rfl, rfl, ht, q⟩ := h
  obtain rfl := (show u = Value.type n from ry)
  have e : v = t := by rcases ht with ⟨m, rfl⟩ | ⟨C, rfl⟩ <;> exact rx
  subst e
  refine wpAny_isNot_plain (by rcases ht with ⟨m, rfl⟩ | ⟨C, rfl⟩ <;> rfl) ⟨.bl _, H, I, ?_, q⟩
  show Value.bool _ = Value.bool _
  congr 2
end
section
variable {K : PySem.W.Frag} {C a : Addr} {H : Hp} {Q : VK} {v : V}
theorem r_typeI {n : Int} (k : Q (.ty "int") H) : rType K [.int n] H Q := ⟨.int n, .type "int", rfl, tyI, k⟩
theorem r_typeW (h : Wrong K C H v) (k : ∀ t, ((∃ m, t = .type m) ∨ ∃ C, t = .ref C) → t ≠ .type "int" → Q (tyV t) H) : rType K [v] H Q := by
  obtain ⟨t, ht, h1, h2⟩ := h
  refine ⟨v, t, rfl, ht, k t ?_ ?_⟩
  · rcases tyx_kinds ht with ⟨n, rfl, hb⟩ | ⟨a, C, dx, fs, rfl, rfl, ha⟩
    · exact .inl ⟨_, rfl⟩
    · exact .inr ⟨_, rfl⟩
  · rintro rfl
    rw [ki_ii] at h2
    rw [ki_ib] at h2
    rcases h2 with h | ⟨_, h⟩ <;> cases h
theorem r_notTyI {R : V → Hp → Prop} (k : R (.bl false) H) : rNotTy (.ty "int") (.ty "int") H R := ⟨.type "int", "int", rfl, rfl, .inl ⟨_, rfl⟩, by simpa using k⟩
theorem r_notTyW {R : V → Hp → Prop} {t : Value} (h : (∃ m, t = .type m) ∨ ∃ C, t = .ref C) (n : t ≠ .type "int") (k : R (.bl true) H) : rNotTy (tyV t) (.ty "int") H R := ⟨t, "int", rfl, rfl, h, by simpa [n] using k⟩
end
theorem dec_lt_i {q : Rat} {n : Int} : decide (q < (n : Rat)) = decide (q.num < n * q.den) := by
  rw [dec_lt]; congr 1; rw [Rat.num_intCast, Rat.den_intCast]; simp
theorem dec_le_i {q : Rat} {n : Int} : decide (q ≤ (n : Rat)) = decide (q.num ≤ n * q.den) := by
  rw [dec_le]; congr 1; rw [Rat.num_intCast, Rat.den_intCast]; simp
theorem dec_gt_i {q : Rat} {n : Int} : decide ((n : Rat) < q) = decide (n * q.den < q.num) := by
  rw [dec_lt]; congr 1; rw [Rat.num_intCast, Rat.den_intCast]; simp
theorem dec_ge_i {q : Rat} {n : Int} : decide ((n : Rat) ≤ q) = decide (n * q.den ≤ q.num) := by
  rw [dec_le]; congr 1; rw [Rat.num_intCast, Rat.den_intCast]; simp
theorem rat_add_i (q : Rat) (n : Int) : Rat.divInt (q.num + n * q.den) q.den = q + (n : Rat) := by
  rw [← rat_add q n, Rat.num_intCast, Rat.den_intCast]; simp
theorem rat_sub (q r : Rat) : Rat.divInt (q.num * r.den - r.num * q.den) (q.den * r.den) = q - r := by
  rw [Rat.sub_eq_add_neg, ← rat_add, show (-r).num = -r.num from rfl, show (-r).den = r.den from rfl, Int.neg_mul, Int.sub_eq_add_neg]
theorem rat_sub_i (q : Rat) (n : Int) : Rat.divInt (q.num - n * q.den) q.den = q - (n : Rat) := by
  rw [← rat_sub q n, Rat.num_intCast, Rat.den_intCast]; simp
theorem rat_rsub_i (q : Rat) (n : Int) : Rat.divInt (n * q.den - q.num) q.den = (n : Rat) - q := by
  rw [← rat_sub n q, Rat.num_intCast, Rat.den_intCast]; simp
theorem rat_mul_i (q : Rat) (n : Int) : Rat.divInt (q.num * n) q.den = q * (n : Rat) := by
  rw [← rat_mul q n, Rat.num_intCast, Rat.den_intCast]; simp
theorem rat_rem (q r : Rat) (hr : r ≠ 0) : Rat.divInt ((q.num * r.den).fmod (q.den * r.num)) (q.den * r.den) = q - r * ((q / r).floor : Rat) := by
  rw [← rat_fdiv q r hr, Int.fmod_def]
  generalize (q.num * (r.den : Int)).fdiv ((q.den : Int) * r.num) = f
  have hq := den_ne q
  have hr' := den_ne r
  conv => rhs; rw [← Rat.num_divInt_den q, ← Rat.num_divInt_den r]
  rw [Rat.divInt_eq_div, Rat.divInt_eq_div, Rat.divInt_eq_div]
  have h1 : (q.den : Rat) ≠ 0 := by simpa using hq
  have h2 : (r.den : Rat) ≠ 0 := by simpa using hr'
  push_cast
  grind
/-- two Ratios -/
def spRR (C : Addr) (g : Rat → Rat → Rat) : Sp := fun vs H Q _ => ∃ a b q r, vs = [.ref a, .ref b] ∧ IsR C H a q ∧ IsR C H b r ∧ Bq q ∧ Bq r ∧ NewR C Q H (g q r)
theorem q_RR {C a b : Addr} {H : Hp} {q r : Rat} {Q : VK} {E : XK} {g : Rat → Rat → Rat} (h : IsR C H a q) (h' : IsR C H b r) (bq : Bq q) (br : Bq r) (k : NewR C Q H (g q r)) : spRR C g [.ref a, .ref b] H Q E := ⟨a, b, q, r, rfl, h, h', bq, br, k⟩
theorem IsR.here {C a : Addr} {H : Hp} {q : Rat} (_ : IsR C H a q) : Ex H H := Ex.refl H
/-- remainder_of -/
def spRemQ (K : PySem.W.Frag) (C CB : Addr) : Sp := fun vs H Q E => ∃ u v q r, vs = [u, v] ∧ NumV C H u q ∧ NumV C H v r ∧ Bq q ∧ Bq r ∧
  ((r = 0 ∧ Rz E CB "value" v H) ∨ (r ≠ 0 ∧ NewR C Q H (q - r * ((q / r).floor : Rat))))
/-- check_parts, where it raises -/
def spChk (K : PySem.W.Frag) (C CB : Addr) : Sp := fun vs H _ E => ∃ x y, vs = [x, y] ∧
  ((Wrong K C H x ∧ Rz E CB "value" x H) ∨ (∃ a : Int, x = .int a ∧ Wrong K C H y ∧ Rz E CB "value" y H) ∨ (∃ a : Int, x = .int a ∧ y = .int 0 ∧ Rz E CB "value" (.int 0) H))
end
section
open PySem PySem.Spec PyProof.Rows L2 He
def top (i : Nat) : Stmt := PySem.Challenge.pw_overfloors_k09_whole_numbers_in_order.main.body.getD i (.Pass ⟨0, 0, 0, 0⟩)
structure TBl (mg : Str → Option Value) : Prop where
  b_type : mg "type" = none
  b_isinstance : mg "isinstance" = none
  b_int : mg "int" = none
  b_bool : mg "bool" = none
  b_len : mg "len" = none
  b_range : mg "range" = none
  b_zip : mg "zip" = none
  b_enumerate : mg "enumerate" = none
  b_list : mg "list" = none
  b_tuple : mg "tuple" = none
  b_max : mg "max" = none
  b_abs : mg "abs" = none
  b_str : mg "str" = none
  b_sorted : mg "sorted" = none
  b_all : mg "all" = none
  g_gcd : mg "gcd" = some (.builtin "math.gcd")
  g_lcm : mg "lcm" = some (.builtin "math.lcm")
section
variable {P : Program} {w : World} {K : PySem.W.Frag} {mg : Str → Option Value} {base : Heap} {C_Ratio C_BadNumber C_NoSuch f_Ratio_eq f_Ratio_lt f_Ratio_le f_Ratio_gt f_Ratio_ge f_Ratio_bool f_Ratio_neg f_Ratio_abs f_Ratio_str f_Ratio_add f_Ratio_radd f_Ratio_sub f_Ratio_rsub f_Ratio_mul f_Ratio_rmul f_Ratio_floordiv f_Ratio_rfloordiv f_Ratio_mod f_Ratio_rmod f_Ratio_pow f_Ratio_over f_Ratio_floor f_Ratio_ceiling f_Ratio_whole f_Ratio_sign  : Addr}
abbrev s_is_int : Stmt := (top 12)
theorem sc_is_int : FnScope ["value"] ["value"] (defScope s_is_int) := ⟨rfl, rfl, rfl, by decide +kernel, rfl, by decide +kernel, by decide +kernel⟩
theorem ok_is_int {f : Addr} {fd : FuncData} (F : FunD K "is_int" "is_int" (defArgs s_is_int) (defBody s_is_int) (defScope s_is_int) [] [] f fd) (TB : TBl mg) (TR : RT K mg C_Ratio) : FnOk P w K mg base (L2.CX P w) 1 f fd ["value"] (spIsInt K) := by
  refine F.ok (CX := L2.CX P w) sc_is_int (fun vs H Q E h => ?_) (fun cdv A outer s H vs Q E hr h => ?_)
  · obtain ⟨v, t, r, s, rfl, _⟩ := h; rfl
  · obtain ⟨v, t, r, s, rfl, ht, h1, h2, k⟩ := h
    refine ⟨_, (pss_one (ps_ret (pe_and (pe_callB (kc_isi (K := K) rfl) (by rfl) TB.b_isinstance (by decide +kernel) (pa_cons (pv 0) (pa_cons (pe_bltn (v := .ty "int") (u := .type "int") (by rfl) TB.b_int (by decide +kernel) rfl) pa_nil))) (pe_one (pe_not (pe_callB (kc_isi (K := K) rfl) (by rfl) TB.b_isinstance (by decide +kernel) (pa_cons (pv 0) (pa_cons (pe_bltn (v := .ty "bool") (u := .type "bool") (by rfl) TB.b_bool (by decide +kernel) rfl) pa_nil)))))))), ?_⟩
    wtm_at "of_rd"
    refine r_isi (.ty _) ht h1 ?_
    wtm_at "of_rd"
    cases r with
    | false => wtm_at "of_rd"; exact k
    | true =>
      wtm_at "of_rd"
      refine r_isi (.ty _) ht (h2 rfl) ?_
      wtm_at "of_rd"
      exact k
abbrev s_BadNumber_init : Stmt := (inClass (top 4) 0)
theorem sc_BadNumber___init__ : FnScope ["self", "value"] ["self", "value"] (defScope s_BadNumber_init) := ⟨rfl, rfl, rfl, by decide +kernel, rfl, by decide +kernel, by decide +kernel⟩
theorem ok_BadNumber_init {f : Addr} {fd : FuncData} (F : FunD K "__init__" "BadNumber.__init__" (defArgs s_BadNumber_init) (defBody s_BadNumber_init) (defScope s_BadNumber_init) [] [] f fd) (TR : RT K mg C_Ratio) (o_BadNumber : OexC K C_BadNumber) (n_BadNumber : PySem.W.findIn K (.ref C_BadNumber) "value" = some none) : FnOk P w K mg base (L2.CX P w) 1 f fd ["self", "value"] (spEx C_BadNumber "value") := by
  refine F.ok (CX := L2.CX P w) sc_BadNumber___init__ (fun vs H Q E h => ?_) (fun cdv A outer s H vs Q E hr h => ?_)
  · obtain ⟨a, v, rfl, _⟩ := h; rfl
  · obtain ⟨a, v, rfl, ha, k⟩ := h
    refine ⟨_, (pss_one (kps_ost (K := K) rfl (pv 0) (pv 1))), ?_⟩
    refine ⟨v, rfl, .ref a, rfl, a, C_BadNumber, rfl, o_BadNumber, n_BadNumber, .inl ⟨ha, ?_⟩⟩
    exact k
abbrev s_check_parts : Stmt := (top 18)
theorem sc_check_parts : FnScope ["top", "bottom"] ["top", "bottom"] (defScope s_check_parts) := ⟨rfl, rfl, rfl, by decide +kernel, rfl, by decide +kernel, by decide +kernel⟩
theorem ok_check_parts {f : Addr} {fd : FuncData} (F : FunD K "check_parts" "check_parts" (defArgs s_check_parts) (defBody s_check_parts) (defScope s_check_parts) [] [] f fd) (TR : RT K mg C_Ratio) (c_is_int : Cl P w K mg base 1 "is_int" (spIsInt K)) (c_BadNumber : Cox P w K mg base 1 "BadNumber" C_BadNumber "value") : FnOk P w K mg base (L2.CX P w) 3 f fd ["top", "bottom"] (spChk K C_Ratio C_BadNumber) := by
  refine F.ok (CX := L2.CX P w) sc_check_parts (fun vs H Q E h => ?_) (fun cdv A outer s H vs Q E hr h => ?_)
  · obtain ⟨x, y, rfl, _⟩ := h; rfl
  · obtain ⟨x, y, rfl, h⟩ := h
    refine ⟨_, (pss_cons (ps_if (pt_not (pt_val (pe_cl c_is_int hr (by decide) (by rfl) psE (pa_cons (pv 0) pa_nil)))) (pss_one (ps_rz c_BadNumber hr (by decide) tkE rfl (pa_cons (pv 0) pa_nil))) pss_nil) (pss_cons (ps_if (pt_not (pt_val (pe_cl c_is_int hr (by decide) (by rfl) psE (pa_cons (pv 1) pa_nil)))) (pss_one (ps_rz c_BadNumber hr (by decide) tkE rfl (pa_cons (pv 1) pa_nil))) pss_nil) (pss_one (ps_if (pt_cmpR op_eq (pv 1) pe_int (nomark _)) (pss_one (ps_rz c_BadNumber hr (by decide) tkE rfl (pa_cons pe_int pa_nil))) pss_nil)))), ?_⟩
    rcases h with ⟨hw, hz⟩ | ⟨a, rfl, hw, hz⟩ | ⟨a, rfl, rfl, hz⟩
    · wtm_at "of_rd"
      refine q_isInt_w hw ?_
      wtm_at "of_rd"
      exact hz.at
    · wtm_at "of_rd"
      refine q_isInt_i ?_
      wtm_at "of_rd"
      refine q_isInt_w hw ?_
      wtm_at "of_rd"
      exact hz.at
    · wtm_at "of_rd"
      refine q_isInt_i ?_
      wtm_at "of_rd"
      refine q_isInt_i ?_
      wtm_at "of_rd"
      refine iteD rfl ?_
      wtm_at "of_rd"
      exact hz.at
abbrev s_Ratio_init : Stmt := (inClass (top 19) 0)
theorem sc_Ratio___init__ : FnScope ["self", "top", "bottom", "common"] ["self", "top", "bottom"] (defScope s_Ratio_init) := ⟨rfl, rfl, rfl, by decide +kernel, rfl, by decide +kernel, by decide +kernel⟩
theorem ok_Ratio_init {f : Addr} {fd : FuncData} (F : FunD K "__init__" "Ratio.__init__" (defArgs s_Ratio_init) (defBody s_Ratio_init) (defScope s_Ratio_init) [.int 1] [] f fd) (TB : TBl mg) (TR : RT K mg C_Ratio) (c_check_parts : Cl P w K mg base 3 "check_parts" (spChk K C_Ratio C_BadNumber)) : FnOk P w K mg base (L2.CX P w) 4 f fd ["self", "top", "bottom"] (spRInit K C_Ratio C_BadNumber) := by
  refine F.ok (CX := L2.CX P w) sc_Ratio___init__ (fun vs H Q E h => ?_) (fun cdv A outer s H vs Q E hr h => ?_)
  · obtain ⟨p, dx, x, y, rfl, _⟩ := h; rfl
  · obtain ⟨p, dx, x, y, rfl, hp, h⟩ := h
    refine ⟨_, (pss_cons (ps_if (pw_or (pt_cmpR op_isnot_ty (pe_callTy cr_typeV (by rfl) TB.b_type (by decide +kernel) (pa_cons (pv 1) pa_nil)) (pe_bltn (v := .ty "int") (u := .type "int") (by rfl) TB.b_int (by decide +kernel) rfl) (nomark _)) (pw_or (pt_cmpR op_isnot_ty (pe_callTy cr_typeV (by rfl) TB.b_type (by decide +kernel) (pa_cons (pv 2) pa_nil)) (pe_bltn (v := .ty "int") (u := .type "int") (by rfl) TB.b_int (by decide +kernel) rfl) (nomark _)) (pw_or1 (pt_cmpR op_eq (pv 2) pe_int (nomark _))))).pt (pss_one (ps_expr (pe_cl c_check_parts hr (by decide) (by rfl) psE (pa_cons (pv 1) (pa_cons (pv 2) pa_nil))))) pss_nil) (pss_cons (ps_if (pt_cmpR op_ne (pv 2) pe_int (nomark _)) (pss_cons (ps_set (i := 3) sc_Ratio___init__.nd rfl (Or.inl rfl) (pe_ifExp (pt_cmpR op_gt (pv 2) pe_int (nomark _)) (pe_callBfun cr_gcd (by rfl) TB.g_gcd (pa_cons (pv 1) (pa_cons (pv 2) pa_nil))) (pe_un un_neg (pe_callBfun cr_gcd (by rfl) TB.g_gcd (pa_cons (pv 1) (pa_cons (pv 2) pa_nil)))))) (pss_one (ps_if (pt_cmpR op_ne (pv 3) pe_int (nomark _)) (pss_cons (ps_set (i := 1) sc_Ratio___init__.nd rfl (Or.inl rfl) (pe_op op_fdivZ (pv 1) (pv 3))) (pss_one (ps_set (i := 2) sc_Ratio___init__.nd rfl (Or.inl rfl) (pe_op op_fdivZ (pv 2) (pv 3))))) pss_nil))) pss_nil) (pss_cons (ksfld (K := K) rfl (pv 0) (pv 1) rfl) (pss_one (ksfld (K := K) rfl (pv 0) (pv 2) rfl))))), ?_⟩
    rcases h with ⟨a, b, rfl, rfl, hb, h9, k⟩ | ⟨hw, hz⟩ | ⟨a, rfl, hw, hz⟩ | ⟨a, rfl, rfl, hz⟩
    · wtm_at "of_rd"
      refine r_typeI ?_
      wtm_at "of_rd"
      refine r_notTyI ?_
      wtm_at "of_rd"
      refine r_typeI ?_
      wtm_at "of_rd"
      refine r_notTyI ?_
      wtm_at "of_rd"
      refine iteDn hb ?_
      wtm_at "of_rd"
      have fin : ∀ g : Int, g = (if b < 0 then -(Int.gcd a b : Int) else (Int.gcd a b : Int)) → ∀ x y : Int, x = a.fdiv g → y = b.fdiv g → ∀ H', H' = upd H p (.ins C_Ratio dx [("top", .int x), ("bottom", .int y)]) → Q V.non H' := by
        intro g hg x y hx hy H' e
        subst e; subst hx; subst hy
        refine k _ (fun c o hc hn => by rw [upd_ne hn]; exact hc) ⟨dx, ?_⟩
        rw [upd_same, hg, made_num hb, made_den hb]; rfl
      have div : ∀ g : Int, g = (if b < 0 then -(Int.gcd a b : Int) else (Int.gcd a b : Int)) → ∀ i, CDivZ i g := by
        intro g hg i
        have g0 : (Int.gcd a b : Int) ≠ 0 := by have := Int.gcd_ne_zero_right (a := a) hb; omega
        have gl := gcd_le (a := a) hb
        refine ⟨by subst hg; split <;> omega, ?_⟩
        have : g.natAbs = Int.gcd a b := by subst hg; split <;> simp
        omega
      refine ite2n (fun h1 => ?_) (fun h1 => ?_)
      · wtm_at "of_rd"
        refine ite2 (fun h2 => ?_) (fun h2 => ?_)
        · wtm_at "of_rd"
          refine ite2n (fun h3 => ?_) (fun h3 => ?_)
          · wtm_at "of_rd"
            refine r_I (div _ (by rw [if_neg (by omega)]) _) ?_
            wtm_at "of_rd"
            refine r_I (div _ (by rw [if_neg (by omega)]) _) ?_
            wtm_at "of_rd"
            refine r_put TR.k.o.cl TR.nT (by with_unfolding_all rfl) hp (by decide) ?_
            wtm_at "of_rd"
            refine r_put TR.k.o.cl TR.nB (by with_unfolding_all rfl) upd_same (by show 1 < 1000; decide) ?_
            refine fin _ (by rw [if_neg (by omega)]) _ _ (rfl) (rfl) _ ?_
            rw [upd_upd, fR_made]
          · wtm_at "of_rd"
            refine r_put TR.k.o.cl TR.nT (by with_unfolding_all rfl) hp (by decide) ?_
            wtm_at "of_rd"
            refine r_put TR.k.o.cl TR.nB (by with_unfolding_all rfl) upd_same (by show 1 < 1000; decide) ?_
            refine fin _ (by rw [if_neg (by omega)]) a b (by rw [h3]; exact (Int.fdiv_one _).symm) (by rw [h3]; exact (Int.fdiv_one _).symm) _ ?_
            rw [upd_upd, fR_made]
        · wtm_at "of_rd"
          refine ite2n (fun h3 => ?_) (fun h3 => ?_)
          · wtm_at "of_rd"
            refine r_I (div _ (by rw [if_pos (by omega)]) _) ?_
            wtm_at "of_rd"
            refine r_I (div _ (by rw [if_pos (by omega)]) _) ?_
            wtm_at "of_rd"
            refine r_put TR.k.o.cl TR.nT (by with_unfolding_all rfl) hp (by decide) ?_
            wtm_at "of_rd"
            refine r_put TR.k.o.cl TR.nB (by with_unfolding_all rfl) upd_same (by show 1 < 1000; decide) ?_
            refine fin _ (by rw [if_pos (by omega)]) _ _ (rfl) (rfl) _ ?_
            rw [upd_upd, fR_made]
          · wtm_at "of_rd"
            refine r_put TR.k.o.cl TR.nT (by with_unfolding_all rfl) hp (by decide) ?_
            wtm_at "of_rd"
            refine r_put TR.k.o.cl TR.nB (by with_unfolding_all rfl) upd_same (by show 1 < 1000; decide) ?_
            refine fin _ (by rw [if_pos (by omega)]) a b (by rw [h3]; exact (Int.fdiv_one _).symm) (by rw [h3]; exact (Int.fdiv_one _).symm) _ ?_
            rw [upd_upd, fR_made]
      · wtm_at "of_rd"
        refine r_put TR.k.o.cl TR.nT (by with_unfolding_all rfl) hp (by decide) ?_
        wtm_at "of_rd"
        refine r_put TR.k.o.cl TR.nB (by with_unfolding_all rfl) upd_same (by show 1 < 1000; decide) ?_
        refine fin _ (show (1 : Int) = _ by rw [h1]; simp) a b (by exact (Int.fdiv_one _).symm) (by rw [h1]; rfl) _ ?_
        rw [upd_upd, fR_made]
    · wtm_at "of_rd"
      refine r_typeW hw fun t ht hn => ?_
      wtm_at "of_rd"
      refine r_notTyW ht hn ?_
      wtm_at "of_rd"
      exact ⟨_, _, rfl, .inl ⟨hw, hz⟩⟩
    · wtm_at "of_rd"
      refine r_typeI ?_
      wtm_at "of_rd"
      refine r_notTyI ?_
      wtm_at "of_rd"
      refine r_typeW hw fun t ht hn => ?_
      wtm_at "of_rd"
      refine r_notTyW ht hn ?_
      wtm_at "of_rd"
      exact ⟨_, _, rfl, .inr (.inl ⟨_, rfl, hw, hz⟩)⟩
    · wtm_at "of_rd"
      refine r_typeI ?_
      wtm_at "of_rd"
      refine r_notTyI ?_
      wtm_at "of_rd"
      refine r_typeI ?_
      wtm_at "of_rd"
      refine r_notTyI ?_
      wtm_at "of_rd"
      refine iteD rfl ?_
      wtm_at "of_rd"
      exact ⟨_, _, rfl, .inr (.inr ⟨_, rfl, rfl, hz⟩)⟩
abbrev s_is_number : Stmt := (top 13)
theorem sc_is_number : FnScope ["value"] ["value"] (defScope s_is_number) := ⟨rfl, rfl, rfl, by decide +kernel, rfl, by decide +kernel, by decide +kernel⟩
theorem ok_is_number {f : Addr} {fd : FuncData} (F : FunD K "is_number" "is_number" (defArgs s_is_number) (defBody s_is_number) (defScope s_is_number) [] [] f fd) (g_Ratio : mg "Ratio" = some (.ref C_Ratio)) (TB : TBl mg) (TR : RT K mg C_Ratio) (c_is_int : Cl P w K mg base 1 "is_int" (spIsInt K)) : FnOk P w K mg base (L2.CX P w) 2 f fd ["value"] (spIsNum K C_Ratio) := by
  refine F.ok (CX := L2.CX P w) sc_is_number (fun vs H Q E h => ?_) (fun cdv A outer s H vs Q E hr h => ?_)
  · obtain ⟨v, rfl, _⟩ := h; rfl
  · obtain ⟨v, rfl, h⟩ := h
    refine ⟨_, (pss_one (ps_ret (pe_or (pe_callB (kc_isi (K := K) rfl) (by rfl) TB.b_isinstance (by decide +kernel) (pa_cons (pv 0) (pa_cons (pe_glob (v := .ref C_Ratio) (by rfl) g_Ratio rfl) pa_nil))) (pe_one (pe_cl c_is_int hr (by decide) (by rfl) psE (pa_cons (pv 0) pa_nil)))))), ?_⟩
    rcases h with ⟨⟨q, ⟨n, rfl, rfl⟩ | ⟨a, rfl, ha⟩⟩, k⟩ | ⟨hw, k⟩
    · wtm_at "of_rd"
      refine r_isi (.own _) tyI (kit_int TR.k) ?_
      wtm_at "of_rd"
      exact q_isInt_i k
    · wtm_at "of_rd"
      refine r_isi (.own _) (ha.tyx TR) kit_self ?_
      wtm_at "of_rd"
      exact k
    · wtm_at "of_rd"
      obtain ⟨t, ht, hc, hi⟩ := _root_.id hw
      refine r_isi (.own _) ht hc ?_
      wtm_at "of_rd"
      exact q_isInt_w hw k
abbrev s_ratio_of : Stmt := (top 14)
theorem sc_ratio_of : FnScope ["number"] ["number"] (defScope s_ratio_of) := ⟨rfl, rfl, rfl, by decide +kernel, rfl, by decide +kernel, by decide +kernel⟩
theorem ok_ratio_of {f : Addr} {fd : FuncData} (F : FunD K "ratio_of" "ratio_of" (defArgs s_ratio_of) (defBody s_ratio_of) (defScope s_ratio_of) [] [] f fd) (g_Ratio : mg "Ratio" = some (.ref C_Ratio)) (TB : TBl mg) (TR : RT K mg C_Ratio) (c_is_int : Cl P w K mg base 1 "is_int" (spIsInt K)) (c_BadNumber : Cox P w K mg base 1 "BadNumber" C_BadNumber "value") (c_Ratio_1 : Ck P w K mg base 4 "Ratio" C_Ratio [.int 1] (spRInit K C_Ratio C_BadNumber)) : FnOk P w K mg base (L2.CX P w) 6 f fd ["number"] (spRatioOf K C_Ratio C_BadNumber) := by
  refine F.ok (CX := L2.CX P w) sc_ratio_of (fun vs H Q E h => ?_) (fun cdv A outer s H vs Q E hr h => ?_)
  · obtain ⟨v, rfl, _⟩ := h; rfl
  · obtain ⟨v, rfl, h⟩ := h
    refine ⟨_, (pss_cons (ps_if (pt_val (pe_callB (kc_isi (K := K) rfl) (by rfl) TB.b_isinstance (by decide +kernel) (pa_cons (pv 0) (pa_cons (pe_glob (v := .ref C_Ratio) (by rfl) g_Ratio rfl) pa_nil)))) (pss_one (ps_ret (pv 0))) pss_nil) (pss_cons (ps_if (pt_val (pe_cl c_is_int hr (by decide) (by rfl) psE (pa_cons (pv 0) pa_nil))) (pss_one (ps_ret (pe_ck c_Ratio_1 hr (by decide) (by rfl) psE (pa_cons (pv 0) pa_nil)))) pss_nil) (pss_one (ps_rz c_BadNumber hr (by decide) tkE rfl (pa_cons (pv 0) pa_nil))))), ?_⟩
    rcases h with ⟨q, ⟨n, rfl, rfl⟩ | ⟨a, rfl, ha⟩, hb, k⟩ | ⟨hw, hz⟩
    · wtm_at "of_rd"
      refine r_isi (.own _) tyI (kit_int TR.k) ?_
      wtm_at "of_rd"
      refine q_isInt_i ?_
      wtm_at "of_rd"
      refine q_mk rfl (by decide) (by decide) ?_
      rw [divInt_one]
      exact k
    · wtm_at "of_rd"
      refine r_isi (.own _) (ha.tyx TR) kit_self ?_
      wtm_at "of_rd"
      exact k H a (Ex.refl H) ha
    · wtm_at "of_rd"
      obtain ⟨t, ht, hc, hi⟩ := _root_.id hw
      refine r_isi (.own _) ht hc ?_
      wtm_at "of_rd"
      refine q_isInt_w hw ?_
      wtm_at "of_rd"
      exact hz.at
abbrev s_Ratio_eq : Stmt := (inClass (top 19) 10)
theorem sc_Ratio___eq__ : FnScope ["self", "other"] ["self", "other"] (defScope s_Ratio_eq) := ⟨rfl, rfl, rfl, by decide +kernel, rfl, by decide +kernel, by decide +kernel⟩
theorem ok_Ratio_eq {f : Addr} {fd : FuncData} (F : FunD K "__eq__" "Ratio.__eq__" (defArgs s_Ratio_eq) (defBody s_Ratio_eq) (defScope s_Ratio_eq) [] [] f fd) (g_Ratio : mg "Ratio" = some (.ref C_Ratio)) (TB : TBl mg) (TR : RT K mg C_Ratio) (c_is_int : Cl P w K mg base 1 "is_int" (spIsInt K)) : FnOk P w K mg base (L2.CX P w) 2 f fd ["self", "other"] (spREq K C_Ratio) := by
  refine F.ok (CX := L2.CX P w) sc_Ratio___eq__ (fun vs H Q E h => ?_) (fun cdv A outer s H vs Q E hr h => ?_)
  · obtain ⟨a, v, q, rfl, _⟩ := h; rfl
  · obtain ⟨a, v, q, rfl, ha, h⟩ := h
    refine ⟨_, (pss_cons (ps_if (pt_val (pe_callB (kc_isi (K := K) rfl) (by rfl) TB.b_isinstance (by decide +kernel) (pa_cons (pv 1) (pa_cons (pe_glob (v := .ref C_Ratio) (by rfl) g_Ratio rfl) pa_nil)))) (pss_one (ps_ret (pe_and (pe_cmpR op_eq (kfld (K := K) rfl (pv 0) rfl) (kfld (K := K) rfl (pv 1) rfl) (nomark _)) (pe_one (pe_cmpR op_eq (kfld (K := K) rfl (pv 0) rfl) (kfld (K := K) rfl (pv 1) rfl) (nomark _)))))) pss_nil) (pss_one (ps_ret (pe_and (pe_cl c_is_int hr (by decide) (by rfl) psE (pa_cons (pv 1) pa_nil)) (pe_and (pe_cmpR op_eq (kfld (K := K) rfl (pv 0) rfl) pe_int (nomark _)) (pe_one (pe_cmpR op_eq (kfld (K := K) rfl (pv 0) rfl) (pv 1) (nomark _)))))))), ?_⟩
    rcases h with ⟨r, hv, k0⟩ | ⟨hw, k0⟩
    · rcases hv with ⟨n, rfl, rfl⟩ | ⟨c, rfl, hc⟩
      · wtm_at "of_rd"
        refine r_isi (.own _) tyI (kit_int TR.k) ?_
        wtm_at "of_rd"
        refine q_isInt_i ?_
        wtm_at "of_rd"
        refine ite2 (fun h1 => ?_) (fun h1 => ?_)
        · wtm_at "of_rd"
          rw [dec_eq_i h1] at k0
          exact k0
        · rw [dec_eq_i' h1] at k0
          exact k0
      · wtm_at "of_rd"
        refine r_isi (.own _) (hc.tyx TR) kit_self ?_
        wtm_at "of_rd"
        refine ite2 (fun h1 => ?_) (fun h1 => ?_)
        · wtm_at "of_rd"
          rw [dec_eq_r h1] at k0
          exact k0
        · rw [dec_eq_r' h1] at k0
          exact k0
    · obtain ⟨t, ht, hc, hi⟩ := _root_.id hw
      wtm_at "of_rd"
      refine r_isi (.own _) ht hc ?_
      wtm_at "of_rd"
      refine q_isInt_w hw ?_
      wtm_at "of_rd"
      exact k0
abbrev s_Ratio_lt : Stmt := (inClass (top 19) 11)
theorem sc_Ratio___lt__ : FnScope ["self", "other"] ["self", "other"] (defScope s_Ratio_lt) := ⟨rfl, rfl, rfl, by decide +kernel, rfl, by decide +kernel, by decide +kernel⟩
theorem ok_Ratio_lt {f : Addr} {fd : FuncData} (F : FunD K "__lt__" "Ratio.__lt__" (defArgs s_Ratio_lt) (defBody s_Ratio_lt) (defScope s_Ratio_lt) [] [] f fd) (g_Ratio : mg "Ratio" = some (.ref C_Ratio)) (TB : TBl mg) (TR : RT K mg C_Ratio) (c_is_int : Cl P w K mg base 1 "is_int" (spIsInt K)) : FnOk P w K mg base (L2.CX P w) 2 f fd ["self", "other"] (spRB C_Ratio (fun q r => decide (q < r))) := by
  refine F.ok (CX := L2.CX P w) sc_Ratio___lt__ (fun vs H Q E h => ?_) (fun cdv A outer s H vs Q E hr h => ?_)
  · obtain ⟨a, v, q, r, rfl, _⟩ := h; rfl
  · obtain ⟨a, v, q, r, rfl, ha, hv, hq, hr', k⟩ := h
    refine ⟨_, (pss_cons (ps_if (pt_val (pe_callB (kc_isi (K := K) rfl) (by rfl) TB.b_isinstance (by decide +kernel) (pa_cons (pv 1) (pa_cons (pe_glob (v := .ref C_Ratio) (by rfl) g_Ratio rfl) pa_nil)))) (pss_one (ps_ret (pe_cmpR op_lt (pe_op op_mulA (kfld (K := K) rfl (pv 0) rfl) (kfld (K := K) rfl (pv 1) rfl)) (pe_op op_mulA (kfld (K := K) rfl (pv 1) rfl) (kfld (K := K) rfl (pv 0) rfl)) (nomark _)))) pss_nil) (pss_cons (ps_if (pt_val (pe_cl c_is_int hr (by decide) (by rfl) psE (pa_cons (pv 1) pa_nil))) (pss_one (ps_ret (pe_cmpR op_lt (kfld (K := K) rfl (pv 0) rfl) (pe_op op_mulA (pv 1) (kfld (K := K) rfl (pv 0) rfl)) (nomark _)))) pss_nil) (pss_one (ps_ret pe_ni)))), ?_⟩
    dsimp only at k
    rcases hv with ⟨n, rfl, rfl⟩ | ⟨c, rfl, hc⟩
    · have hn : Bt n := hr'.1
      wtm_at "of_rd"
      refine r_isi (.own _) tyI (kit_int TR.k) ?_
      wtm_at "of_rd"
      refine q_isInt_i ?_
      wtm_at "of_rd"
      rw [dec_lt_i] at k
      exact k.here
    · wtm_at "of_rd"
      refine r_isi (.own _) (hc.tyx TR) kit_self ?_
      wtm_at "of_rd"
      rw [dec_lt] at k
      exact k.here
end
end
section
open PySem PySem.Spec PyProof.Rows L2 He
abbrev noArgs : Arguments := { posonlyargs := [], args := [], vararg := none, kwonlyargs := [], kw_defaults := [], kwarg := none, defaults := [] }
theorem def_no (env : Env) : defaultsOf noArgs env = ([], []) := rfl
theorem bind_no (q : Str) (body : Expr) (sc : Scope) (cl : List (Str × Addr)) (pm cv ctv : Value) : bindArgs (PySem.W.kla_fn "<lambda>" q noArgs body sc cl pm cv ctv) ⟨[], []⟩ = pure [] := rfl
end
section
open PySem PySem.Spec PyProof.Rows L2 LamX
/-- at f stands a lambda of this body, its code object at c' -/
def LamO (q : Str) (params : Arguments) (body : Expr) (scope : Scope) (cl : List (Str × Addr)) (f c' : Addr) : HO := .ext fun h => ∃ pm ctv, h.get? f = some (PySem.W.kla_obj "<lambda>" q params body scope cl pm c' ctv)
theorem lamO_ok {P : Program} {w : World} {H : Hp} {h : Heap} {q : Str} {params : Arguments} {body : Expr} {scope : Scope} {cl : List (Str × Addr)} {f c' : Addr} {pm ctv : Value} (e : h.get? f = some (PySem.W.kla_obj "<lambda>" q params body scope cl pm c' ctv)) : ObjOk P w H h f (LamO q params body scope cl f c') :=
  ⟨⟨pm, ctv, e⟩, ⟨_, e⟩, fun _ _ z k => by
    obtain ⟨p, c, z⟩ := z
    exact ⟨p, c, k _ z⟩⟩
section
variable {X : Cx} {pins : List (Addr × Obj)} {σ : L2.St} {H : Hp} {s : Shared}
/-- the lambda is made and known from now on -/
theorem lam_make3 {T : List (Addr × Str)} {c P : Addr} {params : Arguments} {body : Expr} {scope : Scope} {pos : Pos} {E : Value → Shared → Prop} {Q : Value → Shared → Prop} (I : Inv X pins σ H s) (TB : TabB X.base X.mg c P) (hcode : X.env.code = .ref c)
    (hm : (P, X.env.qual ++ "<lambda>") ∈ T) (hu : ∀ p ∈ T, p.1 = P → p.2 = X.env.qual ++ "<lambda>") (hT : Tabs T H) (hdef : defaultsOf params X.env = ([], [])) (hfree : ∀ y ∈ scope.names, y.2 = .free → ∃ c, X.env.cells.lookup y.1 = some c)
    (h : ∀ (f c' : Addr) (H1 : Hp) (s' : Shared), Inv X pins σ H1 s' → ExtN H H1 → Tabs T H1 → H f = none → H1 f = some (LamO (X.env.qual ++ "<lambda>") params body scope (cloFrom X.env.cells scope.names []) f c') → H1 c' = some (CodeO c' (X.env.qual ++ "<lambda>")) → Q (.ref f) s') :
    wpAny (model X.prog X.w) X.A (eval (.Lambda params body scope pos) X.env) Q E s := by
  obtain ⟨ps, hP, ht, ha⟩ := hT _ hm
  refine PySem.W.kla_eval hdef ?_
  have bP : s.heap.BuiltinsAt X.mg P := TB.bm.keeps I.bk
  have hP' : s.heap.get? P = some { cls := .none, data := .fields ps } := I.hok P _ hP
  cases hc : codeAmong pos ps.toList with
  | none =>
    refine PySem.W.kla_makeFunction (mg := X.mg) (c := c) (P := P) (ps := ps) (closure_ok hfree) I.ok.glob (I.mod.glob.keeps I.bk) hcode (TB.code.keeps I.bk) hP' ht hc TB.gP bP fun c' ctv h' tk hx hge hlt hrec htb => ?_
    obtain ⟨c2, oc, vs, t, e2, hoc, hd, hv⟩ := hrec
    cases e2
    have hsz : s.heap.objs.size ≤ h'.objs.size := Nat.le_trans hge (Nat.le_of_lt hlt)
    have nC : H c' = none := I.hok.fresh hge
    have nF : H h'.objs.size = none := I.hok.fresh hsz
    have I1 := inv_table (t' := tk) (more := #[rawInt pos.line, rawInt pos.col, .ref c']) (h' := h') I hP (fun b o hb e => hx b o hb e) htb hge ⟨oc, vs, t, hoc, hd, hv⟩
    have fo : (h'.push (PySem.W.kla_obj "<lambda>" (X.env.qual ++ "<lambda>") params body scope (cloFrom X.env.cells scope.names []) ((X.mg "__name__").getD .none) c' ctv)).get? h'.objs.size = some (PySem.W.kla_obj "<lambda>" (X.env.qual ++ "<lambda>") params body scope (cloFrom X.env.cells scope.names []) ((X.mg "__name__").getD .none) c' ctv) := Heap.get?_push_size _ rfl
    have I2 := I1.laid (t' := tk) (a := h'.objs.size) (o := LamO (X.env.qual ++ "<lambda>") params body scope (cloFrom X.env.cells scope.names []) h'.objs.size c') (h' := h'.push (PySem.W.kla_obj "<lambda>" (X.env.qual ++ "<lambda>") params body scope (cloFrom X.env.cells scope.names []) ((X.mg "__name__").getD .none) c' ctv))
      (fun b o e => Heap.get?_push_of_some _ e) (Nat.le_refl _) (lamO_ok fo)
    have n1 : c' ≠ h'.objs.size := Nat.ne_of_lt hlt
    have hE : ExtN H (upd (upd (upd H P (.tbl (ps ++ #[rawInt pos.line, rawInt pos.col, .ref c']))) c' (CodeO c' (X.env.qual ++ "<lambda>"))) h'.objs.size (LamO (X.env.qual ++ "<lambda>") params body scope (cloFrom X.env.cells scope.names []) h'.objs.size c')) := fun b o e n => by
      rw [upd_ne (ne_of_none e nF), upd_ne (ne_of_none e nC), upd_ne (fun z => n ps (Option.some.inj (e.symm.trans (by rw [z]; exact hP))))]
      exact e
    have eL : (ps ++ #[rawInt pos.line, rawInt pos.col, .ref c']).toList = ps.toList ++ [rawInt pos.line, rawInt pos.col, .ref c'] := by simp
    have atC : (upd (upd (upd H P (.tbl (ps ++ #[rawInt pos.line, rawInt pos.col, .ref c']))) c' (CodeO c' (X.env.qual ++ "<lambda>"))) h'.objs.size (LamO (X.env.qual ++ "<lambda>") params body scope (cloFrom X.env.cells scope.names []) h'.objs.size c')) c' = some (CodeO c' (X.env.qual ++ "<lambda>")) := by rw [upd_ne n1, upd_same]
    refine h h'.objs.size c' _ _ I2 hE (fun p hp => ?_) nF upd_same atC
    by_cases hb : p.1 = P
    · rw [hu p hp hb, hb]
      refine ⟨_, by rw [upd_ne (ne_of_none hP nF), upd_ne (ne_of_none hP nC), upd_same], by rw [eL]; exact PySem.TriplesOk_snoc _ _ _ _ ht, fun p' cv hcv => ?_⟩
      rw [eL] at hcv
      rcases among_app _ ht hcv with z | z
      · obtain ⟨c0, e1, e2⟩ := ha p' cv z
        exact ⟨c0, e1, hE _ _ e2 codeO_ne⟩
      · exact ⟨c', z, atC⟩
    · obtain ⟨ps', a1, a2, a3⟩ := hT p hp
      refine ⟨ps', by rw [upd_ne (ne_of_none a1 nF), upd_ne (ne_of_none a1 nC), upd_ne hb]; exact a1, a2, fun p' cv hcv => ?_⟩
      obtain ⟨c0, e1, e2⟩ := a3 p' cv hcv
      exact ⟨c0, e1, hE _ _ e2 codeO_ne⟩
  | some cv =>
    obtain ⟨c', e, hco⟩ := ha pos cv hc
    subst e
    refine PySem.W.kla_makeFunctionHit (mg := X.mg) (c := c) (P := P) (ps := ps) (closure_ok hfree) I.ok.glob (I.mod.glob.keeps I.bk) hcode (TB.code.keeps I.bk) hP' ht hc bP fun ctv h' tk hx hsz => ?_
    have nF : H h'.objs.size = none := I.hok.fresh hsz
    have fo : (h'.push (PySem.W.kla_obj "<lambda>" (X.env.qual ++ "<lambda>") params body scope (cloFrom X.env.cells scope.names []) ((X.mg "__name__").getD .none) c' ctv)).get? h'.objs.size = some (PySem.W.kla_obj "<lambda>" (X.env.qual ++ "<lambda>") params body scope (cloFrom X.env.cells scope.names []) ((X.mg "__name__").getD .none) c' ctv) := Heap.get?_push_size _ rfl
    have I1 := I.laid (t' := tk) (a := h'.objs.size) (o := LamO (X.env.qual ++ "<lambda>") params body scope (cloFrom X.env.cells scope.names []) h'.objs.size c') (h' := h'.push (PySem.W.kla_obj "<lambda>" (X.env.qual ++ "<lambda>") params body scope (cloFrom X.env.cells scope.names []) ((X.mg "__name__").getD .none) c' ctv))
      (fun b o e => Heap.get?_push_of_some _ (hx b o e)) hsz (lamO_ok fo)
    have hE : ExtN H (upd H h'.objs.size (LamO (X.env.qual ++ "<lambda>") params body scope (cloFrom X.env.cells scope.names []) h'.objs.size c')) := fun b o e _ => by
      rw [upd_ne (ne_of_none e nF)]
      exact e
    refine h h'.objs.size c' _ _ I1 hE (fun p hp => ?_) nF upd_same (hE _ _ hco codeO_ne)
    obtain ⟨ps', a1, a2, a3⟩ := hT p hp
    refine ⟨ps', by rw [upd_ne (ne_of_none a1 nF)]; exact a1, a2, fun p' cv hcv => ?_⟩
    obtain ⟨c0, e1, e2⟩ := a3 p' cv hcv
    exact ⟨c0, e1, hE _ _ e2 codeO_ne⟩
/-- lambda: body, as a value -/
def tLamV (T : List (Addr × Str)) (q : Str) (params : Arguments) (body : Expr) (scope : Scope) (cl : List (Str × Addr)) : TE := fun _ H Q => Tabs T H ∧ ∀ H1 f c', ExtN H H1 → Tabs T H1 → H f = none → H1 f = some (LamO q params body scope cl f c') → H1 c' = some (CodeO c' q) → Q (.ref f) H1
theorem pe_lamV {T : List (Addr × Str)} {c P : Addr} {params : Arguments} {body : Expr} {scope : Scope} {pos : Pos} (TB : TabB X.base X.mg c P) (hcode : X.env.code = .ref c) (hm : (P, X.env.qual ++ "<lambda>") ∈ T) (hu : ∀ p ∈ T, p.1 = P → p.2 = X.env.qual ++ "<lambda>") (L : LamS X.env.scope scope)
    (hdef : defaultsOf params X.env = ([], [])) : PE X (.Lambda params body scope pos) (tLamV T (X.env.qual ++ "<lambda>") params body scope (cloFrom X.env.cells scope.names [])) :=
  ⟨fun pins s σ H Q I h => lam_make3 I TB hcode hm hu h.1 hdef (L.has I.ok) fun f c' H1 s' I1 eN T1 hf hf1 hc => ⟨.ref f, H1, I1, rfl, h.2 H1 f c' eN T1 hf hf1 hc⟩⟩
end
end
section
open PySem PySem.Spec PyProof.Rows L2 LamX
/-- a lambda's body, read in the maker's context -/
structure LamB (X : Cx) (k : Nat) (params : Arguments) (body : Expr) (scope : Scope) (t : XK → TE) : Prop where
  ls : LamS X.env.scope scope
  bind : ∀ (q : Str) (cl : List (Str × Addr)) (pm cv ctv : Value), bindArgs (PySem.W.kla_fn "<lambda>" q params body scope cl pm cv ctv) ⟨[], []⟩ = pure []
  body : ∀ (A : Around) (outer : List Env) (s : Shared) (H : Hp) (E : XK) (f c' : Addr), Room k (A.deeper (lamEnv X scope s.heap.objs.size f c')) → PE (lamCx X A outer s H E scope f c') body (t E)
section
variable {X : Cx} {pins : List (Addr × Obj)} {σ : L2.St} {H : Hp} {s : Shared}
theorem pe_actV {CXg : CXT} {Eg : XK} {Ng : List Str} {qg : Str} {sg : Scope} {g f c' : Addr} {cdg : Value} {params : Arguments} {body : Expr} {scope : Scope} {k i : Nat} {a : Str} {pn : List (Addr × Obj)} {xe : Value → Shared → Prop} {W : WX} {E : XK} {t : XK → TE} {p1 p2 : Pos}
    (I : Inv X pins σ H s) (B : LamB X k params body scope t)
    (tk : Takes ((cxOf CXg X.prog X.w X.K X.mg X.base Ng qg sg g cdg X.A X.stack s H Eg).tr pn xe) W) (hW : ∀ cls d σ' H', E cls d H' → W cls d σ' H') (hr : Room (k + 1) (X.A.deeper (envOfC qg sg s.heap.objs.size g cdg)))
    (hN : Ng[i]? = some a) (hv : Vis sg a) (hd : (a == ("__debug__" : Str)) = false := by decide) (hcd : (a == ("__classdict__" : Str)) = false := by decide) :
    PE ((cxOf CXg X.prog X.w X.K X.mg X.base Ng qg sg g cdg X.A X.stack s H Eg).tr pn xe) (.Call (.Name a p1) [] [] p2)
      (fun σZ HZ Q => σZ[i]? = some (some (.ref f)) ∧ HZ f = some (LamO (X.env.qual ++ "<lambda>") params body scope (cloFrom X.env.cells scope.names []) f c') ∧ HZ c' = some (CodeO c' (X.env.qual ++ "<lambda>")) ∧ t E σ HZ Q) := by
  refine ⟨fun pinsZ sZ σZ HZ Q IZ h => ?_⟩
  obtain ⟨hs, hF, hc, ht⟩ := h
  refine wpAny_Call_Name_kw (thn ((pe_var (pos := p1) (i := i) hN hv hd hcd).run pinsZ sZ σZ HZ (fun v H1 => v = .ref f ∧ H1 = HZ) IZ ⟨.ref f, hs, rfl, rfl⟩) fun u s1 ⟨v, H1, I1, r1, q1⟩ => ?_)
  obtain ⟨ev, eH⟩ := q1
  subst ev
  rw [eH] at I1
  obtain rfl : u = Value.ref f := r1
  obtain ⟨⟨pm, ctv, of1⟩, _, _⟩ := I1.hok f _ hF
  refine PySem.W.callWith_F0 ⟨_, _, _, _, of1⟩ ?_
  have un : Un (frs X.stack) [] H HZ s.heap s1.heap := I1.base
  obtain ⟨⟨oc, vs, tt, hoc, hdc, hvc⟩, _, _⟩ := I1.hok c' _ hc
  have rc : codeAny (model X.prog X.w) (X.A.deeper (envOfC qg sg s.heap.objs.size g cdg)) (.call (.ref f) ⟨[], []⟩) (CR (L2.CX X.prog X.w) (envOfC qg sg s.heap.objs.size g cdg :: X.stack) X.prog X.w HZ s1 Q E) s1 := by
    refine PySem.W.kla_callFunE hr.depth of1 rfl B.ls.co B.ls.gen rfl ⟨c', oc, vs, tt, rfl, hoc, hdc, hvc⟩ ?_
    rw [B.bind]
    refine wpAny_pure (wpAny_newFunctionEnv (fun y hy => (B.ls.own y hy).2) (fun y hy => absurd hy (by simp)) (fun h₁ hns hsb => ⟨I1.nolimit.fresh _ hsb, ?_⟩) B.ls.kind)
    show codeAny _ _ (.expr body (lamEnv X scope s1.heap.objs.size f c')) _ _
    have kp : ∀ b o, s1.heap.get? b = some o → h₁.get? b = some o := fun b o e => hsb.extBut b o (Nat.ne_of_lt (Heap.lt_size e)) (Heap.get?_push_of_some _ e)
    have J : Inv (lamCx X (X.A.deeper (envOfC qg sg s.heap.objs.size g cdg)) (envOfC qg sg s.heap.objs.size g cdg :: X.stack) s1 HZ E scope f c') [] σ HZ { s1 with heap := h₁, toks := s1.toks + ([] : List (Str × Value)).length } :=
      lam_start2 I B.ls I1.env0 hr.hd un hns kp
    refine PySem.W.kla_codeExpr (wpAny_mono ((B.body _ _ s1 HZ E f c' (hr.deeper _)).run [] _ _ HZ Q J ht) (fun v s' hq => ?_) fun e s' hq => hq)
    obtain ⟨w', H', J', rv, q⟩ := hq
    exact ⟨w', H', J'.os, J'.bare, J'.base, J'.hok, rv, q⟩
  have hx : Passes (L2.CX X.prog X.w) ((cxOf CXg X.prog X.w X.K X.mg X.base Ng qg sg g cdg X.A X.stack s H Eg).tr pn xe) E := passes_call tk hW
  refine wpAny_call (codeAny_mono rc fun r s' hq => ?_)
  cases r with
  | error e => exact hx pinsZ σZ HZ s1 e s' I1 hq
  | ok fl =>
    cases fl with
    | ret u => exact I1.after hq
    | next => exact False.elim hq
    | brk => exact False.elim hq
    | cont => exact False.elim hq
/-- the def that calls what it got, a lambda of any kind -/
def GivesV (X : Cx) (Ng : List Str) (x : Str) (sg : Scope) (g : Addr) (cdg : Value) (bg : List Stmt) (a : Str) (q : Str) (TT : (XK → Hp → VK → Prop) → Hp → VK → Prop) : Prop :=
  ∀ (f c' : Addr) (oF : HO) (s : Shared) (H : Hp) (Q : VK) (tl : XK → Hp → VK → Prop), (∃ φ, oF = .ext φ) →
    (∀ (W : WX) (pn : List (Addr × Obj)) (xe : Value → Shared → Prop) (E : XK) (p1 p2 : Pos), Takes ((cxOf C8.CX0 X.prog X.w X.K X.mg X.base Ng x sg g cdg X.A X.stack s H C8.E0).tr pn xe) W → (∀ cls d σ' H', E cls d H' → W cls d σ' H') →
      PE ((cxOf C8.CX0 X.prog X.w X.K X.mg X.base Ng x sg g cdg X.A X.stack s H C8.E0).tr pn xe) (.Call (.Name a p1) [] [] p2) (fun σZ HZ Q => σZ[0]? = some (some (.ref f)) ∧ HZ f = some oF ∧ HZ c' = some (CodeO c' q) ∧ tl E HZ Q)) →
    H f = some oF → H c' = some (CodeO c' q) → TT tl H Q →
    ∃ t, PSs (cxOf C8.CX0 X.prog X.w X.K X.mg X.base Ng x sg g cdg X.A X.stack s H C8.E0).nox bg t ∧ t { nx := fun _ H' => Q .non H', rt := Q } (L2.start Ng [.ref f]) H
/-- what is known of the lambda that stands at f -/
def IsLam (X : Cx) (k : Nat) (q : Str) (H : Hp) (f : Addr) (t : XK → TE) : Prop := ∃ c' params body scope, LamB X k params body scope t ∧ H f = some (LamO q params body scope (cloFrom X.env.cells scope.names []) f c') ∧ H c' = some (CodeO c' q)
theorem IsLam.ex {k : Nat} {q : Str} {H H' : Hp} {f : Addr} {t : XK → TE} (h : IsLam X k q H f t) (e : Ex H H') : IsLam X k q H' f t := by
  obtain ⟨c', p, b, sc, B, h1, h2⟩ := h
  exact ⟨c', p, b, sc, B, e _ _ h1, e _ _ h2⟩
/-- x(e), e a lambda -/
def tGive (X : Cx) (k : Nat) (TT : (XK → Hp → VK → Prop) → Hp → VK → Prop) (te : TE) : TE := fun σ H Q => te σ H fun v H1 => ∃ f t, v = .ref f ∧ IsLam X k (X.env.qual ++ "<lambda>") H1 f t ∧ TT (fun E H' Q' => t E σ H' Q') H1 Q
theorem pe_give {TT : (XK → Hp → VK → Prop) → Hp → VK → Prop} {x a : Str} {g : Addr} {k : Nat} {pg : Arguments} {bg : List Stmt} {sg : Scope} {dV kV doc pm cdv ct oc : Value} {an od : Option Addr} {osl : Array (Option Value)} {Ng : List Str} {e : Expr} {te : TE}
    {p pos : Pos} (hg : Gl X x) (hm : X.mg x = some (.ref g)) (hk : PySem.W.keepIn X.K (.ref g) = true)
    (lk : X.K.lookup g = some ⟨oc, od, .func (PySem.W.fnOf x x pg bg sg dV kV doc pm an cdv ct), osl⟩) (hcg : PySem.W.codeIn X.K cdv x = true) (hb : L2.Binds X.K (PySem.W.fnOf x x pg bg sg dV kV doc pm an cdv ct) [a] []) (Sg : FnScope Ng [a] sg) (hNg : Ng[0]? = some a) (hva : Vis sg a)
    (hG : GivesV X Ng x sg g cdv bg a (X.env.qual ++ "<lambda>") TT) (hr : Room (k + 2) X.A) (he : PE X e te) (hs : starEach [e] X.env = (false, eval e X.env) :: starEach [] X.env := by rfl)
    (hdb : (x == ("__debug__" : Str)) = false := by decide) (hd : (a == ("__debug__" : Str)) = false := by decide) (hcd : (a == ("__classdict__" : Str)) = false := by decide) : PE X (.Call (.Name x p) [e] [] pos) (tGive X k TT te) := by
  refine ⟨fun pins s σ H Q I h => ?_⟩
  refine wpAny_Call_Name_kw (ld_glob I hg hm ?_ hdb)
  refine PySem.W.callWith_K (h₀ := X.base) I.ok.mod.kin hk ?_ hs (by rfl)
  rw [hs]
  show wpAny _ _ (spliced ((false, eval e X.env) :: backTo pos (starEach [] X.env))) _ _ s
  refine Calls.spliced_cons (thn (he.run pins s σ H _ I h) fun u s1 ⟨v, H1, I1, r1, q1⟩ => ?_)
  obtain ⟨f, t, rfl, ⟨c', params, body, scope, B, hF, hc⟩, ht⟩ := q1
  obtain rfl : u = Value.ref f := r1
  refine Calls.spliced_nil ⟨I1.kIn, ?_⟩
  have rc : codeAny (model X.prog X.w) X.A (.call (.ref g) ⟨[.ref f], []⟩) (CR C8.CX0 X.stack X.prog X.w H1 s1 Q C8.E0) s1 := by
    refine run_ofS (N := Ng) (ps := [a]) (us := [.ref f]) (vs := [.ref f]) lk hcg Sg hr I1.env0 (hb s1 [.ref f] I1.kIn rfl) (.cons rfl .nil) rfl fun hr' => ?_
    obtain ⟨t', ht', hq'⟩ := hG f c' _ s1 H1 Q (fun E H' Q' => t E σ H' Q') ⟨_, rfl⟩ (fun W pn xe E p1 p2 tk hW => pe_actV (i := 0) I1 B tk hW hr' hNg hva hd hcd) hF hc ht
    exact ⟨t', ht'.nox, hq'⟩
  refine wpAny_call (codeAny_mono rc fun r s2 hq => ?_)
  cases r with
  | error er => exact (show False from hq).elim
  | ok fl =>
    cases fl with
    | ret u => exact I1.after hq
    | next => exact False.elim hq
    | brk => exact False.elim hq
    | cont => exact False.elim hq
end
end
section
open PySem PySem.Spec PyProof.Rows L2 LamX
/-- a def's promise where no repr is under way -/
structure FnG (P : Program) (w : World) (K : PySem.W.Frag) (mg : Str → Option Value) (base : Heap) (CX : CXT) (k : Nat) (f : Addr) (fd : FuncData) (ps : List Str) (sp : Sp) : Prop where
  ln : ∀ vs H Q E, sp vs H Q E → vs.length = ps.length
  go : ∀ (A : Around) (out : List Env) (s : Shared) (H : Hp) (args : Args) (us : List Value) (vs : List V) (Q : VK) (E : XK), A.guards = some [] → Room k A → Env0 P w K mg base A out s H → BindsTo s fd args (ps.zip us) → Vals vs us → sp vs H Q E → codeAny (model P w) A (.call (.ref f) args) (CR CX out P w H s Q E) s
section
variable {P : Program} {w : World} {K : PySem.W.Frag} {mg : Str → Option Value} {base : Heap} {CX : CXT} {k j : Nat} {f : Addr} {fd : FuncData} {ps N : List Str} {sp : Sp} {x : Str}
theorem fnG_of {name qual : Str} {params : Arguments} {body : List Stmt} {scope : Scope} {dV kV doc pm cdv ct oc : Value} {an od : Option Addr} {osl : Array (Option Value)}
    (lk : K.lookup f = some ⟨oc, od, .func (PySem.W.fnOf name qual params body scope dV kV doc pm an cdv ct), osl⟩) (hcd : PySem.W.codeIn K cdv qual = true) (S : FnScope N ps scope) (ln : ∀ vs H Q E, sp vs H Q E → vs.length = ps.length)
    (hb : ∀ (A : Around) (out : List Env) (s : Shared) (H : Hp) (vs : List V) (Q : VK) (E : XK), A.guards = some [] → Room k (A.deeper (envOfC qual scope s.heap.objs.size f cdv)) → sp vs H Q E → ∃ t, PSs (cxOf CX P w K mg base N qual scope f cdv A out s H E) body t ∧ t { nx := fun _ H' => Q .non H', rt := Q } (L2.start N vs) H) :
    FnG P w K mg base CX (k + 1) f (PySem.W.fnOf name qual params body scope dV kV doc pm an cdv ct) ps sp :=
  ⟨ln, fun A out s H args us vs Q E hg hr e0 bd r hs => run_ofS lk hcd S hr e0 bd r (ln _ _ _ _ hs) fun hr' => hb A out s H vs Q E hg hr' hs⟩
/-- such a def, as callers take it -/
structure ClG (P : Program) (w : World) (K : PySem.W.Frag) (mg : Str → Option Value) (base : Heap) (k : Nat) (x : Str) (sp : Sp) : Prop where
  ex : ∃ (f : Addr) (fd : FuncData) (ps : List Str), FnG P w K mg base (L2.CX P w) k f fd ps sp ∧ mg x = some (.ref f) ∧ PySem.W.keepIn K (.ref f) = true ∧ Binds K fd ps []
end
section
variable {X : Cx} {k j : Nat} {x : Str} {sp : Sp} {E : XK} {e : Expr} {es : List Expr} {t : TA} {p pos : Pos}
theorem pe_clG (c : ClG X.prog X.w X.K X.mg X.base k x sp) (hgd : X.A.guards = some []) (hr : Room j X.A) (hk : k ≤ j) (hg : Gl X x) (hx : Passes (L2.CX X.prog X.w) X E) (ha : PA X (e :: es) t) (hdb : (x == ("__debug__" : Str)) = false := by decide)
    (he : starEach (e :: es) X.env = (false, eval e X.env) :: starEach es X.env := by rfl) (hpl : (backTo pos (starEach es X.env)).any (·.1) = false := by rfl) : PE X (.Call (.Name x p) (e :: es) [] pos) (tC1 sp E t) := by
  obtain ⟨f, fd, ps, F, hm, kp, bd⟩ := c.ex
  constructor
  intro pins s σ H Q I h
  refine wpAny_Call_Name_kw (ld_glob I hg hm ?_ hdb)
  refine PySem.W.callWith_K (h₀ := X.base) I.ok.mod.kin kp (thn (ha.run pos pins s σ H _ I h) ?_) he hpl
  rintro us s1 ⟨vs, H1, I1, rv, q⟩
  refine ⟨I1.kIn, wpAny_call (codeAny_mono (F.go X.A X.stack s1 H1 ⟨us, []⟩ us vs Q E hgd (hr.mono hk) I1.env0 (by have := bd s1 us I1.kIn (by rw [List.append_nil, ← rv.length]; exact F.ln _ _ _ _ q); rw [List.append_nil] at this; exact this) rv q) ?_)⟩
  rintro (er | (_ | _ | _ | u)) s2 hq
  · exact hx pins σ H1 s1 er s2 I1 hq
  all_goals first | exact I1.after hq | exact False.elim hq
/-- repr of data -/
def rRep (K : PySem.W.Frag) : List V → Hp → VK → Prop := fun xs H Q => ∃ v d, xs = [v] ∧ Dp K H v d ∧ d.showable = true ∧ d.hasDict = false ∧ d.depth ≤ 60 ∧ d.shown.length ≤ 2000 ∧ (∀ i, d = .int i → i.natAbs.log2 < 1920) ∧ Q (.str d.shown) H
theorem call_rep {K : PySem.W.Frag} (hK : X.K = K) (hgd : X.A.guards = some []) (hu : X.A.units + 64 < cLine) : CallR X (.builtin "repr") (rRep K) := by
  subst hK
  intro pins s σ H xs us Q I r h
  obtain ⟨v, d, rfl, hd, h1, h2, h3, h4, h5, q⟩ := h
  obtain ⟨u, rfl, ru⟩ := vals1 r
  have big : d.shown.length ≤ sizeLine := Nat.le_trans h4 (by rw [sizeLine_eq]; decide)
  have fin : ∀ tk t', EP X pins σ Q (.str d.shown tk) { s with toks := t' } := fun tk t' => ⟨.str d.shown, H, I.tok _, ⟨_, rfl⟩, q⟩
  cases hd with
  | non => cases (show u = Value.none from ru); exact PySem.P.repr_of_none (fin _ _)
  | bl b => cases (show u = Value.bool b from ru); cases b <;> exact PySem.P.repr_of_bool (fin _ _)
  | int i => obtain ⟨t, rfl⟩ := (show ∃ t, u = Value.int i t from ru); exact PySem.P.repr_of_int (h5 i rfl) (fin _ _)
  | str y => obtain ⟨t, rfl⟩ := (show ∃ t, u = Value.str y t from ru); exact PySem.P.repr_of_str (fin _ _) big
  | @lst a ys ds hs hds =>
    cases (show u = Value.ref a from ru)
    obtain ⟨as, rdx⟩ := Dp.reads I _ _ _ (Dp.lst hs hds) ru
    exact repr_of_reads' rdx h1 (fun z => by rw [h2] at z; cases z) hgd (by omega) (fun _ _ e => e) (fun h' u' tk ex => ⟨.str _, H, I.kept ex, ⟨_, rfl⟩, q⟩) big
  | @tup a ys ds hs hds =>
    cases (show u = Value.ref a from ru)
    obtain ⟨as, rdx⟩ := Dp.reads I _ _ _ (Dp.tup hs hds) ru
    exact repr_of_reads' rdx h1 (fun z => by rw [h2] at z; cases z) hgd (by omega) (fun _ _ e => e) (fun h' u' tk ex => ⟨.str _, H, I.kept ex, ⟨_, rfl⟩, q⟩) big
end
end
section
open PySem PySem.Spec PyProof.Rows L2 LamX
abbrev emptyTab : Obj := { cls := .none, data := .fields #[] }
section
variable {P : Program} {w : World} {K : PySem.W.Frag} {mg mb : Str → Option Value} {CX : CXT} {k : Nat} {fa a : Addr} {cs : List (Addr × Addr)} {fd : FuncData} {x : Str} {sp : Sp} {s₁ : Shared} {vs : List Value} {ns : List Int}
/-- with an abstract heap H that tracks the tables, and the script at most -/
theorem callG_at (KX : K.In s₁.heap) (hns : s₁.heap.Ns mainGlobals mg) (hb : s₁.heap.Ns builtinsNs mb) (hbb : ∀ x : Str, x ≠ "__name__" → mb x = bootBuiltins x) (hlim : s₁.heap.NoLimit) (hg : s₁.gens = #[])
    (hT : ∀ p ∈ cs, s₁.heap.get? p.2 = some emptyTab) (nT : ∀ p ∈ cs, K.lookup p.2 = none) (C : ∀ p ∈ cs, PySem.W.CodeHd s₁.heap p.1 p.2)
    (hbm : ∃ (bm : Addr) (ob : Obj), mg "__builtins__" = some (.ref bm) ∧ bm ≠ builtinsNs ∧ s₁.heap.get? bm = some ob ∧ ob.cls = .type "module" ∧ ob.dict = some builtinsNs ∧ ob.data = .plain)
    (ha : s₁.heap.get? a = some { cls := .type "list", data := .seq vs.toArray }) (hr : Room k callerA)
    (F : ∀ base : Heap, K.In base → base.Ns mainGlobals mg → (∀ p ∈ cs, TabB base mg p.1 p.2) → FnG P w K mg base CX k fa fd [x] sp) (hbind : ∀ (s : Shared) (u : Value), BindsTo s fd ⟨[u], []⟩ [(x, u)])
    (hCX : ∀ H e s', CX [] H s₁ (fun _ _ _ => False) e s' → False)
    {H : Hp} (t1 : ∀ p ∈ cs, H p.2 = some (.tbl #[])) (t2 : ∀ b, H b = none ∨ b ∈ cs.map (·.2) ∨ ∃ o xs, H b = some (.frz o (.lst xs))) (ok : HOk P w H s₁.heap) (t3 : ∀ b, H b ≠ none → b = a ∨ b ∈ cs.map (·.2)) (t4 : H a ≠ none → K.lookup a = none) (hsp : sp [.ref a] H (fun v _ => v = .bl true) fun _ _ _ => False) :
    codeAny (model P w) callerA (.call (.ref fa) ⟨[.ref a], []⟩) (fun r s' => r = .ok (.ret (.bool true)) ∧ OldK s₁.heap s'.heap ∧ s'.os = s₁.os ∧ AllBare s'.gens) s₁ := by
  have tabAt : ∀ {b}, b ∈ cs.map (·.2) → s₁.heap.get? b = some emptyTab := fun {b} hb => by
    rcases List.mem_map.mp hb with ⟨p, hp, rfl⟩
    exact hT p hp
  -- what is neither a list nor an empty table is not tracked
  have free : ∀ {b : Addr} {o : Obj}, s₁.heap.get? b = some o → (∀ us n, o.data ≠ .seq us n) → o.data ≠ .fields #[] → H b = none := fun {b o} e n1 n2 => by
    rcases hH : H b with _ | u
    · rfl
    · exfalso
      rcases t3 b (by rw [hH]; simp) with rfl | z
      · rw [ha] at e; cases e; exact n1 _ _ rfl
      · rw [tabAt z] at e; cases e; exact n2 rfl
  have keepB : ∀ {b : Addr} {o : Obj}, s₁.heap.get? b = some o → H b = none → (hidT s₁.heap H).get? b = some o := fun e z => hidT_get e z
  have dictB : ∀ {b : Addr} {o : Obj} {es : Array DictEntry} {ep : Nat}, s₁.heap.get? b = some o → o.data = .dict es ep → (hidT s₁.heap H).get? b = some o := fun {b o es ep} e d =>
    keepB e (free e (fun us n z => by rw [d] at z; cases z) (fun z => by rw [d] at z; cases z))
  have nsB : ∀ {b : Addr} {m : Str → Option Value}, s₁.heap.Ns b m → (hidT s₁.heap H).Ns b m := fun {b m} h => by
    obtain ⟨o, es, ep, e, d, rest⟩ := h
    exact ⟨o, es, ep, dictB e d, d, rest⟩
  have KB : K.In (hidT s₁.heap H) := fun b o e => keepB (KX b o e) (by
    rcases hH : H b with _ | u
    · rfl
    · exfalso
      rcases t3 b (by rw [hH]; simp) with rfl | z
      · rw [t4 (by rw [hH]; simp)] at e; cases e
      · rcases List.mem_map.mp z with ⟨p, hp, rfl⟩
        rw [nT p hp] at e; cases e)
  have gB := nsB hns
  have MB : L2.Mod K mg (hidT s₁.heap H) := ⟨KB, gB, ⟨mb, nsB hb, hbb⟩, by obtain ⟨mc, l1, l2⟩ := hlim; exact ⟨mc, nsB l1, l2⟩⟩
  have TB : ∀ p ∈ cs, TabB (hidT s₁.heap H) mg p.1 p.2 := fun p hp => by
    obtain ⟨og, eg, epg, geq, gdt, _⟩ := id hns
    obtain ⟨oc, us, file, tf, flags, tg, inF, text, tt, c1, c2, c3, c4, c5, c6, c7, c8, c9, ne⟩ := C p hp
    obtain ⟨bm, ob, b1, b2, b3, b4, b5, b6⟩ := hbm
    have fields : ∀ {b : Addr} {o : Obj} {ws : Array Value}, s₁.heap.get? b = some o → o.data = .fields ws → ws ≠ #[] → (hidT s₁.heap H).get? b = some o := fun {b o ws} e d n =>
      keepB e (free e (fun us n z => by rw [d] at z; cases z) (fun z => by rw [d] at z; cases z; exact n rfl))
    refine ⟨⟨oc, us, file, tf, flags, tg, inF, text, tt, fields c1 c3 (fun z => by rw [z] at c4; simp at c4), c2, c3, c4, c5, c6, c7, c8, c9, ne⟩, ⟨bm, ob, b1, b2, ?_, ?_, keepB b3 (free b3 (fun us n z => by rw [b6] at z; cases z) (fun z => by rw [b6] at z; cases z)), b4, b5, b6⟩, ?_⟩
    · intro z
      rw [z, geq] at b3
      cases b3
      rw [gdt] at b6
      cases b6
    · intro z
      rw [z, hT p hp] at b3
      cases b3
      cases b6
    · intro z
      rw [z, hT p hp] at geq
      cases geq
      cases gdt
  have E0 : Env0 P w K mg (hidT s₁.heap H) callerA [] s₁ H := ⟨rfl, MB, fun b o e => of_hidT e, Nat.le_of_eq (hidT_size _ _), trivial, (fun b z => nomatch (show b ∈ ([] : List Addr) from z)), ok, .of_eq hg⟩
  refine codeAny_mono ((F _ KB gB TB).go callerA [] s₁ H ⟨[.ref a], []⟩ [.ref a] [.ref a] (fun v _ => v = .bl true) (fun _ _ _ => False) rfl hr E0 (hbind s₁ (.ref a)) (.cons rfl .nil) hsp) ?_
  rintro (er | (_ | _ | _ | u)) s' h
  · exact (hCX H er s' h).elim
  all_goals first | exact False.elim h | skip
  obtain ⟨v, H', os, bare, un, ok', rv, rfl⟩ := h
  obtain rfl : u = Value.bool true := rv
  have noFr : ∀ b : Addr, ¬ b ∈ frs ([] : List Env) := fun b z => nomatch (show b ∈ ([] : List Addr) from z)
  have old : ∀ {b o}, ¬ b ∈ cs.map (·.2) → s₁.heap.get? b = some o → s'.heap.get? b = some o := fun {b o} nb e => by
    rcases t2 b with z | z | ⟨ob, xs, z⟩
    · exact un.keep b o e z (noFr b) (by simp)
    · exact absurd z nb
    · have g := un.frzs b ob _ z
      have e1 := (ok b _ z).1
      have e2 := (ok' b _ g).1
      rw [e] at e1
      cases e1
      exact e2
  have tabs : ∀ p ∈ cs, ∃ more : Array Value, s'.heap.get? p.2 = some { cls := .none, data := .fields more } := fun p hp => by
    obtain ⟨more, z⟩ := un.tbls p.2 #[] (t1 p hp)
    exact ⟨_, ok' p.2 _ z⟩
  refine ⟨rfl, ⟨fun b o e => ?_, fun b o e => ?_⟩, os, bare⟩
  · rcases Classical.em (b ∈ cs.map (·.2)) with z | z
    · rcases List.mem_map.mp z with ⟨p, hp, rfl⟩
      obtain ⟨more, hm⟩ := tabs p hp
      have e' := e
      rw [hT p hp] at e'
      cases e'
      exact .inr (.inl ⟨((C p hp).tab (hT p hp)).isCodeTable, rfl, #[], more, rfl, by rw [Array.empty_append]; exact hm⟩)
    · exact .inl (old z e)
  · rcases Classical.em (b ∈ cs.map (·.2)) with z | z
    · rcases List.mem_map.mp z with ⟨p, hp, rfl⟩
      obtain ⟨more, hm⟩ := tabs p hp
      exact ⟨_, hm⟩
    · exact ⟨o, old z e⟩
/-- the tables alone -/
def hpT (cs : List (Addr × Addr)) : Hp := fun b => if b ∈ cs.map (·.2) then some (.tbl #[]) else none
theorem hpT_in {b : Addr} (h : b ∈ cs.map (·.2)) : hpT cs b = some (.tbl #[]) := if_pos h
theorem hpT_out {b : Addr} (h : ¬ b ∈ cs.map (·.2)) : hpT cs b = none := if_neg h
theorem hpT_mem {p : Addr × Addr} (hp : p ∈ cs) : p.2 ∈ cs.map (·.2) := List.mem_map.mpr ⟨p, hp, rfl⟩
theorem hpT_ok (tabAt : ∀ b ∈ cs.map (·.2), s₁.heap.get? b = some emptyTab) : HOk P w (hpT cs) s₁.heap := fun b u z => by
  rcases Classical.em (b ∈ cs.map (·.2)) with m | m
  · rw [hpT_in m] at z; cases z; exact tabAt b m
  · rw [hpT_out m] at z; cases z
theorem callG (KX : K.In s₁.heap) (hns : s₁.heap.Ns mainGlobals mg) (hb : s₁.heap.Ns builtinsNs mb) (hbb : ∀ x : Str, x ≠ "__name__" → mb x = bootBuiltins x) (hlim : s₁.heap.NoLimit) (hg : s₁.gens = #[])
    (hT : ∀ p ∈ cs, s₁.heap.get? p.2 = some emptyTab) (nT : ∀ p ∈ cs, K.lookup p.2 = none) (C : ∀ p ∈ cs, PySem.W.CodeHd s₁.heap p.1 p.2)
    (hbm : ∃ (bm : Addr) (ob : Obj), mg "__builtins__" = some (.ref bm) ∧ bm ≠ builtinsNs ∧ s₁.heap.get? bm = some ob ∧ ob.cls = .type "module" ∧ ob.dict = some builtinsNs ∧ ob.data = .plain)
    (ha : s₁.heap.get? a = some { cls := .type "list", data := .seq vs.toArray }) (hi : IntsAre vs ns) (hl : ns.length ≤ sizeLine) (hr : Room k callerA)
    (F : ∀ base : Heap, K.In base → base.Ns mainGlobals mg → (∀ p ∈ cs, TabB base mg p.1 p.2) → FnG P w K mg base CX k fa fd [x] sp) (hbind : ∀ (s : Shared) (u : Value), BindsTo s fd ⟨[u], []⟩ [(x, u)])
    (hsp : ∀ H : Hp, (∀ p ∈ cs, H p.2 = some (.tbl #[])) → SqL K H a (ns.map V.int) → sp [.ref a] H (fun v _ => v = .bl true) fun _ _ _ => False)
    (hCX : ∀ H e s', CX [] H s₁ (fun _ _ _ => False) e s' → False) :
    codeAny (model P w) callerA (.call (.ref fa) ⟨[.ref a], []⟩) (fun r s' => r = .ok (.ret (.bool true)) ∧ OldK s₁.heap s'.heap ∧ s'.os = s₁.os ∧ AllBare s'.gens) s₁ := by
  have tabAt : ∀ b ∈ cs.map (·.2), s₁.heap.get? b = some emptyTab := fun b hb => by
    rcases List.mem_map.mp hb with ⟨p, hp, rfl⟩
    exact hT p hp
  have na : ¬ a ∈ cs.map (·.2) := fun z => by
    have e := tabAt a z
    rw [ha] at e
    have : Data.seq vs.toArray _ = Data.fields #[] := congrArg Obj.data (Option.some.inj e)
    cases this
  have iv := vals_ints hi
  have len : vs.length = ns.length := hi.length
  rcases hk : K.lookup a with _ | o
  · -- the script is tracked as it stands
    let H : Hp := fun b => if b = a then some (.frz { cls := .type "list", data := .seq vs.toArray } (.lst (ns.map V.int))) else hpT cs b
    have Ha : H a = some (.frz { cls := .type "list", data := .seq vs.toArray } (.lst (ns.map V.int))) := if_pos rfl
    have Hn : ∀ {b}, b ≠ a → H b = hpT cs b := fun n => if_neg n
    have m1 : ∀ p ∈ cs, H p.2 = some (.tbl #[]) := fun p hp => by rw [Hn (fun z => na (z ▸ hpT_mem hp)), hpT_in (hpT_mem hp)]
    refine callG_at KX hns hb hbb hlim hg hT nT C hbm ha hr F hbind hCX m1 (fun b => ?_) (fun b u z => ?_) (fun b z => ?_) (fun _ => hk) (hsp H m1 (.inl (.inr ⟨_, Ha⟩)))
    · rcases Classical.em (b = a) with rfl | n
      · exact .inr (.inr ⟨_, _, Ha⟩)
      · rcases Classical.em (b ∈ cs.map (·.2)) with m | m
        · exact .inr (.inl m)
        · exact .inl (by rw [Hn n, hpT_out m])
    · rcases Classical.em (b = a) with rfl | n
      · rw [Ha] at z
        cases z
        exact ⟨ha, by rw [List.length_map]; exact hl, vs, _, iv, ha⟩
      · rw [Hn n] at z
        rcases Classical.em (b ∈ cs.map (·.2)) with m | m
        · rw [hpT_in m] at z; cases z; exact tabAt b m
        · rw [hpT_out m] at z; cases z
    · rcases Classical.em (b = a) with rfl | n
      · exact .inl rfl
      · rcases Classical.em (b ∈ cs.map (·.2)) with m | m
        · exact .inr m
        · exact absurd (by rw [Hn n, hpT_out m]) z
  · have e := KX a o hk
    rw [ha] at e
    cases e
    have m1 : ∀ p ∈ cs, hpT cs p.2 = some (.tbl #[]) := fun p hp => hpT_in (hpT_mem hp)
    refine callG_at KX hns hb hbb hlim hg hT nT C hbm ha hr F hbind hCX m1 (fun b => ?_) (hpT_ok tabAt) (fun b z => ?_) (fun z => absurd (hpT_out na) z) (hsp _ m1 (.inr ⟨_, vs.toArray, _, hk, rfl, rfl, rfl, by rw [List.size_toArray, len]; exact hl, by simpa using iv⟩))
    · rcases Classical.em (b ∈ cs.map (·.2)) with m | m
      · exact .inr (.inl m)
      · exact .inl (hpT_out m)
    · rcases Classical.em (b ∈ cs.map (·.2)) with m | m
      · exact .inr m
      · exact absurd (hpT_out m) z
end
/-- the law's promise at the head's heap, where no repr is under way -/
def LawAtG (l : PySem.W.OpenLaw) (w : World) (K : PySem.W.Frag) (CX : CXT) (k n : Nat) (x : Str) (mg : Str → Option Value) (fa : Addr) (h : Heap) : Prop :=
  ∃ (fd : FuncData) (cs : List (Addr × Addr)) (sp : Sp), (∀ p ∈ cs, h.get? p.2 = some emptyTab) ∧ (∀ p ∈ cs, K.lookup p.2 = none) ∧ (∀ p ∈ cs, PySem.W.CodeHd h p.1 p.2) ∧ (∀ (s : Shared) (u : Value), BindsTo s fd ⟨[u], []⟩ [(x, u)]) ∧
    (∀ (H : Hp) (a : Addr) (ns : List Int), ns.length ≤ n → (∀ p ∈ cs, H p.2 = some (.tbl #[])) → SqL K H a (ns.map V.int) → sp [.ref a] H (fun v _ => v = .bl true) fun _ _ _ => False) ∧
    ∀ base : Heap, K.In base → base.Ns mainGlobals mg → (∀ p ∈ cs, TabB base mg p.1 p.2) → FnG l.prog w K mg base CX k fa fd [x] sp
theorem walk_ofG {l : PySem.W.OpenLaw} {n k : Nat} {q : Program} {loose : List Str} {XP : (Str → Option Value) → Heap → Prop} {YP : World → Heap → Prop} {d : DefRec} {CX : World → CXT} {x : Str}
    (hn : l.most = some n) (hn2 : n ≤ sizeLine) (hdf : d.params.defaults = []) (hr : Room k callerA)
    (F : ∀ (w : World) (mg : Str → Option Value) (fa : Addr) (h : Heap), YP w h → h.Ns mainGlobals mg → mg d.name = some (.ref fa) → ∃ K : PySem.W.Frag, K.In h ∧ LawAtG l w K (CX w) k n x mg fa h)
    (hCX : ∀ (w : World) (H : Hp) (s : Shared) (e : Value) (s' : Shared), CX w [] H s (fun _ _ _ => False) e s' → False) : PySem.W.WalkO q loose XP YP l.row.toRowW d [] (fun f vs => PySem.call f vs) := by
  refine Att.attach_callB hn hdf ?_
  intro w s₀ s₁ mg mb fa o pm cd doc a vs ns G Y ho hd hcd hmg hobj hints hlen hbits hg
  obtain ⟨K, KX, fd, cs, sp, c1, c2, c3, c4, c5, c6⟩ := F w mg fa _ Y G.T.g hmg
  exact callG KX G.T.g G.T.b G.T.builtins G.T.nolimit hg c1 c2 c3 G.T.bmain hobj hints (Nat.le_trans hlen hn2) hr c6 c4 (fun H h1 h2 => c5 H a ns hlen h1 h2) fun H e s' => hCX w H s₁ e s'
end
section
open PySem PySem.Spec PyProof.Rows L2 He
abbrev R : PySem.W.OpenRow := PySem.W.OpenLaw.row PySem.Challenge.rw_overfloors_k09_whole_numbers_in_order
def excCB (K : PySem.W.Frag) (D : Addr) : Bool := eqO (PySem.W.findIn K (.ref D) "__getattribute__") (some (some (.builtin "BaseException.__getattribute__"))) && (eqO (PySem.W.findIn K (.ref D) "__getattr__") (some none) && (decide (PySem.W.subIn K (.ref D) (.type "BaseException") = some true) && (PySem.W.hasDictIn K D && (eqO (PySem.W.findIn K (.ref D) "__class__") (some (some (.builtin "object.__class__"))) && (decide (PySem.W.specialIn K (.builtin "object.__class__") "__get__" = some (some (.builtin "getset_descriptor.__get__"))) && (decide (PySem.W.takesIn K (.builtin "object.__class__") = some true) && decide (PySem.W.mroIn K D (.type "object") = some true)))))))
theorem excCB_ok {K : PySem.W.Frag} {D : Addr} (h : excCB K D = true) : ExcC K D := by
  obtain ⟨h1, h⟩ := ba h
  obtain ⟨h2, h⟩ := ba h
  obtain ⟨h3, h⟩ := ba h
  obtain ⟨h4, h⟩ := ba h
  obtain ⟨h5, h⟩ := ba h
  obtain ⟨h6, h⟩ := ba h
  obtain ⟨h7, h8⟩ := ba h
  exact ⟨eqO_ok h1, eqO_ok h2, of_decide_eq_true h3, h4, eqO_ok h5, of_decide_eq_true h6, of_decide_eq_true h7, of_decide_eq_true h8⟩
def fn : List DefD := [
  ⟨("row_keys", none), "row_keys", "row_keys", defArgs (top 8), defBody (top 8), defScope (top 8), [], []⟩,
  ⟨("inserted", none), "inserted", "inserted", defArgs (top 9), defBody (top 9), defScope (top 9), [], []⟩,
  ⟨("ranked", none), "ranked", "ranked", defArgs (top 10), defBody (top 10), defScope (top 10), [], []⟩,
  ⟨("is_int", none), "is_int", "is_int", defArgs (top 12), defBody (top 12), defScope (top 12), [], []⟩,
  ⟨("is_number", none), "is_number", "is_number", defArgs (top 13), defBody (top 13), defScope (top 13), [], []⟩,
  ⟨("ratio_of", none), "ratio_of", "ratio_of", defArgs (top 14), defBody (top 14), defScope (top 14), [], []⟩,
  ⟨("floor_quotient", none), "floor_quotient", "floor_quotient", defArgs (top 15), defBody (top 15), defScope (top 15), [], []⟩,
  ⟨("remainder_of", none), "remainder_of", "remainder_of", defArgs (top 16), defBody (top 16), defScope (top 16), [], []⟩,
  ⟨("power_of", none), "power_of", "power_of", defArgs (top 17), defBody (top 17), defScope (top 17), [], []⟩,
  ⟨("check_parts", none), "check_parts", "check_parts", defArgs (top 18), defBody (top 18), defScope (top 18), [], []⟩,
  ⟨("gcd_of", none), "gcd_of", "gcd_of", defArgs (top 20), defBody (top 20), defScope (top 20), [], []⟩,
  ⟨("lcm_of", none), "lcm_of", "lcm_of", defArgs (top 21), defBody (top 21), defScope (top 21), [], []⟩,
  ⟨("bezout", none), "bezout", "bezout", defArgs (top 22), defBody (top 22), defScope (top 22), [], []⟩,
  ⟨("order_keys", none), "order_keys", "order_keys", defArgs (top 23), defBody (top 23), defScope (top 23), [], []⟩,
  ⟨("ascending", none), "ascending", "ascending", defArgs (top 24), defBody (top 24), defScope (top 24), [], []⟩,
  ⟨("least", none), "least", "least", defArgs (top 25), defBody (top 25), defScope (top 25), [], []⟩,
  ⟨("greatest", none), "greatest", "greatest", defArgs (top 26), defBody (top 26), defScope (top 26), [], []⟩,
  ⟨("_law_begin", none), "_law_begin", "_law_begin", defArgs (top 28), defBody (top 28), defScope (top 28), [], []⟩,
  ⟨("_law_draw", none), "_law_draw", "_law_draw", defArgs (top 29), defBody (top 29), defScope (top 29), [], []⟩,
  ⟨("_law_pick", none), "_law_pick", "_law_pick", defArgs (top 30), defBody (top 30), defScope (top 30), [], []⟩,
  ⟨("_law_ten", none), "_law_ten", "_law_ten", defArgs (top 31), defBody (top 31), defScope (top 31), [], []⟩,
  ⟨("_law_long", none), "_law_long", "_law_long", defArgs (top 32), defBody (top 32), defScope (top 32), [], []⟩,
  ⟨("_law_size", none), "_law_size", "_law_size", defArgs (top 33), defBody (top 33), defScope (top 33), [], []⟩,
  ⟨("_law_number", none), "_law_number", "_law_number", defArgs (top 34), defBody (top 34), defScope (top 34), [], []⟩,
  ⟨("_law_gcd", none), "_law_gcd", "_law_gcd", defArgs (top 35), defBody (top 35), defScope (top 35), [], []⟩,
  ⟨("_law_whole_is", none), "_law_whole_is", "_law_whole_is", defArgs (top 36), defBody (top 36), defScope (top 36), [], []⟩,
  ⟨("_law_ratio_is", none), "_law_ratio_is", "_law_ratio_is", defArgs (top 37), defBody (top 37), defScope (top 37), [], []⟩,
  ⟨("_law_divisors_right", none), "_law_divisors_right", "_law_divisors_right", defArgs (top 38), defBody (top 38), defScope (top 38), [], []⟩,
  ⟨("_law_near", none), "_law_near", "_law_near", defArgs (top 39), defBody (top 39), defScope (top 39), [], []⟩,
  ⟨("_law_order_right", none), "_law_order_right", "_law_order_right", defArgs (top 40), defBody (top 40), defScope (top 40), [], []⟩,
  ⟨("_law_empty", none), "_law_empty", "_law_empty", defArgs (top 41), defBody (top 41), defScope (top 41), [], []⟩,
  ⟨("law", none), "law", "law", defArgs (top 42), defBody (top 42), defScope (top 42), [], []⟩,
  ⟨("BadNumber", some "__init__"), "__init__", "BadNumber.__init__", defArgs (inClass (top 4) 0), defBody (inClass (top 4) 0), defScope (inClass (top 4) 0), [], []⟩,
  ⟨("NoSuch", some "__init__"), "__init__", "NoSuch.__init__", defArgs (inClass (top 5) 0), defBody (inClass (top 5) 0), defScope (inClass (top 5) 0), [], []⟩,
  ⟨("Ratio", some "__init__"), "__init__", "Ratio.__init__", defArgs (inClass (top 19) 0), defBody (inClass (top 19) 0), defScope (inClass (top 19) 0), [.int 1], []⟩,
  ⟨("Ratio", some "floor"), "floor", "Ratio.floor", defArgs (inClass (top 19) 2), defBody (inClass (top 19) 2), defScope (inClass (top 19) 2), [], []⟩,
  ⟨("Ratio", some "__str__"), "__str__", "Ratio.__str__", defArgs (inClass (top 19) 6), defBody (inClass (top 19) 6), defScope (inClass (top 19) 6), [], []⟩,
  ⟨("Ratio", some "__bool__"), "__bool__", "Ratio.__bool__", defArgs (inClass (top 19) 7), defBody (inClass (top 19) 7), defScope (inClass (top 19) 7), [], []⟩,
  ⟨("Ratio", some "__neg__"), "__neg__", "Ratio.__neg__", defArgs (inClass (top 19) 8), defBody (inClass (top 19) 8), defScope (inClass (top 19) 8), [], []⟩,
  ⟨("Ratio", some "__abs__"), "__abs__", "Ratio.__abs__", defArgs (inClass (top 19) 9), defBody (inClass (top 19) 9), defScope (inClass (top 19) 9), [], []⟩,
  ⟨("Ratio", some "__eq__"), "__eq__", "Ratio.__eq__", defArgs (inClass (top 19) 10), defBody (inClass (top 19) 10), defScope (inClass (top 19) 10), [], []⟩,
  ⟨("Ratio", some "__lt__"), "__lt__", "Ratio.__lt__", defArgs (inClass (top 19) 11), defBody (inClass (top 19) 11), defScope (inClass (top 19) 11), [], []⟩,
  ⟨("Ratio", some "__le__"), "__le__", "Ratio.__le__", defArgs (inClass (top 19) 12), defBody (inClass (top 19) 12), defScope (inClass (top 19) 12), [], []⟩,
  ⟨("Ratio", some "__gt__"), "__gt__", "Ratio.__gt__", defArgs (inClass (top 19) 13), defBody (inClass (top 19) 13), defScope (inClass (top 19) 13), [], []⟩,
  ⟨("Ratio", some "__ge__"), "__ge__", "Ratio.__ge__", defArgs (inClass (top 19) 14), defBody (inClass (top 19) 14), defScope (inClass (top 19) 14), [], []⟩,
  ⟨("Ratio", some "__add__"), "__add__", "Ratio.__add__", defArgs (inClass (top 19) 15), defBody (inClass (top 19) 15), defScope (inClass (top 19) 15), [], []⟩,
  ⟨("Ratio", some "__radd__"), "__radd__", "Ratio.__radd__", defArgs (inClass (top 19) 16), defBody (inClass (top 19) 16), defScope (inClass (top 19) 16), [], []⟩,
  ⟨("Ratio", some "__sub__"), "__sub__", "Ratio.__sub__", defArgs (inClass (top 19) 17), defBody (inClass (top 19) 17), defScope (inClass (top 19) 17), [], []⟩,
  ⟨("Ratio", some "__rsub__"), "__rsub__", "Ratio.__rsub__", defArgs (inClass (top 19) 18), defBody (inClass (top 19) 18), defScope (inClass (top 19) 18), [], []⟩,
  ⟨("Ratio", some "__mul__"), "__mul__", "Ratio.__mul__", defArgs (inClass (top 19) 19), defBody (inClass (top 19) 19), defScope (inClass (top 19) 19), [], []⟩,
  ⟨("Ratio", some "__rmul__"), "__rmul__", "Ratio.__rmul__", defArgs (inClass (top 19) 20), defBody (inClass (top 19) 20), defScope (inClass (top 19) 20), [], []⟩,
  ⟨("Ratio", some "__floordiv__"), "__floordiv__", "Ratio.__floordiv__", defArgs (inClass (top 19) 21), defBody (inClass (top 19) 21), defScope (inClass (top 19) 21), [], []⟩,
  ⟨("Ratio", some "__rfloordiv__"), "__rfloordiv__", "Ratio.__rfloordiv__", defArgs (inClass (top 19) 22), defBody (inClass (top 19) 22), defScope (inClass (top 19) 22), [], []⟩,
  ⟨("Ratio", some "__mod__"), "__mod__", "Ratio.__mod__", defArgs (inClass (top 19) 23), defBody (inClass (top 19) 23), defScope (inClass (top 19) 23), [], []⟩,
  ⟨("Ratio", some "__rmod__"), "__rmod__", "Ratio.__rmod__", defArgs (inClass (top 19) 24), defBody (inClass (top 19) 24), defScope (inClass (top 19) 24), [], []⟩,
  ⟨("Ratio", some "__pow__"), "__pow__", "Ratio.__pow__", defArgs (inClass (top 19) 25), defBody (inClass (top 19) 25), defScope (inClass (top 19) 25), [], []⟩]
def fa : List Fa := [
  .free "type",
  .free "isinstance",
  .free "int",
  .free "bool",
  .free "len",
  .free "range",
  .free "zip",
  .free "enumerate",
  .free "list",
  .free "tuple",
  .free "max",
  .free "abs",
  .free "str",
  .free "sorted",
  .free "all",
  .free "ValueError",
  .glo "row_keys",
  .glo "inserted",
  .glo "ranked",
  .glo "is_int",
  .glo "is_number",
  .glo "ratio_of",
  .glo "floor_quotient",
  .glo "remainder_of",
  .glo "power_of",
  .glo "check_parts",
  .glo "gcd_of",
  .glo "lcm_of",
  .glo "bezout",
  .glo "order_keys",
  .glo "ascending",
  .glo "least",
  .glo "greatest",
  .glo "_law_begin",
  .glo "_law_draw",
  .glo "_law_pick",
  .glo "_law_ten",
  .glo "_law_long",
  .glo "_law_size",
  .glo "_law_number",
  .glo "_law_gcd",
  .glo "_law_whole_is",
  .glo "_law_ratio_is",
  .glo "_law_divisors_right",
  .glo "_law_near",
  .glo "_law_order_right",
  .glo "_law_empty",
  .glo "law",
  .glo "FloorError",
  .glo "BadNumber",
  .glo "NoSuch",
  .glo "Ratio",
  .meth "BadNumber" "__init__",
  .noat "BadNumber" "value",
  .meth "NoSuch" "__init__",
  .noat "NoSuch" "number",
  .cls "Ratio",
  .noat "Ratio" "top",
  .noat "Ratio" "bottom",
  .mkr "Ratio",
  .meth "Ratio" "floor",
  .meth "Ratio" "__str__",
  .meth "Ratio" "__bool__",
  .meth "Ratio" "__neg__",
  .meth "Ratio" "__abs__",
  .meth "Ratio" "__eq__",
  .meth "Ratio" "__lt__",
  .meth "Ratio" "__le__",
  .meth "Ratio" "__gt__",
  .meth "Ratio" "__ge__",
  .meth "Ratio" "__add__",
  .meth "Ratio" "__radd__",
  .meth "Ratio" "__sub__",
  .meth "Ratio" "__rsub__",
  .meth "Ratio" "__mul__",
  .meth "Ratio" "__rmul__",
  .meth "Ratio" "__floordiv__",
  .meth "Ratio" "__rfloordiv__",
  .meth "Ratio" "__mod__",
  .meth "Ratio" "__rmod__",
  .meth "Ratio" "__pow__",
  .exm "NoSuch" "NoSuch" true,
  .int "FEW" 8]
def ex (K : PySem.W.Frag) : Bool := clsPB K (ga K "Ratio") && (oexB K (ga K "BadNumber") && (oexB K (ga K "NoSuch") && (excCB K (ga K "NoSuch") && (xfB K (ga K "NoSuch") && (decide (PySem.W.kitOne K (.ref (ga K "NoSuch")) (.type "ValueError") = some true) && (eqO (PySem.W.nsIn K mainGlobals "gcd") (some (some (.builtin "math.gcd"))) && (eqO (PySem.W.nsIn K mainGlobals "lcm") (some (some (.builtin "math.lcm"))))))))))
def tfs : List Defn := [("law", none)]
abbrev hk : PySem.W.Hook := hookX 4 fa fn [] tfs ex
def ob (s : PySem.W.SharedT) : AlX := obsX 4 fa fn [] tfs ex (HandSHeadRun.getT s)
theorem ob_eq (s : PySem.W.SharedT) : ob s = hk.obs s.abs := obsX_eq (HandSHeadRun.getT_eq s)
def loose : List PySem.Str := ([("FEW" : PySem.Str), ("gcd" : PySem.Str), ("lcm" : PySem.Str), ("_wall" : PySem.Str), ("FloorError" : PySem.Str), ("BadNumber" : PySem.Str), ("NoSuch" : PySem.Str), ("row_keys" : PySem.Str), ("inserted" : PySem.Str), ("ranked" : PySem.Str), ("is_int" : PySem.Str), ("is_number" : PySem.Str), ("ratio_of" : PySem.Str), ("floor_quotient" : PySem.Str), ("remainder_of" : PySem.Str), ("power_of" : PySem.Str), ("check_parts" : PySem.Str), ("Ratio" : PySem.Str), ("gcd_of" : PySem.Str), ("lcm_of" : PySem.Str), ("bezout" : PySem.Str), ("order_keys" : PySem.Str), ("ascending" : PySem.Str), ("least" : PySem.Str), ("greatest" : PySem.Str), ("_law_begin" : PySem.Str), ("_law_draw" : PySem.Str), ("_law_pick" : PySem.Str), ("_law_ten" : PySem.Str), ("_law_long" : PySem.Str)] : List PySem.Str) ++ ([("_law_size" : PySem.Str), ("_law_number" : PySem.Str), ("_law_gcd" : PySem.Str), ("_law_whole_is" : PySem.Str), ("_law_ratio_is" : PySem.Str), ("_law_divisors_right" : PySem.Str), ("_law_near" : PySem.Str), ("_law_order_right" : PySem.Str), ("_law_empty" : PySem.Str)] : List PySem.Str)
theorem run (w : PySem.World) : HandSHeadRun.RunEqI R (PySem.W.view R.prog [0, 42]) hk ob 6600 loose w := by
  unfold HandSHeadRun.RunEqI
  kernel_rfl
end
section
open PySem PySem.W PySem.Calls PyProof.Rows
theorem law_early (F : ∀ (w : PySem.World) (K : PySem.W.Frag) (mg : PySem.Str → Option PySem.Value) (h : PySem.Heap) (fl : PySem.Addr), K.In h → h.Ns PySem.mainGlobals mg → mg ("law" : PySem.Str) = some (.ref fl) → He.SaysX fa fn [] tfs ex w h K → LamX.LawAtS PySem.Challenge.rw_overfloors_k09_whole_numbers_in_order w K (L2.CX (PySem.Challenge.rw_overfloors_k09_whole_numbers_in_order).prog w) 15 63 "_law_script" mg fl h) : PySem.Challenge.rw_overfloors_k09_whole_numbers_in_order.Holds := by
  w_on; o_law
  refine HandSHeadRun.head_imp (r := OpenLaw.row PySem.Challenge.rw_overfloors_k09_whole_numbers_in_order) (q := view (OpenLaw.row PySem.Challenge.rw_overfloors_k09_whole_numbers_in_order).prog [0, 42]) (H := Of.hk) (ob := Of.ob) (M := 6600) (loose := Of.loose) (d := HandSHeadRun.topDef (OpenLaw.row PySem.Challenge.rw_overfloors_k09_whole_numbers_in_order).prog 42) (kwd := []) Of.ob_eq Of.run
    (by kernel_rfl) (by kernel_rfl) (by kernel_rfl) (by rfl) (by first | assumption | decide +kernel) (by decide +kernel) ⟨rfl, rfl, rfl, rfl, rfl, by decide +kernel⟩ ?hw ?hc
  case hw => w_witness2
  case hc =>
    refine LamX.walk_ofTsE (l := PySem.Challenge.rw_overfloors_k09_whole_numbers_in_order) (n := 63) (k := 15) (x := "_law_script") (CX := fun w => L2.CX (PySem.Challenge.rw_overfloors_k09_whole_numbers_in_order).prog w) rfl (by decide) (by kernel_rfl) ⟨rfl, by decide, by decide⟩ ?F (fun _ _ _ _ _ z => by obtain ⟨_, _, _, _, _, _, _, _, _, _, _, _, z⟩ := z; exact z)
    intro w mg fa h Y G hmg0
    obtain ⟨K, KX, c⟩ := Y
    have hmg : mg ("law" : PySem.Str) = some (.ref fa) := by
      have e : (HandSHeadRun.topDef (OpenLaw.row PySem.Challenge.rw_overfloors_k09_whole_numbers_in_order).prog 42).name = ("law" : PySem.Str) := by kernel_rfl
      rw [← e]
      exact hmg0
    exact ⟨K, KX, F w K mg h fa KX G hmg c⟩
end
section
open PySem PySem.Spec PyProof.Rows L2 He
section
variable {P : Program} {w : World} {K : PySem.W.Frag} {mg : Str → Option Value} {base : Heap} {C_Ratio C_BadNumber C_NoSuch f_Ratio_eq f_Ratio_lt f_Ratio_le f_Ratio_gt f_Ratio_ge f_Ratio_bool f_Ratio_neg f_Ratio_abs f_Ratio_str f_Ratio_add f_Ratio_radd f_Ratio_sub f_Ratio_rsub f_Ratio_mul f_Ratio_rmul f_Ratio_floordiv f_Ratio_rfloordiv f_Ratio_mod f_Ratio_rmod f_Ratio_pow f_Ratio_over f_Ratio_floor f_Ratio_ceiling f_Ratio_whole f_Ratio_sign  : Addr}
abbrev s_Ratio_le : Stmt := (inClass (top 19) 12)
theorem sc_Ratio___le__ : FnScope ["self", "other"] ["self", "other"] (defScope s_Ratio_le) := ⟨rfl, rfl, rfl, by decide +kernel, rfl, by decide +kernel, by decide +kernel⟩
theorem ok_Ratio_le {f : Addr} {fd : FuncData} (F : FunD K "__le__" "Ratio.__le__" (defArgs s_Ratio_le) (defBody s_Ratio_le) (defScope s_Ratio_le) [] [] f fd) (g_Ratio : mg "Ratio" = some (.ref C_Ratio)) (TB : TBl mg) (TR : RT K mg C_Ratio) (c_is_int : Cl P w K mg base 1 "is_int" (spIsInt K)) : FnOk P w K mg base (L2.CX P w) 2 f fd ["self", "other"] (spRB C_Ratio (fun q r => decide (q ≤ r))) := by
  refine F.ok (CX := L2.CX P w) sc_Ratio___le__ (fun vs H Q E h => ?_) (fun cdv A outer s H vs Q E hr h => ?_)
  · obtain ⟨a, v, q, r, rfl, _⟩ := h; rfl
  · obtain ⟨a, v, q, r, rfl, ha, hv, hq, hr', k⟩ := h
    refine ⟨_, (pss_cons (ps_if (pt_val (pe_callB (kc_isi (K := K) rfl) (by rfl) TB.b_isinstance (by decide +kernel) (pa_cons (pv 1) (pa_cons (pe_glob (v := .ref C_Ratio) (by rfl) g_Ratio rfl) pa_nil)))) (pss_one (ps_ret (pe_cmpR op_le (pe_op op_mulA (kfld (K := K) rfl (pv 0) rfl) (kfld (K := K) rfl (pv 1) rfl)) (pe_op op_mulA (kfld (K := K) rfl (pv 1) rfl) (kfld (K := K) rfl (pv 0) rfl)) (nomark _)))) pss_nil) (pss_cons (ps_if (pt_val (pe_cl c_is_int hr (by decide) (by rfl) psE (pa_cons (pv 1) pa_nil))) (pss_one (ps_ret (pe_cmpR op_le (kfld (K := K) rfl (pv 0) rfl) (pe_op op_mulA (pv 1) (kfld (K := K) rfl (pv 0) rfl)) (nomark _)))) pss_nil) (pss_one (ps_ret pe_ni)))), ?_⟩
    dsimp only at k
    rcases hv with ⟨n, rfl, rfl⟩ | ⟨c, rfl, hc⟩
    · have hn : Bt n := hr'.1
      wtm_at "of_rd"
      refine r_isi (.own _) tyI (kit_int TR.k) ?_
      wtm_at "of_rd"
      refine q_isInt_i ?_
      wtm_at "of_rd"
      rw [dec_le_i] at k
      exact k.here
    · wtm_at "of_rd"
      refine r_isi (.own _) (hc.tyx TR) kit_self ?_
      wtm_at "of_rd"
      rw [dec_le] at k
      exact k.here
abbrev s_Ratio_gt : Stmt := (inClass (top 19) 13)
theorem sc_Ratio___gt__ : FnScope ["self", "other"] ["self", "other"] (defScope s_Ratio_gt) := ⟨rfl, rfl, rfl, by decide +kernel, rfl, by decide +kernel, by decide +kernel⟩
theorem ok_Ratio_gt {f : Addr} {fd : FuncData} (F : FunD K "__gt__" "Ratio.__gt__" (defArgs s_Ratio_gt) (defBody s_Ratio_gt) (defScope s_Ratio_gt) [] [] f fd) (g_Ratio : mg "Ratio" = some (.ref C_Ratio)) (TB : TBl mg) (TR : RT K mg C_Ratio) (c_is_int : Cl P w K mg base 1 "is_int" (spIsInt K)) : FnOk P w K mg base (L2.CX P w) 2 f fd ["self", "other"] (spRB C_Ratio (fun q r => decide (r < q))) := by
  refine F.ok (CX := L2.CX P w) sc_Ratio___gt__ (fun vs H Q E h => ?_) (fun cdv A outer s H vs Q E hr h => ?_)
  · obtain ⟨a, v, q, r, rfl, _⟩ := h; rfl
  · obtain ⟨a, v, q, r, rfl, ha, hv, hq, hr', k⟩ := h
    refine ⟨_, (pss_cons (ps_if (pt_val (pe_callB (kc_isi (K := K) rfl) (by rfl) TB.b_isinstance (by decide +kernel) (pa_cons (pv 1) (pa_cons (pe_glob (v := .ref C_Ratio) (by rfl) g_Ratio rfl) pa_nil)))) (pss_one (ps_ret (pe_cmpR op_gt (pe_op op_mulA (kfld (K := K) rfl (pv 0) rfl) (kfld (K := K) rfl (pv 1) rfl)) (pe_op op_mulA (kfld (K := K) rfl (pv 1) rfl) (kfld (K := K) rfl (pv 0) rfl)) (nomark _)))) pss_nil) (pss_cons (ps_if (pt_val (pe_cl c_is_int hr (by decide) (by rfl) psE (pa_cons (pv 1) pa_nil))) (pss_one (ps_ret (pe_cmpR op_gt (kfld (K := K) rfl (pv 0) rfl) (pe_op op_mulA (pv 1) (kfld (K := K) rfl (pv 0) rfl)) (nomark _)))) pss_nil) (pss_one (ps_ret pe_ni)))), ?_⟩
    dsimp only at k
    rcases hv with ⟨n, rfl, rfl⟩ | ⟨c, rfl, hc⟩
    · have hn : Bt n := hr'.1
      wtm_at "of_rd"
      refine r_isi (.own _) tyI (kit_int TR.k) ?_
      wtm_at "of_rd"
      refine q_isInt_i ?_
      wtm_at "of_rd"
      rw [dec_gt_i] at k
      exact k.here
    · wtm_at "of_rd"
      refine r_isi (.own _) (hc.tyx TR) kit_self ?_
      wtm_at "of_rd"
      rw [dec_gt] at k
      exact k.here
abbrev s_Ratio_ge : Stmt := (inClass (top 19) 14)
theorem sc_Ratio___ge__ : FnScope ["self", "other"] ["self", "other"] (defScope s_Ratio_ge) := ⟨rfl, rfl, rfl, by decide +kernel, rfl, by decide +kernel, by decide +kernel⟩
theorem ok_Ratio_ge {f : Addr} {fd : FuncData} (F : FunD K "__ge__" "Ratio.__ge__" (defArgs s_Ratio_ge) (defBody s_Ratio_ge) (defScope s_Ratio_ge) [] [] f fd) (g_Ratio : mg "Ratio" = some (.ref C_Ratio)) (TB : TBl mg) (TR : RT K mg C_Ratio) (c_is_int : Cl P w K mg base 1 "is_int" (spIsInt K)) : FnOk P w K mg base (L2.CX P w) 2 f fd ["self", "other"] (spRB C_Ratio (fun q r => decide (r ≤ q))) := by
  refine F.ok (CX := L2.CX P w) sc_Ratio___ge__ (fun vs H Q E h => ?_) (fun cdv A outer s H vs Q E hr h => ?_)
  · obtain ⟨a, v, q, r, rfl, _⟩ := h; rfl
  · obtain ⟨a, v, q, r, rfl, ha, hv, hq, hr', k⟩ := h
    refine ⟨_, (pss_cons (ps_if (pt_val (pe_callB (kc_isi (K := K) rfl) (by rfl) TB.b_isinstance (by decide +kernel) (pa_cons (pv 1) (pa_cons (pe_glob (v := .ref C_Ratio) (by rfl) g_Ratio rfl) pa_nil)))) (pss_one (ps_ret (pe_cmpR op_ge (pe_op op_mulA (kfld (K := K) rfl (pv 0) rfl) (kfld (K := K) rfl (pv 1) rfl)) (pe_op op_mulA (kfld (K := K) rfl (pv 1) rfl) (kfld (K := K) rfl (pv 0) rfl)) (nomark _)))) pss_nil) (pss_cons (ps_if (pt_val (pe_cl c_is_int hr (by decide) (by rfl) psE (pa_cons (pv 1) pa_nil))) (pss_one (ps_ret (pe_cmpR op_ge (kfld (K := K) rfl (pv 0) rfl) (pe_op op_mulA (pv 1) (kfld (K := K) rfl (pv 0) rfl)) (nomark _)))) pss_nil) (pss_one (ps_ret pe_ni)))), ?_⟩
    dsimp only at k
    rcases hv with ⟨n, rfl, rfl⟩ | ⟨c, rfl, hc⟩
    · have hn : Bt n := hr'.1
      wtm_at "of_rd"
      refine r_isi (.own _) tyI (kit_int TR.k) ?_
      wtm_at "of_rd"
      refine q_isInt_i ?_
      wtm_at "of_rd"
      rw [dec_ge_i] at k
      exact k.here
    · wtm_at "of_rd"
      refine r_isi (.own _) (hc.tyx TR) kit_self ?_
      wtm_at "of_rd"
      rw [dec_ge] at k
      exact k.here
abbrev s_Ratio_floor : Stmt := (inClass (top 19) 2)
theorem sc_Ratio_floor : FnScope ["self"] ["self"] (defScope s_Ratio_floor) := ⟨rfl, rfl, rfl, by decide +kernel, rfl, by decide +kernel, by decide +kernel⟩
theorem ok_Ratio_floor {f : Addr} {fd : FuncData} (F : FunD K "floor" "Ratio.floor" (defArgs s_Ratio_floor) (defBody s_Ratio_floor) (defScope s_Ratio_floor) [] [] f fd) (TR : RT K mg C_Ratio) : FnOk P w K mg base (L2.CX P w) 1 f fd ["self"] (spRV C_Ratio (fun q => .int q.floor)) := by
  refine F.ok (CX := L2.CX P w) sc_Ratio_floor (fun vs H Q E h => ?_) (fun cdv A outer s H vs Q E hr h => ?_)
  · obtain ⟨a, q, rfl, _⟩ := h; rfl
  · obtain ⟨a, q, rfl, ha, hq, k⟩ := h
    refine ⟨_, (pss_one (ps_ret (pe_op op_fdivZ (kfld (K := K) rfl (pv 0) rfl) (kfld (K := K) rfl (pv 0) rfl)))), ?_⟩
    wtm_at "of_rd"
    refine r_I (cdz_den hq) ?_
    rw [flo_num]; exact k
abbrev s_Ratio_bool : Stmt := (inClass (top 19) 7)
theorem sc_Ratio___bool__ : FnScope ["self"] ["self"] (defScope s_Ratio_bool) := ⟨rfl, rfl, rfl, by decide +kernel, rfl, by decide +kernel, by decide +kernel⟩
theorem ok_Ratio_bool {f : Addr} {fd : FuncData} (F : FunD K "__bool__" "Ratio.__bool__" (defArgs s_Ratio_bool) (defBody s_Ratio_bool) (defScope s_Ratio_bool) [] [] f fd) (TB : TBl mg) (TR : RT K mg C_Ratio) : FnOk P w K mg base (L2.CX P w) 1 f fd ["self"] (spRV C_Ratio (fun q => .bl (!decide (q.num = 0)))) := by
  refine F.ok (CX := L2.CX P w) sc_Ratio___bool__ (fun vs H Q E h => ?_) (fun cdv A outer s H vs Q E hr h => ?_)
  · obtain ⟨a, q, rfl, _⟩ := h; rfl
  · obtain ⟨a, q, rfl, ha, hq, k⟩ := h
    refine ⟨_, (pss_one (ps_ret (pe_callTy call_bool1 (by rfl) TB.b_bool (by decide +kernel) (pa_cons (pe_cmpR op_ne (kfld (K := K) rfl (pv 0) rfl) pe_int (nomark _)) pa_nil)))), ?_⟩
    wtm_at "of_rd"
    exact .inr ⟨_, rfl, k⟩
abbrev s_Ratio_neg : Stmt := (inClass (top 19) 8)
theorem sc_Ratio___neg__ : FnScope ["self"] ["self"] (defScope s_Ratio_neg) := ⟨rfl, rfl, rfl, by decide +kernel, rfl, by decide +kernel, by decide +kernel⟩
theorem ok_Ratio_neg {f : Addr} {fd : FuncData} (F : FunD K "__neg__" "Ratio.__neg__" (defArgs s_Ratio_neg) (defBody s_Ratio_neg) (defScope s_Ratio_neg) [] [] f fd) (TR : RT K mg C_Ratio) (c_Ratio_2 : Ck P w K mg base 4 "Ratio" C_Ratio [] (spRInit K C_Ratio C_BadNumber)) : FnOk P w K mg base (L2.CX P w) 6 f fd ["self"] (spR0 C_Ratio (fun q => -q)) := by
  refine F.ok (CX := L2.CX P w) sc_Ratio___neg__ (fun vs H Q E h => ?_) (fun cdv A outer s H vs Q E hr h => ?_)
  · obtain ⟨a, q, rfl, _⟩ := h; rfl
  · obtain ⟨a, q, rfl, ha, hq, k⟩ := h
    refine ⟨_, (pss_one (ps_ret (pe_ck c_Ratio_2 hr (by decide) (by rfl) psE (pa_cons (pe_un un_neg (kfld (K := K) rfl (pv 0) rfl)) (pa_cons (kfld (K := K) rfl (pv 0) rfl) pa_nil))))), ?_⟩
    wtm_at "of_rd"
    refine q_mk rfl (den_ne q) (pow_mono hq.2 (by decide)) ?_
    rw [rat_neg]; exact k
abbrev s_Ratio_abs : Stmt := (inClass (top 19) 9)
theorem sc_Ratio___abs__ : FnScope ["self"] ["self"] (defScope s_Ratio_abs) := ⟨rfl, rfl, rfl, by decide +kernel, rfl, by decide +kernel, by decide +kernel⟩
theorem ok_Ratio_abs {f : Addr} {fd : FuncData} (F : FunD K "__abs__" "Ratio.__abs__" (defArgs s_Ratio_abs) (defBody s_Ratio_abs) (defScope s_Ratio_abs) [] [] f fd) (TB : TBl mg) (TR : RT K mg C_Ratio) (c_Ratio_2 : Ck P w K mg base 4 "Ratio" C_Ratio [] (spRInit K C_Ratio C_BadNumber)) : FnOk P w K mg base (L2.CX P w) 6 f fd ["self"] (spR0 C_Ratio absQ) := by
  refine F.ok (CX := L2.CX P w) sc_Ratio___abs__ (fun vs H Q E h => ?_) (fun cdv A outer s H vs Q E hr h => ?_)
  · obtain ⟨a, q, rfl, _⟩ := h; rfl
  · obtain ⟨a, q, rfl, ha, hq, k⟩ := h
    refine ⟨_, (pss_one (ps_ret (pe_ck c_Ratio_2 hr (by decide) (by rfl) psE (pa_cons (pe_callB kc_abs (by rfl) TB.b_abs (by decide +kernel) (pa_cons (kfld (K := K) rfl (pv 0) rfl) pa_nil)) (pa_cons (kfld (K := K) rfl (pv 0) rfl) pa_nil))))), ?_⟩
    wtm_at "of_rd"
    refine q_absI ?_
    wtm_at "of_rd"
    refine q_mk rfl (den_ne q) (pow_mono hq.2 (by decide)) ?_
    rw [rat_abs]; exact k
abbrev s_Ratio_add : Stmt := (inClass (top 19) 15)
theorem sc_Ratio___add__ : FnScope ["self", "other"] ["self", "other"] (defScope s_Ratio_add) := ⟨rfl, rfl, rfl, by decide +kernel, rfl, by decide +kernel, by decide +kernel⟩
theorem ok_Ratio_add {f : Addr} {fd : FuncData} (F : FunD K "__add__" "Ratio.__add__" (defArgs s_Ratio_add) (defBody s_Ratio_add) (defScope s_Ratio_add) [] [] f fd) (g_Ratio : mg "Ratio" = some (.ref C_Ratio)) (TB : TBl mg) (TR : RT K mg C_Ratio) (c_is_int : Cl P w K mg base 1 "is_int" (spIsInt K)) (c_Ratio_2 : Ck P w K mg base 4 "Ratio" C_Ratio [] (spRInit K C_Ratio C_BadNumber)) : FnOk P w K mg base (L2.CX P w) 6 f fd ["self", "other"] (spR1 C_Ratio (fun q r => q + r) (fun _ _ => True)) := by
  refine F.ok (CX := L2.CX P w) sc_Ratio___add__ (fun vs H Q E h => ?_) (fun cdv A outer s H vs Q E hr h => ?_)
  · obtain ⟨a, v, q, r, rfl, _⟩ := h; rfl
  · obtain ⟨a, v, q, r, rfl, ha, hv, hq, hr', _, k⟩ := h
    refine ⟨_, (pss_cons (ps_if (pt_val (pe_callB (kc_isi (K := K) rfl) (by rfl) TB.b_isinstance (by decide +kernel) (pa_cons (pv 1) (pa_cons (pe_glob (v := .ref C_Ratio) (by rfl) g_Ratio rfl) pa_nil)))) (pss_one (ps_ret (pe_ck c_Ratio_2 hr (by decide) (by rfl) psE (pa_cons (pe_op op_add (pe_op op_mulA (kfld (K := K) rfl (pv 0) rfl) (kfld (K := K) rfl (pv 1) rfl)) (pe_op op_mulA (kfld (K := K) rfl (pv 1) rfl) (kfld (K := K) rfl (pv 0) rfl))) (pa_cons (pe_op op_mulA (kfld (K := K) rfl (pv 0) rfl) (kfld (K := K) rfl (pv 1) rfl)) pa_nil))))) pss_nil) (pss_cons (ps_if (pt_val (pe_cl c_is_int hr (by decide) (by rfl) psE (pa_cons (pv 1) pa_nil))) (pss_one (ps_ret (pe_ck c_Ratio_2 hr (by decide) (by rfl) psE (pa_cons (pe_op op_add (kfld (K := K) rfl (pv 0) rfl) (pe_op op_mulA (pv 1) (kfld (K := K) rfl (pv 0) rfl))) (pa_cons (kfld (K := K) rfl (pv 0) rfl) pa_nil))))) pss_nil) (pss_one (ps_ret pe_ni)))), ?_⟩
    rcases hv with ⟨n, rfl, rfl⟩ | ⟨c, rfl, hc⟩
    · have hn : Bt n := hr'.1
      wtm_at "of_rd"
      refine r_isi (.own _) tyI (kit_int TR.k) ?_
      wtm_at "of_rd"
      refine q_isInt_i ?_
      wtm_at "of_rd"
      refine q_mk rfl (den_ne q) (bt_9 hq.2) ?_
      rw [rat_add_i]; exact k
    · wtm_at "of_rd"
      refine r_isi (.own _) (hc.tyx TR) kit_self ?_
      wtm_at "of_rd"
      refine q_mk rfl (dd_ne q r) (dd_lt hq hr') ?_
      rw [rat_add]; exact k
abbrev s_Ratio_mul : Stmt := (inClass (top 19) 19)
theorem sc_Ratio___mul__ : FnScope ["self", "other"] ["self", "other"] (defScope s_Ratio_mul) := ⟨rfl, rfl, rfl, by decide +kernel, rfl, by decide +kernel, by decide +kernel⟩
theorem ok_Ratio_mul {f : Addr} {fd : FuncData} (F : FunD K "__mul__" "Ratio.__mul__" (defArgs s_Ratio_mul) (defBody s_Ratio_mul) (defScope s_Ratio_mul) [] [] f fd) (g_Ratio : mg "Ratio" = some (.ref C_Ratio)) (TB : TBl mg) (TR : RT K mg C_Ratio) (c_is_int : Cl P w K mg base 1 "is_int" (spIsInt K)) (c_Ratio_2 : Ck P w K mg base 4 "Ratio" C_Ratio [] (spRInit K C_Ratio C_BadNumber)) : FnOk P w K mg base (L2.CX P w) 6 f fd ["self", "other"] (spR1 C_Ratio (fun q r => q * r) (fun _ _ => True)) := by
  refine F.ok (CX := L2.CX P w) sc_Ratio___mul__ (fun vs H Q E h => ?_) (fun cdv A outer s H vs Q E hr h => ?_)
  · obtain ⟨a, v, q, r, rfl, _⟩ := h; rfl
  · obtain ⟨a, v, q, r, rfl, ha, hv, hq, hr', _, k⟩ := h
    refine ⟨_, (pss_cons (ps_if (pt_val (pe_callB (kc_isi (K := K) rfl) (by rfl) TB.b_isinstance (by decide +kernel) (pa_cons (pv 1) (pa_cons (pe_glob (v := .ref C_Ratio) (by rfl) g_Ratio rfl) pa_nil)))) (pss_one (ps_ret (pe_ck c_Ratio_2 hr (by decide) (by rfl) psE (pa_cons (pe_op op_mulA (kfld (K := K) rfl (pv 0) rfl) (kfld (K := K) rfl (pv 1) rfl)) (pa_cons (pe_op op_mulA (kfld (K := K) rfl (pv 0) rfl) (kfld (K := K) rfl (pv 1) rfl)) pa_nil))))) pss_nil) (pss_cons (ps_if (pt_val (pe_cl c_is_int hr (by decide) (by rfl) psE (pa_cons (pv 1) pa_nil))) (pss_one (ps_ret (pe_ck c_Ratio_2 hr (by decide) (by rfl) psE (pa_cons (pe_op op_mulA (kfld (K := K) rfl (pv 0) rfl) (pv 1)) (pa_cons (kfld (K := K) rfl (pv 0) rfl) pa_nil))))) pss_nil) (pss_one (ps_ret pe_ni)))), ?_⟩
    rcases hv with ⟨n, rfl, rfl⟩ | ⟨c, rfl, hc⟩
    · have hn : Bt n := hr'.1
      wtm_at "of_rd"
      refine r_isi (.own _) tyI (kit_int TR.k) ?_
      wtm_at "of_rd"
      refine q_isInt_i ?_
      wtm_at "of_rd"
      refine q_mk rfl (den_ne q) (bt_9 hq.2) ?_
      rw [rat_mul_i]; exact k
    · wtm_at "of_rd"
      refine r_isi (.own _) (hc.tyx TR) kit_self ?_
      wtm_at "of_rd"
      refine q_mk rfl (dd_ne q r) (dd_lt hq hr') ?_
      rw [rat_mul]; exact k
end
end
section
open PySem PySem.Spec PyProof.Rows L2 He
section
variable {P : Program} {w : World} {K : PySem.W.Frag} {mg : Str → Option Value} {base : Heap} {C_Ratio C_BadNumber C_NoSuch f_Ratio_eq f_Ratio_lt f_Ratio_le f_Ratio_gt f_Ratio_ge f_Ratio_bool f_Ratio_neg f_Ratio_abs f_Ratio_str f_Ratio_add f_Ratio_radd f_Ratio_sub f_Ratio_rsub f_Ratio_mul f_Ratio_rmul f_Ratio_floordiv f_Ratio_rfloordiv f_Ratio_mod f_Ratio_rmod f_Ratio_pow f_Ratio_over f_Ratio_floor f_Ratio_ceiling f_Ratio_whole f_Ratio_sign  : Addr}
abbrev s_Ratio_sub : Stmt := (inClass (top 19) 17)
theorem sc_Ratio___sub__ : FnScope ["self", "other"] ["self", "other"] (defScope s_Ratio_sub) := ⟨rfl, rfl, rfl, by decide +kernel, rfl, by decide +kernel, by decide +kernel⟩
theorem ok_Ratio_sub {f : Addr} {fd : FuncData} (F : FunD K "__sub__" "Ratio.__sub__" (defArgs s_Ratio_sub) (defBody s_Ratio_sub) (defScope s_Ratio_sub) [] [] f fd) (g_Ratio : mg "Ratio" = some (.ref C_Ratio)) (TB : TBl mg) (TR : RT K mg C_Ratio) (c_is_int : Cl P w K mg base 1 "is_int" (spIsInt K)) (c_Ratio_2 : Ck P w K mg base 4 "Ratio" C_Ratio [] (spRInit K C_Ratio C_BadNumber)) : FnOk P w K mg base (L2.CX P w) 6 f fd ["self", "other"] (spR1 C_Ratio (fun q r => q - r) (fun _ _ => True)) := by
  refine F.ok (CX := L2.CX P w) sc_Ratio___sub__ (fun vs H Q E h => ?_) (fun cdv A outer s H vs Q E hr h => ?_)
  · obtain ⟨a, v, q, r, rfl, _⟩ := h; rfl
  · obtain ⟨a, v, q, r, rfl, ha, hv, hq, hr', _, k⟩ := h
    refine ⟨_, (pss_cons (ps_if (pt_val (pe_callB (kc_isi (K := K) rfl) (by rfl) TB.b_isinstance (by decide +kernel) (pa_cons (pv 1) (pa_cons (pe_glob (v := .ref C_Ratio) (by rfl) g_Ratio rfl) pa_nil)))) (pss_one (ps_ret (pe_ck c_Ratio_2 hr (by decide) (by rfl) psE (pa_cons (pe_op op_sub (pe_op op_mulA (kfld (K := K) rfl (pv 0) rfl) (kfld (K := K) rfl (pv 1) rfl)) (pe_op op_mulA (kfld (K := K) rfl (pv 1) rfl) (kfld (K := K) rfl (pv 0) rfl))) (pa_cons (pe_op op_mulA (kfld (K := K) rfl (pv 0) rfl) (kfld (K := K) rfl (pv 1) rfl)) pa_nil))))) pss_nil) (pss_cons (ps_if (pt_val (pe_cl c_is_int hr (by decide) (by rfl) psE (pa_cons (pv 1) pa_nil))) (pss_one (ps_ret (pe_ck c_Ratio_2 hr (by decide) (by rfl) psE (pa_cons (pe_op op_sub (kfld (K := K) rfl (pv 0) rfl) (pe_op op_mulA (pv 1) (kfld (K := K) rfl (pv 0) rfl))) (pa_cons (kfld (K := K) rfl (pv 0) rfl) pa_nil))))) pss_nil) (pss_one (ps_ret pe_ni)))), ?_⟩
    rcases hv with ⟨n, rfl, rfl⟩ | ⟨c, rfl, hc⟩
    · have hn : Bt n := hr'.1
      wtm_at "of_rd"
      refine r_isi (.own _) tyI (kit_int TR.k) ?_
      wtm_at "of_rd"
      refine q_isInt_i ?_
      wtm_at "of_rd"
      refine q_mk rfl (den_ne q) (bt_9 hq.2) ?_
      rw [rat_sub_i]; exact k
    · wtm_at "of_rd"
      refine r_isi (.own _) (hc.tyx TR) kit_self ?_
      wtm_at "of_rd"
      refine q_mk rfl (dd_ne q r) (dd_lt hq hr') ?_
      rw [rat_sub]; exact k
abbrev s_Ratio_radd : Stmt := (inClass (top 19) 16)
theorem sc_Ratio___radd__ : FnScope ["self", "other"] ["self", "other"] (defScope s_Ratio_radd) := ⟨rfl, rfl, rfl, by decide +kernel, rfl, by decide +kernel, by decide +kernel⟩
theorem ok_Ratio_radd {f : Addr} {fd : FuncData} (F : FunD K "__radd__" "Ratio.__radd__" (defArgs s_Ratio_radd) (defBody s_Ratio_radd) (defScope s_Ratio_radd) [] [] f fd) (TR : RT K mg C_Ratio) (c_is_int : Cl P w K mg base 1 "is_int" (spIsInt K)) (c_Ratio_2 : Ck P w K mg base 4 "Ratio" C_Ratio [] (spRInit K C_Ratio C_BadNumber)) : FnOk P w K mg base (L2.CX P w) 6 f fd ["self", "other"] (spRI C_Ratio (fun q r => r + q) (fun _ _ => True)) := by
  refine F.ok (CX := L2.CX P w) sc_Ratio___radd__ (fun vs H Q E h => ?_) (fun cdv A outer s H vs Q E hr h => ?_)
  · obtain ⟨a, q, n, rfl, _⟩ := h; rfl
  · obtain ⟨a, q, n, rfl, ha, hq, hn, _, k⟩ := h
    refine ⟨_, (pss_cons (ps_if (pt_val (pe_cl c_is_int hr (by decide) (by rfl) psE (pa_cons (pv 1) pa_nil))) (pss_one (ps_ret (pe_ck c_Ratio_2 hr (by decide) (by rfl) psE (pa_cons (pe_op op_add (kfld (K := K) rfl (pv 0) rfl) (pe_op op_mulA (pv 1) (kfld (K := K) rfl (pv 0) rfl))) (pa_cons (kfld (K := K) rfl (pv 0) rfl) pa_nil))))) pss_nil) (pss_one (ps_ret pe_ni))), ?_⟩
    wtm_at "of_rd"
    refine q_isInt_i ?_
    wtm_at "of_rd"
    refine q_mk rfl (den_ne q) (bt_9 hq.2) ?_
    rw [rat_add_i, Rat.add_comm]; exact k
abbrev s_Ratio_rsub : Stmt := (inClass (top 19) 18)
theorem sc_Ratio___rsub__ : FnScope ["self", "other"] ["self", "other"] (defScope s_Ratio_rsub) := ⟨rfl, rfl, rfl, by decide +kernel, rfl, by decide +kernel, by decide +kernel⟩
theorem ok_Ratio_rsub {f : Addr} {fd : FuncData} (F : FunD K "__rsub__" "Ratio.__rsub__" (defArgs s_Ratio_rsub) (defBody s_Ratio_rsub) (defScope s_Ratio_rsub) [] [] f fd) (TR : RT K mg C_Ratio) (c_is_int : Cl P w K mg base 1 "is_int" (spIsInt K)) (c_Ratio_2 : Ck P w K mg base 4 "Ratio" C_Ratio [] (spRInit K C_Ratio C_BadNumber)) : FnOk P w K mg base (L2.CX P w) 6 f fd ["self", "other"] (spRI C_Ratio (fun q r => r - q) (fun _ _ => True)) := by
  refine F.ok (CX := L2.CX P w) sc_Ratio___rsub__ (fun vs H Q E h => ?_) (fun cdv A outer s H vs Q E hr h => ?_)
  · obtain ⟨a, q, n, rfl, _⟩ := h; rfl
  · obtain ⟨a, q, n, rfl, ha, hq, hn, _, k⟩ := h
    refine ⟨_, (pss_cons (ps_if (pt_val (pe_cl c_is_int hr (by decide) (by rfl) psE (pa_cons (pv 1) pa_nil))) (pss_one (ps_ret (pe_ck c_Ratio_2 hr (by decide) (by rfl) psE (pa_cons (pe_op op_sub (pe_op op_mulA (pv 1) (kfld (K := K) rfl (pv 0) rfl)) (kfld (K := K) rfl (pv 0) rfl)) (pa_cons (kfld (K := K) rfl (pv 0) rfl) pa_nil))))) pss_nil) (pss_one (ps_ret pe_ni))), ?_⟩
    wtm_at "of_rd"
    refine q_isInt_i ?_
    wtm_at "of_rd"
    refine q_mk rfl (den_ne q) (bt_9 hq.2) ?_
    rw [rat_rsub_i]; exact k
abbrev s_Ratio_rmul : Stmt := (inClass (top 19) 20)
theorem sc_Ratio___rmul__ : FnScope ["self", "other"] ["self", "other"] (defScope s_Ratio_rmul) := ⟨rfl, rfl, rfl, by decide +kernel, rfl, by decide +kernel, by decide +kernel⟩
theorem ok_Ratio_rmul {f : Addr} {fd : FuncData} (F : FunD K "__rmul__" "Ratio.__rmul__" (defArgs s_Ratio_rmul) (defBody s_Ratio_rmul) (defScope s_Ratio_rmul) [] [] f fd) (TR : RT K mg C_Ratio) (c_is_int : Cl P w K mg base 1 "is_int" (spIsInt K)) (c_Ratio_2 : Ck P w K mg base 4 "Ratio" C_Ratio [] (spRInit K C_Ratio C_BadNumber)) : FnOk P w K mg base (L2.CX P w) 6 f fd ["self", "other"] (spRI C_Ratio (fun q r => r * q) (fun _ _ => True)) := by
  refine F.ok (CX := L2.CX P w) sc_Ratio___rmul__ (fun vs H Q E h => ?_) (fun cdv A outer s H vs Q E hr h => ?_)
  · obtain ⟨a, q, n, rfl, _⟩ := h; rfl
  · obtain ⟨a, q, n, rfl, ha, hq, hn, _, k⟩ := h
    refine ⟨_, (pss_cons (ps_if (pt_val (pe_cl c_is_int hr (by decide) (by rfl) psE (pa_cons (pv 1) pa_nil))) (pss_one (ps_ret (pe_ck c_Ratio_2 hr (by decide) (by rfl) psE (pa_cons (pe_op op_mulA (kfld (K := K) rfl (pv 0) rfl) (pv 1)) (pa_cons (kfld (K := K) rfl (pv 0) rfl) pa_nil))))) pss_nil) (pss_one (ps_ret pe_ni))), ?_⟩
    wtm_at "of_rd"
    refine q_isInt_i ?_
    wtm_at "of_rd"
    refine q_mk rfl (den_ne q) (bt_9 hq.2) ?_
    rw [rat_mul_i, Rat.mul_comm]; exact k
abbrev s_floor_quotient : Stmt := (top 15)
theorem sc_floor_quotient : FnScope ["one", "other", "first", "second"] ["one", "other"] (defScope s_floor_quotient) := ⟨rfl, rfl, rfl, by decide +kernel, rfl, by decide +kernel, by decide +kernel⟩
theorem ok_floor_quotient {f : Addr} {fd : FuncData} (F : FunD K "floor_quotient" "floor_quotient" (defArgs s_floor_quotient) (defBody s_floor_quotient) (defScope s_floor_quotient) [] [] f fd) (TR : RT K mg C_Ratio) (c_BadNumber : Cox P w K mg base 1 "BadNumber" C_BadNumber "value") (c_ratio_of : Cl P w K mg base 6 "ratio_of" (spRatioOf K C_Ratio C_BadNumber)) : FnOk P w K mg base (L2.CX P w) 7 f fd ["one", "other"] (spFloQ K C_Ratio C_BadNumber) := by
  refine F.ok (CX := L2.CX P w) sc_floor_quotient (fun vs H Q E h => ?_) (fun cdv A outer s H vs Q E hr h => ?_)
  · obtain ⟨u, v, q, r, rfl, _⟩ := h; rfl
  · obtain ⟨u, v, q, r, rfl, hu, hv, hq, hr', h⟩ := h
    refine ⟨_, (pss_cons (ps_par (i := 2) (j := 3) rfl sc_floor_quotient.nd rfl rfl (by decide) rfl rfl (pa_cons (pe_cl c_ratio_of hr (by decide) (by rfl) psE (pa_cons (pv 0) pa_nil)) (pa_cons (pe_cl c_ratio_of hr (by decide) (by rfl) psE (pa_cons (pv 1) pa_nil)) pa_nil)) (by rfl)) (pss_cons (ps_if (pt_cmpR op_eq (kfld (K := K) rfl (pv 3) rfl) pe_int (nomark _)) (pss_one (ps_rz c_BadNumber hr (by decide) tkE rfl (pa_cons (pv 1) pa_nil))) pss_nil) (pss_one (ps_ret (pe_op op_fdivZ (pe_op op_mulA (kfld (K := K) rfl (pv 2) rfl) (kfld (K := K) rfl (pv 3) rfl)) (pe_op op_mulA (kfld (K := K) rfl (pv 2) rfl) (kfld (K := K) rfl (pv 3) rfl))))))), ?_⟩
    wtm_at "of_rd"
    wtm_at "of_rz"
    wtm_at "of_rd"
    refine q_ratioOf hu hq ?_
    intro H1 p1 e1 h1
    wtm_at "of_rd"
    wtm_at "of_rz"
    wtm_at "of_rd"
    refine q_ratioOf (hv.ex e1) hr' ?_
    intro H2 p2 e2 h2
    wtm_at "of_rd"
    wtm_at "of_rz"
    wtm_at "of_rd"
    rcases h with ⟨rfl, hz⟩ | ⟨h0, k⟩
    · refine ite2 (fun _ => ?_) (fun z => absurd rfl z)
      wtm_at "of_rd"
      wtm_at "of_rz"
      wtm_at "of_rd"
      exact (hz.ex (e1.trans e2)).at
    · refine ite2 (fun z => absurd z (num_ne h0)) (fun _ => ?_)
      wtm_at "of_rd"
      wtm_at "of_rz"
      wtm_at "of_rd"
      refine r_I ⟨Int.mul_ne_zero (den_ne q) (num_ne h0), bt_mul9 hq.2 hr'.1⟩ ?_
      wtm_at "of_rd"
      wtm_at "of_rz"
      wtm_at "of_rd"
      rw [rat_fdiv _ _ h0]; exact k _ (e1.trans e2)
abbrev s_remainder_of : Stmt := (top 16)
theorem sc_remainder_of : FnScope ["one", "other", "first", "second"] ["one", "other"] (defScope s_remainder_of) := ⟨rfl, rfl, rfl, by decide +kernel, rfl, by decide +kernel, by decide +kernel⟩
theorem ok_remainder_of {f : Addr} {fd : FuncData} (F : FunD K "remainder_of" "remainder_of" (defArgs s_remainder_of) (defBody s_remainder_of) (defScope s_remainder_of) [] [] f fd) (TR : RT K mg C_Ratio) (c_BadNumber : Cox P w K mg base 1 "BadNumber" C_BadNumber "value") (c_Ratio_2 : Ck P w K mg base 4 "Ratio" C_Ratio [] (spRInit K C_Ratio C_BadNumber)) (c_ratio_of : Cl P w K mg base 6 "ratio_of" (spRatioOf K C_Ratio C_BadNumber)) : FnOk P w K mg base (L2.CX P w) 7 f fd ["one", "other"] (spRemQ K C_Ratio C_BadNumber) := by
  refine F.ok (CX := L2.CX P w) sc_remainder_of (fun vs H Q E h => ?_) (fun cdv A outer s H vs Q E hr h => ?_)
  · obtain ⟨u, v, q, r, rfl, _⟩ := h; rfl
  · obtain ⟨u, v, q, r, rfl, hu, hv, hq, hr', h⟩ := h
    refine ⟨_, (pss_cons (ps_par (i := 2) (j := 3) rfl sc_remainder_of.nd rfl rfl (by decide) rfl rfl (pa_cons (pe_cl c_ratio_of hr (by decide) (by rfl) psE (pa_cons (pv 0) pa_nil)) (pa_cons (pe_cl c_ratio_of hr (by decide) (by rfl) psE (pa_cons (pv 1) pa_nil)) pa_nil)) (by rfl)) (pss_cons (ps_if (pt_cmpR op_eq (kfld (K := K) rfl (pv 3) rfl) pe_int (nomark _)) (pss_one (ps_rz c_BadNumber hr (by decide) tkE rfl (pa_cons (pv 1) pa_nil))) pss_nil) (pss_one (ps_ret (pe_ck c_Ratio_2 hr (by decide) (by rfl) psE (pa_cons (pe_op op_modN (pe_op op_mulA (kfld (K := K) rfl (pv 2) rfl) (kfld (K := K) rfl (pv 3) rfl)) (pe_op op_mulA (kfld (K := K) rfl (pv 2) rfl) (kfld (K := K) rfl (pv 3) rfl))) (pa_cons (pe_op op_mulA (kfld (K := K) rfl (pv 2) rfl) (kfld (K := K) rfl (pv 3) rfl)) pa_nil))))))), ?_⟩
    wtm_at "of_rd"
    wtm_at "of_rz"
    wtm_at "of_rd"
    refine q_ratioOf hu hq ?_
    intro H1 p1 e1 h1
    wtm_at "of_rd"
    wtm_at "of_rz"
    wtm_at "of_rd"
    refine q_ratioOf (hv.ex e1) hr' ?_
    intro H2 p2 e2 h2
    wtm_at "of_rd"
    wtm_at "of_rz"
    wtm_at "of_rd"
    rcases h with ⟨rfl, hz⟩ | ⟨h0, k⟩
    · refine ite2 (fun _ => ?_) (fun z => absurd rfl z)
      wtm_at "of_rd"
      wtm_at "of_rz"
      wtm_at "of_rd"
      exact (hz.ex (e1.trans e2)).at
    · refine ite2 (fun z => absurd z (num_ne h0)) (fun _ => ?_)
      wtm_at "of_rd"
      wtm_at "of_rz"
      wtm_at "of_rd"
      refine r_I (Int.mul_ne_zero (den_ne q) (num_ne h0)) ?_
      wtm_at "of_rd"
      wtm_at "of_rz"
      wtm_at "of_rd"
      refine q_mk rfl (dd_ne q r) (dd_lt hq hr') ?_
      rw [rat_rem q r h0]; exact k.ex (e1.trans e2)
abbrev s_Ratio_floordiv : Stmt := (inClass (top 19) 21)
theorem sc_Ratio___floordiv__ : FnScope ["self", "other"] ["self", "other"] (defScope s_Ratio_floordiv) := ⟨rfl, rfl, rfl, by decide +kernel, rfl, by decide +kernel, by decide +kernel⟩
theorem ok_Ratio_floordiv {f : Addr} {fd : FuncData} (F : FunD K "__floordiv__" "Ratio.__floordiv__" (defArgs s_Ratio_floordiv) (defBody s_Ratio_floordiv) (defScope s_Ratio_floordiv) [] [] f fd) (TR : RT K mg C_Ratio) (c_is_number : Cl P w K mg base 2 "is_number" (spIsNum K C_Ratio)) (c_floor_quotient : Cl P w K mg base 7 "floor_quotient" (spFloQ K C_Ratio C_BadNumber)) : FnOk P w K mg base (L2.CX P w) 8 f fd ["self", "other"] (spRF C_Ratio C_BadNumber (fun q r => (q / r).floor)) := by
  refine F.ok (CX := L2.CX P w) sc_Ratio___floordiv__ (fun vs H Q E h => ?_) (fun cdv A outer s H vs Q E hr h => ?_)
  · obtain ⟨a, v, q, r, rfl, _⟩ := h; rfl
  · obtain ⟨a, v, q, r, rfl, ha, hv, hq, hr', h⟩ := h
    refine ⟨_, (pss_cons (ps_if (pt_not (pt_val (pe_cl c_is_number hr (by decide) (by rfl) psE (pa_cons (pv 1) pa_nil)))) (pss_one (ps_ret pe_ni)) pss_nil) (pss_one (ps_ret (pe_cl c_floor_quotient hr (by decide) (by rfl) psE (pa_cons (pv 0) (pa_cons (pv 1) pa_nil)))))), ?_⟩
    wtm_at "of_rd"
    refine q_isNum hv ?_
    wtm_at "of_rd"
    exact ⟨_, v, q, r, rfl, num_r ha, hv, hq, hr', h⟩
abbrev s_Ratio_rfloordiv : Stmt := (inClass (top 19) 22)
theorem sc_Ratio___rfloordiv__ : FnScope ["self", "other"] ["self", "other"] (defScope s_Ratio_rfloordiv) := ⟨rfl, rfl, rfl, by decide +kernel, rfl, by decide +kernel, by decide +kernel⟩
theorem ok_Ratio_rfloordiv {f : Addr} {fd : FuncData} (F : FunD K "__rfloordiv__" "Ratio.__rfloordiv__" (defArgs s_Ratio_rfloordiv) (defBody s_Ratio_rfloordiv) (defScope s_Ratio_rfloordiv) [] [] f fd) (TR : RT K mg C_Ratio) (c_is_number : Cl P w K mg base 2 "is_number" (spIsNum K C_Ratio)) (c_floor_quotient : Cl P w K mg base 7 "floor_quotient" (spFloQ K C_Ratio C_BadNumber)) : FnOk P w K mg base (L2.CX P w) 8 f fd ["self", "other"] (spRFI C_Ratio C_BadNumber (fun q r => (r / q).floor)) := by
  refine F.ok (CX := L2.CX P w) sc_Ratio___rfloordiv__ (fun vs H Q E h => ?_) (fun cdv A outer s H vs Q E hr h => ?_)
  · obtain ⟨a, q, n, rfl, _⟩ := h; rfl
  · obtain ⟨a, q, n, rfl, ha, hq, hn, h⟩ := h
    refine ⟨_, (pss_cons (ps_if (pt_not (pt_val (pe_cl c_is_number hr (by decide) (by rfl) psE (pa_cons (pv 1) pa_nil)))) (pss_one (ps_ret pe_ni)) pss_nil) (pss_one (ps_ret (pe_cl c_floor_quotient hr (by decide) (by rfl) psE (pa_cons (pv 1) (pa_cons (pv 0) pa_nil)))))), ?_⟩
    wtm_at "of_rd"
    refine q_isNum num_i ?_
    wtm_at "of_rd"
    exact ⟨_, _, (n : Rat), q, rfl, num_i, num_r ha, bq_i hn, hq, h⟩
end
end
section
open PySem PySem.Spec PyProof.Rows L2 He
section
variable {P : Program} {w : World} {K : PySem.W.Frag} {mg : Str → Option Value} {base : Heap} {C_Ratio C_BadNumber C_NoSuch f_Ratio_eq f_Ratio_lt f_Ratio_le f_Ratio_gt f_Ratio_ge f_Ratio_bool f_Ratio_neg f_Ratio_abs f_Ratio_str f_Ratio_add f_Ratio_radd f_Ratio_sub f_Ratio_rsub f_Ratio_mul f_Ratio_rmul f_Ratio_floordiv f_Ratio_rfloordiv f_Ratio_mod f_Ratio_rmod f_Ratio_pow f_Ratio_over f_Ratio_floor f_Ratio_ceiling f_Ratio_whole f_Ratio_sign  : Addr}
abbrev s_Ratio_mod : Stmt := (inClass (top 19) 23)
theorem sc_Ratio___mod__ : FnScope ["self", "other"] ["self", "other"] (defScope s_Ratio_mod) := ⟨rfl, rfl, rfl, by decide +kernel, rfl, by decide +kernel, by decide +kernel⟩
theorem ok_Ratio_mod {f : Addr} {fd : FuncData} (F : FunD K "__mod__" "Ratio.__mod__" (defArgs s_Ratio_mod) (defBody s_Ratio_mod) (defScope s_Ratio_mod) [] [] f fd) (TR : RT K mg C_Ratio) (c_is_number : Cl P w K mg base 2 "is_number" (spIsNum K C_Ratio)) (c_remainder_of : Cl P w K mg base 7 "remainder_of" (spRemQ K C_Ratio C_BadNumber)) : FnOk P w K mg base (L2.CX P w) 8 f fd ["self", "other"] (spRM C_Ratio C_BadNumber (fun q r => q - r * ((q / r).floor : Rat))) := by
  refine F.ok (CX := L2.CX P w) sc_Ratio___mod__ (fun vs H Q E h => ?_) (fun cdv A outer s H vs Q E hr h => ?_)
  · obtain ⟨a, v, q, r, rfl, _⟩ := h; rfl
  · obtain ⟨a, v, q, r, rfl, ha, hv, hq, hr', h⟩ := h
    refine ⟨_, (pss_cons (ps_if (pt_not (pt_val (pe_cl c_is_number hr (by decide) (by rfl) psE (pa_cons (pv 1) pa_nil)))) (pss_one (ps_ret pe_ni)) pss_nil) (pss_one (ps_ret (pe_cl c_remainder_of hr (by decide) (by rfl) psE (pa_cons (pv 0) (pa_cons (pv 1) pa_nil)))))), ?_⟩
    wtm_at "of_rd"
    refine q_isNum hv ?_
    wtm_at "of_rd"
    exact ⟨_, v, q, r, rfl, num_r ha, hv, hq, hr', h.imp id fun y => ⟨y.1, y.2.2.2⟩⟩
abbrev s_Ratio_rmod : Stmt := (inClass (top 19) 24)
theorem sc_Ratio___rmod__ : FnScope ["self", "other"] ["self", "other"] (defScope s_Ratio_rmod) := ⟨rfl, rfl, rfl, by decide +kernel, rfl, by decide +kernel, by decide +kernel⟩
theorem ok_Ratio_rmod {f : Addr} {fd : FuncData} (F : FunD K "__rmod__" "Ratio.__rmod__" (defArgs s_Ratio_rmod) (defBody s_Ratio_rmod) (defScope s_Ratio_rmod) [] [] f fd) (TR : RT K mg C_Ratio) (c_is_number : Cl P w K mg base 2 "is_number" (spIsNum K C_Ratio)) (c_remainder_of : Cl P w K mg base 7 "remainder_of" (spRemQ K C_Ratio C_BadNumber)) : FnOk P w K mg base (L2.CX P w) 8 f fd ["self", "other"] (spRMI C_Ratio C_BadNumber (fun q r => r - q * ((r / q).floor : Rat))) := by
  refine F.ok (CX := L2.CX P w) sc_Ratio___rmod__ (fun vs H Q E h => ?_) (fun cdv A outer s H vs Q E hr h => ?_)
  · obtain ⟨a, q, n, rfl, _⟩ := h; rfl
  · obtain ⟨a, q, n, rfl, ha, hq, hn, h⟩ := h
    refine ⟨_, (pss_cons (ps_if (pt_not (pt_val (pe_cl c_is_number hr (by decide) (by rfl) psE (pa_cons (pv 1) pa_nil)))) (pss_one (ps_ret pe_ni)) pss_nil) (pss_one (ps_ret (pe_cl c_remainder_of hr (by decide) (by rfl) psE (pa_cons (pv 1) (pa_cons (pv 0) pa_nil)))))), ?_⟩
    wtm_at "of_rd"
    refine q_isNum num_i ?_
    wtm_at "of_rd"
    exact ⟨_, _, (n : Rat), q, rfl, num_i, num_r ha, bq_i hn, hq, h.imp id fun y => ⟨y.1, y.2.2.2⟩⟩
abbrev s_Ratio_str : Stmt := (inClass (top 19) 6)
theorem sc_Ratio___str__ : FnScope ["self"] ["self"] (defScope s_Ratio_str) := ⟨rfl, rfl, rfl, by decide +kernel, rfl, by decide +kernel, by decide +kernel⟩
theorem ok_Ratio_str {f : Addr} {fd : FuncData} (F : FunD K "__str__" "Ratio.__str__" (defArgs s_Ratio_str) (defBody s_Ratio_str) (defScope s_Ratio_str) [] [] f fd) (TB : TBl mg) (TR : RT K mg C_Ratio) : FnOk P w K mg base (L2.CX P w) 1 f fd ["self"] (spRS C_Ratio) := by
  refine F.ok (CX := L2.CX P w) sc_Ratio___str__ (fun vs H Q E h => ?_) (fun cdv A outer s H vs Q E hr h => ?_)
  · obtain ⟨a, q, rfl, _⟩ := h; rfl
  · obtain ⟨a, q, rfl, ha, b1, b2, k⟩ := h
    refine ⟨_, (pss_cons (ps_if (pt_cmpR op_eq (kfld (K := K) rfl (pv 0) rfl) pe_int (nomark _)) (pss_one (ps_ret (pe_callTy call_str_int (by rfl) TB.b_str (by decide +kernel) (pa_cons (kfld (K := K) rfl (pv 0) rfl) pa_nil)))) pss_nil) (pss_one (ps_ret (pe_joined (PJ.cons (pe_fmt (kfld (K := K) rfl (pv 0) rfl)) (PJ.cons pe_str (PJ.cons (pe_fmt (kfld (K := K) rfl (pv 0) rfl)) PJ.nil))))))), ?_⟩
    have l1 := int_text_len_1921 b1
    have l2 := int_text_len_1921 (i := (q.den : Int)) b2
    unfold strQ at k
    wtm_at "of_rd"
    refine ite2 (fun h1 => ?_) (fun h1 => ?_)
    · wtm_at "of_rd"
      refine ⟨q.num, rfl, b1, ?_⟩
      rw [if_pos h1] at k; exact k
    · wtm_at "of_rd"
      rw [if_neg h1] at k
      unfold tJs tFmt
      wtm_at "of_rd"
      refine .inr ⟨q.num, rfl, b1, _, rfl, by rw [Str.length_append, sizeLine_eq]; have : (Str.empty : Str).length = 0 := rfl; omega, ?_⟩
      unfold tJs
      wtm_at "of_rd"
      refine ⟨_, rfl, by rw [Str.length_append, Str.length_append, sizeLine_eq]; have : (Str.empty : Str).length = 0 := rfl; have : ("/" : Str).length = 1 := rfl; omega, ?_⟩
      unfold tJs
      wtm_at "of_rd"
      refine .inr ⟨(q.den : Int), rfl, b2, _, rfl, by rw [Str.length_append, Str.length_append, Str.length_append, sizeLine_eq]; have : (Str.empty : Str).length = 0 := rfl; have : ("/" : Str).length = 1 := rfl; omega, ?_⟩
      unfold tJs
      exact k
abbrev s_power_of : Stmt := (top 17)
theorem sc_power_of : FnScope ["base", "number", "unit", "found", "factor", "left"] ["base", "number", "unit"] (defScope s_power_of) := ⟨rfl, rfl, rfl, by decide +kernel, rfl, by decide +kernel, by decide +kernel⟩
theorem ok_power_of {f : Addr} {fd : FuncData} (F : FunD K "power_of" "power_of" (defArgs s_power_of) (defBody s_power_of) (defScope s_power_of) [] [] f fd) (TR : RT K mg C_Ratio) : FnOk P w K mg base (L2.CX P w) 1 f fd ["base", "number", "unit"] (spPow) := by
  refine F.ok (CX := L2.CX P w) sc_power_of (fun vs H Q E h => ?_) (fun cdv A outer s H vs Q E hr h => ?_)
  · obtain ⟨x, n, rfl, _⟩ := h; rfl
  · obtain ⟨x, n, rfl, hx, hn, k⟩ := h
    refine ⟨_, (pss_cons (ps_set (i := 3) sc_power_of.nd rfl (Or.inl rfl) (pv 2)) (pss_cons (ps_set (i := 4) sc_power_of.nd rfl (Or.inl rfl) (pv 0)) (pss_cons (ps_set (i := 5) sc_power_of.nd rfl (Or.inl rfl) (pv 1)) (pss_cons (ps_while (passes_of rfl) (pt_cmpR op_gt (pv 5) pe_int (nomark _)) (pss_cons (ps_if (pt_tr (pe_op op_and (pv 5) pe_int) (ktru (K := K) rfl) (fun _ => rfl)) (pss_one (ps_set (i := 3) sc_power_of.nd rfl (Or.inl rfl) (pe_op op_mulA (pv 3) (pv 4)))) pss_nil) (pss_cons (ps_set (i := 5) sc_power_of.nd rfl (Or.inl rfl) (pe_op op_shr (pv 5) pe_int)) (pss_one (ps_if (pt_cmpR op_gt (pv 5) pe_int (nomark _)) (pss_one (ps_set (i := 4) sc_power_of.nd rfl (Or.inl rfl) (pe_op op_mulA (pv 4) (pv 4)))) pss_nil))))) (pss_one (ps_ret (pv 3))))))), ?_⟩
    wtm_at "of_rd"
    refine r_while (fun σ H' => ∃ i j l : Nat, σ = [some (.int x), some (.int n), some (.int 1), some (.int (x ^ i)), some (.int (x ^ j)), some (.int (l : Int))] ∧ H' = H ∧ i + j * l = n) (fun σ _ => absAt 5 σ) ⟨0, 1, n, by rw [Int.pow_zero, Int.pow_one]; rfl, rfl, by omega⟩ ?_
    rintro σ H1 ⟨i, j, l, rfl, rfl, e⟩
    wtm_at "of_rd"
    refine ite2 (fun h => ?_) (fun h => ?_)
    · have l0 : 0 < l := by omega
      have jn : j ≤ n := by have := Nat.mul_le_mul_left j l0; omega
      have Sz : ∀ m : Nat, m ≤ n → (x ^ m).natAbs < 2 ^ (4000 * 120 + 1) := fun m hm => pw_lt hx (by omega)
      have M : ∀ a b : Nat, a ≤ n → b ≤ n → CMulA (x ^ a) (x ^ b) := fun a b ha hb => cmA_w (Sz a ha) (Sz b hb) (by decide)
      have half : ((l : Int)) / 2 ^ (1 : Int).toNat = ((l / 2 : Nat) : Int) := by show (l : Int) / 2 ^ 1 = _; omega
      have lt : l / 2 < l := Nat.div_lt_self l0 (by decide)
      have hd : 2 * (l / 2) + l % 2 = l := Nat.div_add_mod l 2
      refine tn ?_
      wtm_at "of_rd"
      refine q_truI ?_
      rw [bitAnd_m1]
      by_cases hodd : l % 2 = 1
      · have ho : ¬ ((l : Int) % 2 = 0) := by omega
        rw [decide_eq_true (p := (l : Int) % 2 ≠ 0) ho]
        have ij : i + j ≤ n := by have : j * l ≥ j * 1 := Nat.mul_le_mul_left j l0; omega
        wtm_at "of_rd"
        refine r_I (M i j (by omega) jn) ?_
        rw [← Int.pow_add]
        wtm_at "of_rd"
        refine r_I (by decide) ?_
        rw [half]
        wtm_at "of_rd"
        refine ite2 (fun h2 => ?_) (fun h2 => ?_)
        · wtm_at "of_rd"
          refine r_I (M j j jn jn) ?_
          rw [← Int.pow_add]
          wtm_at "of_rd"
          refine ⟨⟨i + j, j + j, l / 2, rfl, rfl, ?_⟩, ?_⟩
          · have : (j + j) * (l / 2) = j * (2 * (l / 2)) := by rw [Nat.mul_comm 2, ← Nat.mul_assoc, Nat.add_mul, Nat.mul_two]
            have e3 : j * l = j * (2 * (l / 2)) + j := by conv => lhs; rw [← hd, hodd, Nat.mul_add, Nat.mul_one]
            omega
          · show ((l / 2 : Nat) : Int).natAbs < (l : Int).natAbs; omega
        · wtm_at "of_rd"
          have z : l / 2 = 0 := by omega
          refine ⟨⟨i + j, j, l / 2, rfl, rfl, ?_⟩, ?_⟩
          · have l1 : l = 1 := by omega
            rw [z]; subst l1; omega
          · show ((l / 2 : Nat) : Int).natAbs < (l : Int).natAbs; omega
      · have ho : (l : Int) % 2 = 0 := by omega
        rw [decide_eq_false (p := (l : Int) % 2 ≠ 0) (fun c => c ho)]
        wtm_at "of_rd"
        refine r_I (by decide) ?_
        rw [half]
        wtm_at "of_rd"
        refine ite2 (fun h2 => ?_) (fun h2 => ?_)
        · wtm_at "of_rd"
          refine r_I (M j j jn jn) ?_
          rw [← Int.pow_add]
          wtm_at "of_rd"
          refine ⟨⟨i, j + j, l / 2, rfl, rfl, ?_⟩, ?_⟩
          · have : (j + j) * (l / 2) = j * (2 * (l / 2)) := by rw [Nat.mul_comm 2, ← Nat.mul_assoc, Nat.add_mul, Nat.mul_two]
            have e3 : j * l = j * (2 * (l / 2)) := by conv => lhs; rw [← hd]; rw [show l % 2 = 0 from by omega, Nat.add_zero]
            omega
          · show ((l / 2 : Nat) : Int).natAbs < (l : Int).natAbs; omega
        · exfalso; omega
    · have z : l = 0 := by omega
      subst z
      wtm_at "of_rd"
      rw [show n = i from by omega] at k
      exact k
abbrev s_Ratio_pow : Stmt := (inClass (top 19) 25)
theorem sc_Ratio___pow__ : FnScope ["self", "other"] ["self", "other"] (defScope s_Ratio_pow) := ⟨rfl, rfl, rfl, by decide +kernel, rfl, by decide +kernel, by decide +kernel⟩
theorem ok_Ratio_pow {f : Addr} {fd : FuncData} (F : FunD K "__pow__" "Ratio.__pow__" (defArgs s_Ratio_pow) (defBody s_Ratio_pow) (defScope s_Ratio_pow) [] [] f fd) (TR : RT K mg C_Ratio) (c_is_int : Cl P w K mg base 1 "is_int" (spIsInt K)) (c_Ratio_2 : Ck P w K mg base 4 "Ratio" C_Ratio [] (spRInit K C_Ratio C_BadNumber)) (c_power_of : Cl P w K mg base 1 "power_of" (spPow)) : FnOk P w K mg base (L2.CX P w) 6 f fd ["self", "other"] (spRP C_Ratio) := by
  refine F.ok (CX := L2.CX P w) sc_Ratio___pow__ (fun vs H Q E h => ?_) (fun cdv A outer s H vs Q E hr h => ?_)
  · obtain ⟨a, q, n, rfl, _⟩ := h; rfl
  · obtain ⟨a, q, n, rfl, ha, hq, hn, hb, k⟩ := h
    refine ⟨_, (pss_cons (ps_if (pw_or (pt_not (pt_val (pe_cl c_is_int hr (by decide) (by rfl) psE (pa_cons (pv 1) pa_nil)))) (pw_or1 (pt_cmpR op_lt (pv 1) pe_int (nomark _)))).pt (pss_one (ps_ret pe_ni)) pss_nil) (pss_one (ps_ret (pe_ck c_Ratio_2 hr (by decide) (by rfl) psE (pa_cons (pe_cl c_power_of hr (by decide) (by rfl) psE (pa_cons (kfld (K := K) rfl (pv 0) rfl) (pa_cons (pv 1) (pa_cons pe_int pa_nil)))) (pa_cons (pe_cl c_power_of hr (by decide) (by rfl) psE (pa_cons (kfld (K := K) rfl (pv 0) rfl) (pa_cons (pv 1) (pa_cons pe_int pa_nil)))) pa_nil)))))), ?_⟩
    wtm_at "of_rd"
    refine q_isInt_i ?_
    wtm_at "of_rd"
    refine ite2 (fun h => ?_) (fun h => ?_)
    · exfalso; omega
    · wtm_at "of_rd"
      refine ⟨q.num, n, rfl, hq.1, hn, ?_⟩
      wtm_at "of_rd"
      refine ⟨(q.den : Int), n, rfl, hq.2, hn, ?_⟩
      wtm_at "of_rd"
      refine q_mk rfl (Int.pow_ne_zero (den_ne q)) hb ?_
      rw [rat_pow]; exact k
abbrev s_NoSuch_init : Stmt := (inClass (top 5) 0)
theorem sc_NoSuch___init__ : FnScope ["self", "number"] ["self", "number"] (defScope s_NoSuch_init) := ⟨rfl, rfl, rfl, by decide +kernel, rfl, by decide +kernel, by decide +kernel⟩
theorem ok_NoSuch_init {f : Addr} {fd : FuncData} (F : FunD K "__init__" "NoSuch.__init__" (defArgs s_NoSuch_init) (defBody s_NoSuch_init) (defScope s_NoSuch_init) [] [] f fd) (TR : RT K mg C_Ratio) (o_NoSuch : OexC K C_NoSuch) (n_NoSuch : PySem.W.findIn K (.ref C_NoSuch) "number" = some none) : FnOk P w K mg base (L2.CX P w) 1 f fd ["self", "number"] (spEx C_NoSuch "number") := by
  refine F.ok (CX := L2.CX P w) sc_NoSuch___init__ (fun vs H Q E h => ?_) (fun cdv A outer s H vs Q E hr h => ?_)
  · obtain ⟨a, v, rfl, _⟩ := h; rfl
  · obtain ⟨a, v, rfl, ha, k⟩ := h
    refine ⟨_, (pss_one (kps_ost (K := K) rfl (pv 0) (pv 1))), ?_⟩
    refine ⟨v, rfl, .ref a, rfl, a, C_NoSuch, rfl, o_NoSuch, n_NoSuch, .inl ⟨ha, ?_⟩⟩
    exact k
end
end
section
open PySem PySem.Spec PyProof.Rows L2 He
section
variable {P : Program} {w : World} {K : PySem.W.Frag} {mg : Str → Option Value} {base : Heap} {C_Ratio C_BadNumber C_NoSuch f_Ratio_eq f_Ratio_lt f_Ratio_le f_Ratio_gt f_Ratio_ge f_Ratio_bool f_Ratio_neg f_Ratio_abs f_Ratio_str f_Ratio_add f_Ratio_radd f_Ratio_sub f_Ratio_rsub f_Ratio_mul f_Ratio_rmul f_Ratio_floordiv f_Ratio_rfloordiv f_Ratio_mod f_Ratio_rmod f_Ratio_pow f_Ratio_over f_Ratio_floor f_Ratio_ceiling f_Ratio_whole f_Ratio_sign  : Addr}
abbrev s_gcd_of : Stmt := (top 20)
theorem sc_gcd_of : FnScope ["first", "second"] ["first", "second"] (defScope s_gcd_of) := ⟨rfl, rfl, rfl, by decide +kernel, rfl, by decide +kernel, by decide +kernel⟩
theorem ok_gcd_of {f : Addr} {fd : FuncData} (F : FunD K "gcd_of" "gcd_of" (defArgs s_gcd_of) (defBody s_gcd_of) (defScope s_gcd_of) [] [] f fd) (TB : TBl mg) (TR : RT K mg C_Ratio) : FnOk P w K mg base (L2.CX P w) 1 f fd ["first", "second"] (spII (fun a b => ((Int.gcd a b : Nat) : Int))) := by
  refine F.ok (CX := L2.CX P w) sc_gcd_of (fun vs H Q E h => ?_) (fun cdv A outer s H vs Q E hr h => ?_)
  · obtain ⟨a, b, rfl, _⟩ := h; rfl
  · obtain ⟨a, b, rfl, ha, hb, k⟩ := h
    refine ⟨_, (pss_one (ps_ret (pe_callBfun cr_gcd (by rfl) TB.g_gcd (pa_cons (pv 0) (pa_cons (pv 1) pa_nil))))), ?_⟩
    wtm_at "of_rd"
    exact k
abbrev s_lcm_of : Stmt := (top 21)
theorem sc_lcm_of : FnScope ["first", "second"] ["first", "second"] (defScope s_lcm_of) := ⟨rfl, rfl, rfl, by decide +kernel, rfl, by decide +kernel, by decide +kernel⟩
theorem ok_lcm_of {f : Addr} {fd : FuncData} (F : FunD K "lcm_of" "lcm_of" (defArgs s_lcm_of) (defBody s_lcm_of) (defScope s_lcm_of) [] [] f fd) (TB : TBl mg) (TR : RT K mg C_Ratio) : FnOk P w K mg base (L2.CX P w) 1 f fd ["first", "second"] (spII (fun a b => ((Int.lcm a b : Nat) : Int))) := by
  refine F.ok (CX := L2.CX P w) sc_lcm_of (fun vs H Q E h => ?_) (fun cdv A outer s H vs Q E hr h => ?_)
  · obtain ⟨a, b, rfl, _⟩ := h; rfl
  · obtain ⟨a, b, rfl, ha, hb, k⟩ := h
    refine ⟨_, (pss_one (ps_ret (pe_callBfun cr_lcm (by rfl) TB.g_lcm (pa_cons (pv 0) (pa_cons (pv 1) pa_nil))))), ?_⟩
    wtm_at "of_rd"
    exact ⟨a, b, rfl, ha, hb, k⟩
abbrev s_bezout : Stmt := (top 22)
theorem sc_bezout : FnScope ["first", "second", "t", "upper", "lower", "s", "following", "many"] ["first", "second"] (defScope s_bezout) := ⟨rfl, rfl, rfl, by decide +kernel, rfl, by decide +kernel, by decide +kernel⟩
theorem ok_bezout {f : Addr} {fd : FuncData} (F : FunD K "bezout" "bezout" (defArgs s_bezout) (defBody s_bezout) (defScope s_bezout) [] [] f fd) (TR : RT K mg C_Ratio) : FnOk P w K mg base (L2.CX P w) 1 f fd ["first", "second"] (spBez) := by
  refine F.ok (CX := L2.CX P w) sc_bezout (fun vs H Q E h => ?_) (fun cdv A outer s H vs Q E hr h => ?_)
  · obtain ⟨a, b, rfl, _⟩ := h; rfl
  · obtain ⟨a, b, rfl, ha, hb, k⟩ := h
    refine ⟨_, (pss_cons (ps_par (i := 3) (j := 4) rfl sc_bezout.nd rfl rfl (by decide) rfl rfl (pa_cons (pv 0) (pa_cons (pv 1) pa_nil)) (by rfl)) (pss_cons (ps_asg (pe_tup (pa_cons pe_int (pa_cons pe_int pa_nil))) (kpg_tup (K := K) 2 rfl rfl (pgs_cons (pg_name (i := 5) sc_bezout.nd rfl (Or.inl rfl)) (pgs_cons (pg_name (i := 6) sc_bezout.nd rfl (Or.inl rfl)) pgs_nil)))) (pss_cons (ps_while (passes_of rfl) (pt_cmpR op_ne (pv 4) pe_int (nomark _)) (pss_cons (ps_set (i := 7) sc_bezout.nd rfl (Or.inl rfl) (pe_op op_fdivZ (pv 3) (pv 4))) (pss_cons (ps_par (i := 3) (j := 4) rfl sc_bezout.nd rfl rfl (by decide) rfl rfl (pa_cons (pv 4) (pa_cons (pe_op op_sub (pv 3) (pe_op op_mulA (pv 7) (pv 4))) pa_nil)) (by rfl)) (pss_one (ps_par (i := 5) (j := 6) rfl sc_bezout.nd rfl rfl (by decide) rfl rfl (pa_cons (pv 6) (pa_cons (pe_op op_sub (pv 5) (pe_op op_mulA (pv 7) (pv 6))) pa_nil)) (by rfl)))))) (pss_cons (ps_if (pt_cmpR op_lt (pv 3) pe_int (nomark _)) (pss_one (ps_par (i := 3) (j := 5) rfl sc_bezout.nd rfl rfl (by decide) rfl rfl (pa_cons (pe_un un_neg (pv 3)) (pa_cons (pe_un un_neg (pv 5)) pa_nil)) (by rfl))) pss_nil) (pss_cons (ps_set (i := 2) sc_bezout.nd rfl (Or.inl rfl) (pe_ifExp (pt_cmpR op_ne (pv 1) pe_int (nomark _)) (pe_op op_fdivZ (pe_op op_sub (pv 3) (pe_op op_mulA (pv 5) (pv 0))) (pv 1)) pe_int)) (pss_one (ps_ret (pe_tup (pa_cons (pv 3) (pa_cons (pv 5) (pa_cons (pv 2) pa_nil))))))))))), ?_⟩
    wtm_at "of_rd"
    refine r_laidT (by decide) ?_
    intro p0 H0 e0 n0 h0
    refine r_gTup h0 rfl ?_
    wtm_at "of_rd"
    refine r_while (fun σ H' => ∃ (u l s f : Int) (v2 v7 : Option V), σ = [some (.int a), some (.int b), v2, some (.int u), some (.int l), some (.int s), some (.int f), v7] ∧ Ex H H' ∧ Bez a b u l s f) (fun σ _ => absAt 4 σ) ⟨a, b, 1, 0, none, none, rfl, e0, .start a b⟩ ?_
    rintro σ H1 ⟨u, l, s, f, v2, v7, rfl, e1, B⟩
    wtm_at "of_rd"
    refine ite2n (fun h => ?_) (fun h => ?_)
    · obtain ⟨d1, d2, d3⟩ := B.small h rfl ha hb
      obtain ⟨B', lt⟩ := B.step h rfl
      refine tn ?_
      wtm_at "of_rd"
      refine r_I d1 ?_
      wtm_at "of_rd"
      refine r_I d2 ?_
      wtm_at "of_rd"
      refine r_I d3 ?_
      wtm_at "of_rd"
      exact ⟨⟨_, _, _, _, _, _, rfl, e1, B'⟩, lt⟩
    · subst h
      obtain ⟨g1, x, g2⟩ := B.fin
      have bu := B.bu
      have bs := B.bs
      have a4 : a.natAbs < 2 ^ 4000 := ha
      have b4 : b.natAbs < 2 ^ 4000 := hb
      have p1 := Nat.two_pow_pos 4000
      have e4 : (2 : Nat) ^ 4002 = 4 * 2 ^ 4000 := by rw [show (4002 : Nat) = 4000 + 2 from rfl, Nat.pow_add, Nat.mul_comm]
      wtm_at "of_rd"
      refine ite2 (fun hu => ?_) (fun hu => ?_)
      all_goals
        wtm_at "of_rd"
        refine ite2n (fun hbz => ?_) (fun hbz => ?_)
        all_goals wtm_at "of_rd"
      · refine r_I (cmA_w (n := 4002) (m := 4000) (by rw [Int.natAbs_neg]; omega) a4 (by decide)) ?_
        wtm_at "of_rd"
        refine r_I ⟨hbz, pow_mono b4 (by decide)⟩ ?_
        wtm_at "of_rd"
        refine r_laidT (by show 3 ≤ 1000; decide) ?_
        intro p H2 e2 n2 h2
        have ge : -u = ((Int.gcd a b : Nat) : Int) := by omega
        have te : (-u - -s * a).fdiv b = -x := by
          rw [show -u - -s * a = -x * b from by rw [g2]; grind, Int.mul_fdiv_cancel _ hbz]
        have hq : -s * a + -x * b = ((Int.gcd a b : Nat) : Int) := by rw [← ge, g2]; grind
        exact k H2 p (-s) (-x) (e1.trans e2) (none_of e1 n2) (by rw [h2, te, ge]) hq (by rw [Int.natAbs_neg]; omega) (bez_t hq hbz (by rw [Int.natAbs_neg]; omega) ha hb)
      · refine r_laidT (by show 3 ≤ 1000; decide) ?_
        intro p H2 e2 n2 h2
        have ge : -u = ((Int.gcd a b : Nat) : Int) := by omega
        exact k H2 p (-s) 0 (e1.trans e2) (none_of e1 n2) (by rw [h2, ge]) (by rw [← ge, g2, hbz]; grind) (by rw [Int.natAbs_neg]; omega) (Nat.two_pow_pos _)
      · refine r_I (cmA_w (n := 4002) (m := 4000) (by omega) a4 (by decide)) ?_
        wtm_at "of_rd"
        refine r_I ⟨hbz, pow_mono b4 (by decide)⟩ ?_
        wtm_at "of_rd"
        refine r_laidT (by show 3 ≤ 1000; decide) ?_
        intro p H2 e2 n2 h2
        have ge : u = ((Int.gcd a b : Nat) : Int) := by omega
        have te : (u - s * a).fdiv b = x := by
          rw [show u - s * a = x * b from by rw [g2]; grind, Int.mul_fdiv_cancel _ hbz]
        have hq : s * a + x * b = ((Int.gcd a b : Nat) : Int) := by rw [← ge, g2]
        exact k H2 p s x (e1.trans e2) (none_of e1 n2) (by rw [h2, te, ge]) hq (by omega) (bez_t hq hbz (by omega) ha hb)
      · refine r_laidT (by show 3 ≤ 1000; decide) ?_
        intro p H2 e2 n2 h2
        have ge : u = ((Int.gcd a b : Nat) : Int) := by omega
        exact k H2 p s 0 (e1.trans e2) (none_of e1 n2) (by rw [h2, ge]) (by rw [← ge, g2, hbz]; grind) (by omega) (Nat.two_pow_pos _)
end
end
section
open PySem PySem.Spec PyProof.Rows L2 He
section
variable {P : Program} {w : World} {K : PySem.W.Frag} {mg : Str → Option Value} {base : Heap} {C_Ratio C_BadNumber C_NoSuch f_Ratio_eq f_Ratio_lt f_Ratio_le f_Ratio_gt f_Ratio_ge f_Ratio_bool f_Ratio_neg f_Ratio_abs f_Ratio_str f_Ratio_add f_Ratio_radd f_Ratio_sub f_Ratio_rsub f_Ratio_mul f_Ratio_rmul f_Ratio_floordiv f_Ratio_rfloordiv f_Ratio_mod f_Ratio_rmod f_Ratio_pow f_Ratio_over f_Ratio_floor f_Ratio_ceiling f_Ratio_whole f_Ratio_sign  : Addr}
abbrev s__law_begin : Stmt := (top 28)
theorem sc__law_begin : FnScope ["_law_script"] ["_law_script"] (defScope s__law_begin) := ⟨rfl, rfl, rfl, by decide +kernel, rfl, by decide +kernel, by decide +kernel⟩
theorem ok__law_begin {f : Addr} {fd : FuncData} (F : FunD K "_law_begin" "_law_begin" (defArgs s__law_begin) (defBody s__law_begin) (defScope s__law_begin) [] [] f fd) (TB : TBl mg) (TR : RT K mg C_Ratio) : FnOk P w K mg base (L2.CX P w) 1 f fd ["_law_script"] (spBegin K) := by
  refine F.ok (CX := L2.CX P w) sc__law_begin (fun vs H Q E h => ?_) (fun cdv A outer s H vs Q E hr h => ?_)
  · obtain ⟨a, ns, rfl, _⟩ := h; rfl
  · obtain ⟨a, ns, rfl, ha, hn, k⟩ := h
    refine ⟨_, (pss_one (ps_ret (pe_disp (pps_cons pe_str (pe_op op_cat (pe_callTy (kc_listof (K := K) rfl) (by rfl) TB.b_list (by decide +kernel) (pa_cons (pe_slice (ksl_l (K := K) rfl) (pv 0) po_none (po_some pe_int)) pa_nil)) (pe_op op_rep (pe_lst (pa_cons pe_int pa_nil)) (pe_callTy kc_int1 (by rfl) TB.b_int (by decide +kernel) (pa_cons (pe_cmpR op_eq (pe_callB (kc_len (K := K) rfl) (by rfl) TB.b_len PySem.boot_len (pa_cons (pv 0) pa_nil)) pe_int (nomark _)) pa_nil)))) (pps_cons pe_str pe_int (pps_cons pe_str pe_int pps_nil))) (by rfl) (by rfl) (fun z => by cases z) (by decide)))), ?_⟩
    have hl : (ns.map V.int).length = ns.length := List.length_map _
    wtm_at "of_rd"
    refine r_disp ?_
    intro p H1 e1 n1 h1
    refine r_pairs ?_
    wtm_at "of_rd"
    refine r_slS (by with_unfolding_all rfl) (e1.seq ha) ?_
    intro p2 H2 e2 n2 h2
    have cu : cutV (ns.map V.int) none (some (63 : Int)) = ns.map V.int := cutV_upto (n := 63) (by rw [hl]; exact hn)
    rw [cu] at h2
    wtm_at "of_rd"
    refine q_listL h2 ?_
    intro p3 H3 e3 n3 h3
    wtm_at "of_rd"
    refine r_laidL (by show 1 ≤ 1000; decide) ?_
    intro p4 H4 e4 n4 h4
    wtm_at "of_rd"
    refine q_lenS (by with_unfolding_all rfl) ((((e1.trans e2).trans e3).trans e4).seq ha) ?_
    wtm_at "of_rd"
    refine r_rep h4 (by split <;> decide) (by split <;> decide) (by show 1 ≤ 1000; decide) ?_
    intro p5 H5 e5 n5 h5
    obtain ⟨ms, hm, hm1, hm2⟩ : ∃ ms : List Int, (List.replicate (if decide ((((ns.map V.int).length : Nat) : Int) = 0) = true then (1 : Int) else 0).toNat [V.int 0]).flatten = ms.map V.int ∧ 0 < ns.length + ms.length ∧ ns.length + ms.length ≤ 63 := by
      by_cases hz : ns = []
      · subst hz; exact ⟨[0], rfl, by decide, by decide⟩
      · have h0 : 0 < ns.length := List.length_pos_iff.mpr hz
        refine ⟨[], ?_, by simpa using h0, by simpa using hn⟩
        rw [decide_eq_false (by rw [hl]; omega)]; rfl
    rw [hm] at h5
    refine r_cat ((e4.trans e5) _ _ h3) h5 (by rw [hl, List.length_map]; omega) ?_
    intro p6 H6 e6 n6 h6
    have hp5 := (((e2.trans e3).trans e4).trans e5) _ _ h1
    have np : p6 ≠ p := fun z => by subst z; rw [hp5] at n6; cases n6
    refine r_pairs ?_
    wtm_at "of_rd"
    refine r_pairs ?_
    wtm_at "of_rd"
    refine r_pairs0 ?_
    refine disp_end (kvs := tpK p6 0 0) (e6 _ _ hp5) (by show 3 ≤ 15; decide) tp_new ?_ rfl
    exact k _ p p6 ((((((e1.trans e2).trans e3).trans e4).trans e5).trans e6).put n1) n1 (none_of ((((e1.trans e2).trans e3).trans e4).trans e5) n6) ⟨0, 0, ns ++ ms, upd_same, by rw [upd_ne np, h6, List.map_append], by rw [List.length_append]; exact hm1, by rw [List.length_append]; exact hm2, Int.le_refl _, Int.le_refl _⟩
abbrev s__law_draw : Stmt := (top 29)
theorem sc__law_draw : FnScope ["_law_tape", "_law_limit", "_law_mixed", "_law_found", "_law_at", "_law_span", "_law_cell"] ["_law_tape", "_law_limit"] (defScope s__law_draw) := ⟨rfl, rfl, rfl, by decide +kernel, rfl, by decide +kernel, by decide +kernel⟩
theorem ok__law_draw {f : Addr} {fd : FuncData} (F : FunD K "_law_draw" "_law_draw" (defArgs s__law_draw) (defBody s__law_draw) (defScope s__law_draw) [] [] f fd) (TB : TBl mg) (TR : RT K mg C_Ratio) : FnOk P w K mg base (L2.CX P w) 1 f fd ["_law_tape", "_law_limit"] (spDraw) := by
  refine F.ok (CX := L2.CX P w) sc__law_draw (fun vs H Q E h => ?_) (fun cdv A outer s H vs Q E hr h => ?_)
  · obtain ⟨p, m, n, rfl, _⟩ := h; rfl
  · obtain ⟨p, m, n, rfl, c, ⟨a, r, ns, h1, h2, h3, h4, h5, h6⟩, hn, hm, hm4, k⟩ := h
    refine ⟨_, (pss_cons (ps_if (pt_cmpR op_lt (pe_dget (hu_of hr) (pv 0) pe_str (fun _ _ => rfl)) (pv 1) (nomark _)) (pss_cons (ps_par (i := 4) (j := 5) rfl sc__law_draw.nd rfl rfl (by decide) rfl rfl (pa_cons (pe_dget (hu_of hr) (pv 0) pe_str (fun _ _ => rfl)) (pa_cons (pe_callB (kc_len (K := K) rfl) (by rfl) TB.b_len PySem.boot_len (pa_cons (pe_dget (hu_of hr) (pv 0) pe_str (fun _ _ => rfl)) pa_nil)) pa_nil)) (by rfl)) (pss_cons (ps_asg (pe_tup (pa_cons (pe_ix (kix_l (K := K) rfl) (pe_dget (hu_of hr) (pv 0) pe_str (fun _ _ => rfl)) (pe_op op_mod (pe_callTy kc_int1 (by rfl) TB.b_int (by decide +kernel) (pa_cons (pv 4) pa_nil)) (pv 5)) (fun _ _ => rfl)) (pa_cons (pe_op op_add (pv 4) pe_int) pa_nil))) (kpg_tup (K := K) 2 rfl rfl (pgs_cons (pg_name (i := 6) sc__law_draw.nd rfl (Or.inl rfl)) (pgs_cons (pg_sub (pv 0) pe_str (set_dict (hu_of hr))) pgs_nil)))) (pss_cons (ps_set (i := 2) sc__law_draw.nd rfl (Or.inl rfl) (pe_op op_add (pe_op op_add (pe_op op_mulA (pe_callTy kc_int1 (by rfl) TB.b_int (by decide +kernel) (pa_cons (pv 6) pa_nil)) pe_int) (pe_op op_mulA (pe_op op_mulA pe_int (pv 4)) (pv 4))) pe_int)) (pss_cons (ps_set (i := 2) sc__law_draw.nd rfl (Or.inl rfl) (pe_op op_mod (pe_callTy kc_int1 (by rfl) TB.b_int (by decide +kernel) (pa_cons (pv 2) pa_nil)) pe_int)) (pss_cons (ps_dput (hu_of hr) (pv 0) pe_str (pe_op op_mod (pe_callTy kc_int1 (by rfl) TB.b_int (by decide +kernel) (pa_cons (pe_op op_add (pe_op op_pow (pv 2) pe_int) (pe_op op_mulA (pe_op op_mulA (pe_op op_mulA pe_int (pv 4)) (pv 2)) (pv 2))) pa_nil)) (pe_op op_add (pe_op op_pow pe_int pe_int) pe_int)) rfl) (pss_one (ps_if (pw_and (pt_cmpR op_ge (pv 6) (pe_op op_pow pe_int pe_int) (nomark _)) (pw_and1 (pt_cmpR op_lt (pv 4) (pv 5) (nomark _)))).pt (pss_one (ps_dput (hu_of hr) (pv 0) pe_str (pe_op op_sub (pv 6) (pe_op op_pow pe_int pe_int)) rfl)) pss_nil))))))) pss_nil) (pss_cons (ps_asg (pe_tup (pa_cons (pe_op op_mod (pe_callTy kc_int1 (by rfl) TB.b_int (by decide +kernel) (pa_cons (pe_dget (hu_of hr) (pv 0) pe_str (fun _ _ => rfl)) pa_nil)) (pv 1)) (pa_cons (pe_op op_fdivW (pe_dget (hu_of hr) (pv 0) pe_str (fun _ _ => rfl)) (pv 1)) pa_nil))) (kpg_tup (K := K) 2 rfl rfl (pgs_cons (pg_name (i := 3) sc__law_draw.nd rfl (Or.inl rfl)) (pgs_cons (pg_sub (pv 0) pe_str (set_dict (hu_of hr))) pgs_nil)))) (pss_one (ps_ret (pv 3))))), ?_⟩
    wtm_at "of_rd"
    refine dAt h1 tp_rest ?_
    wtm_at "of_rd"
    have hc : c ≠ p := ne_of h2 h1 (by intro z; cases z)
    refine ite2 (fun hlt => ?_) (fun hge => ?_)
    · wtm_at "of_rd"
      refine dAt h1 tp_at ?_
      wtm_at "of_rd"
      refine dAt h1 tp_cells ?_
      wtm_at "of_rd"
      refine q_lenL h2 ?_
      wtm_at "of_rd"
      refine dAt h1 tp_cells ?_
      wtm_at "of_rd"
      refine r_I (by rw [List.length_map]; omega) ?_
      obtain ⟨z, hz⟩ := at_mod (a := a) h3
      refine r_iL1 h2 hz ?_
      wtm_at "of_rd"
      refine r_laidT (by show 2 ≤ 1000; decide) ?_
      intro t H1 e1 n1 g1
      have h1' := e1 _ _ h1
      refine r_gTup g1 rfl ?_
      wtm_at "of_rd"
      refine dPut h1' (by show 3 ≤ 1000; decide) tp_putAt ?_
      have L1 : Le H (upd H1 p (.dK (tpK c (a + 1) r))) := e1.le.trans (Le.dict h1')
      have g2 := L1.lst h2
      have a64 : a.natAbs < 2 ^ 64 := by
        have e : (2 : Nat) ^ 64 = 18446744073709551616 := by decide
        omega
      wtm_at "of_rd"
      refine r_I (cmA_r a64) ?_
      wtm_at "of_rd"
      refine r_I (by decide) ?_
      generalize hM : (_ % (2305843009213693907 : Int)) = M
      have M0 : 0 ≤ M := by rw [← hM]; exact Int.emod_nonneg _ (by decide)
      have M1 : M < 2305843009213693907 := by rw [← hM]; exact Int.emod_lt_of_pos _ (by decide)
      have M2 : M.natAbs < 2 ^ 64 := by
        have e : (2 : Nat) ^ 64 = 18446744073709551616 := by decide
        omega
      wtm_at "of_rd"
      refine r_I ⟨by decide, by decide, M2⟩ ?_
      wtm_at "of_rd"
      refine r_I (cmA_r M2) ?_
      wtm_at "of_rd"
      refine r_I (cmA_r M2) ?_
      wtm_at "of_rd"
      refine r_I ⟨by decide, by decide, by decide⟩ ?_
      wtm_at "of_rd"
      refine r_I (by decide) ?_
      generalize (_ % ((10 : Int) ^ (47 : Int).toNat + 9)) = R0
      wtm_at "of_rd"
      refine dPut upd_same (by show 3 ≤ 1000; decide) tp_putRest ?_
      have L2 := L1.trans (Le.dict (o := .dK (tpK c (a + 1) R0)) upd_same)
      wtm_at "of_rd"
      refine r_I ⟨by decide, by decide, by decide⟩ ?_
      wtm_at "of_rd"
      refine ite2 (fun hz => ?_) (fun hz => ?_)
      · wtm_at "of_rd"
        refine ite2 (fun hs => ?_) (fun hs => ?_)
        · wtm_at "of_rd"
          refine r_I ⟨by decide, by decide, by decide⟩ ?_
          wtm_at "of_rd"
          refine dPut upd_same (by show 3 ≤ 1000; decide) tp_putRest ?_
          have L3 := L2.trans (Le.dict (o := .dK (tpK c (a + 1) (z - 10 ^ (18 : Int).toNat))) upd_same)
          wtm_at "of_rd"
          refine dAt upd_same tp_rest ?_
          wtm_at "of_rd"
          refine r_I hm ?_
          wtm_at "of_rd"
          refine dAt upd_same tp_rest ?_
          wtm_at "of_rd"
          refine r_I ⟨hm, PySem.Flt.log2_lt_of (by decide) (pow_mono hm4 (by decide))⟩ ?_
          wtm_at "of_rd"
          refine r_laidT (by show 2 ≤ 1000; decide) ?_
          intro t2 H2 e2 n2 g3
          refine r_gTup g3 rfl ?_
          wtm_at "of_rd"
          refine dPut (e2 _ _ upd_same) (by show 3 ≤ 1000; decide) tp_putRest ?_
          have L9 : ∀ o, Le H (upd H2 p o) := fun o => (L3.trans e2.le).trans (Le.dict (e2 _ _ upd_same))
          wtm_at "of_rd"
          exact k _ _ (L9 _) ⟨a + 1, _, ns, upd_same, (L9 _).lst h2, h3, h4, by omega, by omega⟩ (Int.emod_nonneg _ (by omega)) (Int.emod_lt_of_pos _ hm)
        · wtm_at "of_rd"
          refine dAt upd_same tp_rest ?_
          wtm_at "of_rd"
          refine r_I hm ?_
          wtm_at "of_rd"
          refine dAt upd_same tp_rest ?_
          wtm_at "of_rd"
          refine r_I ⟨hm, PySem.Flt.log2_lt_of (by decide) (pow_mono hm4 (by decide))⟩ ?_
          wtm_at "of_rd"
          refine r_laidT (by show 2 ≤ 1000; decide) ?_
          intro t2 H2 e2 n2 g3
          refine r_gTup g3 rfl ?_
          wtm_at "of_rd"
          refine dPut (e2 _ _ upd_same) (by show 3 ≤ 1000; decide) tp_putRest ?_
          have L9 : ∀ o, Le H (upd H2 p o) := fun o => (L2.trans e2.le).trans (Le.dict (e2 _ _ upd_same))
          wtm_at "of_rd"
          exact k _ _ (L9 _) ⟨a + 1, _, ns, upd_same, (L9 _).lst h2, h3, h4, by omega, by omega⟩ (Int.emod_nonneg _ (by omega)) (Int.emod_lt_of_pos _ hm)
      · wtm_at "of_rd"
        refine dAt upd_same tp_rest ?_
        wtm_at "of_rd"
        refine r_I hm ?_
        wtm_at "of_rd"
        refine dAt upd_same tp_rest ?_
        wtm_at "of_rd"
        refine r_I ⟨hm, PySem.Flt.log2_lt_of (by decide) (pow_mono hm4 (by decide))⟩ ?_
        wtm_at "of_rd"
        refine r_laidT (by show 2 ≤ 1000; decide) ?_
        intro t2 H2 e2 n2 g3
        refine r_gTup g3 rfl ?_
        wtm_at "of_rd"
        refine dPut (e2 _ _ upd_same) (by show 3 ≤ 1000; decide) tp_putRest ?_
        have L9 : ∀ o, Le H (upd H2 p o) := fun o => (L2.trans e2.le).trans (Le.dict (e2 _ _ upd_same))
        wtm_at "of_rd"
        exact k _ _ (L9 _) ⟨a + 1, _, ns, upd_same, (L9 _).lst h2, h3, h4, by omega, by omega⟩ (Int.emod_nonneg _ (by omega)) (Int.emod_lt_of_pos _ hm)
    · wtm_at "of_rd"
      refine dAt h1 tp_rest ?_
      wtm_at "of_rd"
      refine r_I hm ?_
      wtm_at "of_rd"
      refine dAt h1 tp_rest ?_
      wtm_at "of_rd"
      refine r_I ⟨hm, PySem.Flt.log2_lt_of (by decide) (pow_mono hm4 (by decide))⟩ ?_
      wtm_at "of_rd"
      refine r_laidT (by show 2 ≤ 1000; decide) ?_
      intro t H1 e1 n1 g1
      have h1' := e1 _ _ h1
      refine r_gTup g1 rfl ?_
      wtm_at "of_rd"
      refine dPut h1' (by show 3 ≤ 1000; decide) tp_putRest ?_
      have L1 : Le H (upd H1 p (.dK (tpK c a (r / m)))) := e1.le.trans (Le.dict h1')
      wtm_at "of_rd"
      exact k _ _ L1 ⟨a, _, ns, upd_same, L1.lst h2, h3, h4, h5, by omega⟩ (Int.emod_nonneg _ (by omega)) (Int.emod_lt_of_pos _ hm)
abbrev s__law_pick : Stmt := (top 30)
theorem sc__law_pick : FnScope ["_law_tape", "_law_some"] ["_law_tape", "_law_some"] (defScope s__law_pick) := ⟨rfl, rfl, rfl, by decide +kernel, rfl, by decide +kernel, by decide +kernel⟩
theorem ok__law_pick {f : Addr} {fd : FuncData} (F : FunD K "_law_pick" "_law_pick" (defArgs s__law_pick) (defBody s__law_pick) (defScope s__law_pick) [] [] f fd) (TB : TBl mg) (TR : RT K mg C_Ratio) (c__law_draw : Cl P w K mg base 1 "_law_draw" (spDraw)) : FnOk P w K mg base (L2.CX P w) 2 f fd ["_law_tape", "_law_some"] (spPick) := by
  refine F.ok (CX := L2.CX P w) sc__law_pick (fun vs H Q E h => ?_) (fun cdv A outer s H vs Q E hr h => ?_)
  · obtain ⟨p, k, xs, n, rfl, _⟩ := h; rfl
  · obtain ⟨p, k, xs, n, rfl, c, hT, hn, hk, h0, h1, kont⟩ := h
    refine ⟨_, (pss_one (ps_ret (pe_ix (kix_l (K := K) rfl) (pv 1) (pe_cl c__law_draw hr (by decide) (by rfl) psE (pa_cons (pv 0) (pa_cons (pe_callB (kc_len (K := K) rfl) (by rfl) TB.b_len PySem.boot_len (pa_cons (pv 1) pa_nil)) pa_nil))) (fun _ _ => rfl)))), ?_⟩
    wtm_at "of_rd"
    refine q_lenL hk ?_
    wtm_at "of_rd"
    refine ⟨p, _, n, rfl, _, hT, hn, by omega, ?_, ?_⟩
    · rw [Int.natAbs_natCast]
      exact pow_mono (n := 30) (Nat.lt_of_le_of_lt h1 (by decide)) (by decide)
    intro H1 d L1 T1 d0 d1
    obtain ⟨j, rfl⟩ : ∃ j : Nat, d = j := ⟨d.toNat, by omega⟩
    have hj : j < xs.length := by omega
    refine r_iL1 (L1.lst hk) (atI_nat (List.getElem?_eq_getElem hj)) ?_
    exact kont H1 j _ L1 T1 (List.getElem?_eq_getElem hj)
abbrev s__law_ten : Stmt := (top 31)
theorem sc__law_ten : FnScope ["_law_figures"] ["_law_figures"] (defScope s__law_ten) := ⟨rfl, rfl, rfl, by decide +kernel, rfl, by decide +kernel, by decide +kernel⟩
theorem ok__law_ten {f : Addr} {fd : FuncData} (F : FunD K "_law_ten" "_law_ten" (defArgs s__law_ten) (defBody s__law_ten) (defScope s__law_ten) [] [] f fd) (TB : TBl mg) (TR : RT K mg C_Ratio) : FnOk P w K mg base (L2.CX P w) 1 f fd ["_law_figures"] (spTen) := by
  refine F.ok (CX := L2.CX P w) sc__law_ten (fun vs H Q E h => ?_) (fun cdv A outer s H vs Q E hr h => ?_)
  · obtain ⟨f, rfl, _⟩ := h; rfl
  · obtain ⟨f, rfl, hf, k⟩ := h
    refine ⟨_, (pss_one (ps_ret (pe_callTy kc_intS (by rfl) TB.b_int (by decide +kernel) (pa_cons (pe_op kop_addS pe_str (pe_op op_mul_str pe_str (pv 0))) pa_nil)))), ?_⟩
    wtm_at "of_rd"
    refine ⟨_, f, rfl, rfl, by omega, by decide +kernel, ?_⟩
    refine q_addS (by rw [reps_len, show ("1" : Str).length = 1 from by decide +kernel, sizeLine_eq]; omega) ?_
    wtm_at "of_rd"
    exact q_intS (ten_ok hf).1 (ten_ok hf).2 k
abbrev s__law_long : Stmt := (top 32)
theorem sc__law_long : FnScope ["_law_tape", "_law_figures", "_law_found", "_law_k"] ["_law_tape", "_law_figures"] (defScope s__law_long) := ⟨rfl, rfl, rfl, by decide +kernel, rfl, by decide +kernel, by decide +kernel⟩
theorem ok__law_long {f : Addr} {fd : FuncData} (F : FunD K "_law_long" "_law_long" (defArgs s__law_long) (defBody s__law_long) (defScope s__law_long) [] [] f fd) (TB : TBl mg) (TR : RT K mg C_Ratio) (c__law_draw : Cl P w K mg base 1 "_law_draw" (spDraw)) (c__law_ten : Cl P w K mg base 1 "_law_ten" (spTen)) : FnOk P w K mg base (L2.CX P w) 2 f fd ["_law_tape", "_law_figures"] (spNum 40 0 false) := by
  refine F.ok (CX := L2.CX P w) sc__law_long (fun vs H Q E h => ?_) (fun cdv A outer s H vs Q E hr h => ?_)
  · obtain ⟨p, f, n, rfl, _⟩ := h; rfl
  · obtain ⟨p, f, n, rfl, c, hT, hn, hlo, hf, k⟩ := h
    refine ⟨_, (pss_cons (ps_set (i := 2) sc__law_long.nd rfl (Or.inl rfl) pe_int) (pss_cons (ps_for (passes_of rfl) rfl (pi_range1 (by rfl) TB.b_range (pa_cons (pe_op op_fdivW (pe_op op_add (pv 1) pe_int) pe_int) pa_nil)) (pg_name (i := 3) sc__law_long.nd rfl (Or.inl rfl)) (pss_one (ps_set (i := 2) sc__law_long.nd rfl (Or.inl rfl) (pe_op op_add (pe_op op_mulA (pv 2) (pe_op op_pow pe_int pe_int)) (pe_cl c__law_draw hr (by decide) (by rfl) psE (pa_cons (pv 0) (pa_cons (pe_op op_pow pe_int pe_int) pa_nil))))))) (pss_one (ps_ret (pe_op op_mod (pe_callTy kc_int1 (by rfl) TB.b_int (by decide +kernel) (pa_cons (pv 2) pa_nil)) (pe_cl c__law_ten hr (by decide) (by rfl) psE (pa_cons (pv 1) pa_nil))))))), ?_⟩
    wtm_at "of_rd"
    refine r_I ⟨by decide, by decide⟩ ?_
    wtm_at "of_rd"
    refine i_R (n := (f + 14) / 15) (by omega) (by omega) ?_
    refine fR' (fun i σ H' => ∃ (x : Int) (v : Option V), σ = [some (.ref p), some (.int f), some (.int x), v] ∧ Le H H' ∧ Tape H' p c (n + i)) ⟨0, none, rfl, Le.refl H, hT⟩ ?_ ?_
    · rintro i σ H1 hi ⟨x, v, rfl, L1, T1⟩
      wtm_at "of_rd"
      refine r_I ⟨by decide, by decide, by decide⟩ ?_
      wtm_at "of_rd"
      refine r_I ⟨by decide, by decide, by decide⟩ ?_
      wtm_at "of_rd"
      refine ⟨p, _, n + i, rfl, _, T1, by omega, by decide, pow_mono (n := 64) (by decide) (by decide), ?_⟩
      intro H2 d L2 T2 d0 d1
      wtm_at "of_rd"
      exact ⟨_, _, rfl, L1.trans L2, T2⟩
    · rintro σ H1 ⟨x, v, rfl, L1, T1⟩
      wtm_at "of_rd"
      refine ⟨f, rfl, by omega, ?_⟩
      have hp : (0 : Int) < ((10 ^ f : Nat) : Int) := by
        have := Nat.pow_pos (n := f) (show 0 < 10 by decide)
        omega
      refine r_I hp ?_
      have m0 := Int.emod_nonneg x (show ((10 ^ f : Nat) : Int) ≠ 0 by omega)
      have m1 := Int.emod_lt_of_pos x hp
      exact k H1 _ L1 (T1.mono (by omega)) (fun _ => m0) (by omega)
abbrev s__law_size : Stmt := (top 33)
theorem sc__law_size : FnScope ["_law_tape", "_law_figures", "_law_sort"] ["_law_tape", "_law_figures"] (defScope s__law_size) := ⟨rfl, rfl, rfl, by decide +kernel, rfl, by decide +kernel, by decide +kernel⟩
theorem ok__law_size {f : Addr} {fd : FuncData} (F : FunD K "_law_size" "_law_size" (defArgs s__law_size) (defBody s__law_size) (defScope s__law_size) [] [] f fd) (TB : TBl mg) (TR : RT K mg C_Ratio) (c__law_draw : Cl P w K mg base 1 "_law_draw" (spDraw)) (c__law_ten : Cl P w K mg base 1 "_law_ten" (spTen)) (c__law_long : Cl P w K mg base 2 "_law_long" (spNum 40 0 false)) : FnOk P w K mg base (L2.CX P w) 3 f fd ["_law_tape", "_law_figures"] (spNum 50 2 false) := by
  refine F.ok (CX := L2.CX P w) sc__law_size (fun vs H Q E h => ?_) (fun cdv A outer s H vs Q E hr h => ?_)
  · obtain ⟨p, f, n, rfl, _⟩ := h; rfl
  · obtain ⟨p, f, n, rfl, c, hT, hn, hlo, hf, k⟩ := h
    refine ⟨_, (pss_cons (ps_set (i := 2) sc__law_size.nd rfl (Or.inl rfl) (pe_cl c__law_draw hr (by decide) (by rfl) psE (pa_cons (pv 0) (pa_cons pe_int pa_nil)))) (pss_cons (ps_if (pt_cmpR op_lt (pv 2) pe_int (nomark _)) (pss_one (ps_ret (pe_cl c__law_draw hr (by decide) (by rfl) psE (pa_cons (pv 0) (pa_cons (pe_ix (kix_l (K := K) rfl) (pe_lst (pa_cons pe_int (pa_cons pe_int (pa_cons pe_int pa_nil)))) (pv 2) (fun _ _ => rfl)) pa_nil))))) pss_nil) (pss_cons (ps_if (pt_cmpR op_eq (pv 2) pe_int (nomark _)) (pss_one (ps_ret (pe_cl c__law_long hr (by decide) (by rfl) psE (pa_cons (pv 0) (pa_cons (pe_op op_add pe_int (pe_cl c__law_draw hr (by decide) (by rfl) psE (pa_cons (pv 0) (pa_cons (pv 1) pa_nil)))) pa_nil))))) pss_nil) (pss_cons (ps_if (pt_cmpR op_eq (pv 2) pe_int (nomark _)) (pss_one (ps_ret (pe_cl c__law_long hr (by decide) (by rfl) psE (pa_cons (pv 0) (pa_cons (pv 1) pa_nil))))) pss_nil) (pss_one (ps_ret (pe_callB (kc_max rfl) (by rfl) TB.b_max (by decide +kernel) (pa_cons pe_int (pa_cons (pe_op op_sub (pe_op op_sub (pe_cl c__law_ten hr (by decide) (by rfl) psE (pa_cons (pe_op op_add pe_int (pe_cl c__law_draw hr (by decide) (by rfl) psE (pa_cons (pv 0) (pa_cons (pv 1) pa_nil)))) pa_nil)) (pe_cl c__law_draw hr (by decide) (by rfl) psE (pa_cons (pv 0) (pa_cons pe_int pa_nil)))) pe_int) pa_nil))))))))), ?_⟩
    have p90 : 90 < 10 ^ f := Nat.lt_of_lt_of_le (by decide : 90 < 10 ^ 2) (Nat.pow_le_pow_right (by decide) hlo)
    have sm : ∀ m : Int, m.natAbs < 2 ^ 64 → m.natAbs < 2 ^ 4000 := fun m h => pow_mono h (by decide)
    have e64 : (2 : Nat) ^ 64 = 18446744073709551616 := by decide
    wtm_at "of_rd"
    refine ⟨p, 6, n, rfl, _, hT, by omega, by decide, sm _ (by decide), ?_⟩
    intro H1 d L1 T1 d0 d1
    wtm_at "of_rd"
    refine ite2 (fun h3 => ?_) (fun h3 => ?_)
    · wtm_at "of_rd"
      refine r_laidL (by show 3 ≤ 1000; decide) ?_
      intro l H2 e2 n2 h2
      wtm_at "of_rd"
      obtain ⟨j, rfl⟩ : ∃ j : Nat, d = j := ⟨d.toNat, by omega⟩
      obtain ⟨z, hz, z0, z1⟩ : ∃ z : Int, ([V.int 5, V.int 13, V.int 90])[j]? = some (V.int z) ∧ 0 < z ∧ z ≤ 90 := by
        match j, h3 with
        | 0, _ => exact ⟨5, rfl, by decide, by decide⟩
        | 1, _ => exact ⟨13, rfl, by decide, by decide⟩
        | 2, _ => exact ⟨90, rfl, by decide, by decide⟩
        | j + 3, h => omega
      refine r_iL1 h2 (atI_nat hz) ?_
      wtm_at "of_rd"
      refine ⟨p, z, n + 1, rfl, _, T1.ex e2, by omega, z0, sm _ (by omega), ?_⟩
      intro H3 d' L3 T3 c0 c1
      exact k H3 d' ((L1.trans e2.le).trans L3) (T3.mono (by omega)) (fun _ => c0) (by omega)
    · wtm_at "of_rd"
      refine ite2 (fun h4 => ?_) (fun h4 => ?_)
      · wtm_at "of_rd"
        refine ⟨p, f, n + 1, rfl, _, T1, by omega, by omega, sm _ (by omega), ?_⟩
        intro H2 d2 L2 T2 c0 c1
        wtm_at "of_rd"
        obtain ⟨j, rfl⟩ : ∃ j : Nat, d2 = j := ⟨d2.toNat, by omega⟩
        refine ⟨p, 1 + j, n + 2, by rw [show (1 : Int) + (j : Int) = ((1 + j : Nat) : Int) from by omega], _, T2, by omega, by omega, by omega, ?_⟩
        intro H3 d3 L3 T3 b0 b1
        exact k H3 d3 ((L1.trans L2).trans L3) (T3.mono (by omega)) b0 (Nat.lt_of_lt_of_le b1 (Nat.pow_le_pow_right (by decide) (by omega)))
      · wtm_at "of_rd"
        refine ite2 (fun h5 => ?_) (fun h5 => ?_)
        · wtm_at "of_rd"
          refine ⟨p, f, n + 1, rfl, _, T1, by omega, by omega, hf, ?_⟩
          intro H3 d3 L3 T3 b0 b1
          exact k H3 d3 (L1.trans L3) (T3.mono (by omega)) b0 b1
        · wtm_at "of_rd"
          refine ⟨p, f, n + 1, rfl, _, T1, by omega, by omega, sm _ (by omega), ?_⟩
          intro H2 d2 L2 T2 c0 c1
          wtm_at "of_rd"
          obtain ⟨j, rfl⟩ : ∃ j : Nat, d2 = j := ⟨d2.toNat, by omega⟩
          refine ⟨1 + j, by rw [show (1 : Int) + (j : Int) = ((1 + j : Nat) : Int) from by omega], by omega, ?_⟩
          wtm_at "of_rd"
          refine ⟨p, 4, n + 2, rfl, _, T2, by omega, by decide, sm _ (by decide), ?_⟩
          intro H3 d3 L3 T3 b0 b1
          wtm_at "of_rd"
          refine q_max ?_
          have pj : 10 ^ (1 + j) ≤ 10 ^ f := Nat.pow_le_pow_right (by decide) (by omega)
          have pp : 0 < 10 ^ (1 + j) := Nat.pow_pos (by decide)
          exact k H3 _ ((L1.trans L2).trans L3) (T3.mono (by omega)) (fun _ => by omega) (by omega)
abbrev s__law_number : Stmt := (top 34)
theorem sc__law_number : FnScope ["_law_tape", "_law_figures", "_law_found"] ["_law_tape", "_law_figures"] (defScope s__law_number) := ⟨rfl, rfl, rfl, by decide +kernel, rfl, by decide +kernel, by decide +kernel⟩
theorem ok__law_number {f : Addr} {fd : FuncData} (F : FunD K "_law_number" "_law_number" (defArgs s__law_number) (defBody s__law_number) (defScope s__law_number) [] [] f fd) (TR : RT K mg C_Ratio) (c__law_draw : Cl P w K mg base 1 "_law_draw" (spDraw)) (c__law_size : Cl P w K mg base 3 "_law_size" (spNum 50 2 false)) : FnOk P w K mg base (L2.CX P w) 4 f fd ["_law_tape", "_law_figures"] (spNum 51 2 true) := by
  refine F.ok (CX := L2.CX P w) sc__law_number (fun vs H Q E h => ?_) (fun cdv A outer s H vs Q E hr h => ?_)
  · obtain ⟨p, f, n, rfl, _⟩ := h; rfl
  · obtain ⟨p, f, n, rfl, c, hT, hn, hlo, hf, k⟩ := h
    refine ⟨_, (pss_cons (ps_set (i := 2) sc__law_number.nd rfl (Or.inl rfl) (pe_cl c__law_size hr (by decide) (by rfl) psE (pa_cons (pv 0) (pa_cons (pv 1) pa_nil)))) (pss_one (ps_ret (pe_ifExp (pt_tr (pe_cl c__law_draw hr (by decide) (by rfl) psE (pa_cons (pv 0) (pa_cons pe_int pa_nil))) (ktru (K := K) rfl) (fun _ => rfl)) (pe_un un_neg (pv 2)) (pv 2))))), ?_⟩
    wtm_at "of_rd"
    refine ⟨p, f, n, rfl, _, hT, by omega, hlo, hf, ?_⟩
    intro H1 d L1 T1 d0 d1
    wtm_at "of_rd"
    refine ⟨p, 2, n + 50, rfl, _, T1, by omega, by decide, pow_mono (n := 64) (by decide) (by decide), ?_⟩
    intro H2 e L2 T2 c0 c1
    refine q_truI ?_
    refine ite2 (fun h => ?_) (fun h => ?_)
    · wtm_at "of_rd"
      exact k H2 _ (L1.trans L2) (T2.mono (by omega)) (fun z => by cases z) (by omega)
    · wtm_at "of_rd"
      exact k H2 _ (L1.trans L2) (T2.mono (by omega)) (fun z => by cases z) d1
abbrev s__law_gcd : Stmt := (top 35)
theorem sc__law_gcd : FnScope ["_law_one", "_law_other", "_law_k"] ["_law_one", "_law_other"] (defScope s__law_gcd) := ⟨rfl, rfl, rfl, by decide +kernel, rfl, by decide +kernel, by decide +kernel⟩
theorem ok__law_gcd {f : Addr} {fd : FuncData} (F : FunD K "_law_gcd" "_law_gcd" (defArgs s__law_gcd) (defBody s__law_gcd) (defScope s__law_gcd) [] [] f fd) (TB : TBl mg) (TR : RT K mg C_Ratio) : FnOk P w K mg base (L2.CX P w) 1 f fd ["_law_one", "_law_other"] (spII (fun a b => ((Int.gcd a b : Nat) : Int))) := by
  refine F.ok (CX := L2.CX P w) sc__law_gcd (fun vs H Q E h => ?_) (fun cdv A outer s H vs Q E hr h => ?_)
  · obtain ⟨a, b, rfl, _⟩ := h; rfl
  · obtain ⟨a, b, rfl, ha, hb, k⟩ := h
    refine ⟨_, (pss_cons (ps_par (i := 0) (j := 1) rfl sc__law_gcd.nd rfl rfl (by decide) rfl rfl (pa_cons (pe_callB kc_abs (by rfl) TB.b_abs (by decide +kernel) (pa_cons (pv 0) pa_nil)) (pa_cons (pe_callB kc_abs (by rfl) TB.b_abs (by decide +kernel) (pa_cons (pv 1) pa_nil)) pa_nil)) (by rfl)) (pss_cons (ps_for (passes_of rfl) rfl (pi_range1 (by rfl) TB.b_range (pa_cons (pe_op op_pow pe_int pe_int) pa_nil)) (pg_name (i := 2) sc__law_gcd.nd rfl (Or.inl rfl)) (pss_cons (ps_if (pt_cmpR op_eq (pv 1) pe_int (nomark _)) (pss_one ps_break) pss_nil) (pss_one (ps_par (i := 0) (j := 1) rfl sc__law_gcd.nd rfl rfl (by decide) rfl rfl (pa_cons (pv 1) (pa_cons (pe_op op_mod (pe_callTy kc_int1 (by rfl) TB.b_int (by decide +kernel) (pa_cons (pv 0) pa_nil)) (pv 1)) pa_nil)) (by rfl))))) (pss_one (ps_ret (pv 0))))), ?_⟩
    wtm_at "of_rd"
    refine q_abs ?_
    wtm_at "of_rd"
    refine q_abs ?_
    wtm_at "of_rd"
    refine r_I ⟨by decide, by decide, by decide⟩ ?_
    wtm_at "of_rd"
    refine i_R (n := 1000000) (by decide) (by decide) ?_
    refine fR' (fun i σ H' => ∃ (u l : Nat) (v : Option V), σ = [some (nat u), some (nat l), v] ∧ H' = H ∧ Euc a.natAbs b.natAbs i u l) ⟨_, _, none, rfl, rfl, rfl, .inl ⟨rfl, rfl, rfl⟩⟩ ?_ ?_
    · rintro i σ H1 hi ⟨u, l, v, rfl, rfl, e⟩
      wtm_at "of_rd"
      refine ite2 (fun h => ?_) (fun h => ?_)
      · have hl : l = 0 := by omega
        subst hl
        have := e.g
        rw [Nat.gcd_zero_right] at this
        refine r_break ?_
        wtm_at "of_rd"
        rw [this]; exact k
      · wtm_at "of_rd"
        refine r_I (by omega) ?_
        wtm_at "of_rd"
        rw [show ((u : Int) % (l : Int)) = ((u % l : Nat) : Int) from (Int.natCast_emod u l).symm]
        exact ⟨l, u % l, _, rfl, rfl, e.step (by omega)⟩
    · rintro σ H1 ⟨u, l, v, rfl, rfl, e⟩
      have hl := e.done ha hb
      subst hl
      have := e.g
      rw [Nat.gcd_zero_right] at this
      wtm_at "of_rd"
      rw [this]; exact k
abbrev s__law_whole_is : Stmt := (top 36)
theorem sc__law_whole_is : FnScope ["_law_value", "_law_due"] ["_law_value", "_law_due"] (defScope s__law_whole_is) := ⟨rfl, rfl, rfl, by decide +kernel, rfl, by decide +kernel, by decide +kernel⟩
theorem ok__law_whole_is {f : Addr} {fd : FuncData} (F : FunD K "_law_whole_is" "_law_whole_is" (defArgs s__law_whole_is) (defBody s__law_whole_is) (defScope s__law_whole_is) [] [] f fd) (TB : TBl mg) (TR : RT K mg C_Ratio) : FnOk P w K mg base (L2.CX P w) 1 f fd ["_law_value", "_law_due"] (spWhole K) := by
  refine F.ok (CX := L2.CX P w) sc__law_whole_is (fun vs H Q E h => ?_) (fun cdv A outer s H vs Q E hr h => ?_)
  · obtain ⟨a, b, rfl, _⟩ := h; rfl
  · obtain ⟨a, b, rfl, k⟩ := h
    refine ⟨_, (pss_one (ps_ret (pe_and (pe_callB (kc_isi (K := K) rfl) (by rfl) TB.b_isinstance (by decide +kernel) (pa_cons (pv 0) (pa_cons (pe_bltn (v := .ty "int") (u := .type "int") (by rfl) TB.b_int (by decide +kernel) rfl) pa_nil))) (pe_and (pe_not (pe_callB (kc_isi (K := K) rfl) (by rfl) TB.b_isinstance (by decide +kernel) (pa_cons (pv 0) (pa_cons (pe_bltn (v := .ty "bool") (u := .type "bool") (by rfl) TB.b_bool (by decide +kernel) rfl) pa_nil)))) (pe_one (pe_cmpR op_eq (pv 0) (pv 1) (nomark _))))))), ?_⟩
    wtm_at "of_rd"
    refine r_isi (.ty _) tyI ki_ii ?_
    wtm_at "of_rd"
    refine r_isi (.ty _) tyI ki_ib ?_
    wtm_at "of_rd"
    exact k
abbrev s__law_ratio_is : Stmt := (top 37)
theorem sc__law_ratio_is : FnScope ["_law_value", "_law_top", "_law_bottom"] ["_law_value", "_law_top", "_law_bottom"] (defScope s__law_ratio_is) := ⟨rfl, rfl, rfl, by decide +kernel, rfl, by decide +kernel, by decide +kernel⟩
theorem ok__law_ratio_is {f : Addr} {fd : FuncData} (F : FunD K "_law_ratio_is" "_law_ratio_is" (defArgs s__law_ratio_is) (defBody s__law_ratio_is) (defScope s__law_ratio_is) [] [] f fd) (g_Ratio : mg "Ratio" = some (.ref C_Ratio)) (TB : TBl mg) (TR : RT K mg C_Ratio) (c__law_gcd : Cl P w K mg base 1 "_law_gcd" (spII (fun a b => ((Int.gcd a b : Nat) : Int)))) (c__law_whole_is : Cl P w K mg base 1 "_law_whole_is" (spWhole K)) : FnOk P w K mg base (L2.CX P w) 2 f fd ["_law_value", "_law_top", "_law_bottom"] (spRatioIs C_Ratio) := by
  refine F.ok (CX := L2.CX P w) sc__law_ratio_is (fun vs H Q E h => ?_) (fun cdv A outer s H vs Q E hr h => ?_)
  · obtain ⟨p, q, t, b, rfl, _⟩ := h; rfl
  · obtain ⟨p, q, t, b, rfl, hp, hq, ht, hb, k⟩ := h
    refine ⟨_, (pss_cons (ps_if (pw_or (pt_not (pt_val (pe_callB (kc_isi (K := K) rfl) (by rfl) TB.b_isinstance (by decide +kernel) (pa_cons (pv 0) (pa_cons (pe_glob (v := .ref C_Ratio) (by rfl) g_Ratio rfl) pa_nil))))) (pw_or (pt_not (pt_val (pe_cl c__law_whole_is hr (by decide) (by rfl) psE (pa_cons (kfld (K := K) rfl (pv 0) rfl) (pa_cons (kfld (K := K) rfl (pv 0) rfl) pa_nil))))) (pw_or1 (pt_cmpR op_lt (kfld (K := K) rfl (pv 0) rfl) pe_int (nomark _))))).pt (pss_one (ps_ret pe_bl)) pss_nil) (pss_cons (ps_if (pw_or (pt_not (pt_val (pe_cl c__law_whole_is hr (by decide) (by rfl) psE (pa_cons (kfld (K := K) rfl (pv 0) rfl) (pa_cons (kfld (K := K) rfl (pv 0) rfl) pa_nil))))) (pw_or1 (pt_cmpR op_ne (pe_cl c__law_gcd hr (by decide) (by rfl) psE (pa_cons (kfld (K := K) rfl (pv 0) rfl) (pa_cons (kfld (K := K) rfl (pv 0) rfl) pa_nil))) pe_int (nomark _)))).pt (pss_one (ps_ret pe_bl)) pss_nil) (pss_one (ps_ret (pe_cmpR op_eq (pe_op op_mulA (kfld (K := K) rfl (pv 0) rfl) (pv 2)) (pe_op op_mulA (pv 1) (kfld (K := K) rfl (pv 0) rfl)) (nomark _)))))), ?_⟩
    wtm_at "of_rd"
    refine r_isi (.own _) (hp.tyx TR) kit_self ?_
    wtm_at "of_rd"
    refine ⟨_, _, rfl, ?_⟩
    rw [decide_eq_true rfl]
    wtm_at "of_rd"
    rw [decide_eq_false (by have := den_pos q; omega)]
    wtm_at "of_rd"
    refine ⟨_, _, rfl, ?_⟩
    rw [decide_eq_true rfl]
    wtm_at "of_rd"
    refine ⟨_, _, rfl, hq.n, hq.d, ?_⟩
    wtm_at "of_rd"
    have hg : ((Int.gcd q.num (q.den : Int) : Nat) : Int) = 1 := by
      have := q.reduced
      show ((Nat.gcd q.num.natAbs ((q.den : Int)).natAbs : Nat) : Int) = 1
      rw [Int.natAbs_natCast]; exact_mod_cast this
    refine iteN hg ?_
    wtm_at "of_rd"
    exact k
end
end
section
open PySem PySem.Spec PyProof.Rows L2 He
section
variable {P : Program} {w : World} {K : PySem.W.Frag} {mg : Str → Option Value} {base : Heap} {C_Ratio C_BadNumber C_NoSuch f_Ratio_eq f_Ratio_lt f_Ratio_le f_Ratio_gt f_Ratio_ge f_Ratio_bool f_Ratio_neg f_Ratio_abs f_Ratio_str f_Ratio_add f_Ratio_radd f_Ratio_sub f_Ratio_rsub f_Ratio_mul f_Ratio_rmul f_Ratio_floordiv f_Ratio_rfloordiv f_Ratio_mod f_Ratio_rmod f_Ratio_pow f_Ratio_over f_Ratio_floor f_Ratio_ceiling f_Ratio_whole f_Ratio_sign  : Addr}
abbrev s__law_divisors_right : Stmt := (top 38)
theorem sc__law_divisors_right : FnScope ["_law_one", "_law_other", "_law_common", "_law_made"] ["_law_one", "_law_other"] (defScope s__law_divisors_right) := ⟨rfl, rfl, rfl, by decide +kernel, rfl, by decide +kernel, by decide +kernel⟩
theorem ok__law_divisors_right {f : Addr} {fd : FuncData} (F : FunD K "_law_divisors_right" "_law_divisors_right" (defArgs s__law_divisors_right) (defBody s__law_divisors_right) (defScope s__law_divisors_right) [] [] f fd) (TB : TBl mg) (TR : RT K mg C_Ratio) (c_gcd_of : Cl P w K mg base 1 "gcd_of" (spII (fun a b => ((Int.gcd a b : Nat) : Int)))) (c_lcm_of : Cl P w K mg base 1 "lcm_of" (spII (fun a b => ((Int.lcm a b : Nat) : Int)))) (c_bezout : Cl P w K mg base 1 "bezout" (spBez)) (c__law_gcd : Cl P w K mg base 1 "_law_gcd" (spII (fun a b => ((Int.gcd a b : Nat) : Int)))) (c__law_whole_is : Cl P w K mg base 1 "_law_whole_is" (spWhole K)) : FnOk P w K mg base (L2.CX P w) 2 f fd ["_law_one", "_law_other"] (spDiv) := by
  refine F.ok (CX := L2.CX P w) sc__law_divisors_right (fun vs H Q E h => ?_) (fun cdv A outer s H vs Q E hr h => ?_)
  · obtain ⟨a, b, rfl, _⟩ := h; rfl
  · obtain ⟨a, b, rfl, ha, hb, k⟩ := h
    refine ⟨_, (pss_cons (ps_par (i := 2) (j := 3) rfl sc__law_divisors_right.nd rfl rfl (by decide) rfl rfl (pa_cons (pe_cl c__law_gcd hr (by decide) (by rfl) psE (pa_cons (pv 0) (pa_cons (pv 1) pa_nil))) (pa_cons (pe_cl c_bezout hr (by decide) (by rfl) psE (pa_cons (pv 0) (pa_cons (pv 1) pa_nil))) pa_nil)) (by rfl)) (pss_cons (ps_if (pw_or (pt_not (pt_val (pe_cl c__law_whole_is hr (by decide) (by rfl) psE (pa_cons (pe_cl c_gcd_of hr (by decide) (by rfl) psE (pa_cons (pv 0) (pa_cons (pv 1) pa_nil))) (pa_cons (pv 2) pa_nil))))) (pw_or (pt_not (pt_val (pe_callB (kc_isi (K := K) rfl) (by rfl) TB.b_isinstance (by decide +kernel) (pa_cons (pv 3) (pa_cons (pe_bltn (v := .ty "tuple") (u := .type "tuple") (by rfl) TB.b_tuple (by decide +kernel) rfl) pa_nil))))) (pw_or1 (pt_cmpR op_ne (pe_callB (kc_len (K := K) rfl) (by rfl) TB.b_len PySem.boot_len (pa_cons (pv 3) pa_nil)) pe_int (nomark _))))).pt (pss_one (ps_ret pe_bl)) pss_nil) (pss_cons (ps_if (pw_or (pt_not (pt_val (pe_cl c__law_whole_is hr (by decide) (by rfl) psE (pa_cons (pe_ix (kix_t (K := K) rfl) (pv 3) pe_int (fun _ _ => rfl)) (pa_cons (pv 2) pa_nil))))) (pw_or1 (pt_cmpR op_ne (pe_op op_add (pe_op op_mulA (pe_ix (kix_t (K := K) rfl) (pv 3) pe_int (fun _ _ => rfl)) (pv 0)) (pe_op op_mulA (pe_ix (kix_t (K := K) rfl) (pv 3) pe_int (fun _ _ => rfl)) (pv 1))) (pv 2) (nomark _)))).pt (pss_one (ps_ret pe_bl)) pss_nil) (pss_cons (ps_if (pw_or (pt_not (pt_val (pe_cl c__law_whole_is hr (by decide) (by rfl) psE (pa_cons (pe_ix (kix_t (K := K) rfl) (pv 3) pe_int (fun _ _ => rfl)) (pa_cons (pe_ix (kix_t (K := K) rfl) (pv 3) pe_int (fun _ _ => rfl)) pa_nil))))) (pw_or1 (pt_not (pt_val (pe_cl c__law_whole_is hr (by decide) (by rfl) psE (pa_cons (pe_ix (kix_t (K := K) rfl) (pv 3) pe_int (fun _ _ => rfl)) (pa_cons (pe_ix (kix_t (K := K) rfl) (pv 3) pe_int (fun _ _ => rfl)) pa_nil))))))).pt (pss_one (ps_ret pe_bl)) pss_nil) (pss_cons (ps_if (pw_or (pt_cmpR op_eq (pv 0) pe_int (nomark _)) (pw_or1 (pt_cmpR op_eq (pv 1) pe_int (nomark _)))).pt (pss_one (ps_ret (pe_cl c__law_whole_is hr (by decide) (by rfl) psE (pa_cons (pe_cl c_lcm_of hr (by decide) (by rfl) psE (pa_cons (pv 0) (pa_cons (pv 1) pa_nil))) (pa_cons pe_int pa_nil))))) pss_nil) (pss_one (ps_ret (pe_cl c__law_whole_is hr (by decide) (by rfl) psE (pa_cons (pe_cl c_lcm_of hr (by decide) (by rfl) psE (pa_cons (pv 0) (pa_cons (pv 1) pa_nil))) (pa_cons (pe_op op_mulA (pe_op op_fdivZ (pe_callB kc_abs (by rfl) TB.b_abs (by decide +kernel) (pa_cons (pv 0) pa_nil)) (pv 2)) (pe_callB kc_abs (by rfl) TB.b_abs (by decide +kernel) (pa_cons (pv 1) pa_nil))) pa_nil)))))))))), ?_⟩
    have p0 : (0 : Nat) < 2 ^ 4000 := Nat.two_pow_pos _
    wtm_at "of_rd"
    refine ⟨a, b, rfl, ha, hb, ?_⟩
    wtm_at "of_rd"
    refine ⟨a, b, rfl, ha, hb, ?_⟩
    intro H1 p s t e1 n1 h1 heq bs bt
    wtm_at "of_rd"
    refine ⟨a, b, rfl, ha, hb, ?_⟩
    wtm_at "of_rd"
    refine ⟨_, _, rfl, ?_⟩
    wtm_at "of_rd"
    refine iteN rfl ?_
    wtm_at "of_rd"
    refine r_isi (.ty _) (tyT h1) kit_self ?_
    wtm_at "of_rd"
    refine q_lenT h1 ?_
    wtm_at "of_rd"
    refine iteN rfl ?_
    wtm_at "of_rd"
    refine r_iT1 h1 (atI_nat (j := 0) rfl) ?_
    wtm_at "of_rd"
    refine ⟨_, _, rfl, ?_⟩
    wtm_at "of_rd"
    refine iteN rfl ?_
    wtm_at "of_rd"
    refine r_iT1 h1 (atI_nat (j := 1) rfl) ?_
    wtm_at "of_rd"
    refine r_I (cmA_w bs ha (by decide)) ?_
    wtm_at "of_rd"
    refine r_iT1 h1 (atI_nat (j := 2) rfl) ?_
    wtm_at "of_rd"
    refine r_I (cmA_w bt hb (by decide)) ?_
    wtm_at "of_rd"
    refine iteN heq ?_
    wtm_at "of_rd"
    refine r_iT1 h1 (atI_nat (j := 1) rfl) ?_
    wtm_at "of_rd"
    refine r_iT1 h1 (atI_nat (j := 1) rfl) ?_
    wtm_at "of_rd"
    refine ⟨_, _, rfl, ?_⟩
    wtm_at "of_rd"
    refine iteN rfl ?_
    wtm_at "of_rd"
    refine r_iT1 h1 (atI_nat (j := 2) rfl) ?_
    wtm_at "of_rd"
    refine r_iT1 h1 (atI_nat (j := 2) rfl) ?_
    wtm_at "of_rd"
    refine ⟨_, _, rfl, ?_⟩
    wtm_at "of_rd"
    refine iteN rfl ?_
    wtm_at "of_rd"
    have fin : ∀ c d : Int, c = d → Q (.bl (decide (c = d))) H1 := fun c d e => by rw [decide_eq_true e]; exact k H1 e1
    refine ite2 (fun h0 => ?_) (fun h0 => ?_)
    · wtm_at "of_rd"
      refine ⟨a, b, rfl, ha, hb, ?_⟩
      refine ⟨_, _, rfl, ?_⟩
      refine fin _ _ ?_
      subst h0
      show ((Int.lcm 0 b : Nat) : Int) = 0
      rw [Int.lcm_zero_left]; rfl
    · wtm_at "of_rd"
      refine ite2 (fun h0 => ?_) (fun h0 => ?_)
      · wtm_at "of_rd"
        refine ⟨a, b, rfl, ha, hb, ?_⟩
        refine ⟨_, _, rfl, ?_⟩
        refine fin _ _ ?_
        subst h0
        show ((Int.lcm a 0 : Nat) : Int) = 0
        rw [Int.lcm_zero_right]; rfl
      · wtm_at "of_rd"
        refine ⟨a, b, rfl, ha, hb, ?_⟩
        wtm_at "of_rd"
        refine q_abs ?_
        have gp : Int.gcd a b ≠ 0 := Int.gcd_ne_zero_right h0
        wtm_at "of_rd"
        refine r_I (C := CDivZ) ⟨?_, ?_⟩ ?_
        · show ((Int.gcd a b : Nat) : Int) ≠ 0
          omega
        · show ((Int.gcd a b : Nat) : Int).natAbs < _
          rw [Int.natAbs_natCast]; exact Nat.lt_of_le_of_lt (gcd_le h0) (pow_mono hb (by decide))
        wtm_at "of_rd"
        refine q_abs ?_
        refine r_I (cmA_w (n := 4000) (m := 4000) ?_ ?_ (by decide)) ?_
        · show ((a.natAbs : Int).fdiv ((Int.gcd a b : Nat) : Int)).natAbs < _
          rw [Int.fdiv_eq_ediv_of_nonneg _ (by omega), ← Int.natCast_ediv, Int.natAbs_natCast]
          exact Nat.lt_of_le_of_lt (Nat.div_le_self _ _) ha
        · rw [Int.natAbs_natCast]; exact hb
        wtm_at "of_rd"
        refine ⟨_, _, rfl, ?_⟩
        exact fin _ _ lcm_eq
abbrev s__law_near : Stmt := (top 39)
theorem sc__law_near : FnScope ["_law_tape", "_law_known", "_law_factor", "_law_top", "_law_bottom"] ["_law_tape", "_law_known"] (defScope s__law_near) := ⟨rfl, rfl, rfl, by decide +kernel, rfl, by decide +kernel, by decide +kernel⟩
theorem ok__law_near {f : Addr} {fd : FuncData} (F : FunD K "_law_near" "_law_near" (defArgs s__law_near) (defBody s__law_near) (defScope s__law_near) [] [] f fd) (TR : RT K mg C_Ratio) (c__law_draw : Cl P w K mg base 1 "_law_draw" (spDraw)) (c__law_pick : Cl P w K mg base 2 "_law_pick" (spPick)) (c__law_size : Cl P w K mg base 3 "_law_size" (spNum 50 2 false)) (c__law_number : Cl P w K mg base 4 "_law_number" (spNum 51 2 true)) : FnOk P w K mg base (L2.CX P w) 5 f fd ["_law_tape", "_law_known"] (spNear) := by
  refine F.ok (CX := L2.CX P w) sc__law_near (fun vs H Q E h => ?_) (fun cdv A outer s H vs Q E hr h => ?_)
  · obtain ⟨p, l, rs, n, N, rfl, _⟩ := h; rfl
  · obtain ⟨p, l, rs, n, N, rfl, c, hT, hn, ⟨xs, hl, hx⟩, hlen, hN1, hN2, hb, k⟩ := h
    refine ⟨_, (pss_cons (ps_if (pw_and (pt_cmpR (kop_neD (K := K) rfl (hu_of64 hr)) (pv 1) (pe_lst pa_nil) (nomark _)) (pw_and1 (pt_cmpR op_eq (pe_cl c__law_draw hr (by decide) (by rfl) psE (pa_cons (pv 0) (pa_cons pe_int pa_nil))) pe_int (nomark _)))).pt (pss_cons (ps_asg (pe_cl c__law_pick hr (by decide) (by rfl) psE (pa_cons (pv 0) (pa_cons (pv 1) pa_nil))) (kpg_tup (K := K) 2 rfl rfl (pgs_cons (pg_name (i := 3) sc__law_near.nd rfl (Or.inl rfl)) (pgs_cons (pg_name (i := 4) sc__law_near.nd rfl (Or.inl rfl)) pgs_nil)))) (pss_cons (ps_set (i := 2) sc__law_near.nd rfl (Or.inl rfl) (pe_op op_add pe_int (pe_cl c__law_draw hr (by decide) (by rfl) psE (pa_cons (pv 0) (pa_cons pe_int pa_nil))))) (pss_one (ps_ret (pe_tup (pa_cons (pe_op op_sub (pe_op op_add (pe_op op_mulA (pv 3) (pv 2)) (pe_cl c__law_draw hr (by decide) (by rfl) psE (pa_cons (pv 0) (pa_cons pe_int pa_nil)))) pe_int) (pa_cons (pe_op op_mulA (pv 4) (pv 2)) pa_nil))))))) pss_nil) (pss_cons (ps_if (pw_and (pt_cmpR (kop_neD (K := K) rfl (hu_of64 hr)) (pv 1) (pe_lst pa_nil) (nomark _)) (pw_and1 (pt_cmpR op_eq (pe_cl c__law_draw hr (by decide) (by rfl) psE (pa_cons (pv 0) (pa_cons pe_int pa_nil))) pe_int (nomark _)))).pt (pss_cons (ps_asg (pe_cl c__law_pick hr (by decide) (by rfl) psE (pa_cons (pv 0) (pa_cons (pv 1) pa_nil))) (kpg_tup (K := K) 2 rfl rfl (pgs_cons (pg_name (i := 3) sc__law_near.nd rfl (Or.inl rfl)) (pgs_cons (pg_name (i := 4) sc__law_near.nd rfl (Or.inl rfl)) pgs_nil)))) (pss_one (ps_ret (pe_tup (pa_cons (pe_un un_neg (pv 3)) (pa_cons (pv 4) pa_nil)))))) pss_nil) (pss_one (ps_ret (pe_tup (pa_cons (pe_cl c__law_number hr (by decide) (by rfl) psE (pa_cons (pv 0) (pa_cons pe_int pa_nil))) (pa_cons (pe_cl c__law_pick hr (by decide) (by rfl) psE (pa_cons (pv 0) (pa_cons (pe_lst (pa_cons pe_int (pa_cons (pe_op op_add pe_int (pe_cl c__law_draw hr (by decide) (by rfl) psE (pa_cons (pv 0) (pa_cons pe_int pa_nil)))) (pa_cons (pe_op op_add pe_int (pe_cl c__law_size hr (by decide) (by rfl) psE (pa_cons (pv 0) (pa_cons pe_int pa_nil)))) pa_nil)))) pa_nil))) pa_nil))))))), ?_⟩
    have e64 : (2 : Nat) ^ 64 = 18446744073709551616 := by decide
    have sm : ∀ m : Int, m.natAbs < 2 ^ 64 → m.natAbs < 2 ^ 4000 := fun m h => pow_mono h (by decide)
    have xl := hx.length
    wtm_at "of_rd"
    refine r_laidL (by decide) ?_
    intro z1 H1 e1 n1 h1
    refine r_neNil (e1 _ _ hl) (hx.le e1.le) h1 ?_
    wtm_at "of_rd"
    have T1 := hT.ex e1
    have L1 := e1.le
    refine ite2n (fun hne => ?_) (fun hnil => ?_)
    · have hpos : 0 < xs.length := by
        rw [xl]; exact List.length_pos_iff.mpr hne
      wtm_at "of_rd"
      refine ⟨p, 3, n, rfl, _, T1, by omega, by decide, sm _ (by decide), ?_⟩
      intro H2 d L2 T2 d0 d1
      wtm_at "of_rd"
      have L12 := L1.trans L2
      refine ite2 (fun hd => ?_) (fun hd => ?_)
      · wtm_at "of_rd"
        refine ⟨p, l, xs, _, rfl, _, T2, by omega, L12.lst hl, hpos, by omega, ?_⟩
        intro H4 i v L4 T4 hv
        obtain ⟨q0, r, rfl, hr, hq⟩ := (hx.le (L12.trans L4)).at_ hv
        have ok := hb r (List.mem_of_getElem? hr)
        refine r_gTup hq rfl ?_
        unfold pairV
        wtm_at "of_rd"
        refine ⟨p, 9, _, rfl, _, T4, by omega, by decide, sm _ (by decide), ?_⟩
        intro H5 f L5 T5 f0 f1
        wtm_at "of_rd"
        have fs : ((1 : Int) + f).natAbs < 2 ^ 64 := by omega
        refine r_I (cmA_r fs) ?_
        wtm_at "of_rd"
        refine ⟨p, 3, _, rfl, _, T5, by omega, by decide, sm _ (by decide), ?_⟩
        intro H6 g L6 T6 g0 g1
        wtm_at "of_rd"
        refine r_I (cmA_r fs) ?_
        wtm_at "of_rd"
        refine r_laidT (by show 2 ≤ 1000; decide) ?_
        intro q7 H7 e7 n7 h7
        have ok' := near_ok ok (f := 1 + f) (d := g - 1) (by omega) (by omega) (by omega) (by omega)
        refine k H7 q7 _ ((((L12.trans L4).trans L5).trans L6).trans e7.le) ((T6.ex e7).mono (by omega)) ?_ ok'
        rw [h7]
        show some (HO.tup [V.int (r.1 * (1 + f) + g - 1), V.int (r.2 * (1 + f))]) = some (HO.tup [V.int (r.1 * (1 + f) + (g - 1)), V.int (r.2 * (1 + f))])
        rw [Int.add_sub_assoc]
      · wtm_at "of_rd"
        refine r_laidL (by decide) ?_
        intro z3 H3 e3 n3 h3
        refine r_neNil ((L12.trans e3.le).lst hl) (hx.le (L12.trans e3.le)) h3 ?_
        wtm_at "of_rd"
        have T3 := T2.ex e3
        have L13 := L12.trans e3.le
        rw [decide_eq_false hne]
        wtm_at "of_rd"
        refine ⟨p, 4, _, rfl, _, T3, by omega, by decide, sm _ (by decide), ?_⟩
        intro H4 d4 L4 T4 c0 c1
        wtm_at "of_rd"
        have L14 := L13.trans L4
        refine ite2 (fun hd4 => ?_) (fun hd4 => ?_)
        · wtm_at "of_rd"
          refine ⟨p, l, xs, _, rfl, _, T4, by omega, L14.lst hl, hpos, by omega, ?_⟩
          intro H5 i v L5 T5 hv
          obtain ⟨q0, r, rfl, hr, hq⟩ := (hx.le (L14.trans L5)).at_ hv
          obtain ⟨o1, o2, o3⟩ := hb r (List.mem_of_getElem? hr)
          refine r_gTup hq rfl ?_
          unfold pairV
          wtm_at "of_rd"
          refine r_laidT (by show 2 ≤ 1000; decide) ?_
          intro q7 H7 e7 n7 h7
          exact k H7 q7 (-r.1, r.2) ((L14.trans L5).trans e7.le) ((T5.ex e7).mono (by omega)) h7 ⟨by show (-r.1).natAbs < _; rw [Int.natAbs_neg]; exact pow_mono o1 (by omega), pow_mono o2 (by omega), o3⟩
        · have TT := T4
          have LL := L14
          wtm_at "of_rd"
          refine ⟨p, 60, _, rfl, _, TT, by omega, by decide, by decide, ?_⟩
          intro H3 d3 L3 T3 b0 b1
          wtm_at "of_rd"
          refine ⟨p, 9, _, rfl, _, T3, by omega, by decide, sm _ (by decide), ?_⟩
          intro H4 d4 L4 T4 c0 c1
          wtm_at "of_rd"
          refine ⟨p, 39, _, rfl, _, T4, by omega, by decide, by decide, ?_⟩
          intro H5 d5 L5 T5 a0 a1
          wtm_at "of_rd"
          refine r_laidL (by show 3 ≤ 1000; decide) ?_
          intro z6 H6 e6 n6 h6
          wtm_at "of_rd"
          refine ⟨p, z6, _, _, rfl, _, T5.ex e6, by omega, h6, by show 0 < 3; decide, by show 3 ≤ 1000000; decide, ?_⟩
          intro H7 i v L7 T7 hv
          obtain ⟨z, rfl, z0, zb⟩ : ∃ z : Int, v = .int z ∧ 0 < z ∧ z.natAbs < 2 ^ 240 := by
            have a0 := a0 rfl
            have t39 : (10 : Nat) ^ 39 + 1 < 2 ^ 240 := by decide
            have t9 : 100 < 2 ^ 240 := by decide
            match i, hv with
            | 0, hv => cases hv; exact ⟨1, rfl, by decide, by decide⟩
            | 1, hv => cases hv; exact ⟨_, rfl, by omega, by omega⟩
            | 2, hv => cases hv; exact ⟨_, rfl, by omega, by omega⟩
            | i + 3, hv => simp at hv
          wtm_at "of_rd"
          refine r_laidT (by show 2 ≤ 1000; decide) ?_
          intro q8 H8 e8 n8 h8
          have b2 : d3.natAbs < 2 ^ 240 := Nat.lt_trans b1 (by decide)
          exact k H8 q8 (d3, z) ((((((LL.trans L3).trans L4).trans L5).trans e6.le).trans L7).trans e8.le) ((T7.ex e8).mono (by omega)) h8 ⟨pow_mono b2 (by omega), pow_mono zb (by omega), z0⟩
    · subst hnil
      wtm_at "of_rd"
      refine r_laidL (by decide) ?_
      intro z2 H2 e2 n2 h2
      refine r_neNil ((L1.trans e2.le).lst hl) (hx.le (L1.trans e2.le)) h2 ?_
      wtm_at "of_rd"
      rw [decide_eq_true rfl]
      have TT := T1.ex e2
      have LL := L1.trans e2.le
      wtm_at "of_rd"
      wtm_at "of_rd"
      refine ⟨p, 60, _, rfl, _, TT, by omega, by decide, by decide, ?_⟩
      intro H3 d3 L3 T3 b0 b1
      wtm_at "of_rd"
      refine ⟨p, 9, _, rfl, _, T3, by omega, by decide, sm _ (by decide), ?_⟩
      intro H4 d4 L4 T4 c0 c1
      wtm_at "of_rd"
      refine ⟨p, 39, _, rfl, _, T4, by omega, by decide, by decide, ?_⟩
      intro H5 d5 L5 T5 a0 a1
      wtm_at "of_rd"
      refine r_laidL (by show 3 ≤ 1000; decide) ?_
      intro z6 H6 e6 n6 h6
      wtm_at "of_rd"
      refine ⟨p, z6, _, _, rfl, _, T5.ex e6, by omega, h6, by show 0 < 3; decide, by show 3 ≤ 1000000; decide, ?_⟩
      intro H7 i v L7 T7 hv
      obtain ⟨z, rfl, z0, zb⟩ : ∃ z : Int, v = .int z ∧ 0 < z ∧ z.natAbs < 2 ^ 240 := by
        have a0 := a0 rfl
        have t39 : (10 : Nat) ^ 39 + 1 < 2 ^ 240 := by decide
        have t9 : 100 < 2 ^ 240 := by decide
        match i, hv with
        | 0, hv => cases hv; exact ⟨1, rfl, by decide, by decide⟩
        | 1, hv => cases hv; exact ⟨_, rfl, by omega, by omega⟩
        | 2, hv => cases hv; exact ⟨_, rfl, by omega, by omega⟩
        | i + 3, hv => simp at hv
      wtm_at "of_rd"
      refine r_laidT (by show 2 ≤ 1000; decide) ?_
      intro q8 H8 e8 n8 h8
      have b2 : d3.natAbs < 2 ^ 240 := Nat.lt_trans b1 (by decide)
      exact k H8 q8 (d3, z) ((((((LL.trans L3).trans L4).trans L5).trans e6.le).trans L7).trans e8.le) ((T7.ex e8).mono (by omega)) h8 ⟨pow_mono b2 (by omega), pow_mono zb (by omega), z0⟩
end
end
section
open PySem PySem.Spec PyProof.Rows L2 He
section
variable {P : Program} {w : World} {K : PySem.W.Frag} {mg : Str → Option Value} {base : Heap} {C_Ratio C_BadNumber C_NoSuch f_Ratio_eq f_Ratio_lt f_Ratio_le f_Ratio_gt f_Ratio_ge f_Ratio_bool f_Ratio_neg f_Ratio_abs f_Ratio_str f_Ratio_add f_Ratio_radd f_Ratio_sub f_Ratio_rsub f_Ratio_mul f_Ratio_rmul f_Ratio_floordiv f_Ratio_rfloordiv f_Ratio_mod f_Ratio_rmod f_Ratio_pow f_Ratio_over f_Ratio_floor f_Ratio_ceiling f_Ratio_whole f_Ratio_sign  : Addr}
abbrev s__law_order_right : Stmt := (top 40)
theorem sc__law_order_right : FnScope ["_law_rows", "_law_handed", "_law_found", "_law_left", "_law_k", "_law_same", "_law_before", "_law_low", "_law_high", "_law_one"] ["_law_rows", "_law_handed"] (defScope s__law_order_right) := ⟨rfl, rfl, rfl, by decide +kernel, rfl, by decide +kernel, by decide +kernel⟩
theorem ok__law_order_right {f : Addr} {fd : FuncData} (F : FunD K "_law_order_right" "_law_order_right" (defArgs s__law_order_right) (defBody s__law_order_right) (defScope s__law_order_right) [] [] f fd) (TB : TBl mg) (TR : RT K mg C_Ratio) (c_ascending : Cl P w K mg base 7 "ascending" (spAscending C_Ratio)) (c_least : Cl P w K mg base 8 "least" (spLeast C_Ratio C_NoSuch 0)) (c_greatest : Cl P w K mg base 8 "greatest" (spLeast C_Ratio C_NoSuch 1)) (c__law_ratio_is : Cl P w K mg base 2 "_law_ratio_is" (spRatioIs C_Ratio)) : FnOk P w K mg base (L2.CX P w) 9 f fd ["_law_rows", "_law_handed"] (spOrder C_Ratio) := by
  refine F.ok (CX := L2.CX P w) sc__law_order_right (fun vs H Q E h => ?_) (fun cdv A outer s H vs Q E hr h => ?_)
  · obtain ⟨l, k, rs, rfl, _⟩ := h; rfl
  · obtain ⟨l, hk, rs, rfl, ⟨xs, hl, hx⟩, ⟨ys, hy, hyl, hya⟩, hpos, hlen, hok, kont⟩ := h
    refine ⟨_, (pss_cons (ps_set (i := 2) sc__law_order_right.nd rfl (Or.inr rfl) (pe_cl c_ascending hr (by decide) (by rfl) psE (pa_cons (pv 1) pa_nil))) (pss_cons (ps_if (pw_or (pt_not (pt_val (pe_callB (kc_isi (K := K) rfl) (by rfl) TB.b_isinstance (by decide +kernel) (pa_cons (pv 2) (pa_cons (pe_bltn (v := .ty "list") (u := .type "list") (by rfl) TB.b_list (by decide +kernel) rfl) pa_nil))))) (pw_or1 (pt_cmpR op_ne (pe_callB (kc_len (K := K) rfl) (by rfl) TB.b_len PySem.boot_len (pa_cons (pv 2) pa_nil)) (pe_callB (kc_len (K := K) rfl) (by rfl) TB.b_len PySem.boot_len (pa_cons (pv 0) pa_nil)) (nomark _)))).pt (pss_one (ps_ret pe_bl)) pss_nil) (pss_cons (ps_set (i := 3) sc__law_order_right.nd rfl (Or.inl rfl) (pe_callTy (kc_listof (K := K) rfl) (by rfl) TB.b_list (by decide +kernel) (pa_cons (pv 0) pa_nil))) (pss_cons (ps_for (passes_of rfl) rfl (pi_range1 (by rfl) TB.b_range (pa_cons (pe_callB (kc_len (K := K) rfl) (by rfl) TB.b_len PySem.boot_len (pa_cons (pv 2) pa_nil)) pa_nil)) (pg_name (i := 4) sc__law_order_right.nd rfl (Or.inr rfl)) (pss_cons (ps_setLc (i := 5) (own := [("_law_one", 9)]) (by rfl) sc__law_order_right.nd rfl rfl (sw_true rfl rfl rfl (by decide +kernel)) (kpi_l (K := K) rfl (pv 3)) (blkOk_by (own := [("_law_one", 9)]) (N := ["_law_rows", "_law_handed", "_law_found", "_law_left", "_law_k", "_law_same", "_law_before", "_law_low", "_law_high", "_law_one"]) (sc := defScope s__law_order_right) (by decide +kernel)) (fun _ _ _ _ _ => (pg_name (i := 9) sc__law_order_right.nd rfl (Or.inl rfl))) (fun _ _ _ _ _ => (pts_one (pt_val (pe_cl c__law_ratio_is hr (by decide) (by rfl) passL (pa_cons (pe_ix (kix_l (K := K) rfl) (pv 2) (pv 4) (fun _ _ => rfl)) (pa_cons (pe_ix (kix_t (K := K) rfl) (pv 9) pe_int (fun _ _ => rfl)) (pa_cons (pe_ix (kix_t (K := K) rfl) (pv 9) pe_int (fun _ _ => rfl)) pa_nil))))))) (fun _ _ _ _ _ => (pv 9))) (pss_cons (ps_if (pt_cmpR (kop_eqD (K := K) rfl (hu_of64 hr)) (pv 5) (pe_lst pa_nil) (nomark _)) (pss_one (ps_ret pe_bl)) pss_nil) (pss_cons (ps_expr (kapp (K := K) rfl PySem.F.plainAttrs_list PySem.F.slot_list_remove PySem.F.type_list_remove (mt_removeD (K := K) rfl (hu_of64 hr)) (pv 3) (pa_cons (pe_ix (kix_l (K := K) rfl) (pv 5) pe_int (fun _ _ => rfl)) pa_nil))) (pss_cons (ps_set (i := 6) sc__law_order_right.nd rfl (Or.inl rfl) (pe_ix (kix_l (K := K) rfl) (pv 2) (pe_callB (kc_max rfl) (by rfl) TB.b_max (by decide +kernel) (pa_cons pe_int (pa_cons (pe_op op_sub (pv 4) pe_int) pa_nil))) (fun _ _ => rfl))) (pss_one (ps_if (pt_cmpR op_gt (pe_op op_mulA (kfld (K := K) rfl (pv 6) rfl) (kfld (K := K) rfl (pe_ix (kix_l (K := K) rfl) (pv 2) (pv 4) (fun _ _ => rfl)) rfl)) (pe_op op_mulA (kfld (K := K) rfl (pe_ix (kix_l (K := K) rfl) (pv 2) (pv 4) (fun _ _ => rfl)) rfl) (kfld (K := K) rfl (pv 6) rfl)) (nomark _)) (pss_one (ps_ret pe_bl)) pss_nil))))))) (pss_cons (ps_par (i := 7) (j := 8) rfl sc__law_order_right.nd rfl rfl (by decide) rfl rfl (pa_cons (pe_cl c_least hr (by decide) (by rfl) psE (pa_cons (pv 1) pa_nil)) (pa_cons (pe_cl c_greatest hr (by decide) (by rfl) psE (pa_cons (pv 1) pa_nil)) pa_nil)) (by rfl)) (pss_cons (ps_if (pt_not (pt_val (pe_cl c__law_ratio_is hr (by decide) (by rfl) psE (pa_cons (pv 7) (pa_cons (kfld (K := K) rfl (pe_ix (kix_l (K := K) rfl) (pv 2) pe_int (fun _ _ => rfl)) rfl) (pa_cons (kfld (K := K) rfl (pe_ix (kix_l (K := K) rfl) (pv 2) pe_int (fun _ _ => rfl)) rfl) pa_nil)))))) (pss_one (ps_ret pe_bl)) pss_nil) (pss_one (ps_ret (pe_cl c__law_ratio_is hr (by decide) (by rfl) psE (pa_cons (pv 8) (pa_cons (kfld (K := K) rfl (pe_ix (kix_l (K := K) rfl) (pv 2) (pe_un un_neg pe_int) (fun _ _ => rfl)) rfl) (pa_cons (kfld (K := K) rfl (pe_ix (kix_l (K := K) rfl) (pv 2) (pe_un un_neg pe_int) (fun _ _ => rfl)) rfl) pa_nil)))))))))))), ?_⟩
    have hq : ∀ q ∈ rs.map toQ, Bq q := fun q h => by
      obtain ⟨r, hr, rfl⟩ := List.mem_map.mp h
      exact (hok r hr).bq (by decide)
    have hat : ∀ (i : Nat) (q : Rat), (rs.map toQ)[i]? = some q → ∃ v, ys[i]? = some v ∧ NumV C_Ratio H v q := fun i q h => by
      rw [List.getElem?_map] at h
      cases e : rs[i]? with
      | none => rw [e] at h; cases h
      | some r => rw [e] at h; cases h; exact hya i r e
    have ql : (rs.map toQ).length = rs.length := List.length_map _
    wtm_at "of_rd"
    refine ⟨hk, ys, rs.map toQ, rfl, hy, by rw [ql, hyl], hat, hq, by rw [ql]; exact hlen, ?_⟩
    intro H1 p zs ss e1 n1 h1 hz hperm hsort
    have sl : ss.length = rs.length := by rw [hperm.length_eq, ql]
    have zl : zs.length = rs.length := by rw [hz.1, sl]
    have hqs : ∀ q ∈ ss, Bq q := fun q h => hq q (hperm.mem_iff.mp h)
    wtm_at "of_rd"
    refine r_isi (.ty _) (tyL h1) kit_self ?_
    wtm_at "of_rd"
    refine q_lenL h1 ?_
    wtm_at "of_rd"
    refine q_lenL (e1 _ _ hl) ?_
    wtm_at "of_rd"
    refine iteN (by rw [zl, hx.length]) ?_
    wtm_at "of_rd"
    refine q_listL (e1 _ _ hl) ?_
    intro L H2 e2 n2 h2
    wtm_at "of_rd"
    refine q_lenL (e2 _ _ h1) ?_
    wtm_at "of_rd"
    refine i_R (n := rs.length) (by rw [zl]) (by omega) ?_
    refine fR' (fun i σ H' => ∃ (xs' : List V) (rs' : List Pr) (v4 v5 v6 v7 v8 v9 : Option V), σ = [some (.ref l), some (.ref hk), some (.ref p), some (.ref L), v4, v5, v6, v7, v8, v9] ∧ Ex H1 H' ∧ H' L = some (.lst xs') ∧ RowsX H' xs' rs' ∧ (rs'.map toQ).Perm (ss.drop i) ∧ ∀ r ∈ rs', PrOk 3000 r)
      ⟨xs, rs, _, _, _, _, _, _, rfl, e2, h2, hx.le (e1.trans e2).le, hperm.symm, hok⟩ ?_ ?_
    · rintro i σ H3 hi ⟨xs', rs', v4, v5, v6, v7, v8, v9, rfl, e3, h3, hx3, hp3, hok3⟩
      have his : i < ss.length := by omega
      obtain ⟨q, hqe⟩ : ∃ q, ss[i]? = some q := ⟨_, List.getElem?_eq_getElem his⟩
      obtain ⟨a, za, ra⟩ := hz.2 i q hqe
      have bq := hqs q (List.mem_of_getElem? hqe)
      have i0 : (0 : Int) + (i : Int) = ((i : Nat) : Int) := by omega
      wtm_at "of_rd"
      refine i_L h3 ?_
      refine lL (fun L' j acc H' => Ex H3 H' ∧ RowsX H' acc ((rs'.take j).filter fun r => decide (q = toQ r))) (fun L' hL' H' e h => ⟨e, .nil⟩) (fun L' j acc H' hL' hj ⟨e, _⟩ => e _ _ h3) ?_ ?_
      · intro L' j x acc H' hL' hxj ⟨e, ac⟩ hacc
        obtain ⟨b, r, rfl, hr, hb⟩ := hx3.at_ hxj
        have okr := hok3 r (List.mem_of_getElem? hr)
        have lt1 : (rs'.take j).length ≤ j := List.length_take_le _ _
        have acl : acc.length ≤ 1000000 := by
          rw [ac.length]
          refine Nat.le_trans (List.length_filter_le _ _) (Nat.le_trans lt1 ?_)
          have : j < rs'.length := (List.getElem?_eq_some_iff.mp hr).1
          have l2 := hp3.length_eq
          rw [List.length_map, List.length_drop] at l2
          omega
        wtm_at "of_rd"
        refine ⟨rfl, ?_⟩
        rw [i0]
        wtm_at "of_rd"
        refine r_iL1 ((e3.trans e) _ _ h1) (atI_nat za) ?_
        wtm_at "of_rd"
        refine r_iT1 (e _ _ hb) (atI_nat (j := 0) rfl) ?_
        wtm_at "of_rd"
        refine r_iT1 (e _ _ hb) (atI_nat (j := 1) rfl) ?_
        wtm_at "of_rd"
        refine ⟨a, q, r.1, r.2, rfl, ra.ex (e3.trans e), bq, pow_mono okr.1 (by decide), pow_mono okr.2.1 (by decide), ?_⟩
        wtm_at "of_rd"
        rw [dec_ratio okr.2.2]
        refine ite2 (fun ht => ?_) (fun ht => ?_)
        · wtm_at "of_rd"
          refine lput hacc acl ⟨e.put hL', ?_⟩
          rw [filter_step hr, if_pos (decide_eq_true ht)]
          exact (ac.put hacc).snoc (by rw [upd_ne (ne_of (e _ _ hb) hacc (by intro z; cases z))]; exact e _ _ hb)
        · refine ⟨acc, hacc, e, ?_⟩
          rw [filter_step hr, if_neg (by rw [decide_eq_true_iff]; exact ht), List.append_nil]
          exact ac
      intro L' acc H4 hL' h4 ⟨e4, ac⟩
      rw [hx3.length, List.take_length] at ac
      have hmem : q ∈ rs'.map toQ := by
        rw [hp3.mem_iff, List.drop_eq_getElem_cons his, (List.getElem?_eq_some_iff.mp hqe).2]
        exact List.mem_cons_self ..
      obtain ⟨r1, hr1, hrq⟩ := List.mem_map.mp hmem
      have hne : (rs'.filter fun r => decide (q = toQ r)) ≠ [] := fun z => by
        have : r1 ∈ rs'.filter fun r => decide (q = toQ r) := List.mem_filter.mpr ⟨hr1, decide_eq_true hrq.symm⟩
        rw [z] at this; cases this
      wtm_at "of_rd"
      refine r_laidL (by decide) ?_
      intro z5 H5 e5 n5 h5
      refine r_eqNil (e5 _ _ h4) (ac.le e5.le) h5 ?_
      wtm_at "of_rd"
      refine iteDn hne ?_
      obtain ⟨r0, fs, hf⟩ := List.exists_cons_of_ne_nil hne
      have hr0 : r0 ∈ rs'.filter fun r => decide (q = toQ r) := by rw [hf]; exact List.mem_cons_self ..
      obtain ⟨hr0m, hr0q⟩ := List.mem_filter.mp hr0
      have hr0q : q = toQ r0 := of_decide_eq_true hr0q
      obtain ⟨b0, zb, hb0⟩ := ac.get (i := 0) (r := r0) (by rw [hf]; rfl)
      obtain ⟨j, hj, hjr⟩ := place_of hr0m
      have e45 := e4.trans e5
      wtm_at "of_rd"
      refine ⟨ty_l (e45 _ _ h3), ?_⟩
      wtm_at "of_rd"
      refine r_iL1 (e5 _ _ h4) (atI_nat (j := 0) zb) ?_
      wtm_at "of_rd"
      refine ⟨L, xs', .ref b0, _, _, j, rfl, rfl, e45 _ _ h3, (hx3.le e45.le).dp, dp_pair (e5 _ _ hb0), rows_lay _, pair_lay _, Nat.le_trans (rows_depth _) (by decide), hj, ?_⟩
      have e6 : Ex H1 (upd H5 L (.lst (xs'.eraseIdx j))) := (e3.trans e45).put n2
      have hnp : (rs'.eraseIdx j).map toQ |>.Perm (ss.drop (i + 1)) := by
        have z1 := ((erase_perm hjr).map toQ).trans hp3
        rw [List.map_cons, List.drop_eq_getElem_cons his, (List.getElem?_eq_some_iff.mp hqe).2, ← hr0q] at z1
        exact z1.cons_inv
      wtm_at "of_rd"
      refine q_max ?_
      have hm : ∃ j0 : Nat, max (0 : Int) (0 + (i : Int) - 1) = (j0 : Int) ∧ j0 ≤ i := ⟨i - 1, by omega, by omega⟩
      obtain ⟨j0, hj0, hji⟩ := hm
      rw [hj0]
      obtain ⟨q0, hq0⟩ : ∃ q0, ss[j0]? = some q0 := ⟨_, List.getElem?_eq_getElem (by omega)⟩
      obtain ⟨a0, za0, ra0⟩ := hz.2 j0 q0 hq0
      have bq0 := hqs q0 (List.mem_of_getElem? hq0)
      have hle : q0 ≤ q := by
        rcases Nat.lt_or_eq_of_le hji with z | z
        · have := List.pairwise_iff_getElem.mp hsort j0 i (by omega) his z
          rw [(List.getElem?_eq_some_iff.mp hq0).2, (List.getElem?_eq_some_iff.mp hqe).2] at this
          exact this
        · subst z
          rw [hq0] at hqe; cases hqe; exact Rat.le_refl
      refine r_iL1 (e6 _ _ h1) (atI_nat za0) ?_
      have R0 := ra0.ex e6
      have R1 := ra.ex e6
      rw [i0]
      wtm_at "of_rd"
      refine r_iL1 (e6 _ _ h1) (atI_nat za) ?_
      wtm_at "of_rd"
      refine r_iL1 (e6 _ _ h1) (atI_nat za) ?_
      wtm_at "of_rd"
      refine iteDn (by have := (Rat.le_iff q0 q).mp hle; omega) ?_
      wtm_at "of_rd"
      exact ⟨_, _, _, _, _, _, _, _, rfl, e6, upd_same, ((hx3.le e45.le).put (e45 _ _ h3)).erase j, hnp, fun r hr => hok3 r (List.mem_of_mem_eraseIdx hr)⟩
    · rintro σ H3 ⟨xs', rs', v4, v5, v6, v7, v8, v9, rfl, e3, h3, hx3, hp3, hok3⟩
      have e13 := e1.trans e3
      have hy3 : SeqAt1 H3 hk ys := hy.elim (fun z => .inl (e13 _ _ z)) (fun z => .inr (e13 _ _ z))
      have hat3 : ∀ (i : Nat) (q : Rat), (rs.map toQ)[i]? = some q → ∃ v, ys[i]? = some v ∧ NumV C_Ratio H3 v q := fun i q h => by
        obtain ⟨v, a, b⟩ := hat i q h
        exact ⟨v, a, b.ex e13⟩
      wtm_at "of_rd"
      refine ⟨hk, ys, rfl, hy3, .inr ⟨rs.map toQ, by rw [ql, hyl], hat3, hq, by rw [ql]; exact hlen, by rw [ql]; exact hpos, ?_⟩⟩
      intro H4 p4 s4 q4 e4 perm4 sort4 at4 R4
      have u4 := sorted_unique (perm4.trans hperm.symm) sort4 hsort
      subst u4
      wtm_at "of_rd"
      have e14 := e13.trans e4
      refine ⟨hk, ys, rfl, hy.elim (fun z => .inl (e14 _ _ z)) (fun z => .inr (e14 _ _ z)), .inr ⟨rs.map toQ, by rw [ql, hyl], fun i q h => by
        obtain ⟨v, a, b⟩ := hat i q h
        exact ⟨v, a, b.ex e14⟩, hq, by rw [ql]; exact hlen, by rw [ql]; exact hpos, ?_⟩⟩
      intro H5 p5 s5 q5 e5 perm5 sort5 at5 R5
      have u5 := sorted_unique (perm5.trans perm4.symm) sort5 sort4
      subst u5
      have at4 : s5[0]? = some q4 := at4.elim (fun z => z.2) (fun z => absurd z.1 (by decide))
      have at5 : s5[s5.length - 1]? = some q5 := at5.elim (fun z => absurd z.1 (by decide)) (fun z => z.2)
      obtain ⟨a4, za4, ra4⟩ := hz.2 _ q4 at4
      obtain ⟨a5, za5, ra5⟩ := hz.2 _ q5 at5
      have b4 := hqs q4 (List.mem_of_getElem? at4)
      have b5 := hqs q5 (List.mem_of_getElem? at5)
      have e35 := (e3.trans e4).trans e5
      have R4' := ra4.ex e35
      have R5' := ra5.ex e35
      wtm_at "of_rd"
      refine r_iL1 (e35 _ _ h1) (atI_nat (j := 0) za4) ?_
      wtm_at "of_rd"
      refine r_iL1 (e35 _ _ h1) (atI_nat (j := 0) za4) ?_
      wtm_at "of_rd"
      refine ⟨p4, q4, q4.num, (q4.den : Int), rfl, R4.ex e5, b4, b4.n, b4.d, ?_⟩
      wtm_at "of_rd"
      refine iteN rfl ?_
      wtm_at "of_rd"
      refine r_iL1 (e35 _ _ h1) (atI_last (by rw [zl]; exact hpos) (by rw [hz.1]; exact za5)) ?_
      wtm_at "of_rd"
      refine r_iL1 (e35 _ _ h1) (atI_last (by rw [zl]; exact hpos) (by rw [hz.1]; exact za5)) ?_
      wtm_at "of_rd"
      refine ⟨p5, q5, q5.num, (q5.den : Int), rfl, R5, b5, b5.n, b5.d, ?_⟩
      rw [decide_eq_true rfl]
      exact kont H5 (e1.trans e35)
end
end
section
open PySem PySem.Spec PyProof.Rows L2 He
abbrev s_empty : Stmt := top 41
theorem sc_empty : FnScope ["_law_call", "_law_found", "e"] ["_law_call"] (defScope s_empty) := ⟨rfl, rfl, rfl, by decide +kernel, rfl, by decide +kernel, by decide +kernel⟩
theorem empty_gives {X : Cx} {g CN : Addr} {cdg : Value} {q : Str} (EC : ExcC X.K CN) (XF : XfC X.K CN) (hno : PySem.W.findIn X.K (.ref CN) "number" = some none) (hme : X.mg "NoSuch" = some (.ref CN)) (bi : X.mg "isinstance" = none) (bv : X.mg "ValueError" = none)
    (hex : PySem.W.exmOne X.K (.ref CN) (.ref CN) = some true) (hve : PySem.W.kitOne X.K (.ref CN) (.type "ValueError") = some true) :
    LamX.GivesTo X ["_law_call", "_law_found", "e"] "_law_empty" (defScope s_empty) g cdg (defBody s_empty) "_law_call" q (TEmpty CN) := by
  intro f c' s H Q tl act hc h
  refine ⟨_, pss_cons (ps_set (i := 1) sc_empty.nd rfl (Or.inl rfl) pe_str) (pss_cons (ps_try_as (i := 2) (c := .ref CN)
      (tb := fun W D σ H => ∃ Ech : XK, (∀ cls d (σ' : L2.St) H', σ'.length = 3 → Ech cls d H' → W cls d σ' H') ∧ σ[0]? = some (some (.ref f)) ∧ H c' = some (LamX.CodeO c' q) ∧ tl Ech H (fun _ H' => D.nx σ H'))
      rfl rfl sc_empty.nd rfl rfl ⟨rfl, by decide, .inl hme⟩ LamX.takes0 (fun W pn xe tk _ => ?_)
      (fun a oe cls d pn hz hf => pss_one (ps_set (i := 1) sc_empty.nd rfl (Or.inl rfl) (pe_ifExp (pt_val (pe_callB (call_isEx (K := X.K) rfl EC hz hf) (by rfl) bi (by decide +kernel) (pa_cons (pv 2) (pa_cons (pe_bltn (v := .ty "ValueError") (u := .type "ValueError") (by rfl) bv (by decide +kernel) rfl) pa_nil)))) (pe_xf XF hno hz hf (pv 2)) pe_str))))
    (pss_one (ps_ret (pv 1)))), ?_⟩
  · refine ⟨fun pins s' σ H' D I h' => ?_⟩
    obtain ⟨Ech, hW, h1, h2, h3⟩ := h'
    have hp := fun p1 p2 => act _ pn xe Ech p1 p2 (takes_len tk) (fun cls d σ' H' he hl => hW cls d σ' H' hl he)
    exact (pss_one (ps_expr (hp _ _))).run pins s' σ H' D I ⟨h1, h2, h3⟩
  · wtm_at "of_rd"
    refine ⟨fun cls d H' => cls = .ref CN ∧ ∃ dd v, d = some dd ∧ H' dd = some (.xd [("number", v)]) ∧ Q v H', ?_, rfl, hc, ?_⟩
    · rintro cls d σ' H' hl ⟨rfl, dd, v, rfl, hd, hq⟩
      obtain ⟨x0, x1, x2, rfl⟩ : ∃ x0 x1 x2, σ' = [x0, x1, x2] := by
        match σ', hl with
        | [x0, x1, x2], _ => exact ⟨_, _, _, rfl⟩
      refine ⟨true, hex, fun _ a ha => ?_, fun z => by cases z⟩
      wtm_at "of_rd"
      refine ⟨rfl, ⟨dd, _, rfl, hd⟩, .ty "ValueError", .type "ValueError", true, rfl, fun u r => r, hve, ?_⟩
      wtm_at "of_rd"
      refine ⟨_, rfl, rfl, rfl, dd, _, v, rfl, hd, by rw [List.lookup_cons]; simp, ?_⟩
      wtm_at "of_rd"
      exact hq
    · exact h
end
section
open PySem PySem.Spec PyProof.Rows L2 He
abbrev lamSc (nm : Str) : Scope := { kind := .function, names := [(nm, .globalImplicit)], isGenerator := false, isCoroutine := false, more := [] }
theorem lamSc_gl (nm : Str) : (lamSc nm).names.lookup nm = some .globalImplicit := by show List.lookup nm [(nm, _)] = _; rw [List.lookup_cons]; simp
theorem lamS_g (sc : Scope) (nm : Str) : LamX.LamS sc (lamSc nm) := ⟨rfl, rfl, rfl, fun y hy => by rw [List.mem_singleton.mp hy]; exact ⟨(fun z => nomatch z), (fun z => nomatch z)⟩, fun y hy e => by rw [List.mem_singleton.mp hy] at e; cases e⟩
theorem pe_lamE {X : Cx} {cL PT gE CN : Addr} {nm : Str} {sp : Sp} {k : Nat} {p p1 p2 p3 lpos pos : Pos} (hg : Gl X "_law_empty") (hm : X.mg "_law_empty" = some (.ref gE)) (kpE : PySem.W.keepIn X.K (.ref gE) = true)
    {oc2 od2 dV2 kV2 doc2 pm2 an2 cdv2 ct2 osl2} (lkE : X.K.lookup gE = some ⟨oc2, od2, .func (PySem.W.fnOf "_law_empty" "_law_empty" (defArgs s_empty) (defBody s_empty) (defScope s_empty) dV2 kV2 doc2 pm2 an2 cdv2 ct2), osl2⟩) (hcE : PySem.W.codeIn X.K cdv2 "_law_empty" = true)
    (bE : Binds X.K (PySem.W.fnOf "_law_empty" "_law_empty" (defArgs s_empty) (defBody s_empty) (defScope s_empty) dV2 kV2 doc2 pm2 an2 cdv2 ct2) ["_law_call"] [])
    (EC : ExcC X.K CN) (XF : XfC X.K CN) (hno : PySem.W.findIn X.K (.ref CN) "number" = some none) (hme : X.mg "NoSuch" = some (.ref CN)) (bi : X.mg "isinstance" = none) (bv : X.mg "ValueError" = none)
    (hex : PySem.W.exmOne X.K (.ref CN) (.ref CN) = some true) (hve : PySem.W.kitOne X.K (.ref CN) (.type "ValueError") = some true)
    (TBc : LamX.TabB X.base X.mg cL PT) (hcode : X.env.code = .ref cL) (hq : X.env.qual ++ ("<lambda>" : Str) = qL) (hr : Room (k + 2) X.A)
    (c : Cl X.prog X.w X.K X.mg X.base k nm sp) (hdb : (nm == ("__debug__" : Str)) = false) :
    PE X (.Call (.Name "_law_empty" p) [.Lambda noArgs (.Call (.Name nm p1) [.List [] p2] [] p3) (lamSc nm) lpos] [] pos) (LamX.tLam [(PT, qL)] (TEmpty CN) (fun E => tC1 sp E (tCons (tLst tNil) tNil))) :=
  LamX.pe_lamcall (T := [(PT, qL)]) (TT := TEmpty CN) (k := k) hg hm kpE lkE hcE bE sc_empty rfl (Or.inl rfl) (empty_gives EC XF hno hme bi bv hex hve) TBc hcode (lam_mem hq) (lam_uni hq) hr (lamS_g _ nm) (def_no _) (fun q cl pm cv ctv => bind_no q _ _ cl pm cv ctv)
    (fun A outer s H E f c' hr2 => pe_cl c hr2 (Nat.le_refl _) (lamGl (lamSc_gl nm)) (psL (X := X) (A := A) (outer := outer) (s := s) (H := H) (scope := lamSc nm) (f := f) (c' := c')) (pa_cons (pe_lst pa_nil) pa_nil) hdb)
end
section
open PySem PySem.Spec PyProof.Rows L2 He
section
variable {P : Program} {w : World} {K : PySem.W.Frag} {mg : Str → Option Value} {base : Heap} {C_Ratio C_BadNumber C_NoSuch f_Ratio_eq f_Ratio_lt f_Ratio_le f_Ratio_gt f_Ratio_ge f_Ratio_bool f_Ratio_neg f_Ratio_abs f_Ratio_str f_Ratio_add f_Ratio_radd f_Ratio_sub f_Ratio_rsub f_Ratio_mul f_Ratio_rmul f_Ratio_floordiv f_Ratio_rfloordiv f_Ratio_mod f_Ratio_rmod f_Ratio_pow f_Ratio_over f_Ratio_floor f_Ratio_ceiling f_Ratio_whole f_Ratio_sign  : Addr}
abbrev s_law : Stmt := (top 42)
theorem sc_law : FnScope ["_law_script", "_law_tape", "_law_shared", "_law_rows", "_law_k", "_law_handed", "_law_one", "_law_kept", "_law_turned", "_law_other"] ["_law_script"] (defScope s_law) := ⟨rfl, rfl, rfl, by decide +kernel, rfl, by decide +kernel, by decide +kernel⟩
theorem ok_law {f cL PT gE : Addr} {oc od dV kV doc pm an ct osl} (lk : K.lookup f = some ⟨oc, od, .func (PySem.W.fnOf "law" "law" (defArgs s_law) (defBody s_law) (defScope s_law) dV kV doc pm an (.ref cL) ct), osl⟩) (hcd : PySem.W.codeIn K (.ref cL) "law" = true) (TBc : LamX.TabB base mg cL PT)
    {oc2 od2 dV2 kV2 doc2 pm2 an2 cdv2 ct2 osl2} (lkE : K.lookup gE = some ⟨oc2, od2, .func (PySem.W.fnOf "_law_empty" "_law_empty" (defArgs s_empty) (defBody s_empty) (defScope s_empty) dV2 kV2 doc2 pm2 an2 cdv2 ct2), osl2⟩) (hcE : PySem.W.codeIn K cdv2 "_law_empty" = true) (kpE : PySem.W.keepIn K (.ref gE) = true) (g_empty : mg "_law_empty" = some (.ref gE))
    (bE : Binds K (PySem.W.fnOf "_law_empty" "_law_empty" (defArgs s_empty) (defBody s_empty) (defScope s_empty) dV2 kV2 doc2 pm2 an2 cdv2 ct2) ["_law_call"] []) (EC : ExcC K C_NoSuch) (XF : XfC K C_NoSuch) (n_NoSuch : PySem.W.findIn K (.ref C_NoSuch) "number" = some none) (g_NoSuch : mg "NoSuch" = some (.ref C_NoSuch)) (bv : mg "ValueError" = none)
    (exN : PySem.W.exmOne K (.ref C_NoSuch) (.ref C_NoSuch) = some true) (veN : PySem.W.kitOne K (.ref C_NoSuch) (.type "ValueError") = some true) (c_least : Cl P w K mg base 8 "least" (spLeast C_Ratio C_NoSuch 0)) (c_greatest : Cl P w K mg base 8 "greatest" (spLeast C_Ratio C_NoSuch 1))
    (TB : TBl mg) (TR : RT K mg C_Ratio) (k_Ratio : ClsP K C_Ratio) (c_Ratio_2 : Ck P w K mg base 4 "Ratio" C_Ratio [] (spRInit K C_Ratio C_BadNumber)) (c_Ratio_eq : Cm P w K mg base 2 C_Ratio "__eq__" f_Ratio_eq (spREq K C_Ratio)) (c_ascending : Cl P w K mg base 7 "ascending" (spAscending C_Ratio)) (c__law_begin : Cl P w K mg base 1 "_law_begin" (spBegin K)) (c__law_draw : Cl P w K mg base 1 "_law_draw" (spDraw)) (c__law_size : Cl P w K mg base 3 "_law_size" (spNum 50 2 false)) (c__law_number : Cl P w K mg base 4 "_law_number" (spNum 51 2 true)) (c__law_whole_is : Cl P w K mg base 1 "_law_whole_is" (spWhole K)) (c__law_divisors_right : Cl P w K mg base 2 "_law_divisors_right" (spDiv)) (c__law_near : Cl P w K mg base 5 "_law_near" (spNear)) (c__law_order_right : Cl P w K mg base 9 "_law_order_right" (spOrder C_Ratio)) : FnOk P w K mg base (L2.CX P w) 15 f (PySem.W.fnOf "law" "law" (defArgs s_law) (defBody s_law) (defScope s_law) dV kV doc pm an (.ref cL) ct) ["_law_script"] (spLaw K [(PT, qL)]) := by
  refine L2.fn_of lk hcd sc_law (fun vs H Q E h => ?_) (fun A outer s H vs Q E hr h => ?_)
  · obtain ⟨a, ns, rfl, _⟩ := h; rfl
  · obtain ⟨a, ns, rfl, ha, hn, hTab, k⟩ := h
    refine ⟨_, (pss_cons (ps_set (i := 1) sc_law.nd rfl (Or.inl rfl) (pe_cl c__law_begin hr (by decide) (by rfl) psE (pa_cons (pv 0) pa_nil))) (pss_cons (ps_set (i := 2) sc_law.nd rfl (Or.inl rfl) (pe_op op_add pe_int (pe_cl c__law_size hr (by decide) (by rfl) psE (pa_cons (pv 1) (pa_cons pe_int pa_nil))))) (pss_cons (ps_par (i := 6) (j := 9) rfl sc_law.nd rfl rfl (by decide) rfl rfl (pa_cons (pe_op op_mulA (pv 2) (pe_cl c__law_number hr (by decide) (by rfl) psE (pa_cons (pv 1) (pa_cons pe_int pa_nil)))) (pa_cons (pe_op op_mulA (pv 2) (pe_cl c__law_number hr (by decide) (by rfl) psE (pa_cons (pv 1) (pa_cons pe_int pa_nil)))) pa_nil)) (by rfl)) (pss_cons (ps_if (pw_or (pt_not (pt_val (pe_cl c__law_divisors_right hr (by decide) (by rfl) psE (pa_cons (pv 6) (pa_cons (pv 9) pa_nil))))) (pw_or (pt_not (pt_val (pe_cl c__law_divisors_right hr (by decide) (by rfl) psE (pa_cons (pv 9) (pa_cons (pv 6) pa_nil))))) (pw_or1 (pt_not (pt_val (pe_cl c__law_divisors_right hr (by decide) (by rfl) psE (pa_cons (pv 6) (pa_cons (pv 6) pa_nil)))))))).pt (pss_one (ps_ret pe_bl)) pss_nil) (pss_cons (ps_if (pw_or (pt_not (pt_val (pe_cl c__law_divisors_right hr (by decide) (by rfl) psE (pa_cons pe_int (pa_cons pe_int pa_nil))))) (pw_or (pt_not (pt_val (pe_cl c__law_divisors_right hr (by decide) (by rfl) psE (pa_cons (pv 6) (pa_cons pe_int pa_nil))))) (pw_or1 (pt_not (pt_val (pe_cl c__law_divisors_right hr (by decide) (by rfl) psE (pa_cons (pe_cl c__law_number hr (by decide) (by rfl) psE (pa_cons (pv 1) (pa_cons pe_int pa_nil))) (pa_cons pe_int pa_nil)))))))).pt (pss_one (ps_ret pe_bl)) pss_nil) (pss_cons (ps_set (i := 3) sc_law.nd rfl (Or.inl rfl) (pe_lst pa_nil)) (pss_cons (ps_for (passes_of rfl) rfl (pi_range1 (by rfl) TB.b_range (pa_cons (pe_op op_add pe_int (pe_cl c__law_draw hr (by decide) (by rfl) psE (pa_cons (pv 1) (pa_cons pe_int pa_nil)))) pa_nil)) (pg_name (i := 4) sc_law.nd rfl (Or.inl rfl)) (pss_one (ps_expr (kapp (K := K) rfl PySem.F.plainAttrs_list PySem.F.slot_list_append PySem.F.type_list_append mt_append (pv 3) (pa_cons (pe_cl c__law_near hr (by decide) (by rfl) psE (pa_cons (pv 1) (pa_cons (pv 3) pa_nil))) pa_nil))))) (pss_cons (ps_set (i := 5) sc_law.nd rfl (Or.inr rfl) (pe_lst pa_nil)) (pss_cons (ps_for (passes_of rfl) rfl (kpi_l (K := K) rfl (pv 3)) (pg_name (i := 6) sc_law.nd rfl (Or.inl rfl)) (pss_one (ps_expr (kapp (K := K) rfl PySem.F.plainAttrs_list PySem.F.slot_list_append PySem.F.type_list_append mt_append (pv 5) (pa_cons (pe_ifExp (pw_and (pt_cmpR op_eq (pe_ix (kix_t (K := K) rfl) (pv 6) pe_int (fun _ _ => rfl)) pe_int (nomark _)) (pw_and1 (pt_tr (pe_cl c__law_draw hr (by decide) (by rfl) psE (pa_cons (pv 1) (pa_cons pe_int pa_nil))) (ktru (K := K) rfl) (fun _ => rfl)))).pt (pe_ix (kix_t (K := K) rfl) (pv 6) pe_int (fun _ _ => rfl)) (pe_ck c_Ratio_2 hr (by decide) (by rfl) psE (pa_cons (pe_ix (kix_t (K := K) rfl) (pv 6) pe_int (fun _ _ => rfl)) (pa_cons (pe_ix (kix_t (K := K) rfl) (pv 6) pe_int (fun _ _ => rfl)) pa_nil)))) pa_nil))))) (pss_cons (ps_set (i := 7) sc_law.nd rfl (Or.inr rfl) (pe_callTy (kc_listof (K := K) rfl) (by rfl) TB.b_list (by decide +kernel) (pa_cons (pv 5) pa_nil))) (pss_cons (ps_if (pw_or (pt_not (pt_val (pe_cl c__law_order_right hr (by decide) (by rfl) psE (pa_cons (pv 3) (pa_cons (pv 5) pa_nil))))) (pw_or1 (pt_not (pt_val (pe_cl c__law_order_right hr (by decide) (by rfl) psE (pa_cons (pv 3) (pa_cons (pe_callTy (kc_tupof (K := K) rfl) (by rfl) TB.b_tuple (by decide +kernel) (pa_cons (pv 5) pa_nil)) pa_nil))))))).pt (pss_one (ps_ret pe_bl)) pss_nil) (pss_cons (ps_if (pw_or (pt_cmpR op_ne (pe_callB (kc_len (K := K) rfl) (by rfl) TB.b_len PySem.boot_len (pa_cons (pv 5) pa_nil)) (pe_callB (kc_len (K := K) rfl) (by rfl) TB.b_len PySem.boot_len (pa_cons (pv 7) pa_nil)) (nomark _)) (pw_or1 (pt_not (pt_val (pe_callB (kc_all (K := K) rfl rfl) (by rfl) TB.b_all (by decide +kernel) (pa_cons (pe_lc (own := [("_law_k", 4)]) (tt := tYes) (by rfl) sc_law.nd (pi_range1 (by rfl) TB.b_range (pa_cons (pe_callB (kc_len (K := K) rfl) (by rfl) TB.b_len PySem.boot_len (pa_cons (pv 7) pa_nil)) pa_nil)) (blkOk_by (own := [("_law_k", 4)]) (N := ["_law_script", "_law_tape", "_law_shared", "_law_rows", "_law_k", "_law_handed", "_law_one", "_law_kept", "_law_turned", "_law_other"]) (sc := defScope s_law) (by decide +kernel)) (fun _ _ _ _ _ => (pg_name (i := 4) sc_law.nd rfl (Or.inl rfl))) (fun _ _ _ _ _ => pts_nil) (fun _ _ _ _ _ => (pe_cmpR (op_or op_eq (op_or (opRC_eq k_Ratio.o c_Ratio_eq hr (by decide) passL) (op_or (kC_eq (K := K) rfl c_Ratio_eq hr (by decide) passL) (kC_eq (K := K) rfl c_Ratio_eq hr (by decide) passL)))) (pe_ix (kix_l (K := K) rfl) (pv 5) (pv 4) (fun _ _ => rfl)) (pe_ix (kix_l (K := K) rfl) (pv 7) (pv 4) (fun _ _ => rfl)) (nomark _)))) pa_nil)))))).pt (pss_one (ps_ret pe_bl)) pss_nil) (pss_cons (ps_setLc (i := 8) (own := [("_law_one", 6)]) (tt := tYes) (by rfl) sc_law.nd rfl rfl (sw_true rfl rfl rfl (by decide +kernel)) (kpi_l (K := K) rfl (pv 3)) (blkOk_by (own := [("_law_one", 6)]) (N := ["_law_script", "_law_tape", "_law_shared", "_law_rows", "_law_k", "_law_handed", "_law_one", "_law_kept", "_law_turned", "_law_other"]) (sc := defScope s_law) (by decide +kernel)) (fun _ _ _ _ _ => (pg_name (i := 6) sc_law.nd rfl (Or.inl rfl))) (fun _ _ _ _ _ => pts_nil) (fun _ _ _ _ _ => (pe_tup (pa_cons (pe_un un_neg (pe_ix (kix_t (K := K) rfl) (pv 6) pe_int (fun _ _ => rfl))) (pa_cons (pe_ix (kix_t (K := K) rfl) (pv 6) pe_int (fun _ _ => rfl)) pa_nil))))) (pss_cons (ps_if (pt_not (pt_val (pe_cl c__law_order_right hr (by decide) (by rfl) psE (pa_cons (pv 8) (pa_cons (pe_lc (own := [("_law_one", 6)]) (tt := tYes) (by rfl) sc_law.nd (kpi_l (K := K) rfl (pv 8)) (blkOk_by (own := [("_law_one", 6)]) (N := ["_law_script", "_law_tape", "_law_shared", "_law_rows", "_law_k", "_law_handed", "_law_one", "_law_kept", "_law_turned", "_law_other"]) (sc := defScope s_law) (by decide +kernel)) (fun _ _ _ _ _ => (pg_name (i := 6) sc_law.nd rfl (Or.inl rfl))) (fun _ _ _ _ _ => pts_nil) (fun _ _ _ _ _ => (pe_ck c_Ratio_2 hr (by decide) (by rfl) passL (pa_cons (pe_ix (kix_t (K := K) rfl) (pv 6) pe_int (fun _ _ => rfl)) (pa_cons (pe_ix (kix_t (K := K) rfl) (pv 6) pe_int (fun _ _ => rfl)) pa_nil))))) pa_nil))))) (pss_one (ps_ret pe_bl)) pss_nil) (pss_cons (ps_if (pw_or (pt_cmpR (kop_neD (K := K) rfl (hu_of64 hr)) (pe_cl c_ascending hr (by decide) (by rfl) psE (pa_cons (pe_lst pa_nil) pa_nil)) (pe_lst pa_nil) (nomark _)) (pw_or1 (pt_not (pt_val (pe_cl c__law_whole_is hr (by decide) (by rfl) psE (pa_cons (pe_lamE (cL := cL) (PT := PT) (gE := gE) (CN := C_NoSuch) (sp := spLeast C_Ratio C_NoSuch 0) (k := 8) (by rfl) g_empty kpE lkE hcE bE EC XF n_NoSuch g_NoSuch TB.b_isinstance bv exN veN TBc rfl rfl (hr.mono (by decide)) c_least (by decide)) (pa_cons pe_int pa_nil))))))).pt (pss_one (ps_ret pe_bl)) pss_nil) (pss_one (ps_ret (pe_cl c__law_whole_is hr (by decide) (by rfl) psE (pa_cons (pe_lamE (cL := cL) (PT := PT) (gE := gE) (CN := C_NoSuch) (sp := spLeast C_Ratio C_NoSuch 1) (k := 8) (by rfl) g_empty kpE lkE hcE bE EC XF n_NoSuch g_NoSuch TB.b_isinstance bv exN veN TBc rfl rfl (hr.mono (by decide)) c_greatest (by decide)) (pa_cons pe_int pa_nil)))))))))))))))))))), ?_⟩
    have bt0 : Bt 0 := Nat.two_pow_pos _
    have sm : ∀ m : Int, m.natAbs < 2 ^ 64 → m.natAbs < 2 ^ 4000 := fun m h => pow_mono h (by decide)
    have e64 : (2 : Nat) ^ 64 = 18446744073709551616 := by decide
    wtm_at "of_rd"
    refine ⟨a, ns, rfl, ha, hn, ?_⟩
    intro H1 tp c e1 np nc T1
    wtm_at "of_rd"
    refine ⟨tp, 40, 0, rfl, _, T1, by decide, by decide, by decide, ?_⟩
    intro H2 d2 L2 T2 a0 a1
    have a0 := a0 rfl
    wtm_at "of_rd"
    refine ⟨tp, 59, _, rfl, _, T2, by omega, by decide, by decide, ?_⟩
    intro H3 d3 L3 T3 b0 b1
    have B2 : ((1 : Int) + d2).natAbs < 2 ^ 140 := by
      have : (10 : Nat) ^ 40 + 1 < 2 ^ 140 := by decide
      omega
    have B3 : d3.natAbs < 2 ^ 200 := Nat.lt_trans b1 (by decide)
    refine r_I (cmA_w B2 B3 (by decide)) ?_
    wtm_at "of_rd"
    refine ⟨tp, 59, _, rfl, _, T3, by omega, by decide, by decide, ?_⟩
    intro H4 d4 L4 T4 c0 c1
    have B4 : d4.natAbs < 2 ^ 200 := Nat.lt_trans c1 (by decide)
    refine r_I (cmA_w B2 B4 (by decide)) ?_
    wtm_at "of_rd"
    have O1 : Bt ((1 + d2) * d3) := pow_mono (lt_mul B2 B3) (by decide)
    have O2 : Bt ((1 + d2) * d4) := pow_mono (lt_mul B2 B4) (by decide)
    generalize (1 + d2) * d3 = one at *
    generalize (1 + d2) * d4 = two at *
    refine ⟨one, two, rfl, O1, O2, ?_⟩
    intro H5 e5
    wtm_at "of_rd"
    refine ⟨two, one, rfl, O2, O1, ?_⟩
    intro H6 e6
    wtm_at "of_rd"
    refine ⟨one, one, rfl, O1, O1, ?_⟩
    intro H7 e7
    wtm_at "of_rd"
    refine ⟨0, 0, rfl, bt0, bt0, ?_⟩
    intro H8 e8
    wtm_at "of_rd"
    refine ⟨one, 0, rfl, O1, bt0, ?_⟩
    intro H9 e9
    wtm_at "of_rd"
    have e49 := (((e5.trans e6).trans e7).trans e8).trans e9
    refine ⟨tp, 9, _, rfl, _, T4.ex e49, by omega, by decide, by decide, ?_⟩
    intro H10 d10 L10 T10 f0 f1
    wtm_at "of_rd"
    refine ⟨d10, 1, rfl, pow_mono (n := 30) (Nat.lt_trans f1 (by decide)) (by decide), sm _ (by decide), ?_⟩
    intro H11 e11
    wtm_at "of_rd"
    have L11 : Le H H11 := (((((e1.le.trans L2).trans L3).trans L4).trans e49.le).trans L10).trans e11.le
    have T11 := T10.ex e11
    refine r_laidL (by decide) ?_
    intro R H12 e12 n12 h12
    wtm_at "of_rd"
    refine ⟨tp, 40, _, rfl, _, T11.ex e12, by omega, by decide, sm _ (by decide), ?_⟩
    intro H13 d L13 T13 g0 g1
    wtm_at "of_rd"
    have cR : c ≠ R := fun z => by
      obtain ⟨_, _, _, _, z2, _⟩ := T11
      rw [z, n12] at z2; cases z2
    obtain ⟨m, hm⟩ : ∃ m : Nat, 1 + d = (m : Int) := ⟨(1 + d).toNat, by omega⟩
    rw [hm]
    refine i_R (n := m) rfl (by omega) ?_
    refine fR' (fun i σ H' => ∃ (xs : List V) (rs : List Pr) (v2 v4 v5 v6 v7 v8 v9 : Option V), σ = [some (.ref a), some (.ref tp), v2, some (.ref R), v4, v5, v6, v7, v8, v9] ∧ Le H11 H' ∧ H' R = some (.lst xs) ∧ RowsX H' xs rs ∧ rs.length = i ∧ (∀ r ∈ rs, PrOk (240 + 5 * i) r) ∧ Tape H' tp c (300 + 500 * i))
      ⟨[], [], _, _, _, _, _, _, _, rfl, e12.le.trans L13, L13.lst h12, .nil, rfl, (fun r h => by cases h), T13.mono (by omega)⟩ ?_ ?_
    · rintro i σ H14 hi ⟨xs, rs, v2, v4, v5, v6, v7, v8, v9, rfl, L14, hR, hx, hl, ok, T14⟩
      wtm_at "of_rd"
      refine ⟨ty_l hR, ?_⟩
      wtm_at "of_rd"
      refine ⟨tp, R, rs, _, 240 + 5 * i, rfl, c, T14, by omega, ⟨xs, hR, hx⟩, by omega, by omega, by omega, ok, ?_⟩
      intro H15 q r L15 T15 hq okr
      wtm_at "of_rd"
      refine r_app (L15.lst hR) (by rw [hx.length]; omega) ?_
      wtm_at "of_rd"
      refine ⟨xs ++ [.ref q], rs ++ [r], _, _, _, _, _, _, _, rfl, (L14.trans L15).put n12, upd_same, ((hx.le L15).put (L15.lst hR)).snoc (by rw [upd_ne (ne_of hq (L15.lst hR) (by intro z; cases z))]; exact hq), by rw [List.length_append, hl]; rfl, fun r' h' => ?_, ((T15.put (L15.lst hR) cR).mono (by omega))⟩
      rcases List.mem_append.mp h' with z | z
      · exact (ok r' z).mono (by omega)
      · rw [List.mem_singleton.mp z]; exact okr.mono (by omega)
    rintro σ H14 ⟨xs, rs, v2, v4, v5, v6, v7, v8, v9, rfl, L14, hR, hx, hl, ok0, T14⟩
    have ok : ∀ r ∈ rs, PrOk 3000 r := fun r h => (ok0 r h).mono (by omega)
    wtm_at "of_rd"
    refine r_laidL (by decide) ?_
    intro D H15 e15 n15 h15
    wtm_at "of_rd"
    have cD : c ≠ D := fun z => by
      obtain ⟨_, _, _, _, z2, _⟩ := T14
      rw [z, n15] at z2; cases z2
    have xl := hx.length
    refine i_L (e15 _ _ hR) ?_
    refine fL (xs := xs) (fun i σ H' => ∃ (ys : List V) (v2 v4 v6 v7 v8 v9 : Option V), σ = [some (.ref a), some (.ref tp), v2, some (.ref R), v4, some (.ref D), v6, v7, v8, v9] ∧ Le H14 H' ∧ H' D = some (.lst ys) ∧ ys.length = i ∧ (∀ (j : Nat) (r : Pr), j < i → rs[j]? = some r → ∃ v, ys[j]? = some v ∧ NumV C_Ratio H' v (toQ r)) ∧ Tape H' tp c (30000 + i))
      ⟨[], _, _, _, _, _, _, rfl, e15.le, h15, rfl, fun j r h => absurd h (Nat.not_lt_zero _), (T14.ex e15).mono (by omega)⟩ (fun i σ H' _ ⟨_, _, _, _, _, _, _, _, L, _⟩ => L.lst hR) ?_ ?_
    · rintro i x σ H16 hxi ⟨ys, v2, v4, v6, v7, v8, v9, rfl, L16, hD, hyl, hya, T16⟩
      have hi : i < xs.length := (List.getElem?_eq_some_iff.mp hxi).1
      obtain ⟨q, r, rfl, hr, hq⟩ := (hx.le L16).at_ hxi
      obtain ⟨o1, o2, o3⟩ := ok r (List.mem_of_getElem? hr)
      have fin : ∀ (H' : Hp) (v : V), Le H16 H' → Tape H' tp c (30000 + i + 1) → NumV C_Ratio H' v (toQ r) → ∀ (v2 v4 v6 v7 v8 v9 : Option V), ∃ (ys' : List V) (w2 w4 w6 w7 w8 w9 : Option V), [some (V.ref a), some (.ref tp), v2, some (.ref R), v4, some (.ref D), v6, v7, v8, v9] = [some (.ref a), some (.ref tp), w2, some (.ref R), w4, some (.ref D), w6, w7, w8, w9] ∧ Le H14 (upd H' D (.lst (ys ++ [v]))) ∧ upd H' D (.lst (ys ++ [v])) D = some (.lst ys') ∧ ys'.length = i + 1 ∧ (∀ (j : Nat) (r : Pr), j < i + 1 → rs[j]? = some r → ∃ v', ys'[j]? = some v' ∧ NumV C_Ratio (upd H' D (.lst (ys ++ [v]))) v' (toQ r)) ∧ Tape (upd H' D (.lst (ys ++ [v]))) tp c (30000 + (i + 1)) := by
        intro H' v L T nv v2 v4 v6 v7 v8 v9
        have hD' := L.lst hD
        have np : ∀ {v' : V} {q : Rat}, NumV C_Ratio H' v' q → NumV C_Ratio (upd H' D (.lst (ys ++ [v]))) v' q := fun h => by
          rcases h with h | ⟨p, e, h⟩
          · exact .inl h
          · exact .inr ⟨p, e, h.put hD'⟩
        refine ⟨ys ++ [v], v2, v4, v6, v7, v8, v9, rfl, (L16.trans L).put n15, upd_same, by rw [List.length_append, hyl]; rfl, fun j r' hj hr' => ?_, T.put hD' cD⟩
        by_cases z : j < i
        · obtain ⟨v', h1, h2⟩ := hya j r' z hr'
          exact ⟨v', by rw [List.getElem?_append_left (by omega)]; exact h1, np (h2.le L)⟩
        · have : j = i := by omega
          subst this
          rw [hr] at hr'; cases hr'
          exact ⟨v, by rw [List.getElem?_append_right (by omega), hyl]; simp, np nv⟩
      wtm_at "of_rd"
      refine ⟨ty_l hD, ?_⟩
      wtm_at "of_rd"
      refine r_iT1 hq (atI_nat (j := 1) rfl) ?_
      wtm_at "of_rd"
      refine ite2 (fun h1 => ?_) (fun h1 => ?_)
      · wtm_at "of_rd"
        refine ⟨tp, 2, _, rfl, _, T16, by omega, by decide, sm _ (by decide), ?_⟩
        intro H17 d17 L17 T17 z0 z1
        refine q_truI ?_
        refine ite2 (fun h2 => ?_) (fun h2 => ?_)
        · wtm_at "of_rd"
          refine r_iT1 (L17.tup hq) (atI_nat (j := 0) rfl) ?_
          wtm_at "of_rd"
          refine r_app (L17.lst hD) (by omega) ?_
          wtm_at "of_rd"
          exact fin H17 _ L17 T17 (.inl ⟨r.1, rfl, toQ_one h1⟩) _ _ _ _ _ _
        · wtm_at "of_rd"
          refine r_iT1 (L17.tup hq) (atI_nat (j := 0) rfl) ?_
          wtm_at "of_rd"
          refine r_iT1 (L17.tup hq) (atI_nat (j := 1) rfl) ?_
          wtm_at "of_rd"
          refine q_mk rfl (by omega) (pow_mono o2 (by decide)) ?_
          intro H18 p18 e18 h18
          wtm_at "of_rd"
          refine r_app ((L17.trans e18.le).lst hD) (by omega) ?_
          wtm_at "of_rd"
          exact fin H18 _ (L17.trans e18.le) (T17.ex e18) (num_r h18) _ _ _ _ _ _
      · wtm_at "of_rd"
        refine r_iT1 hq (atI_nat (j := 0) rfl) ?_
        wtm_at "of_rd"
        refine r_iT1 hq (atI_nat (j := 1) rfl) ?_
        wtm_at "of_rd"
        refine q_mk rfl (by omega) (pow_mono o2 (by decide)) ?_
        intro H18 p18 e18 h18
        wtm_at "of_rd"
        refine r_app (e18.le.lst hD) (by omega) ?_
        wtm_at "of_rd"
        exact fin H18 _ e18.le ((T16.ex e18).mono (by omega)) (num_r h18) _ _ _ _ _ _
    rintro σ H16 ⟨ys, v2, v4, v6, v7, v8, v9, rfl, L16, hD, hyl, hya, T16⟩
    have rpos : 0 < rs.length := by omega
    have rle : rs.length ≤ 1000 := by omega
    have hR16 := L16.lst hR
    have hx16 := hx.le L16
    have hand : ∀ {H' : Hp}, Le H16 H' → ∀ (i : Nat) (r : Pr), rs[i]? = some r → ∃ v, ys[i]? = some v ∧ NumV C_Ratio H' v (toQ r) := fun L i r h => by
      obtain ⟨v, z1, z2⟩ := hya i r (by rw [xl]; exact (List.getElem?_eq_some_iff.mp h).1) h
      exact ⟨v, z1, z2.le L⟩
    wtm_at "of_rd"
    refine q_listL hD ?_
    intro Kp H17 e17 n17 h17
    wtm_at "of_rd"
    refine ⟨R, D, rs, rfl, ⟨xs, e17 _ _ hR16, hx16.le e17.le⟩, ⟨ys, .inl (e17 _ _ hD), by omega, hand e17.le⟩, rpos, rle, ok, ?_⟩
    intro H18 e18
    wtm_at "of_rd"
    have e178 := e17.trans e18
    refine q_tupL (e178 _ _ hD) ?_
    intro Tt H19 e19 n19 h19
    have e179 := e178.trans e19
    wtm_at "of_rd"
    refine ⟨R, Tt, rs, rfl, ⟨xs, e179 _ _ hR16, hx16.le e179.le⟩, ⟨ys, .inr h19, by omega, hand e179.le⟩, rpos, rle, ok, ?_⟩
    intro H20 e20
    have e200 := e179.trans e20
    wtm_at "of_rd"
    refine q_lenL (e200 _ _ hD) ?_
    wtm_at "of_rd"
    refine q_lenL (((e18.trans e19).trans e20) _ _ h17) ?_
    wtm_at "of_rd"
    refine iteN rfl ?_
    wtm_at "of_rd"
    refine q_lenL (((e18.trans e19).trans e20) _ _ h17) ?_
    wtm_at "of_rd"
    refine i_R (n := ys.length) rfl (by omega) ?_
    refine lR (fun L i acc H' => Ex H20 H' ∧ acc = (List.replicate i true).map V.bl) (fun L hL H' e h => ⟨e, rfl⟩) ?_ ?_
    · rintro L i acc H' hL hi ⟨e, rfl⟩ hacc
      have hrs : i < rs.length := by omega
      obtain ⟨v, zv, nv⟩ := hand (H' := H') (e200.trans e).le i _ (List.getElem?_eq_getElem hrs)
      have i0 : (0 : Int) + (i : Int) = ((i : Nat) : Int) := by omega
      have al : ((List.replicate i true).map V.bl).length ≤ 1000000 := by rw [List.length_map, List.length_replicate]; omega
      have fin : ∀ H'' : Hp, Ex H' H'' → LPut L (fun acc H' => Ex H20 H' ∧ acc = (List.replicate (i + 1) true).map V.bl) (V.bl true) H'' := fun H'' e2 => by
        refine lput (e2 _ _ hacc) al ⟨(e.trans e2).put hL, ?_⟩
        rw [List.replicate_succ', List.map_append]; rfl
      wtm_at "of_rd"
      refine ⟨rfl, ?_⟩
      rw [i0]
      wtm_at "of_rd"
      refine r_iL1 ((e200.trans e) _ _ hD) (atI_nat zv) ?_
      wtm_at "of_rd"
      refine r_iL1 ((((e18.trans e19).trans e20).trans e) _ _ h17) (atI_nat zv) ?_
      rcases nv with ⟨z, rfl, _⟩ | ⟨p, rfl, hp⟩
      · refine .inl (r_eqI ?_)
        rw [decide_eq_true rfl]
        exact fin H' (Ex.refl _)
      · have okq := (ok _ (List.getElem_mem hrs)).bq (by decide)
        refine .inr (.inr (.inr (o_O hp (o_anyR TR hp) (q_REq hp (num_r hp) ?_))))
        rw [decide_eq_true rfl]
        exact fin H' (Ex.refl _)
    rintro L acc H21 hL h21 ⟨e21, rfl⟩
    wtm_at "of_rd"
    refine q_allB h21 ?_
    rw [show (List.replicate ys.length true).all id = true from by simp]
    wtm_at "of_rd"
    have e210 := e200.trans e21
    refine i_L (e210 _ _ hR16) ?_
    refine lL (xs := xs) (fun L i acc H' => Ex H21 H' ∧ RowsX H' acc ((rs.take i).map negP)) (fun L hL H' e h => ⟨e, .nil⟩) (fun L i acc H' hL hi ⟨e, _⟩ => (e210.trans e) _ _ hR16) ?_ ?_
    · intro L i x acc H' hL hxi ⟨e, ac⟩ hacc
      have E := e210.trans e
      obtain ⟨q, r, rfl, hr, hq⟩ := (hx16.le E.le).at_ hxi
      wtm_at "of_rd"
      refine ⟨rfl, ?_⟩
      wtm_at "of_rd"
      refine r_iT1 hq (atI_nat (j := 0) rfl) ?_
      wtm_at "of_rd"
      refine r_iT1 hq (atI_nat (j := 1) rfl) ?_
      wtm_at "of_rd"
      refine r_laidT (by show 2 ≤ 1000; decide) ?_
      intro p H'' e2 n2 h2
      have hacc2 := e2 _ _ hacc
      refine lput hacc2 (by rw [ac.length, List.length_map]; exact Nat.le_trans (List.length_take_le _ _) (by have := (List.getElem?_eq_some_iff.mp hxi).1; omega)) ⟨(e.trans e2).put hL, ?_⟩
      rw [List.take_add_one, hr, List.map_append]
      exact ((ac.le e2.le).put hacc2).snoc (by rw [upd_ne (ne_of h2 hacc2 (by intro z; cases z))]; exact h2)
    intro U acc H22 hU h22 ⟨e22, ac⟩
    rw [xl, List.take_length] at ac
    have e220 := e210.trans e22
    have okn : ∀ r ∈ rs.map negP, PrOk 3000 r := fun r h => by
      obtain ⟨r', h1, rfl⟩ := List.mem_map.mp h
      exact (ok r' h1).neg
    have acl : acc.length = rs.length := by rw [ac.length, List.length_map]
    wtm_at "of_rd"
    refine i_L h22 ?_
    refine lL (xs := acc) (fun L i acc9 H' => Ex H22 H' ∧ Acc (fun j p H => ∃ r, (rs.map negP)[j]? = some r ∧ IsR C_Ratio H p (toQ r)) acc9 i H') (fun L hL H' e h => ⟨e, .nil⟩) (fun L i acc H' hL hi ⟨e, _⟩ => e _ _ h22) ?_ ?_
    · intro L i x acc9 H' hL hxi ⟨e, ac9⟩ hacc
      obtain ⟨q, r, rfl, hr, hq⟩ := (ac.le e.le).at_ hxi
      obtain ⟨o1, o2, o3⟩ := okn r (List.mem_of_getElem? hr)
      have hil := (List.getElem?_eq_some_iff.mp hxi).1
      wtm_at "of_rd"
      refine ⟨rfl, ?_⟩
      wtm_at "of_rd"
      refine r_iT1 hq (atI_nat (j := 0) rfl) ?_
      wtm_at "of_rd"
      refine r_iT1 hq (atI_nat (j := 1) rfl) ?_
      wtm_at "of_rd"
      refine q_mk rfl (by omega) (pow_mono o2 (by decide)) ?_
      intro H'' p e2 h2
      have hacc2 := e2 _ _ hacc
      exact lput hacc2 (by rw [ac9.len]; omega) ⟨(e.trans e2).put hL, ac9.snoc (fun j q ⟨r, z1, z2⟩ => ⟨r, z1, (z2.ex e2).put hacc2⟩) ⟨r, hr, h2.put hacc2⟩⟩
    intro W acc9 H23 hW h23 ⟨e23, ac9⟩
    rw [acl] at ac9
    wtm_at "of_rd"
    refine ⟨U, W, rs.map negP, rfl, ⟨acc, e23 _ _ h22, ac.le e23.le⟩, ⟨acc9, .inl h23, by rw [List.length_map]; exact ac9.len, fun i r h => ?_⟩, by rw [List.length_map]; exact rpos, by rw [List.length_map]; exact rle, okn, ?_⟩
    · have hi := (List.getElem?_eq_some_iff.mp h).1
      rw [List.length_map] at hi
      obtain ⟨p, z1, r', z2, z3⟩ := ac9.at_ i hi
      rw [h] at z2; cases z2
      exact ⟨_, z1, num_r z3⟩
    intro H24 e24
    wtm_at "of_rd"
    refine r_laidL (by decide) ?_
    intro Z H25 e25 n25 h25
    wtm_at "of_rd"
    refine ⟨Z, [], [], rfl, .inl h25, rfl, (fun i q h => by simp at h), (fun q h => by cases h), by decide, ?_⟩
    intro H26 p26 y26 r26 e26 n26 h26 g26 perm26 _
    have z26 : r26 = [] := perm26.eq_nil
    subst z26
    have y0 : y26 = [] := List.length_eq_zero_iff.mp g26.1
    subst y0
    wtm_at "of_rd"
    refine r_laidL (by decide) ?_
    intro Z2 H27 e27 n27 h27
    refine r_neNil (rs := []) (e27 _ _ h26) .nil h27 ?_
    wtm_at "of_rd"
    rw [decide_eq_true rfl]
    wtm_at "of_rd"
    have TB27 : LamX.Tabs [(PT, qL)] H27 := tabs_le hTab ((((L11.trans L14).trans L16)).trans (e17.trans (e18.trans (e19.trans (e20.trans (e21.trans (e22.trans (e23.trans (e24.trans (e25.trans (e26.trans e27)))))))))).le)
    refine r_lam TB27 ?_
    intro H28 x28 t28
    try unfold TEmpty
    wtm_at "of_rd"
    refine r_laidL (by decide) ?_
    intro Z3 H29 e29 n29 h29
    refine ⟨Z3, [], rfl, .inl h29, .inl ⟨rfl, fun d H30 e30 hd30 hn30 => ⟨rfl, d, _, rfl, hd30, ?_⟩⟩⟩
    have t30 : LamX.Tabs [(PT, qL)] H30 := tabs_le t28 (e29.trans e30).le
    wtm_at "of_rd"
    refine ⟨0, 0, rfl, ?_⟩
    rw [decide_eq_true rfl]
    wtm_at "of_rd"
    refine r_lam t30 ?_
    intro H31 x31 t31
    try unfold TEmpty
    wtm_at "of_rd"
    refine r_laidL (by decide) ?_
    intro Z4 H32 e32 n32 h32
    refine ⟨Z4, [], rfl, .inl h32, .inl ⟨rfl, fun d5 H33 e33 hd33 hn33 => ⟨rfl, d5, _, rfl, hd33, ?_⟩⟩⟩
    wtm_at "of_rd"
    refine ⟨0, 0, rfl, ?_⟩
    rw [decide_eq_true rfl]
    wtm_at "of_rd"
    exact k _
end
end
section
open PySem PySem.Spec PyProof.Rows L2
/-- the order of rows, item by item -/
def lexI : List Int → List Int → Bool
  | a :: as, b :: bs => if a = b then lexI as bs else decide (a < b)
  | [], _ :: _ => true
  | _, [] => false
theorem lexI_irr : ∀ a : List Int, lexI a a = false
  | [] => rfl
  | a :: as => by unfold lexI; rw [if_pos rfl]; exact lexI_irr as
theorem lexI_asymm : ∀ a b : List Int, lexI a b = true → lexI b a = false
  | [], [], h => by cases h
  | [], _ :: _, _ => rfl
  | _ :: _, [], h => by cases h
  | a :: as, b :: bs, h => by
    unfold lexI at h ⊢
    by_cases e : a = b
    · rw [if_pos e] at h; rw [if_pos e.symm]; exact lexI_asymm as bs h
    · rw [if_neg e] at h; rw [if_neg (fun z => e z.symm)]
      rw [decide_eq_true_iff] at h; rw [decide_eq_false_iff_not]; omega
theorem lexI_step : ∀ a b c : List Int, lexI c a = true → lexI c b = true ∨ lexI b a = true
  | [], _, [], h => by cases h
  | [], _, _ :: _, h => by cases h
  | _ :: _, [], [], _ => .inr rfl
  | _ :: _, _ :: _, [], _ => .inl rfl
  | _ :: _, [], _ :: _, _ => .inr rfl
  | a :: as, b :: bs, c :: cs, h => by
    unfold lexI at h ⊢
    by_cases e : c = a
    · rw [if_pos e] at h
      subst e
      by_cases e2 : c = b
      · rw [if_pos e2, if_pos e2.symm]; exact lexI_step as bs cs h
      · rw [if_neg e2, if_neg (fun z => e2 z.symm), decide_eq_true_iff, decide_eq_true_iff]; omega
    · rw [if_neg e, decide_eq_true_iff] at h
      by_cases e2 : c = b
      · subst e2; rw [if_neg e, decide_eq_true_iff]; exact .inr h
      · rw [if_neg e2, decide_eq_true_iff]
        by_cases z : c < b
        · exact .inl z
        · right
          rw [if_neg (by omega), decide_eq_true_iff]; omega
/-- not after -/
def leI (a b : List Int) : Bool := !lexI b a
theorem leI_refl (a : List Int) : leI a a = true := by unfold leI; rw [lexI_irr]; rfl
theorem leI_trans {a b c : List Int} (h : leI a b = true) (h' : leI b c = true) : leI a c = true := by
  unfold leI at *
  rw [Bool.not_eq_true'] at *
  cases e : lexI c a with
  | false => rfl
  | true =>
    rcases lexI_step a b c e with z | z
    · rw [h'] at z; cases z
    · rw [h] at z; cases z
theorem leI_of_lt {a b : List Int} (h : lexI a b = true) : leI a b = true := by unfold leI; rw [lexI_asymm a b h]; rfl
theorem leI_of_nlt {a b : List Int} (h : lexI a b = false) : leI b a = true := by unfold leI; rw [h]; rfl
/-- one more item told by a key -/
theorem key_step {M a b x y : Int} (hx : -M ≤ x ∧ x ≤ M) (hy : -M ≤ y ∧ y ≤ M) : (a * (2 * M + 1) + x < b * (2 * M + 1) + y) ↔ (a < b ∨ (a = b ∧ x < y)) := by
  have up : ∀ {a b x y : Int}, (-M ≤ x ∧ x ≤ M) → (-M ≤ y ∧ y ≤ M) → a < b → a * (2 * M + 1) + x < b * (2 * M + 1) + y := by
    intro a b x y hx hy h
    obtain ⟨d, hd, rfl⟩ : ∃ d : Int, 0 ≤ d ∧ b = a + 1 + d := ⟨b - a - 1, by omega, by omega⟩
    have z : (a + 1 + d) * (2 * M + 1) = a * (2 * M + 1) + (2 * M + 1) + d * (2 * M + 1) := by rw [Int.add_mul, Int.add_mul, Int.one_mul]
    have n : 0 ≤ d * (2 * M + 1) := Int.mul_nonneg hd (by omega)
    rw [z]; omega
  constructor
  · intro h
    rcases Int.lt_trichotomy a b with z | z | z
    · exact .inl z
    · subst z; exact .inr ⟨rfl, by omega⟩
    · have := up hy hx z; omega
  · rintro (z | ⟨rfl, z⟩)
    · exact up hx hy z
    · omega
theorem key_step_eq {M a b x y : Int} (hx : -M ≤ x ∧ x ≤ M) (hy : -M ≤ y ∧ y ≤ M) : (a * (2 * M + 1) + x = b * (2 * M + 1) + y) ↔ (a = b ∧ x = y) := by
  constructor
  · intro h
    rcases Int.lt_trichotomy a b with z | z | z
    · have := (key_step hx hy).mpr (.inl z); omega
    · subst z; exact ⟨rfl, by omega⟩
    · have := (key_step hy hx).mpr (.inl z); omega
  · rintro ⟨rfl, rfl⟩; rfl
/-- rows' first n items are ordered as their keys -/
def KeysOf (ks : List (List Int)) (n : Nat) (key : List Int) : Prop := key.length = ks.length ∧ ∀ i j : Nat, i < ks.length → j < ks.length →
  ((key.getD i 0 < key.getD j 0) ↔ lexI ((ks.getD i []).take n) ((ks.getD j []).take n) = true) ∧ ((key.getD i 0 = key.getD j 0) ↔ (ks.getD i []).take n = (ks.getD j []).take n)
theorem lexI_snoc : ∀ (a b : List Int) (x y : Int), a.length = b.length → (lexI (a ++ [x]) (b ++ [y]) = true ↔ lexI a b = true ∨ (a = b ∧ x < y))
  | [], [], x, y, _ => by
    unfold lexI
    by_cases e : x = y
    · subst e; simp [lexI]
    · simp [lexI, e]
  | a :: as, b :: bs, x, y, h => by
    have ih := lexI_snoc as bs x y (by simpa using h)
    show lexI (a :: (as ++ [x])) (b :: (bs ++ [y])) = true ↔ lexI (a :: as) (b :: bs) = true ∨ (a :: as = b :: bs ∧ x < y)
    unfold lexI
    by_cases e : a = b
    · subst e
      rw [if_pos rfl, if_pos rfl, ih]
      simp
    · rw [if_neg e, if_neg e]
      simp [e]
  | [], _ :: _, _, _, h => by cases h
  | _ :: _, [], _, _, h => by cases h
/-- the floor of a ratio with 2*B more bits keeps the order -/
theorem fdiv_lt {a b : Int} {t : Int} (hb : 0 < b) : a.fdiv b < t ↔ a < t * b := by
  rw [Int.fdiv_eq_ediv_of_nonneg _ (by omega)]; exact Int.ediv_lt_iff_lt_mul hb
theorem le_fdiv {a b : Int} {t : Int} (hb : 0 < b) : t ≤ a.fdiv b ↔ t * b ≤ a := by
  rw [Int.fdiv_eq_ediv_of_nonneg _ (by omega)]; exact Int.le_ediv_iff_mul_le hb
/-- two ratios a/b < c/d with b d ≤ S: the floors of S times them differ the same way -/
theorem floor_key {a b c d S : Int} (hb : 0 < b) (hd : 0 < d) (hS : b * d ≤ S) (h : a * d < c * b) : (a * S).fdiv b < (c * S).fdiv d := by
  -- with t the right floor: t * d > c S - d; want a S < t b
  rw [fdiv_lt hb]
  have hS0 : 0 < S := Int.lt_of_lt_of_le (Int.mul_pos hb hd) hS
  generalize ht : (c * S).fdiv d = t
  have h1 : c * S < (t + 1) * d := by
    rw [← fdiv_lt hd, ht]; omega
  -- a S d < t b d: a d ≤ c b - 1, so a d S ≤ c b S - S, c S ≤ t d + d - 1
  have h2 : a * d * S ≤ (c * b - 1) * S := Int.mul_le_mul_of_nonneg_right (by omega) (by omega)
  have h3 : b * (c * S) ≤ b * ((t + 1) * d - 1) := Int.mul_le_mul_of_nonneg_left (by omega) (by omega)
  have h4 : a * d * S = (a * S) * d := by grind
  have h5 : (c * b - 1) * S = b * (c * S) - S := by grind
  have h6 : b * ((t + 1) * d - 1) = (t * b) * d + b * d - b := by grind
  have h7 : (a * S) * d < (t * b) * d := by omega
  exact Int.lt_of_mul_lt_mul_right h7 (by omega)
end
section
open PySem PySem.Spec PyProof.Rows L2
section
variable {K : PySem.W.Frag} {g : TG} {ts : TS} {D : Ends} {σ : L2.St} {H : Hp} {a : Addr} {xs : List V}
/-- the turns over the rest xs of a list that stays ys -/
def FL (a : Addr) (ys : List V) (g : TG) (ts : TS) (D : Ends) : List V → L2.St → Hp → Prop
  | [], σ, H => D.nx σ H
  | x :: xs, σ, H => Turn1 g ts D (fun σ' H' => H' a = some (.lst ys) ∧ FL a ys g ts D xs σ' H') x σ H
theorem f_unroll (h : H a = some (.lst xs)) (k : FL a xs g ts D xs σ H) : ForIt (Itl K a) g ts D σ H := by
  refine fL (fun i σ H => H a = some (.lst xs) ∧ FL a xs g ts D (xs.drop i) σ H) ⟨h, k⟩ (fun i σ H _ h => h.1) ?_ ?_
  · intro i x σ H hx ⟨h1, h2⟩
    obtain ⟨hi, rfl⟩ := List.getElem?_eq_some_iff.mp hx
    rw [List.drop_eq_getElem_cons hi] at h2
    exact h2
  · intro σ H ⟨h1, h2⟩
    rw [List.drop_eq_nil_of_le (Nat.le_refl _)] at h2
    exact h2
theorem fl_cons {ys : List V} {x : V} (k : g x σ H fun σ2 H2 => ts { D with nx := fun σ' H' => H' a = some (.lst ys) ∧ FL a ys g ts D xs σ' H', ct := fun σ' H' => H' a = some (.lst ys) ∧ FL a ys g ts D xs σ' H', bk := D.nx } σ2 H2) : FL a ys g ts D (x :: xs) σ H := k
theorem fl_nil {ys : List V} (k : D.nx σ H) : FL a ys g ts D [] σ H := k
theorem fl_go {ys : List V} (h : H a = some (.lst ys)) (k : FL a ys g ts D xs σ H) : H a = some (.lst ys) ∧ FL a ys g ts D xs σ H := ⟨h, k⟩
theorem a_cat {b : Addr} {zs : List V} {Q : VK} (h : H a = some (.lst xs)) (h' : H b = some (.lst zs)) (hn : Nat.ble (xs.length + zs.length) 1000 = true) (k : ∀ p H', Ex H H' → H p = none → H' p = some (.lst (xs ++ zs)) → Q (.ref p) H') : rCat (.ref a) (.ref b) H Q := r_cat h h' (Nat.le_trans (Nat.le_of_ble_eq_true hn) (by decide)) k
theorem a_trT {x y : Bool} {Q : VK} {E : XK} (e : x = y) (k : Q (.bl true) H) : spTruth [.bl x, .bl y] H Q E := ⟨x, y, rfl, by rw [decide_eq_true e]; exact k⟩
theorem a_trB {b : Bool} {QT : Bool → Hp → Prop} (k : QT b H) : rTru K (.bl b) H QT := q_truB k
theorem a_trD {x y : Bool} {Q : VK} {E : XK} (k : Q (.bl (decide (x = y))) H) : spTruth [.bl x, .bl y] H Q E := ⟨x, y, rfl, k⟩
end
section
variable {q r : Rat} {n d m e : Int}
theorem rat_sgn (h : FrQ q n d) (d0 : 0 < d) : (q < 0 ↔ n < 0) ∧ (0 < q ↔ 0 < n) ∧ (q = 0 ↔ n = 0) := by
  unfold FrQ at h
  have dp : (0 : Rat) < (d : Rat) := by exact_mod_cast d0
  have key : ∀ x : Rat, (x < 0 → x * (d : Rat) < 0) ∧ (0 < x → 0 < x * (d : Rat)) := fun x =>
    ⟨fun z => by have := Rat.mul_lt_mul_of_pos_right z dp; rw [Rat.zero_mul] at this; exact this, fun z => Rat.mul_pos z dp⟩
  have k1 := (key q).1
  have k2 := (key q).2
  rw [h] at k1 k2
  have t : q < 0 ∨ q = 0 ∨ 0 < q := by
    by_cases h1 : q < 0
    · exact .inl h1
    · by_cases h2 : q = 0
      · exact .inr (.inl h2)
      · exact .inr (.inr (by grind))
  have c1 : q < 0 → n < 0 := fun z => by exact_mod_cast k1 z
  have c2 : 0 < q → 0 < n := fun z => by exact_mod_cast k2 z
  have c3 : q = 0 → n = 0 := fun z => by
    rw [z, Rat.zero_mul] at h
    exact_mod_cast h.symm
  refine ⟨⟨c1, fun z => ?_⟩, ⟨c2, fun z => ?_⟩, ⟨c3, fun z => ?_⟩⟩
  · rcases t with t | t | t
    · exact t
    · have := c3 t; omega
    · have := c2 t; omega
  · rcases t with t | t | t
    · have := c1 t; omega
    · have := c3 t; omega
    · exact t
  · rcases t with t | t | t
    · have := c1 t; omega
    · exact t
    · have := c2 t; omega
section
variable (h : FrQ q n d) (d0 : 0 < d)
include h d0
theorem cmp_eqI : decide (q = (m : Rat)) = decide (n = m * d) := by
  rw [decide_eq_decide]
  have z := (rat_sgn (frq_subI (m := m) h) d0).2.2
  constructor
  · intro e; have := z.mp (by rw [e]; exact Rat.sub_self); omega
  · intro e; have := z.mpr (by omega); grind
theorem cmp_ltI : decide (q < (m : Rat)) = decide (n < m * d) := by
  rw [decide_eq_decide]
  have z := (rat_sgn (frq_subI (m := m) h) d0).1
  constructor
  · intro e; have := z.mp (by grind); omega
  · intro e; have := z.mpr (by omega); grind
theorem cmp_gtI : decide ((m : Rat) < q) = decide (m * d < n) := by
  rw [decide_eq_decide]
  have z := (rat_sgn (frq_subI (m := m) h) d0).2.1
  constructor
  · intro e; have := z.mp (by grind); omega
  · intro e; have := z.mpr (by omega); grind
theorem cmp_leI : decide (q ≤ (m : Rat)) = decide (n ≤ m * d) := by
  have z := cmp_gtI (m := m) h d0
  rw [decide_eq_decide] at *
  rw [← Rat.not_lt, z]; omega
theorem cmp_geI : decide ((m : Rat) ≤ q) = decide (m * d ≤ n) := by
  have z := cmp_ltI (m := m) h d0
  rw [decide_eq_decide] at *
  rw [← Rat.not_lt, z]; omega
end
section
variable (h : FrQ q n d) (g : FrQ r m e) (d0 : 0 < d) (e0 : 0 < e)
include h g d0 e0
theorem cmp_eq : decide (q = r) = decide (n * e = m * d) := by
  rw [decide_eq_decide]
  have z := (rat_sgn (frq_sub h g) (Int.mul_pos d0 e0)).2.2
  constructor
  · intro e; have := z.mp (by rw [e]; exact Rat.sub_self); omega
  · intro e; have := z.mpr (by omega); grind
theorem cmp_lt : decide (q < r) = decide (n * e < m * d) := by
  rw [decide_eq_decide]
  have z := (rat_sgn (frq_sub h g) (Int.mul_pos d0 e0)).1
  constructor
  · intro e; have := z.mp (by grind); omega
  · intro e; have := z.mpr (by omega); grind
theorem cmp_gt : decide (r < q) = decide (m * d < n * e) := by
  rw [decide_eq_decide]
  have z := (rat_sgn (frq_sub h g) (Int.mul_pos d0 e0)).2.1
  constructor
  · intro e; have := z.mp (by grind); omega
  · intro e; have := z.mpr (by omega); grind
theorem cmp_le : decide (q ≤ r) = decide (n * e ≤ m * d) := by
  have z := cmp_gt h g d0 e0
  rw [decide_eq_decide] at *
  rw [← Rat.not_lt, z]; omega
theorem cmp_ge : decide (r ≤ q) = decide (m * d ≤ n * e) := by
  have z := cmp_lt h g d0 e0
  rw [decide_eq_decide] at *
  rw [← Rat.not_lt, z]; omega
theorem cmp_ne : (!decide (q = r)) = !decide (n * e = m * d) := by rw [cmp_eq h g d0 e0]
end
end
theorem r_seqL {ts us : TS} {D : Ends} {σ : L2.St} {H : Hp} (P : L2.St → Hp → Prop) (k : ∀ N : L2.St → Hp → Prop, (∀ σ' H', P σ' H' → N σ' H') → ts { D with nx := N } σ H) (hP : ∀ σ' H', P σ' H' → us D σ' H') : tSeq ts us D σ H := k (us D) hP
theorem frq_neg2 {q : Rat} {n d : Int} (h : FrQ q n d) : FrQ q (-n) (-d) := by
  unfold FrQ at *; push_cast; grind
theorem frq_floor' {q : Rat} {n d : Int} (h : FrQ q n d) (d0 : d ≠ 0) : q.floor = n.fdiv d := by
  rcases Int.lt_or_gt_of_ne d0 with z | z
  · rw [frq_floor (frq_neg2 h) (by omega), Int.neg_fdiv_neg]
  · exact frq_floor h z
theorem frq_ne {q : Rat} {n d : Int} (h : FrQ q n d) (n0 : n ≠ 0) : q ≠ 0 := fun z => by
  unfold FrQ at h
  rw [z, Rat.zero_mul] at h
  exact n0 (by exact_mod_cast h.symm)
theorem frq_div {q r : Rat} {n d m e : Int} (h : FrQ q n d) (g : FrQ r m e) (m0 : m ≠ 0) : FrQ (q / r) (n * e) (d * m) := by
  have r0 := frq_ne g m0
  unfold FrQ at *; push_cast; grind
theorem frq_divI {q : Rat} {n d m : Int} (h : FrQ q n d) (m0 : m ≠ 0) : FrQ (q / (m : Rat)) n (d * m) := by
  have r0 : (m : Rat) ≠ 0 := by exact_mod_cast m0
  unfold FrQ at *; push_cast; grind
theorem frq_Idiv {q : Rat} {n d m : Int} (h : FrQ q n d) (n0 : n ≠ 0) : FrQ ((m : Rat) / q) (m * d) n := by
  have q0 := frq_ne h n0
  unfold FrQ at *; push_cast; grind
theorem frq_mod {q r : Rat} {n d m e f : Int} (h : FrQ q n d) (g : FrQ r m e) : FrQ (q - r * (f : Rat)) (n * e - f * m * d) (d * e) := by
  unfold FrQ at *; push_cast; grind
theorem frq_modI {q : Rat} {n d m f : Int} (h : FrQ q n d) : FrQ (q - (m : Rat) * (f : Rat)) (n - f * m * d) d := by
  unfold FrQ at *; push_cast; grind
theorem frq_Imod {q : Rat} {n d m f : Int} (h : FrQ q n d) : FrQ ((m : Rat) - q * (f : Rat)) (m * d - f * n) d := by
  unfold FrQ at *; push_cast; grind
theorem Sr.floor {n : Nat} {q : Rat} (h : Sr n q) : Sb (n + 1) q.floor := by
  rw [Rat.floor_def]
  exact Nat.lt_of_le_of_lt (Int.natAbs_ediv_le_natAbs _ _) h.1
section
variable {K : PySem.W.Frag} {C CB a p : Addr} {H : Hp} {Q : VK} {q r : Rat} {E : XK} {n : Int} {v : V}
theorem a_RF {g : Rat → Rat → Int} (h : IsR C H a q) (hv : NumV C H v r) (b : Bq q) (b' : Bq r) (h0 : r ≠ 0) (k : ∀ H', Ex H H' → Q (.int (g q r)) H') : spRF C CB g [.ref a, v] H Q E := ⟨a, v, q, r, rfl, h, hv, b, b', .inr ⟨h0, k⟩⟩
theorem a_RFI {g : Rat → Rat → Int} (h : IsR C H a q) (b : Bq q) (b' : Bt n) (h0 : q ≠ 0) (k : ∀ H', Ex H H' → Q (.int (g q (n : Rat))) H') : spRFI C CB g [.ref a, .int n] H Q E := ⟨a, q, n, rfl, h, b, b', .inr ⟨h0, k⟩⟩
theorem a_RM {g : Rat → Rat → Rat} (h : IsR C H a q) (hv : NumV C H v r) (b : Bq q) (b' : Bq r) (h0 : r ≠ 0) (b1 : Bq (r * ((q / r).floor : Rat))) (b2 : Bt (q / r).floor) (k : ∀ H' p, Ex H H' → IsR C H' p (g q r) → Q (.ref p) H') : spRM C CB g [.ref a, v] H Q E := ⟨a, v, q, r, rfl, h, hv, b, b', .inr ⟨h0, b1, b2, k⟩⟩
theorem a_RMI {g : Rat → Rat → Rat} (h : IsR C H a q) (b : Bq q) (b' : Bt n) (h0 : q ≠ 0) (b1 : Bq (q * (((n : Rat) / q).floor : Rat))) (b2 : Bt ((n : Rat) / q).floor) (k : ∀ H' p, Ex H H' → IsR C H' p (g q (n : Rat)) → Q (.ref p) H') : spRMI C CB g [.ref a, .int n] H Q E := ⟨a, q, n, rfl, h, b, b', .inr ⟨h0, b1, b2, k⟩⟩
theorem a_ov (h : IsR C H a q) (hv : NumV C H v r) (b : Bq q) (b' : Bq r) (h0 : r ≠ 0) (k : ∀ H' p, Ex H H' → IsR C H' p (q / r) → Q (.ref p) H') : spOver K C CB [.ref a, v] H Q E := ⟨a, v, q, rfl, h, b, .inr ⟨r, hv, b', .inr ⟨h0, k⟩⟩⟩
end
theorem Sb.pow {x : Int} {a : Nat} (h : Sb a x) : ∀ i : Nat, Sb (a * i + 1) (x ^ i) := fun i => by
  unfold Sb at *
  rw [Int.natAbs_pow]
  have h1 : x.natAbs ^ i ≤ (2 ^ a) ^ i := Nat.pow_le_pow_left (Nat.le_of_lt h) i
  rw [← Nat.pow_mul] at h1
  exact Nat.lt_of_le_of_lt h1 (Nat.pow_lt_pow_right (by decide) (by omega))
theorem frq_pow {q : Rat} {n d : Int} (h : FrQ q n d) : ∀ k : Nat, FrQ (q ^ k) (n ^ k) (d ^ k)
  | 0 => by unfold FrQ; rw [Rat.pow_zero, Int.pow_zero, Int.pow_zero]; grind
  | k + 1 => by rw [Rat.pow_succ, Int.pow_succ, Int.pow_succ]; exact frq_mul (frq_pow h k) h
theorem Sr.pow {q : Rat} {a : Nat} (h : Sr a q) (k : Nat) : Sr ((a + 1) * k + 1) (q ^ k) := by
  rw [← rat_pow]
  exact Sz.divInt (Nat.lt_of_lt_of_le (Sb.pow h.num k) (Nat.pow_le_pow_right (by decide) (by omega))) (Nat.lt_of_lt_of_le (Sb.pow h.den k) (Nat.pow_le_pow_right (by decide) (by omega))) (by omega)
section
variable {K : PySem.W.Frag} {C CB a p : Addr} {H : Hp} {Q : VK} {q r : Rat} {E : XK} {n : Int} {v : V} {s : Str}
theorem a_RP {m : Nat} (e : n = (m : Int)) (h : IsR C H a q) (b : Bq q) (hm : Nat.ble (m + 1) 120 = true) (hb : (((q.den : Int)) ^ m).natAbs < 2 ^ 9000) (k : ∀ H' p, Ex H H' → IsR C H' p (q ^ m) → Q (.ref p) H') : spRP C [.ref a, .int n] H Q E := by
  subst e; exact ⟨a, q, m, rfl, h, b, Nat.le_of_ble_eq_true hm, hb, k⟩
theorem a_cS {sp : Sp} (h : IsR C H a q) (k : sp [.ref a, .str s] H Q E) : rO C sp E (isAny K C) (.ref a) (.str s) H Q := o_O h (o_any tyS (nf_of sub_str)) k
theorem a_cN {sp : Sp} (h : IsR C H a q) (k : sp [.ref a, .non] H Q E) : rO C sp E (isAny K C) (.ref a) .non H Q := o_O h (o_any tyN (nf_of sub_none)) k
theorem a_cT {sp : Sp} {xs : List V} (h : IsR C H a q) (h' : H p = some (.tup xs)) (k : sp [.ref a, .ref p] H Q E) : rO C sp E (isAny K C) (.ref a) (.ref p) H Q := o_O h (o_any (tyT h') (nf_of sub_tuple)) k
theorem a_nS {sp : Sp} (h : IsR C H a q) (k : sp [.ref a, .str s] H (kNB Q) E) : rNO C sp E (isAny K C) (.ref a) (.str s) H Q := o_NO h (o_any tyS (nf_of sub_str)) k
theorem wrS (T : ClsP K C) : Wrong K C H (.str s) := ⟨_, tyS, kit_str T, .inl ki_si⟩
theorem wrN (T : ClsP K C) : Wrong K C H .non := ⟨_, tyN, kit_none T, .inl ki_ni⟩
theorem wrT (T : ClsP K C) {xs : List V} (h' : H p = some (.tup xs)) : Wrong K C H (.ref p) := ⟨_, tyT h', kit_tup T, .inl ki_ti⟩
theorem wrL (T : ClsP K C) {xs : List V} (h' : H p = some (.lst xs)) : Wrong K C H (.ref p) := ⟨_, tyL h', kit_lst T, .inl ki_li⟩
theorem a_sl {xs : List V} {lo hi : Option Int} (h : H a = some (.lst xs)) (k : ∀ p H', Ex H H' → H p = none → H' p = some (.lst (cutV xs lo hi)) → Q (.ref p) H') : rSlL K (.ref a) lo hi H Q := r_slL h k
end
theorem Le.get {H H' : Hp} {a : Addr} {o : HO} (e : Le H H') (h : H a = some o) (s : Stab o) : H' a = some o := e a o h s
theorem Fr.le {C o a : Addr} {H H' : Hp} {n d : Int} {q : Rat} (h : Fr C H o a n d q) (e : Le H H') : Fr C H' o a n d q := ⟨e _ _ h.t trivial, h.r.le e, h.e, h.d0, h.sn, h.sd⟩
end
open PySem PySem.Spec PyProof.Rows L2
local macro_rules | `(tactic| wtm_at "of_uqx") => `(tactic| fail)
section
open PySem PySem.Spec PyProof.Rows L2
end
open PySem PySem.Spec PyProof.Rows L2
local macro_rules | `(tactic| wtm_at "of_uq") => `(tactic| first
  | assumption | (apply IsR.ex; assumption; wtm_at "of_uq") | (apply NumV.ex; assumption; wtm_at "of_uq") | (apply num_r; wtm_at "of_uq") | exact num_i | (apply Ex.get; assumption; wtm_at "of_uq") | (apply Le.tup; assumption; wtm_at "of_uq") | (apply Le.lst; assumption; wtm_at "of_uq") | (apply IsR.le; assumption; wtm_at "of_uq") | wtm_at "of_uqx")
section
open PySem PySem.Spec PyProof.Rows L2
theorem st_go {σ τ : L2.St} {i : Nat} {v : Option V} {H : Hp} {QS : L2.St → Hp → Prop} (e : σ.set i v = τ) (k : QS τ H) : QS (σ.set i v) H := by rw [e]; exact k
theorem st_go0 {N : List Str} {vs : List V} {τ : L2.St} {H : Hp} {QS : L2.St → Hp → Prop} (e : L2.start N vs = τ) (k : QS τ H) : QS (L2.start N vs) H := by rw [e]; exact k
section
variable {K : PySem.W.Frag} {mg : Str → Option Value} {C CB a b p l : Addr} {H : Hp} {Q : VK} {q r : Rat} {E : XK} {sp : Sp} {n i j : Int} {m s : Str} {xs ys zs : List V} {v : V} {σ : L2.St} {g : TG} {gs : TGs} {ts : TS} {D : Ends} {QS : L2.St → Hp → Prop} {R : It → Hp → Prop} {RP : Addr → Prop}
theorem x_var {i : Nat} (k : ∃ v, σ[i]? = some (some v) ∧ Q v H) : tVar i σ H Q := k
theorem x_iT (k : ∃ xs v, H p = some (.tup xs) ∧ atI xs j = some v ∧ Q v H) : rIxT K (.ref p) (.int j) H Q := by obtain ⟨xs, v, h, e, k⟩ := k; exact r_iT1 h e k
theorem x_iL (k : ∃ xs v, H p = some (.lst xs) ∧ atI xs j = some v ∧ Q v H) : rIxL K (.ref p) (.int j) H Q := by obtain ⟨xs, v, h, e, k⟩ := k; exact r_iL1 h e k
theorem x_lt (k : Nat.ble xs.length 1000 = true ∧ ∀ p H', Ex H H' → H p = none → H' p = some (.tup xs) → Q (.ref p) H') : LaidT xs H Q := r_lq k.1 k.2
theorem x_ll (k : Nat.ble xs.length 1000 = true ∧ ∀ p H', Ex H H' → H p = none → H' p = some (.lst xs) → Q (.ref p) H') : LaidL xs H Q := r_ll k.1 k.2
theorem x_gT {n : Nat} (k : ∃ xs, H a = some (.tup xs) ∧ xs.length = n ∧ gs xs σ H QS) : gTup K n gs (.ref a) σ H QS := by obtain ⟨xs, h, e, k⟩ := k; exact r_gTup h e k
theorem x_cat (k : ∃ xs zs, H a = some (.lst xs) ∧ H b = some (.lst zs) ∧ Nat.ble (xs.length + zs.length) 1000 = true ∧ ∀ p H', Ex H H' → H p = none → H' p = some (.lst (xs ++ zs)) → Q (.ref p) H') : rCat (.ref a) (.ref b) H Q := by obtain ⟨xs, zs, h, e, c, k⟩ := k; exact a_cat h e c k
theorem x_itL (k : ∃ xs, H a = some (.lst xs) ∧ R (Itl K a) H) : ItL K (.ref a) H R := by obtain ⟨xs, h, k⟩ := k; exact i_L h k
theorem x_un (k : ∃ xs, H a = some (.lst xs) ∧ FL a xs g ts D xs σ H) : ForIt (Itl K a) g ts D σ H := by obtain ⟨xs, h, k⟩ := k; exact f_unroll h k
theorem x_go (k : H a = some (.lst ys) ∧ FL a ys g ts D xs σ H) : H a = some (.lst ys) ∧ FL a ys g ts D xs σ H := k
theorem x_mul (k : Bt i ∧ Bt j ∧ Q (.int (i * j)) H) : rI CMulA (fun i j => .int (i * j)) (.int i) (.int j) H Q := r_Ibt k.1 k.2.1 k.2.2
theorem x_dz (k : j ≠ 0 ∧ j.natAbs < 2 ^ 9000 ∧ Q (.int (i.fdiv j)) H) : rI CDivZ (fun i j => .int (i.fdiv j)) (.int i) (.int j) H Q := a_dz k.1 k.2.1 k.2.2
theorem x_top (k : ∃ mg C q, RT K mg C ∧ IsR C H a q ∧ Q (.int q.num) H) : FldAt K "top" (.ref a) H Q := by obtain ⟨mg, C, q, T, h, k⟩ := k; exact r_top T rfl h k
theorem x_bot (k : ∃ mg C q, RT K mg C ∧ IsR C H a q ∧ Q (.int (q.den : Int)) H) : FldAt K "bottom" (.ref a) H Q := by obtain ⟨mg, C, q, T, h, k⟩ := k; exact r_bot T rfl h k
theorem x_trT {x y : Bool} (k : x = y ∧ Q (.bl true) H) : spTruth [.bl x, .bl y] H Q E := a_trT k.1 k.2
theorem x_2 (k : ∃ q r, IsR C H a q ∧ IsR C H p r ∧ sp [.ref a, .ref p] H Q E) : rO C sp E (isIns C) (.ref a) (.ref p) H Q := by obtain ⟨q, r, h, h', k⟩ := k; exact a_2 h h' k
theorem x_I (k : ∃ q, IsR C H a q ∧ sp [.ref a, .int n] H Q E) : rO C sp E isInt (.ref a) (.int n) H Q := by obtain ⟨q, h, k⟩ := k; exact a_I h k
theorem x_c2 (k : ∃ mg q r, RT K mg C ∧ IsR C H a q ∧ IsR C H p r ∧ sp [.ref a, .ref p] H Q E) : rO C sp E (isAny K C) (.ref a) (.ref p) H Q := by obtain ⟨mg, q, r, T, h, h', k⟩ := k; exact a_c2 T h h' k
theorem x_cI (k : ∃ q, IsR C H a q ∧ sp [.ref a, .int n] H Q E) : rO C sp E (isAny K C) (.ref a) (.int n) H Q := by obtain ⟨q, h, k⟩ := k; exact a_cI h k
theorem x_cS (k : ∃ q, IsR C H a q ∧ sp [.ref a, .str s] H Q E) : rO C sp E (isAny K C) (.ref a) (.str s) H Q := by obtain ⟨q, h, k⟩ := k; exact a_cS h k
theorem x_cN (k : ∃ q, IsR C H a q ∧ sp [.ref a, .non] H Q E) : rO C sp E (isAny K C) (.ref a) .non H Q := by obtain ⟨q, h, k⟩ := k; exact a_cN h k
theorem x_cT (k : ∃ q xs, IsR C H a q ∧ H p = some (.tup xs) ∧ sp [.ref a, .ref p] H Q E) : rO C sp E (isAny K C) (.ref a) (.ref p) H Q := by obtain ⟨q, xs, h, h', k⟩ := k; exact a_cT h h' k
theorem x_n2 (k : ∃ mg q r, RT K mg C ∧ IsR C H a q ∧ IsR C H p r ∧ sp [.ref a, .ref p] H (kNB Q) E) : rNO C sp E (isAny K C) (.ref a) (.ref p) H Q := by obtain ⟨mg, q, r, T, h, h', k⟩ := k; exact a_n2 T h h' k
theorem x_nS (k : ∃ q, IsR C H a q ∧ sp [.ref a, .str s] H (kNB Q) E) : rNO C sp E (isAny K C) (.ref a) (.str s) H Q := by obtain ⟨q, h, k⟩ := k; exact a_nS h k
theorem x_Or (k : ∃ q, IsR C H a q ∧ sp [.ref a, .int n] H Q E) : rOr C sp E (.int n) (.ref a) H Q := by obtain ⟨q, h, k⟩ := k; exact o_Or h k
theorem x_U (k : ∃ q, IsR C H a q ∧ sp [.ref a] H Q E) : rU1 C sp E (.ref a) H Q := by obtain ⟨q, h, k⟩ := k; exact o_U h k
theorem x_C {kk : VK → VK} (k : ∃ q, IsR C H a q ∧ sp [.ref a] H (kk Q) E) : rC1 C sp E kk [.ref a] H Q := by obtain ⟨q, h, k⟩ := k; exact o_C h k
theorem x_T {QT : Bool → Hp → Prop} (k : ∃ q, IsR C H a q ∧ sp [.ref a] H (fun v H' => ∃ b, v = .bl b ∧ QT b H') E) : ∃ a' dx fs, V.ref a = .ref a' ∧ H a' = some (.ins C dx fs) ∧ sp [.ref a'] H (fun v H' => ∃ b, v = .bl b ∧ QT b H') E := by obtain ⟨q, h, k⟩ := k; exact o_T h k
theorem x_M (k : ∃ q, IsR C H a q ∧ (!(m == ("top" : Str)) && !(m == ("bottom" : Str))) = true ∧ RP a) : ∃ a' dx fs, V.ref a = .ref a' ∧ H a' = some (.ins C dx fs) ∧ fs.lookup m = none ∧ RP a' := by obtain ⟨q, h, e, k⟩ := k; exact a_M h e k
theorem x_R1 {g : Rat → Rat → Rat} (k : ∃ q r, IsR C H a q ∧ NumV C H v r ∧ Bq q ∧ Bq r ∧ ∀ H' p, Ex H H' → IsR C H' p (g q r) → Q (.ref p) H') : spR1 C g (fun _ _ => True) [.ref a, v] H Q E := by obtain ⟨q, r, h, h', b, b', k⟩ := k; exact a_R1 h h' b b' k
theorem x_RI {g : Rat → Rat → Rat} (k : ∃ q, IsR C H a q ∧ Bq q ∧ Bt n ∧ ∀ H' p, Ex H H' → IsR C H' p (g q (n : Rat)) → Q (.ref p) H') : spRI C g (fun _ _ => True) [.ref a, .int n] H Q E := by obtain ⟨q, h, b, b', k⟩ := k; exact a_RI h b b' k
theorem x_R0 {g : Rat → Rat} (k : ∃ q, IsR C H a q ∧ Bq q ∧ ∀ H' p, Ex H H' → IsR C H' p (g q) → Q (.ref p) H') : spR0 C g [.ref a] H Q E := by obtain ⟨q, h, b, k⟩ := k; exact a_R0 h b k
theorem x_RV {g : Rat → V} (k : ∃ q, IsR C H a q ∧ Bq q ∧ Q (g q) H) : spRV C g [.ref a] H Q E := by obtain ⟨q, h, b, k⟩ := k; exact a_RV h b k
theorem x_RB {g : Rat → Rat → Bool} (k : ∃ q r, IsR C H a q ∧ NumV C H v r ∧ Bq q ∧ Bq r ∧ ∀ H', Ex H H' → Q (.bl (g q r)) H') : spRB C g [.ref a, v] H Q E := by obtain ⟨q, r, h, h', b, b', k⟩ := k; exact a_lt h h' b b' k
theorem x_Eq (k : ∃ q r, IsR C H a q ∧ NumV C H v r ∧ Q (.bl (decide (q = r))) H) : spREq K C [.ref a, v] H Q E := by obtain ⟨q, r, h, h', k⟩ := k; exact q_REq h h' k
theorem x_EqS (k : ∃ q, IsR C H a q ∧ ClsP K C ∧ Q (.bl false) H) : spREq K C [.ref a, .str s] H Q E := by obtain ⟨q, h, T, k⟩ := k; exact q_REqW h (wrS T) k
theorem x_EqN (k : ∃ q, IsR C H a q ∧ ClsP K C ∧ Q (.bl false) H) : spREq K C [.ref a, .non] H Q E := by obtain ⟨q, h, T, k⟩ := k; exact q_REqW h (wrN T) k
theorem x_EqT (k : ∃ q xs, IsR C H a q ∧ ClsP K C ∧ H p = some (.tup xs) ∧ Q (.bl false) H) : spREq K C [.ref a, .ref p] H Q E := by obtain ⟨q, xs, h, T, h', k⟩ := k; exact q_REqW h (wrT T h') k
theorem x_RF {g : Rat → Rat → Int} (k : ∃ q r, IsR C H a q ∧ NumV C H v r ∧ Bq q ∧ Bq r ∧ r ≠ 0 ∧ ∀ H', Ex H H' → Q (.int (g q r)) H') : spRF C CB g [.ref a, v] H Q E := by obtain ⟨q, r, h, h', b, b', z, k⟩ := k; exact a_RF h h' b b' z k
theorem x_RFI {g : Rat → Rat → Int} (k : ∃ q, IsR C H a q ∧ Bq q ∧ Bt n ∧ q ≠ 0 ∧ ∀ H', Ex H H' → Q (.int (g q (n : Rat))) H') : spRFI C CB g [.ref a, .int n] H Q E := by obtain ⟨q, h, b, b', z, k⟩ := k; exact a_RFI h b b' z k
theorem x_RM {g : Rat → Rat → Rat} (k : ∃ q r, IsR C H a q ∧ NumV C H v r ∧ Bq q ∧ Bq r ∧ r ≠ 0 ∧ Bq (r * ((q / r).floor : Rat)) ∧ Bt (q / r).floor ∧ ∀ H' p, Ex H H' → IsR C H' p (g q r) → Q (.ref p) H') : spRM C CB g [.ref a, v] H Q E := by obtain ⟨q, r, h, h', b, b', z, b1, b2, k⟩ := k; exact a_RM h h' b b' z b1 b2 k
theorem x_RMI {g : Rat → Rat → Rat} (k : ∃ q, IsR C H a q ∧ Bq q ∧ Bt n ∧ q ≠ 0 ∧ Bq (q * (((n : Rat) / q).floor : Rat)) ∧ Bt ((n : Rat) / q).floor ∧ ∀ H' p, Ex H H' → IsR C H' p (g q (n : Rat)) → Q (.ref p) H') : spRMI C CB g [.ref a, .int n] H Q E := by obtain ⟨q, h, b, b', z, b1, b2, k⟩ := k; exact a_RMI h b b' z b1 b2 k
theorem x_ov (k : ∃ q r, IsR C H a q ∧ NumV C H v r ∧ Bq q ∧ Bq r ∧ r ≠ 0 ∧ ∀ H' p, Ex H H' → IsR C H' p (q / r) → Q (.ref p) H') : spOver K C CB [.ref a, v] H Q E := by obtain ⟨q, r, h, h', b, b', z, k⟩ := k; exact a_ov h h' b b' z k
theorem x_RP (k : ∃ q : Rat, 0 ≤ n ∧ IsR C H a q ∧ Bq q ∧ Nat.ble (n.toNat + 1) 120 = true ∧ (((q.den : Int)) ^ n.toNat).natAbs < 2 ^ 9000 ∧ ∀ H' p, Ex H H' → IsR C H' p (q ^ n.toNat) → Q (.ref p) H') : spRP C [.ref a, .int n] H Q E := by obtain ⟨q, h0, h, b, hm, hb, k⟩ := k; exact a_RP (Int.toNat_of_nonneg h0).symm h b hm hb k
theorem x_LP {x : Int} (k : 0 ≤ n ∧ Sb 400 x ∧ Nat.ble n.toNat 7 = true ∧ Q (.int (x ^ n.toNat)) H) : spLPow [.int x, .int n] H Q E := ⟨x, n.toNat, by rw [Int.toNat_of_nonneg k.1], k.2.1, Nat.le_of_ble_eq_true k.2.2.1, k.2.2.2⟩
theorem sb_log {x : Int} {a : Nat} (h : Sb a x) (ha : a < 1920) : x.natAbs.log2 < 1920 := PySem.Flt.log2_lt_of (by decide) (h.lt (by omega))
theorem x_RS (k : ∃ q, IsR C H a q ∧ q.num.natAbs.log2 < 1920 ∧ q.den.log2 < 1920 ∧ Q (.str (strQ q)) H) : spRS C [.ref a] H Q E := by obtain ⟨q, h, b1, b2, k⟩ := k; exact ⟨a, q, rfl, h, b1, b2, k⟩
theorem a_kS {x : Str} (k : Q (.str x) H) : kS Q (.str x) H := ⟨x, rfl, k⟩
theorem a_neSS {x : Str} (k : Q (.bl false) H) : rNe (.str x) (.str x) H Q := r_neS (by rw [decide_eq_true rfl]; exact k)
theorem x_rOf (k : ∃ q, NumV C H v q ∧ Bq q ∧ ∀ H' p, Ex H H' → IsR C H' p q → Q (.ref p) H') : spRatioOf K C CB [v] H Q E := by obtain ⟨q, h, b, k⟩ := k; exact q_ratioOf h b k
theorem x_num (k : ∃ q, NumV C H v q ∧ Q (.bl true) H) : spIsNum K C [v] H Q E := by obtain ⟨q, h, k⟩ := k; exact q_isNum h k
theorem a_nnF {A B : Prop} (h : B) : if (!!false) = true then A else B := h
theorem a_nnT {A B : Prop} (h : A) : if (!!true) = true then A else B := h
theorem x_mk {dvs vs : List V} (k : ∃ i j : Int, vs ++ dvs = [.int i, .int j] ∧ j ≠ 0 ∧ j.natAbs < 2 ^ 9000 ∧ ∀ H' p, Ex H H' → IsR C H' p (Rat.divInt i j) → Q (.ref p) H') : MkAt C (spRInit K C CB) dvs E vs H Q := by obtain ⟨i, j, e, h0, h1, k⟩ := k; exact q_mk e h0 h1 k
theorem x_rIs {t b : Int} (k : ∃ q, IsR C H p q ∧ Bq q ∧ Bt t ∧ Bt b ∧ FrQ q t b ∧ Q (.bl true) H) : spRatioIs C [.ref p, .int t, .int b] H Q E := by obtain ⟨q, h, hq, ht, hb, e, k⟩ := k; exact q_rIs h hq ht hb e k
theorem x_wh (k : i = j ∧ Q (.bl true) H) : spWhole K [.int i, .int j] H Q E := q_whT k.1 k.2
theorem x_gcd {a b : Int} (k : Bt a ∧ Bt b ∧ Q (.int (Int.gcd a b : Int)) H) : spII (fun a b => ((Int.gcd a b : Nat) : Int)) [.int a, .int b] H Q E := ⟨a, b, rfl, k.1, k.2.1, k.2.2⟩
theorem x_addS {x y : Str} (k : x.length + y.length ≤ sizeLine ∧ Q (.str (x ++ y)) H) : rAddS (.str x) (.str y) H Q := q_addS k.1 k.2
end
end
open PySem PySem.Spec PyProof.Rows L2
local macro_rules | `(tactic| wtm_at "of_nst") => `(tactic| (simp only [L2.start, List.set_cons_zero, List.set_cons_succ, List.map_cons, List.map_nil, List.length_cons, List.length_nil, Nat.reduceAdd, Nat.reduceSub, List.replicate_succ, List.replicate_zero, List.cons_append, List.nil_append]; rfl))
section
open PySem PySem.Spec PyProof.Rows L2
end
open PySem PySem.Spec PyProof.Rows L2
local macro_rules | `(tactic| wtm_at "of_szi") => `(tactic| with_reducible first | assumption | (apply Sr.floor; wtm_at "of_szi") | exact Sb.one | (apply Sb.mul <;> wtm_at "of_szi") | (apply Sb.add <;> wtm_at "of_szi") | (apply Sb.sub <;> wtm_at "of_szi") | (apply Sb.neg; wtm_at "of_szi") | (apply Sb.abs; wtm_at "of_szi") | (apply Sb.absi; wtm_at "of_szi") | (apply Sb.fdiv; wtm_at "of_szi") | (apply Sb.pow; wtm_at "of_szi") | (refine Sb.small ?_; decide) | (apply Sr.num; wtm_at "of_szi") | (apply Sr.den; wtm_at "of_szi") | (apply Sr.int; wtm_at "of_szi") | (apply Sr.add <;> wtm_at "of_szi") | (apply Sr.sub <;> wtm_at "of_szi") | (apply Sr.mul <;> wtm_at "of_szi") | (apply Sr.neg; wtm_at "of_szi") | (apply Sr.abs; wtm_at "of_szi") | (apply Sr.div <;> wtm_at "of_szi") | (apply Sr.pow; wtm_at "of_szi") | (apply Sr.divInt <;> wtm_at "of_szi"))
section
open PySem PySem.Spec PyProof.Rows L2
end
open PySem PySem.Spec PyProof.Rows L2
local macro_rules | `(tactic| wtm_at "of_cx") => `(tactic| with_unfolding_all rfl)
section
open PySem PySem.Spec PyProof.Rows L2
end
open PySem PySem.Spec PyProof.Rows L2
local macro_rules | `(tactic| wtm_at "of_ra1") => `(tactic| first
  | with_reducible refine st_go (by wtm_at "of_nst") ?_
  | with_reducible refine st_go0 (by wtm_at "of_nst") ?_
  | with_reducible first
    | refine r_cons ?_ | refine r_nil ?_ | refine r_op ?_ | refine r_seq ?_ | refine r_asg ?_ | refine r_ret ?_ | refine r_name ?_ | refine r_c1 ?_ | refine r_c ?_
    | refine r_test ?_ | refine r_B ?_ | refine r_and ?_ | refine r_or ?_ | refine r_not ?_ | refine r_blP ?_ | refine r_tup ?_ | refine r_lst ?_ | refine r_gCons ?_ | refine r_gNil ?_
    | refine iteT ?_ | refine iteF ?_ | refine iteNT ?_ | refine iteNF ?_
    | refine r_ifS ?_ | refine r_next ?_ | refine r_un ?_ | refine r_cb ?_ | refine r_ck ?_ | refine r_cm ?_ | refine r_fld ?_
    | refine r_I0 ?_ | refine r_U ?_ | refine r_eqI ?_ | refine r_neI ?_ | refine r_drop ?_ | refine r_retN ?_ | refine r_gcd ?_ | refine r_sfld ?_
    | refine r_andV ?_ | refine r_orV ?_ | refine r_notV ?_ | refine r_ifE ?_ | refine r_tr ?_ | refine r_rz ?_
    | refine r_par ?_ | refine r_par3 ?_ | refine r_parP ?_ | refine r_parP3 ?_ | refine r_part ?_ | refine r_nopart ?_ | refine r_intP ?_ | refine r_for ?_ | refine r_iL ?_ | refine r_iT ?_ | refine r_iR1 ?_ | refine r_iR2 ?_ | refine r_iR3 ?_ | refine r_iZ ?_ | refine r_lc ?_ | refine r_sl ?_ | refine r_bm ?_ | refine r_turn1 ?_ | refine r_lturn ?_ | refine r_yes ?_
    | refine r_dget ?_ | refine r_dput ?_ | refine r_gsub ?_ | refine q_intI ?_ | refine q_intB ?_
    | refine a_nnF ?_ | refine a_nnT ?_ | refine a_kS ?_ | refine a_neSS ?_ | refine fl_cons ?_ | refine fl_nil ?_ | refine a_kNB ?_ | refine a_id ?_ | refine a_kB ?_ | refine q_absI ?_ | refine r_eqS ?_ | refine r_neS ?_ | refine a_trB ?_
  | ((with_reducible refine x_var ?_); refine ⟨_, by wtm_at "of_cx", ?_⟩)
  | ((with_reducible refine x_mul ?_); refine ⟨by wtm_at "of_szb", by wtm_at "of_szb", ?_⟩)
  | ((with_reducible refine x_iT ?_); refine ⟨_, _, by wtm_at "of_uq", by wtm_at "of_cx", ?_⟩)
  | ((with_reducible refine x_iL ?_); refine ⟨_, _, by wtm_at "of_uq", by wtm_at "of_cx", ?_⟩)
  | ((with_reducible refine x_lt ?_); refine ⟨by wtm_at "of_cx", ?_⟩; intro _ _ _ _ _)
  | ((with_reducible refine x_ll ?_); refine ⟨by wtm_at "of_cx", ?_⟩; intro _ _ _ _ _)
  | ((with_reducible refine x_gT ?_); refine ⟨_, by wtm_at "of_uq", by wtm_at "of_cx", ?_⟩)
  | ((with_reducible refine x_go ?_); refine ⟨by wtm_at "of_uq", ?_⟩)
  | ((with_reducible refine x_top ?_); refine ⟨_, _, _, by assumption, by wtm_at "of_uq", ?_⟩)
  | ((with_reducible refine x_bot ?_); refine ⟨_, _, _, by assumption, by wtm_at "of_uq", ?_⟩)
  | ((with_reducible refine x_2 ?_); refine ⟨_, _, by wtm_at "of_uq", by wtm_at "of_uq", ?_⟩)
  | ((with_reducible refine x_I ?_); refine ⟨_, by wtm_at "of_uq", ?_⟩)
  | ((with_reducible refine x_cI ?_); refine ⟨_, by wtm_at "of_uq", ?_⟩)
  | ((with_reducible refine x_c2 ?_); refine ⟨_, _, _, by assumption, by wtm_at "of_uq", by wtm_at "of_uq", ?_⟩)
  | ((with_reducible refine x_cT ?_); refine ⟨_, _, by wtm_at "of_uq", by wtm_at "of_uq", ?_⟩)
  | ((with_reducible refine x_cS ?_); refine ⟨_, by wtm_at "of_uq", ?_⟩)
  | ((with_reducible refine x_cN ?_); refine ⟨_, by wtm_at "of_uq", ?_⟩)
  | ((with_reducible refine x_n2 ?_); refine ⟨_, _, _, by assumption, by wtm_at "of_uq", by wtm_at "of_uq", ?_⟩)
  | ((with_reducible refine x_nS ?_); refine ⟨_, by wtm_at "of_uq", ?_⟩)
  | ((with_reducible refine x_Or ?_); refine ⟨_, by wtm_at "of_uq", ?_⟩)
  | ((with_reducible refine x_U ?_); refine ⟨_, by wtm_at "of_uq", ?_⟩)
  | ((with_reducible refine x_C ?_); refine ⟨_, by wtm_at "of_uq", ?_⟩)
  | ((with_reducible refine x_T ?_); refine ⟨_, by wtm_at "of_uq", ?_⟩)
  | ((with_reducible refine x_M ?_); refine ⟨_, by wtm_at "of_uq", by decide +kernel, ?_⟩)
  | ((with_reducible refine x_R1 ?_); refine ⟨_, _, by wtm_at "of_uq", by wtm_at "of_uq", by wtm_at "of_szb", by wtm_at "of_szb", ?_⟩; intro _ _ _ _)
  | ((with_reducible refine x_RI ?_); refine ⟨_, by wtm_at "of_uq", by wtm_at "of_szb", by wtm_at "of_szb", ?_⟩; intro _ _ _ _)
  | ((with_reducible refine x_R0 ?_); refine ⟨_, by wtm_at "of_uq", by wtm_at "of_szb", ?_⟩; intro _ _ _ _)
  | ((with_reducible refine x_RV ?_); refine ⟨_, by wtm_at "of_uq", by wtm_at "of_szb", ?_⟩)
  | ((with_reducible refine x_RB ?_); refine ⟨_, _, by wtm_at "of_uq", by wtm_at "of_uq", by wtm_at "of_szb", by wtm_at "of_szb", ?_⟩; intro _ _)
  | ((with_reducible refine x_EqS ?_); refine ⟨_, by wtm_at "of_uq", by assumption, ?_⟩)
  | ((with_reducible refine x_EqN ?_); refine ⟨_, by wtm_at "of_uq", by assumption, ?_⟩)
  | ((with_reducible refine x_Eq ?_); refine ⟨_, _, by wtm_at "of_uq", by wtm_at "of_uq", ?_⟩)
  | ((with_reducible refine x_EqT ?_); refine ⟨_, _, by wtm_at "of_uq", by assumption, by wtm_at "of_uq", ?_⟩)
  | ((with_reducible refine x_dz ?_); refine ⟨by omega, by wtm_at "of_szb", ?_⟩)
  | ((with_reducible refine x_RF ?_); refine ⟨_, _, by wtm_at "of_uq", by wtm_at "of_uq", by wtm_at "of_szb", by wtm_at "of_szb", by assumption, ?_⟩; intro _ _)
  | ((with_reducible refine x_RFI ?_); refine ⟨_, by wtm_at "of_uq", by wtm_at "of_szb", by wtm_at "of_szb", by assumption, ?_⟩; intro _ _)
  | ((with_reducible refine x_RM ?_); refine ⟨_, _, by wtm_at "of_uq", by wtm_at "of_uq", by wtm_at "of_szb", by wtm_at "of_szb", by assumption, by wtm_at "of_szb", by wtm_at "of_szb", ?_⟩; intro _ _ _ _)
  | ((with_reducible refine x_RMI ?_); refine ⟨_, by wtm_at "of_uq", by wtm_at "of_szb", by wtm_at "of_szb", by assumption, by wtm_at "of_szb", by wtm_at "of_szb", ?_⟩; intro _ _ _ _)
  | ((with_reducible refine x_ov ?_); refine ⟨_, _, by wtm_at "of_uq", by wtm_at "of_uq", by wtm_at "of_szb", by wtm_at "of_szb", by assumption, ?_⟩; intro _ _ _ _)
  | ((with_reducible refine x_RP ?_); refine ⟨_, by decide, by wtm_at "of_uq", by wtm_at "of_szb", by wtm_at "of_cx", by wtm_at "of_szb", ?_⟩; intro _ _ _ _)
  | ((with_reducible refine x_LP ?_); refine ⟨by decide, by assumption, by wtm_at "of_cx", ?_⟩)
  | ((with_reducible refine x_RS ?_); refine ⟨_, by wtm_at "of_uq", by assumption, by assumption, ?_⟩)
  | ((with_reducible refine x_mk ?_); refine ⟨_, _, by wtm_at "of_cx", by first | decide | omega | assumption, by wtm_at "of_szb", ?_⟩; intro _ _ _ _)
  | ((with_reducible refine x_rOf ?_); refine ⟨_, by wtm_at "of_uq", by wtm_at "of_szb", ?_⟩; intro _ _ _ _)
  | ((with_reducible refine x_num ?_); refine ⟨_, by wtm_at "of_uq", ?_⟩)
  | ((with_reducible refine x_rIs ?_); refine ⟨_, by wtm_at "of_uq", by wtm_at "of_szb", by wtm_at "of_szb", by wtm_at "of_szb", by assumption, ?_⟩)
  | ((with_reducible refine x_wh ?_); refine ⟨by assumption, ?_⟩)
  | ((with_reducible refine x_gcd ?_); refine ⟨by wtm_at "of_szb", by wtm_at "of_szb", ?_⟩)
  | ((with_reducible refine x_trT ?_); refine ⟨by first | assumption | rfl, ?_⟩)
  | ((with_reducible refine x_cat ?_); refine ⟨_, _, by wtm_at "of_uq", by wtm_at "of_uq", by wtm_at "of_cx", ?_⟩; intro _ _ _ _ _; try dsimp only [List.cons_append, List.nil_append] at *)
  | ((with_reducible refine x_itL ?_); refine ⟨_, by wtm_at "of_uq", ?_⟩)
  | ((with_reducible refine x_un ?_); refine ⟨_, by wtm_at "of_uq", ?_⟩))
section
open PySem PySem.Spec PyProof.Rows L2
def PowRows (C : Addr) (H : Hp) (p : Addr) (q : Rat) : Prop := ∃ a0 a1 a2 a3 a7 b0 b1 b2 b3 b7 : Addr, H p = some (.lst [.ref a0, .ref a1, .ref a2, .ref a3, .ref a7]) ∧ H a0 = some (.tup [.ref b0, .int 0]) ∧ H a1 = some (.tup [.ref b1, .int 1]) ∧ H a2 = some (.tup [.ref b2, .int 2]) ∧ H a3 = some (.tup [.ref b3, .int 3]) ∧ H a7 = some (.tup [.ref b7, .int 7]) ∧
  IsR C H b0 (q ^ Int.toNat 0) ∧ IsR C H b1 (q ^ Int.toNat 1) ∧ IsR C H b2 (q ^ Int.toNat 2) ∧ IsR C H b3 (q ^ Int.toNat 3) ∧ IsR C H b7 (q ^ Int.toNat 7)
theorem str_empty_app (x : Str) : Str.empty ++ x = x := by
  obtain ⟨c⟩ := x
  show Str.mk (#[] ++ c) = ⟨c⟩
  rw [Array.empty_append]
theorem frq_num_den {q : Rat} {n d : Int} (h : FrQ q n d) (d0 : 0 < d) : q.num = n.fdiv ((Int.gcd n d : Nat) : Int) ∧ (q.den : Int) = d.fdiv ((Int.gcd n d : Nat) : Int) := by
  have e := h.eq (by omega)
  have a := made_num (a := n) (b := d) (by omega)
  have b := made_den (a := n) (b := d) (by omega)
  rw [if_neg (by omega)] at a b
  rw [e]
  exact ⟨a.symm, b.symm⟩
theorem den_one_iff {q : Rat} {n d : Int} (h : FrQ q n d) (d0 : 0 < d) : ((q.den : Int) = 1) ↔ (d = ((Int.gcd n d : Nat) : Int)) := by
  have e := (frq_num_den h d0).2
  have g0 : (Int.gcd n d : Int) ≠ 0 := by
    have := Int.gcd_ne_zero_right (a := n) (b := d) (by omega); omega
  obtain ⟨c, hc⟩ := Int.gcd_dvd_right (a := n) (b := d)
  have e2 : (q.den : Int) = c := by
    rw [e]; conv => lhs; arg 1; rw [hc]
    exact Int.mul_fdiv_cancel_left _ g0
  rw [e2]
  constructor
  · intro z; rw [z, Int.mul_one] at hc; exact hc
  · intro z
    have : ((Int.gcd n d : Nat) : Int) * c = ((Int.gcd n d : Nat) : Int) * 1 := by rw [← hc, Int.mul_one, ← z]
    exact Int.eq_of_mul_eq_mul_left g0 this
theorem sgn_int {q : Rat} {n d : Int} (h : FrQ q n d) (d0 : 0 < d) : (if q.num < 0 then (-1 : Int) else if 0 < q.num then 1 else 0) = (if decide (0 < n) = true then 1 else 0) - (if decide (n < 0) = true then 1 else 0) := by
  obtain ⟨a, b, c⟩ := rat_sgn h d0
  have z := rat_sgn (frq_self q) (den_pos q)
  rw [z.1] at a
  rw [z.2.1] at b
  simp only [decide_eq_true_eq]
  by_cases z : n < 0
  · rw [if_pos (a.mpr z), if_pos z, if_neg (by omega)]; rfl
  · rw [if_neg (fun y => z (a.mp y)), if_neg z]
    by_cases y : 0 < n
    · rw [if_pos (b.mpr y), if_pos y]; rfl
    · rw [if_neg (fun x => y (b.mp x)), if_neg y]; rfl
def spMixed (C : Addr) : Sp := fun vs H Q _ => ∃ o a m n d q, vs = [.ref o, .int m, .ref a] ∧ Fr C H o a n d q ∧ Sb 400 m ∧ ∀ H', Ex H H' → Q (.bl true) H'
def spFew : Sp := fun vs H Q _ => ∃ o n d, vs = [.ref o] ∧ H o = some (.tup [.int n, .int d]) ∧ (∀ f : Int, f = 5 ∨ f = 4 → Q (.int f) H)
def spShown (C : Addr) : Sp := fun vs H Q _ => ∃ o a n d q, vs = [.ref o, .ref a] ∧ Fr C H o a n d q ∧ ∀ H', Ex H H' → Q (.bl true) H'
def spFloors (C : Addr) : Sp := fun vs H Q _ => ∃ o t a b i n d m e qa qb, vs = [.ref o, .ref t, .int i, .ref a, .ref b] ∧ Fr C H o a n d qa ∧ Fr C H t b m e qb ∧ Sb 400 i ∧ ∀ H', Ex H H' → Q (.bl true) H'
end
section
open PySem PySem.Spec PyProof.Rows L2
section
variable {X : Cx} {K : PySem.W.Frag}
theorem kc_maxL (h : X.K = K) (hc : X.calm = true) : CallR X (.builtin "max") (rMax K) := by subst h; exact cr_max hc
theorem kc_sortedI (h : X.K = K) : CallR X (.builtin "sorted") (rSortedI K) := by subst h; exact cr_sortedI
theorem kop_ltT (h : X.K = K) (hu : X.A.units < cLine) : OpR X (compareOp .Lt) (rLtT K) := by subst h; exact op_ltT hu
theorem kpi_enum {e : Expr} {ta : TA} {p pos tpos : Pos} {elts : List Expr} {kk : Nat} (h : X.K = K) (hg : Gl X "enumerate") (hm : X.mg "enumerate" = none) (ha : PA X [e] ta) (hs : starEach [e] X.env = [(false, eval e X.env)] := by rfl) :
    PI X (.Tuple elts kk tpos) (.Call (.Name "enumerate" p) [e] [] pos) (iEnum K ta) := by subst h; exact pi_enum hg hm ha hs
end
end
section
open PySem PySem.Spec PyProof.Rows L2
/-- rows of whole numbers -/
def RowsI (H : Hp) (k : Addr) (ks : List (List Int)) : Prop := ∃ xs, H k = some (.lst xs) ∧ xs.length = ks.length ∧ ∀ (i : Nat) (r : List Int), ks[i]? = some r → ∃ p : Addr, xs[i]? = some (V.ref p) ∧ H p = some (.tup (r.map V.int))
/-- rows of one length, not of great numbers -/
def IOk (m B : Nat) (ks : List (List Int)) : Prop := ∀ r ∈ ks, r.length = m ∧ ∀ x ∈ r, Sb B x
abbrev leR (ks : List (List Int)) (i j : Nat) : Bool := leI (ks.getD i []) (ks.getD j [])
/-- places in order -/
def Sorted (ks : List (List Int)) (idx : List Nat) : Prop := idx.Perm (List.range ks.length) ∧ idx.Pairwise (fun i j => leR ks i j = true)
def spRowKeys : Sp := fun vs H Q _ => ∃ (k : Addr) (ks : List (List Int)) (m B : Nat), vs = [.ref k] ∧ RowsI H k ks ∧ IOk m B ks ∧ 1 ≤ m ∧ m ≤ 2 ∧ B ≤ 20000 ∧ 0 < ks.length ∧ ks.length ≤ 1000 ∧
  ∀ (H' : Hp) (p : Addr) (key : List Int), Ex H H' → H' p = some (.lst (key.map V.int)) → KeysOf ks m key → Q (.ref p) H'
def spOrd : Sp := fun vs H Q _ => ∃ (k : Addr) (ks : List (List Int)) (m B : Nat), vs = [.ref k] ∧ RowsI H k ks ∧ IOk m B ks ∧ 1 ≤ m ∧ m ≤ 2 ∧ B ≤ 20000 ∧ ks.length ≤ 1000 ∧
  ∀ (H' : Hp) (p : Addr) (idx : List Nat), Ex H H' → H' p = some (.lst (idx.map nat)) → Sorted ks idx → Q (.ref p) H'
/-- keys of Ratios -/
def RKeys (qs : List Rat) (key : List Int) : Prop := key.length = qs.length ∧ (∀ x ∈ key, Sb 20000 x) ∧ ∀ i j : Nat, i < qs.length → j < qs.length → ((key.getD i 0 < key.getD j 0) ↔ qs.getD i 0 < qs.getD j 0) ∧ ((key.getD i 0 = key.getD j 0) ↔ qs.getD i 0 = qs.getD j 0)
def spOrderKeys (C : Addr) : Sp := fun vs H Q _ => ∃ (k : Addr) (xs : List V) (qs : List Rat), vs = [.ref k] ∧ H k = some (.lst xs) ∧ RsL C H xs qs ∧ (∀ q ∈ qs, Bq q) ∧ 0 < qs.length ∧ qs.length ≤ 1000 ∧
  ∀ (H' : Hp) (p : Addr) (key : List Int), Ex H H' → H' p = some (.lst (key.map V.int)) → RKeys qs key → Q (.ref p) H'
end
section
open PySem PySem.Spec PyProof.Rows L2
section
variable {K : PySem.W.Frag} {σ : L2.St} {H : Hp} {Q : VK} {te : TE} {g : TG} {tt : TT} {vs : List Nat} {a b : Addr} {xs ys : List V}
/-- what is made so far: the first i of f -/
def PI (f : Nat → Int) (H : Hp) (i : Nat) (acc : List V) (H2 : Hp) : Prop := Ex H H2 ∧ acc = ((List.range i).map f).map V.int
theorem lputI {f : Nat → Int} {L : Addr} {acc : List V} {i : Nat} {z : Int} {H2 : Hp} (h : H2 L = some (.lst acc)) (e : Ex H H2) (hL : H L = none) (ha : acc = ((List.range i).map f).map V.int) (hz : z = f i) (hi : i ≤ 1000) : LPut L (PI f H (i + 1)) (.int z) H2 :=
  lput h (by rw [ha]; simp; omega) ⟨e.put hL, by rw [ha, hz, List.range_succ, List.map_append, List.map_append]; rfl⟩
theorem lLI (f : Nat → Int) (ha : H a = some (.lst xs))
    (hs : ∀ L i x acc H', H L = none → Ex H H' → H' L = some (.lst acc) → acc = ((List.range i).map f).map V.int → xs[i]? = some x → LTurn g tt te vs σ L (PI f H (i + 1)) x H')
    (hd : ∀ L H', H L = none → Ex H H' → H' L = some (.lst (((List.range xs.length).map f).map V.int)) → Q (.ref L) H') : LcIt (Itl K a) g tt te vs σ H Q := by
  refine lL (fun L i acc H' => PI f H i acc H') (fun L hL H' e h => ⟨e, rfl⟩) (fun L i acc H' hL hi h => h.1 _ _ ha) (fun L i x acc H' hL hx h hacc => hs L i x acc H' hL h.1 hacc h.2 hx) (fun L acc H' hL h1 h2 => hd L H' hL h2.1 (by rw [← h2.2]; exact h1))
/-- over zip(xs, ys) -/
theorem lZI (f : Nat → Int) (ha : H a = some (.lst xs)) (hb : H b = some (.lst ys)) (hl : xs.length = ys.length)
    (hs : ∀ L i x y T acc H', H L = none → Ex H H' → H' L = some (.lst acc) → acc = ((List.range i).map f).map V.int → xs[i]? = some x → ys[i]? = some y → H' T = some (.tup [x, y]) → LTurn g tt te vs σ L (PI f H (i + 1)) (.ref T) H')
    (hd : ∀ L H', H L = none → Ex H H' → H' L = some (.lst (((List.range xs.length).map f).map V.int)) → Q (.ref L) H') : LcIt (Itz K a b) g tt te vs σ H Q := by
  intro L hL
  refine lc_it (walk_zip (xs := xs) (ys := ys) (n := xs.length) (by rw [hl]; exact (Nat.min_self _).symm)) (fun i H' => ∃ acc, H' L = some (.lst acc) ∧ PI f H i acc H') ⟨[], upd_same, Ex.new hL, rfl⟩
    (fun i H' hi ⟨acc, h1, h2⟩ => ⟨SqL.of (h2.1 _ _ ha), SqL.of (h2.1 _ _ hb)⟩) (fun i x H1 H' hi ⟨acc, h1, h2⟩ hy => ?_) (fun H' ⟨acc, h1, h2⟩ => hd L H' hL h2.1 (by rw [← h2.2]; exact h1))
  obtain ⟨T, x1, y1, rfl, hT, rfl, hx, hy⟩ := hy
  exact hs L i x1 y1 T acc _ hL (h2.1.trans (Ex.new hT)) (by rw [upd_ne (ne_of_none h1 hT)]; exact h1) h2.2 hx hy upd_same
theorem q_maxL {f : Nat → Int} {n : Nat} (h : H a = some (.lst (((List.range n).map f).map V.int))) (hn : 0 < n) (k : ∀ m, (∃ i, i < n ∧ m = f i) → (∀ i, i < n → f i ≤ m) → Q (.int m) H) : rMax K [.ref a] H Q :=
  ⟨a, _, rfl, SqL.of h, by simpa using hn, fun m hm hy => k m (by obtain ⟨i, hi, e⟩ := List.mem_map.mp hm; exact ⟨i, List.mem_range.mp hi, e.symm⟩) (fun i hi => hy _ (List.mem_map.mpr ⟨i, List.mem_range.mpr hi, rfl⟩))⟩
theorem r_bits {to : TE} (k : to σ H fun x H1 => ∃ i : Int, x = .int i ∧ Q (.int (Builtin.Int.intBits i : Nat)) H1) : tBits to σ H Q := k
theorem nat_len {n : Nat} {f : Nat → Int} : ((List.range n).map f).length = n := by simp
theorem getD_range {n i : Nat} {f : Nat → Int} (h : i < n) : ((List.range n).map f).getD i 0 = f i := by simp [List.getD, h]
end
end
section
open PySem PySem.Spec PyProof.Rows L2
theorem rs_at {C : Addr} {H : Hp} {xs : List V} {qs : List Rat} {i : Nat} {x : V} (h : RsL C H xs qs) (hx : xs[i]? = some x) : ∃ p, x = .ref p ∧ i < qs.length ∧ IsR C H p (qs.getD i 0) := by
  have hi : i < qs.length := by rw [← h.1]; exact (List.getElem?_eq_some_iff.mp hx).1
  obtain ⟨p, h1, h2⟩ := h.2 i _ (List.getElem?_eq_getElem hi)
  rw [hx] at h1; cases h1
  exact ⟨p, rfl, hi, by rw [List.getD_eq_getElem?_getD, List.getElem?_eq_getElem hi]; exact h2⟩
/-- the key of a Ratio: its floor with n more bits -/
def rkey (n : Nat) (q : Rat) : Int := (q.num * 2 ^ n).fdiv (q.den : Int)
theorem rkey_lt {n B : Nat} {q r : Rat} (hn : n = 2 * B) (hq : q.den < 2 ^ B) (hr : r.den < 2 ^ B) : rkey n q < rkey n r ↔ q < r := by
  have P : ∀ {q r : Rat}, q.den < 2 ^ B → r.den < 2 ^ B → q < r → rkey n q < rkey n r := by
    intro q r hq hr h
    refine floor_key (by exact_mod_cast q.den_pos) (by exact_mod_cast r.den_pos) ?_ ?_
    · subst hn
      have : q.den * r.den ≤ 2 ^ B * 2 ^ B := Nat.mul_le_mul (Nat.le_of_lt hq) (Nat.le_of_lt hr)
      rw [show 2 * B = B + B from by omega, Int.pow_add]
      exact_mod_cast this
    · exact (Rat.lt_iff _ _).mp h
  constructor
  · intro h
    by_cases z : q = r
    · subst z; omega
    · rcases rlt_tri z with z | z
      · exact z
      · have := P hr hq z; omega
  · exact P hq hr
theorem rkey_eq {n B : Nat} {q r : Rat} (hn : n = 2 * B) (hq : q.den < 2 ^ B) (hr : r.den < 2 ^ B) : rkey n q = rkey n r ↔ q = r := by
  constructor
  · intro h
    by_cases z : q = r
    · exact z
    · rcases rlt_tri z with z | z
      · have := (rkey_lt hn hq hr).mpr z; omega
      · have := (rkey_lt hn hr hq).mpr z; omega
  · intro h; rw [h]
theorem den_bits {q : Rat} {B : Nat} (h : Builtin.Int.intBits (q.den : Int) ≤ B) : q.den < 2 ^ B := by
  have d0 : q.den ≠ 0 := q.den_nz
  unfold Builtin.Int.intBits at h
  rw [if_neg (by simp [d0])] at h
  rw [← Nat.log2_lt d0]
  have : ((q.den : Int)).natAbs = q.den := rfl
  rw [this] at h
  omega
theorem fdiv_sb {a b : Int} {n : Nat} (hb : 0 < b) (h : Sb n a) : Sb n (a.fdiv b) := by
  unfold Sb at *
  generalize hM : (2 : Nat) ^ n = M at *
  have p1 : a.fdiv b < (M : Int) := by
    rw [fdiv_lt hb]
    have : (M : Int) * 1 ≤ (M : Int) * b := Int.mul_le_mul_of_nonneg_left (by omega) (by omega)
    omega
  have p2 : -(M : Int) + 1 ≤ a.fdiv b := by
    rw [le_fdiv hb]
    have : (-(M : Int) + 1) * b ≤ (-(M : Int) + 1) * 1 := by
      have : ((M : Int) - 1) * 1 ≤ ((M : Int) - 1) * b := Int.mul_le_mul_of_nonneg_left (by omega) (by omega)
      have e1 : (-(M : Int) + 1) * b = -(((M : Int) - 1) * b) := by rw [← Int.neg_mul]; congr 1; omega
      omega
    omega
  omega
theorem rkey_sb {n : Nat} {q : Rat} (hq : Bq q) (hn : n ≤ 8000) : Sb 20000 (rkey n q) := by
  refine fdiv_sb (by exact_mod_cast q.den_pos) ?_
  have h1 := hq.1
  unfold Bt at h1
  unfold Sb
  rw [Int.natAbs_mul, Int.natAbs_pow]
  have : q.num.natAbs * 2 ^ n < 2 ^ 4000 * 2 ^ n := Nat.mul_lt_mul_of_pos_right h1 (Nat.pow_pos (by decide))
  refine Nat.lt_of_lt_of_le this ?_
  rw [← Nat.pow_add]
  exact Nat.pow_le_pow_right (by decide) (by omega)
end
section
open PySem PySem.Spec PyProof.Rows L2
theorem getD_mem {ks : List (List Int)} {i : Nat} (h : i < ks.length) : ks.getD i [] ∈ ks := by rw [List.getD_eq_getElem?_getD, List.getElem?_eq_getElem h]; exact List.getElem_mem h
theorem row_at {H : Hp} {xs : List V} {ks : List (List Int)} {m B i : Nat} {x : V} (hl : xs.length = ks.length) (hat : ∀ (i : Nat) (r : List Int), ks[i]? = some r → ∃ p : Addr, xs[i]? = some (V.ref p) ∧ H p = some (.tup (r.map V.int))) (ok : IOk m B ks) (hx : xs[i]? = some x) :
    ∃ p, x = .ref p ∧ i < ks.length ∧ H p = some (.tup ((ks.getD i []).map V.int)) ∧ (ks.getD i []).length = m ∧ ∀ z ∈ ks.getD i [], Sb B z := by
  have hi : i < ks.length := by rw [← hl]; exact (List.getElem?_eq_some_iff.mp hx).1
  have e : ks[i]? = some (ks.getD i []) := by rw [List.getD_eq_getElem?_getD, List.getElem?_eq_getElem hi]; rfl
  obtain ⟨p, h1, h2⟩ := hat i _ e
  rw [hx] at h1; cases h1
  exact ⟨p, rfl, hi, h2, ok _ (getD_mem hi)⟩
theorem ent_mem {r : List Int} {j : Nat} (h : j < r.length) : r.getD j 0 ∈ r := by rw [List.getD_eq_getElem?_getD, List.getElem?_eq_getElem h]; exact List.getElem_mem h
theorem ent_at {r : List Int} {j : Nat} (h : j < r.length) : atI (r.map V.int) (j : Int) = some (V.int (r.getD j 0)) := by
  refine atI_nat ?_
  rw [List.getElem?_map, List.getElem?_eq_getElem h, List.getD_eq_getElem?_getD, List.getElem?_eq_getElem h]; rfl
/-- keys given by f order the rows' first n items -/
def KF (ks : List (List Int)) (n : Nat) (f : Nat → Int) : Prop := ∀ i j : Nat, i < ks.length → j < ks.length →
  ((f i < f j) ↔ lexI ((ks.getD i []).take n) ((ks.getD j []).take n) = true) ∧ ((f i = f j) ↔ (ks.getD i []).take n = (ks.getD j []).take n)
theorem take_one {r : List Int} (h : 1 ≤ r.length) : r.take 1 = [r.getD 0 0] := by
  cases r with
  | nil => simp at h
  | cons a as => rfl
theorem take_more {r : List Int} {n : Nat} (h : n < r.length) : r.take (n + 1) = r.take n ++ [r.getD n 0] := by
  rw [List.take_succ, List.getD_eq_getElem?_getD, List.getElem?_eq_getElem h]; rfl
theorem KF.one {ks : List (List Int)} {m B : Nat} (ok : IOk m B ks) (h : 1 ≤ m) : KF ks 1 (fun i => (ks.getD i []).getD 0 0) := by
  intro i j hi hj
  rw [take_one (by rw [(ok _ (getD_mem hi)).1]; exact h), take_one (by rw [(ok _ (getD_mem hj)).1]; exact h)]
  constructor
  · unfold lexI
    by_cases e : (ks.getD i []).getD 0 0 = (ks.getD j []).getD 0 0
    · rw [if_pos e]; show ((ks.getD i []).getD 0 0 < (ks.getD j []).getD 0 0) ↔ _; rw [e]; simp [lexI]
    · rw [if_neg e, decide_eq_true_iff]
  · simp
theorem KF.step {ks : List (List Int)} {m B n : Nat} {M : Int} {f : Nat → Int} (ok : IOk m B ks) (hn : n < m) (h : KF ks n f) (hM : ∀ i, i < ks.length → -M ≤ (ks.getD i []).getD n 0 ∧ (ks.getD i []).getD n 0 ≤ M) :
    KF ks (n + 1) (fun i => f i * (2 * M + 1) + (ks.getD i []).getD n 0) := by
  intro i j hi hj
  have li := (ok _ (getD_mem hi)).1
  have lj := (ok _ (getD_mem hj)).1
  obtain ⟨h1, h2⟩ := h i j hi hj
  rw [take_more (by rw [li]; exact hn), take_more (by rw [lj]; exact hn)]
  constructor
  · show (f i * (2 * M + 1) + _ < f j * (2 * M + 1) + _) ↔ _
    rw [key_step (hM i hi) (hM j hj), lexI_snoc _ _ _ _ (by rw [List.length_take, List.length_take, li, lj]), h1, h2]
  · show (f i * (2 * M + 1) + _ = f j * (2 * M + 1) + _) ↔ _
    rw [key_step_eq (hM i hi) (hM j hj), h2]
    constructor
    · rintro ⟨e1, e2⟩; rw [e1, e2]
    · intro e
      have := List.append_inj e (by rw [List.length_take, List.length_take, li, lj])
      exact ⟨this.1, by simpa using this.2⟩
theorem KF.keys {ks : List (List Int)} {n : Nat} {f : Nat → Int} (h : KF ks n f) : KeysOf ks n ((List.range ks.length).map f) :=
  ⟨by simp, fun i j hi hj => by rw [getD_range hi, getD_range hj]; exact h i j hi hj⟩
end
section
open PySem PySem.Spec PyProof.Rows L2
theorem i_R2 {H : Hp} {R : It → Hp → Prop} {i j : Int} {n : Nat} (hi : 0 ≤ i ∧ i ≤ 1000000) (e : j = i + (n : Int)) (hn : n ≤ 1000000) (k : R (Itr i n) H) : ItR2 [.int i, .int j] H R := by
  have e62 : (2 : Int) ^ 62 = 4611686018427387904 := by decide
  refine ⟨i, j, rfl, by rw [e62]; omega, ?_⟩
  rw [show (j - i).toNat = n from by omega]
  exact k
end
section
open PySem PySem.Spec PyProof.Rows L2
section
variable {K : PySem.W.Frag} {σ : L2.St} {H : Hp} {ta : TA} {g : TG} {ts : TS} {D : Ends} {a : Addr} {xs : List V} {R : It → Hp → Prop}
theorem r_iE (k : ta σ H fun vs H1 => ∃ (a : Addr) (xs : List V), vs = [.ref a] ∧ SqL K H1 a xs ∧ R (Ite K a) H1) : iEnum K ta σ H R := k
/-- for over enumerate(xs) -/
theorem fE (Pv : Nat → L2.St → Hp → Prop) (h0 : Pv 0 σ H) (hq : ∀ i σ H, Pv i σ H → H a = some (.lst xs))
    (hs : ∀ (i : Nat) (x : V) (T : Addr) (σ : L2.St) (H H' : Hp), xs[i]? = some x → Pv i σ H → Ex H H' → H' T = some (.tup [.int (i : Nat), x]) → Turn1 g ts D (Pv (i + 1)) (.ref T) σ H') (hd : ∀ σ H, Pv xs.length σ H → D.nx σ H) : ForIt (Ite K a) g ts D σ H := by
  refine for_it (walk_enum (xs := xs)) Pv h0 (fun i σ H hi h => SqL.of (hq i σ H h)) (fun i x σ H H' hi h hy => ?_) hd
  obtain ⟨T, x1, y1, rfl, hT, rfl, hx, hy⟩ := hy
  cases hx
  exact hs i y1 T σ H _ hy h (Ex.new hT) upd_same
end
/-- HT's order of rows is ours -/
theorem lexLt_eq : ∀ a b : List Int, HT.lexLt a b = lexI a b
  | [], [] => rfl
  | [], _ :: _ => rfl
  | _ :: _, [] => rfl
  | a :: as, b :: bs => by
    unfold HT.lexLt lexI
    rw [lexLt_eq as bs]
end
section
open PySem PySem.Spec PyProof.Rows L2
/-- order so far: the places below n, in order -/
def SortedN (ks : List (List Int)) (n : Nat) (idx : List Nat) : Prop := idx.Perm (List.range n) ∧ idx.Pairwise (fun i j => leR ks i j = true)
theorem SortedN.len {ks : List (List Int)} {n : Nat} {idx : List Nat} (h : SortedN ks n idx) : idx.length = n := by rw [h.1.length_eq, List.length_range]
theorem SortedN.lt {ks : List (List Int)} {n : Nat} {idx : List Nat} (h : SortedN ks n idx) {i : Nat} (hi : i ∈ idx) : i < n := List.mem_range.mp (h.1.mem_iff.mp hi)
/-- one more, put at its place -/
theorem SortedN.insert {ks : List (List Int)} {n a : Nat} {idx : List Nat} (h : SortedN ks n idx) (ha : a ≤ n)
    (hlo : ∀ j, 0 < a → idx[a - 1]? = some j → lexI (ks.getD n []) (ks.getD j []) = false) (hhi : ∀ k j, a ≤ k → idx[k]? = some j → lexI (ks.getD n []) (ks.getD j []) = true) : SortedN ks (n + 1) (idx.take a ++ [n] ++ idx.drop a) := by
  obtain ⟨hp, hs⟩ := h
  refine ⟨?_, ?_⟩
  · rw [List.range_succ]
    have e1 : (idx.take a ++ [n] ++ idx.drop a).Perm (idx ++ [n]) := by
      have : (idx.take a ++ [n] ++ idx.drop a).Perm (idx.take a ++ idx.drop a ++ [n]) := by
        rw [List.append_assoc, List.append_assoc]
        exact (List.Perm.refl _).append List.perm_append_comm
      rw [List.take_append_drop] at this
      exact this
    exact e1.trans (hp.append (List.Perm.refl _))
  · have hst : (idx.take a).Pairwise (fun i j => leR ks i j = true) := hs.sublist (List.take_sublist _ _)
    have hsd : (idx.drop a).Pairwise (fun i j => leR ks i j = true) := hs.sublist (List.drop_sublist _ _)
    have hcross : ∀ x ∈ idx.take a, ∀ y ∈ idx.drop a, leR ks x y = true := by
      have := hs
      rw [← List.take_append_drop a idx, List.pairwise_append] at this
      exact this.2.2
    have hup : ∀ y ∈ idx.drop a, leR ks n y = true := by
      intro y hy
      obtain ⟨k, hk, e⟩ := List.mem_iff_getElem.mp hy
      rw [List.getElem_drop] at e
      exact leI_of_lt (hhi (a + k) y (by omega) (by rw [← e]; exact List.getElem?_eq_getElem _))
    have hdn : ∀ x ∈ idx.take a, leR ks x n = true := by
      intro x hx
      have hla : (idx.take a).length ≤ a := by rw [List.length_take]; omega
      obtain ⟨k, hk, e⟩ := List.mem_iff_getElem.mp hx
      have hk2 : k < a := by omega
      have hki : k < idx.length := by rw [List.length_take] at hk; omega
      rw [List.getElem_take] at e
      have hlen : idx.length = n := by rw [hp.length_eq, List.length_range]
      have h1 : idx[a - 1]? = some (idx[a - 1]'(by omega)) := List.getElem?_eq_getElem _
      have l1 : leR ks (idx[a - 1]'(by omega)) n = true := leI_of_nlt (hlo _ (by omega) h1)
      by_cases z : k = a - 1
      · subst z; rw [← e]; exact l1
      · have := List.pairwise_iff_getElem.mp hs k (a - 1) hki (by omega) (by omega)
        rw [e] at this
        exact leI_trans this l1
    rw [List.append_assoc, List.pairwise_append]
    refine ⟨hst, ?_, ?_⟩
    · rw [List.singleton_append, List.pairwise_cons]
      exact ⟨hup, hsd⟩
    · intro x hx y hy
      rw [List.singleton_append, List.mem_cons] at hy
      rcases hy with rfl | hy
      · exact hdn x hx
      · exact hcross x hx y hy
end
section
open PySem PySem.Spec PyProof.Rows L2
def downOf (i : Nat) (σ : L2.St) : Nat := match σ[i]? with
  | some (some (V.int a)) => a.toNat
  | _ => 0
end
section
open PySem PySem.Spec PyProof.Rows L2
theorem ins_map {idx : List Nat} {a n : Nat} : (idx.map nat).take ((a : Int).toNat) ++ [nat n] ++ (idx.map nat).drop ((a : Int).toNat) = (idx.take a ++ [n] ++ idx.drop a).map nat := by
  rw [Int.toNat_natCast, List.map_append, List.map_append, List.map_take, List.map_drop]; rfl
end
section
open PySem PySem.Spec PyProof.Rows L2
theorem i63 {n : Nat} (h : n ≤ 1000000) : 0 ≤ (n : Int) ∧ (n : Int) < 2 ^ 63 := by
  have : (2 : Int) ^ 63 = 9223372036854775808 := by decide
  rw [this]; omega
end
section
open PySem PySem.Spec PyProof.Rows L2 He
section
variable {P : Program} {w : World} {K : PySem.W.Frag} {mg : Str → Option Value} {base : Heap} {C_Ratio C_BadNumber C_NoSuch f_Ratio_eq f_Ratio_lt f_Ratio_le f_Ratio_gt f_Ratio_ge f_Ratio_bool f_Ratio_neg f_Ratio_abs f_Ratio_str f_Ratio_add f_Ratio_radd f_Ratio_sub f_Ratio_rsub f_Ratio_mul f_Ratio_rmul f_Ratio_floordiv f_Ratio_rfloordiv f_Ratio_mod f_Ratio_rmod f_Ratio_pow f_Ratio_over f_Ratio_floor f_Ratio_ceiling f_Ratio_whole f_Ratio_sign  : Addr}
abbrev s_order_keys : Stmt := (top 23)
theorem sc_order_keys : FnScope ["ratios", "bits", "ratio"] ["ratios"] (defScope s_order_keys) := ⟨rfl, rfl, rfl, by decide +kernel, rfl, by decide +kernel, by decide +kernel⟩
theorem ok_order_keys {f : Addr} {fd : FuncData} (F : FunD K "order_keys" "order_keys" (defArgs s_order_keys) (defBody s_order_keys) (defScope s_order_keys) [] [] f fd) (TB : TBl mg) (TR : RT K mg C_Ratio) : FnOk P w K mg base (L2.CX P w) 1 f fd ["ratios"] (spOrderKeys C_Ratio) := by
  refine F.ok (CX := L2.CX P w) sc_order_keys (fun vs H Q E h => ?_) (fun cdv A outer s H vs Q E hr h => ?_)
  · obtain ⟨k, xs, qs, rfl, _⟩ := h; rfl
  · obtain ⟨k, xs, qs, rfl, hk, hx, hb, h0, hn, kont⟩ := h
    refine ⟨_, (pss_cons (ps_set (i := 1) sc_order_keys.nd rfl (Or.inr rfl) (pe_op op_mulA pe_int (pe_callB (kc_maxL (K := K) rfl rfl) (by rfl) TB.b_max (by decide +kernel) (pa_cons (pe_lc (own := [("ratio", 2)]) (tt := tYes) (by rfl) sc_order_keys.nd (kpi_l (K := K) rfl (pv 0)) (blkOk_by (own := [("ratio", 2)]) (N := ["ratios", "bits", "ratio"]) (sc := defScope s_order_keys) (by decide +kernel)) (fun _ _ _ _ _ => (pg_name (i := 2) sc_order_keys.nd rfl (Or.inl rfl))) (fun _ _ _ _ _ => pts_nil) (fun _ _ _ _ _ => (pe_callTy kc_int1 (by rfl) TB.b_int (by decide +kernel) (pa_cons (pe_bits (kfld (K := K) rfl (pv 2) rfl)) pa_nil)))) pa_nil)))) (pss_one (ps_ret (pe_lc (own := [("ratio", 2)]) (tt := tYes) (by rfl) sc_order_keys.nd (kpi_l (K := K) rfl (pv 0)) (blkOk_by (own := [("ratio", 2)]) (N := ["ratios", "bits", "ratio"]) (sc := defScope s_order_keys) (by decide +kernel)) (fun _ _ _ _ _ => (pg_name (i := 2) sc_order_keys.nd rfl (Or.inl rfl))) (fun _ _ _ _ _ => pts_nil) (fun _ _ _ _ _ => (pe_op op_fdivZ (pe_op op_shlW (kfld (K := K) rfl (pv 2) rfl) (pv 1)) (kfld (K := K) rfl (pv 2) rfl))))))), ?_⟩
    wtm_at "of_rd"
    refine i_L hk ?_
    refine lLI (fun i => ((Builtin.Int.intBits ((qs.getD i 0).den : Int) : Nat) : Int)) hk ?_ ?_
    · intro L i x acc H' hL e hacc ha hxi
      obtain ⟨p, rfl, hi, hp⟩ := rs_at hx hxi
      have hp' := hp.ex e
      wtm_at "of_rd"
      refine ⟨rfl, ?_⟩
      wtm_at "of_rd"
      refine r_bits ?_
      wtm_at "of_rd"
      exact lputI hacc e hL ha rfl (by omega)
    intro L H1 hL e1 h1
    wtm_at "of_rd"
    refine q_maxL h1 (by rw [hx.1]; exact h0) ?_
    rintro mb ⟨im, him, rfl⟩ hmax
    generalize hB : Builtin.Int.intBits ((qs.getD im 0).den : Int) = BB at *
    have bm : BB ≤ 4000 := by
      rw [← hB]
      rw [hx.1] at him
      have := (hb (qs.getD im 0) (by rw [List.getD_eq_getElem?_getD, List.getElem?_eq_getElem him]; exact List.getElem_mem him)).2
      exact intBits_le this
    wtm_at "of_rd"
    refine i_L (e1 _ _ hk) ?_
    refine lLI (fun i => rkey (2 * BB) (qs.getD i 0)) (e1 _ _ hk) ?_ ?_
    · intro L2 i x acc H' hL2 e hacc ha hxi
      obtain ⟨p, rfl, hi, hp⟩ := rs_at hx hxi
      have hp' := hp.ex (e1.trans e)
      have bq := hb (qs.getD i 0) (by rw [List.getD_eq_getElem?_getD, List.getElem?_eq_getElem hi]; exact List.getElem_mem hi)
      wtm_at "of_rd"
      refine ⟨rfl, ?_⟩
      wtm_at "of_rd"
      refine r_I ⟨by omega, ?_⟩ ?_
      · have := intBits_le bq.1
        omega
      wtm_at "of_rd"
      refine r_I ⟨by exact_mod_cast (qs.getD i 0).den_nz, ?_⟩ ?_
      · exact Nat.lt_of_lt_of_le bq.2 (Nat.pow_le_pow_right (by decide) (by decide))
      wtm_at "of_rd"
      refine lputI hacc e hL2 ha ?_ (by omega)
      show _ = rkey (2 * BB) (qs.getD i 0)
      unfold rkey
      congr 3
    intro L2 H2 hL2 e2 h2
    wtm_at "of_rd"
    have hd : ∀ i, i < qs.length → (qs.getD i 0).den < 2 ^ BB := fun i hi => by
      have := hmax i (by rw [hx.1]; exact hi)
      exact den_bits (by omega)
    refine kont H2 L2 _ (e1.trans e2) h2 ⟨by rw [nat_len]; exact hx.1, fun z hz => ?_, fun i j hi hj => ?_⟩
    · obtain ⟨i, hi, rfl⟩ := List.mem_map.mp hz
      have hi := List.mem_range.mp hi
      rw [hx.1] at hi
      exact rkey_sb (hb _ (by rw [List.getD_eq_getElem?_getD, List.getElem?_eq_getElem hi]; exact List.getElem_mem hi)) (by omega)
    · rw [getD_range (by rw [hx.1]; exact hi), getD_range (by rw [hx.1]; exact hj)]
      exact ⟨rkey_lt rfl (hd i hi) (hd j hj), rkey_eq rfl (hd i hi) (hd j hj)⟩
abbrev s_row_keys : Stmt := (top 8)
theorem sc_row_keys : FnScope ["rows", "keys", "at", "span", "row", "key"] ["rows"] (defScope s_row_keys) := ⟨rfl, rfl, rfl, by decide +kernel, rfl, by decide +kernel, by decide +kernel⟩
theorem ok_row_keys {f : Addr} {fd : FuncData} (F : FunD K "row_keys" "row_keys" (defArgs s_row_keys) (defBody s_row_keys) (defScope s_row_keys) [] [] f fd) (TB : TBl mg) (TR : RT K mg C_Ratio) : FnOk P w K mg base (L2.CX P w) 1 f fd ["rows"] (spRowKeys) := by
  refine F.ok (CX := L2.CX P w) sc_row_keys (fun vs H Q E h => ?_) (fun cdv A outer s H vs Q E hr h => ?_)
  · obtain ⟨k, ks, m, B, rfl, _⟩ := h; rfl
  · obtain ⟨k, ks, m, B, rfl, hk, ok, m1, m2, hB, h0, hn, kont⟩ := h
    refine ⟨_, (pss_cons (ps_setLc (i := 1) (own := [("row", 4)]) (tt := tYes) (by rfl) sc_row_keys.nd rfl rfl (sw_true rfl rfl rfl (by decide +kernel)) (kpi_l (K := K) rfl (pv 0)) (blkOk_by (own := [("row", 4)]) (N := ["rows", "keys", "at", "span", "row", "key"]) (sc := defScope s_row_keys) (by decide +kernel)) (fun _ _ _ _ _ => (pg_name (i := 4) sc_row_keys.nd rfl (Or.inl rfl))) (fun _ _ _ _ _ => pts_nil) (fun _ _ _ _ _ => (pe_ix (kix_t (K := K) rfl) (pv 4) pe_int (fun _ _ => rfl)))) (pss_cons (ps_for (passes_of rfl) rfl (pi_range2 (by rfl) TB.b_range (pa_cons pe_int (pa_cons (pe_callB (kc_len (K := K) rfl) (by rfl) TB.b_len PySem.boot_len (pa_cons (pe_ix (kix_l (K := K) rfl) (pv 0) pe_int (fun _ _ => rfl)) pa_nil)) pa_nil))) (pg_name (i := 2) sc_row_keys.nd rfl (Or.inr rfl)) (pss_cons (ps_set (i := 3) sc_row_keys.nd rfl (Or.inr rfl) (pe_op op_add (pe_op op_mulA pe_int (pe_callB (kc_maxL (K := K) rfl rfl) (by rfl) TB.b_max (by decide +kernel) (pa_cons (pe_lc (own := [("row", 4)]) (tt := tYes) (by rfl) sc_row_keys.nd (kpi_l (K := K) rfl (pv 0)) (blkOk_by (own := [("row", 4)]) (N := ["rows", "keys", "at", "span", "row", "key"]) (sc := defScope s_row_keys) (by decide +kernel)) (fun _ _ _ _ _ => (pg_name (i := 4) sc_row_keys.nd rfl (Or.inl rfl))) (fun _ _ _ _ _ => pts_nil) (fun _ _ _ _ _ => (pe_callTy kc_int1 (by rfl) TB.b_int (by decide +kernel) (pa_cons (pe_callB kc_abs (by rfl) TB.b_abs (by decide +kernel) (pa_cons (pe_ix (kix_t (K := K) rfl) (pv 4) (pv 2) (fun _ _ => rfl)) pa_nil)) pa_nil)))) pa_nil))) pe_int)) (pss_one (ps_setLc (i := 1) (own := [("key", 5), ("row", 4)]) (tt := tYes) (by rfl) sc_row_keys.nd rfl rfl (sw_true rfl rfl rfl (by decide +kernel)) (kpi_zip (K := K) rfl (by rfl) TB.b_zip (pa_cons (pv 1) (pa_cons (pv 0) pa_nil))) (blkOk_by (own := [("key", 5), ("row", 4)]) (N := ["rows", "keys", "at", "span", "row", "key"]) (sc := defScope s_row_keys) (by decide +kernel)) (fun _ _ _ _ _ => (kpg_tup (K := K) 2 rfl rfl (pgs_cons (pg_name (i := 5) sc_row_keys.nd rfl (Or.inl rfl)) (pgs_cons (pg_name (i := 4) sc_row_keys.nd rfl (Or.inl rfl)) pgs_nil)))) (fun _ _ _ _ _ => pts_nil) (fun _ _ _ _ _ => (pe_op op_add (pe_op op_mulA (pv 5) (pv 3)) (pe_ix (kix_t (K := K) rfl) (pv 4) (pv 2) (fun _ _ => rfl)))))))) (pss_one (ps_ret (pv 1))))), ?_⟩
    obtain ⟨xs, hx, hl, hat⟩ := hk
    wtm_at "of_rd"
    refine i_L hx ?_
    refine lLI (fun i => (ks.getD i []).getD 0 0) hx ?_ ?_
    · intro L i x acc H' hL e hacc ha hxi
      obtain ⟨p, rfl, hi, hp, hm, hs⟩ := row_at hl hat ok hxi
      wtm_at "of_rd"
      refine ⟨rfl, ?_⟩
      wtm_at "of_rd"
      refine r_iT1 (e _ _ hp) (ent_at (by rw [hm]; exact m1)) ?_
      wtm_at "of_rd"
      exact lputI hacc e hL ha rfl (by omega)
    intro L H1 hL e1 h1
    wtm_at "of_rd"
    obtain ⟨p0, z0, g0⟩ := hat 0 _ (by rw [List.getElem?_eq_getElem h0])
    refine r_iL1 (e1 _ _ hx) (j := 0) (atI_nat (j := 0) z0) ?_
    wtm_at "of_rd"
    have hm0 : (ks[0]'h0).length = m := (ok _ (List.getElem_mem h0)).1
    refine q_lenT (e1 _ _ g0) ?_
    wtm_at "of_rd"
    refine i_R2 (n := m - 1) (by omega) (by rw [List.length_map, hm0]; omega) (by omega) ?_
    refine fR' (fun i σ H' => ∃ (L : Addr) (f : Nat → Int) (v2 v3 v4 v5 : Option V), σ = [some (.ref k), some (.ref L), v2, v3, v4, v5] ∧ Ex H H' ∧ H' L = some (.lst (((List.range ks.length).map f).map V.int)) ∧ KF ks (i + 1) f ∧ ∀ j, j < ks.length → Sb (B + i * (B + 3)) (f j))
      ⟨L, _, none, none, none, none, rfl, e1, by rw [← hl]; exact h1, KF.one ok m1, fun j hj => by rw [Nat.zero_mul]; exact (ok _ (getD_mem hj)).2 _ (ent_mem (by rw [(ok _ (getD_mem hj)).1]; omega))⟩ ?_ ?_
    · rintro i σ H2 hi ⟨L2, f, v2, v3, v4, v5, rfl, e2, h2, kf, hf⟩
      rw [show (1 + (i : Int)) = ((i + 1 : Nat) : Int) from by omega]
      wtm_at "of_rd"
      refine i_L (e2 _ _ hx) ?_
      refine lLI (fun j => (((ks.getD j []).getD (i + 1) 0).natAbs : Int)) (e2 _ _ hx) ?_ ?_
      · intro L3 j x acc H' hL3 e hacc ha hxi
        obtain ⟨p, rfl, hj, hp, hm, hs⟩ := row_at hl hat ok hxi
        wtm_at "of_rd"
        refine ⟨rfl, ?_⟩
        wtm_at "of_rd"
        refine r_iT1 ((e2.trans e) _ _ hp) (ent_at (by rw [hm]; omega)) ?_
        wtm_at "of_rd"
        refine ⟨_, rfl, ?_⟩
        wtm_at "of_rd"
        exact lputI hacc e hL3 ha (by split <;> omega) (by omega)
      intro L3 H3 hL3 e3 h3
      wtm_at "of_rd"
      refine q_maxL h3 (by rw [hl]; exact h0) ?_
      rintro M ⟨iM, hiM, rfl⟩ hmax
      rw [hl] at hiM
      have sM : Sb B (((ks.getD iM []).getD (i + 1) 0).natAbs : Int) := by
        have := (ok _ (getD_mem hiM)).2 _ (ent_mem (j := i + 1) (by rw [(ok _ (getD_mem hiM)).1]; omega))
        unfold Sb at *; simpa using this
      generalize hMM : (((ks.getD iM []).getD (i + 1) 0).natAbs : Int) = M at *
      have M0 : 0 ≤ M := by rw [← hMM]; omega
      have sp : Sb (B + 2) (2 * M + 1) := by
        unfold Sb at *
        rw [Nat.pow_add]
        omega
      wtm_at "of_rd"
      refine i_ZL (e3 _ _ h2) ((e2.trans e3) _ _ hx) ?_
      refine lZI (fun j => f j * (2 * M + 1) + (ks.getD j []).getD (i + 1) 0) (e3 _ _ h2) ((e2.trans e3) _ _ hx) (by rw [List.length_map, List.length_map, List.length_range, hl]) ?_ ?_
      · intro L4 j x y T acc H' hL4 e hacc ha hxi hyi hT
        obtain ⟨p, rfl, hj, hp, hm, hs⟩ := row_at hl hat ok hyi
        have hxf : x = .int (f j) := by
          rw [List.getElem?_map, List.getElem?_map, List.getElem?_range hj] at hxi
          simpa using hxi.symm
        subst hxf
        refine r_gTup hT rfl ?_
        wtm_at "of_rd"
        refine ⟨rfl, ?_⟩
        wtm_at "of_rd"
        refine r_I (cmA_w (hf j hj) sp (by have : i * (B + 3) ≤ 1 * (B + 3) := Nat.mul_le_mul_right _ (by omega); omega)) ?_
        wtm_at "of_rd"
        refine r_iT1 ((e2.trans (e3.trans e)) _ _ hp) (ent_at (by rw [hm]; omega)) ?_
        wtm_at "of_rd"
        exact lputI hacc e hL4 ha rfl (by omega)
      intro L4 H4 hL4 e4 h4
      wtm_at "of_rd"
      rw [List.length_map, List.length_map, List.length_range] at h4
      refine ⟨L4, _, _, _, _, _, rfl, (e2.trans e3).trans e4, h4, KF.step ok (by omega) kf (fun j hj => ?_), fun j hj => ?_⟩
      · have := hmax j (by rw [hl]; exact hj)
        omega
      · have s1 := hf j hj
        have s2 := (ok _ (getD_mem hj)).2 _ (ent_mem (j := i + 1) (by rw [(ok _ (getD_mem hj)).1]; omega))
        have s3 := s1.mul sp
        rw [show B + (i + 1) * (B + 3) = (B + i * (B + 3) + (B + 2)) + 1 from by rw [Nat.succ_mul]; omega]
        exact (s3.add s2).mono (by omega)
    · rintro σ H2 ⟨L2, f, v2, v3, v4, v5, rfl, e2, h2, kf, hf⟩
      wtm_at "of_rd"
      rw [show m - 1 + 1 = m from by omega] at kf
      exact kont H2 L2 _ e2 h2 kf.keys
abbrev s_inserted : Stmt := (top 9)
theorem sc_inserted : FnScope ["rows", "order", "index", "row", "at"] ["rows"] (defScope s_inserted) := ⟨rfl, rfl, rfl, by decide +kernel, rfl, by decide +kernel, by decide +kernel⟩
theorem ok_inserted {f : Addr} {fd : FuncData} (F : FunD K "inserted" "inserted" (defArgs s_inserted) (defBody s_inserted) (defScope s_inserted) [] [] f fd) (TB : TBl mg) (TR : RT K mg C_Ratio) : FnOk P w K mg base (L2.CX P w) 1 f fd ["rows"] (spOrd) := by
  refine F.ok (CX := L2.CX P w) sc_inserted (fun vs H Q E h => ?_) (fun cdv A outer s H vs Q E hr h => ?_)
  · obtain ⟨k, ks, m, B, rfl, _⟩ := h; rfl
  · obtain ⟨k, ks, m, B, rfl, hk, ok, m1, m2, hB, hn, kont⟩ := h
    refine ⟨_, (pss_cons (ps_set (i := 1) sc_inserted.nd rfl (Or.inl rfl) (pe_lst pa_nil)) (pss_cons (ps_for (passes_of rfl) rfl (kpi_enum (K := K) rfl (by rfl) TB.b_enumerate (pa_cons (pv 0) pa_nil)) (kpg_tup (K := K) 2 rfl rfl (pgs_cons (pg_name (i := 2) sc_inserted.nd rfl (Or.inl rfl)) (pgs_cons (pg_name (i := 3) sc_inserted.nd rfl (Or.inl rfl)) pgs_nil))) (pss_cons (ps_set (i := 4) sc_inserted.nd rfl (Or.inl rfl) (pv 2)) (pss_cons (ps_while (passes_of rfl) (pw_and (pt_cmpR op_gt (pv 4) pe_int (nomark _)) (pw_and1 (pt_cmpR (kop_ltT (K := K) rfl hr.units0) (pv 3) (pe_ix (kix_l (K := K) rfl) (pv 0) (pe_ix (kix_l (K := K) rfl) (pv 1) (pe_op op_sub (pv 4) pe_int) (fun _ _ => rfl)) (fun _ _ => rfl)) (nomark _)))).pt (pss_one (ps_set (i := 4) sc_inserted.nd rfl (Or.inl rfl) (pe_op op_sub (pv 4) pe_int)))) (pss_one (ps_expr (kapp (K := K) rfl PySem.F.plainAttrs_list PySem.F.slot_list_insert PySem.F.type_list_insert mt_insert (pv 1) (pa_cons (pv 4) (pa_cons (pv 2) pa_nil)))))))) (pss_one (ps_ret (pv 1))))), ?_⟩
    obtain ⟨xs, hx, hl, hat⟩ := hk
    wtm_at "of_rd"
    refine r_laidL (by decide) ?_
    intro o H1 e1 n1 h1
    wtm_at "of_rd"
    refine r_iE ?_
    wtm_at "of_rd"
    refine ⟨k, xs, rfl, SqL.of (e1 _ _ hx), ?_⟩
    refine fE (xs := xs) (fun i σ H' => ∃ (idx : List Nat) (v2 v3 v4 : Option V), σ = [some (.ref k), some (.ref o), v2, v3, v4] ∧ Ex H H' ∧ H' o = some (.lst (idx.map nat)) ∧ SortedN ks i idx)
      ⟨[], none, none, none, rfl, e1, h1, .refl _, .nil⟩ (fun i σ H' ⟨idx, _, _, _, _, e, _⟩ => e _ _ hx) ?_ ?_
    · rintro i x T σ H2 H3 hxi ⟨idx, v2, v3, v4, rfl, e2, h2, so⟩ e3 hT
      obtain ⟨p, rfl, hi, hp, hm, hs⟩ := row_at hl hat ok hxi
      refine r_gTup hT rfl ?_
      wtm_at "of_rd"
      have h3 := e3 _ _ h2
      refine r_while (fun σ H' => ∃ a : Nat, σ = [some (.ref k), some (.ref o), some (nat i), some (.ref p), some (nat a)] ∧ H' = H3 ∧ a ≤ i ∧ ∀ kk j, a ≤ kk → idx[kk]? = some j → lexI (ks.getD i []) (ks.getD j []) = true)
        (fun σ _ => downOf 4 σ) ⟨i, rfl, rfl, Nat.le_refl _, fun kk j hk hj => ?_⟩ ?_
      · have := (List.getElem?_eq_some_iff.mp hj).1
        rw [so.len] at this; omega
      rintro σ H4 ⟨a, rfl, rfl, ha, hhi⟩
      wtm_at "of_rd"
      refine ite2 (fun hpos => ?_) (fun hpos => ?_)
      · wtm_at "of_rd"
        obtain ⟨a', rfl⟩ : ∃ a', a = a' + 1 := ⟨a - 1, by omega⟩
        rw [show (((a' + 1 : Nat) : Int) - 1) = (a' : Int) from by omega]
        have ha2 : a' < idx.length := by rw [so.len]; omega
        have hj : idx[a']? = some idx[a'] := List.getElem?_eq_getElem ha2
        generalize idx[a'] = j at hj
        have hjl : j < ks.length := Nat.lt_of_lt_of_le (so.lt (List.mem_of_getElem? hj)) (by omega)
        refine r_iL1 h3 (atI_nat (j := a') (by rw [List.getElem?_map, hj]; rfl)) ?_
        wtm_at "of_rd"
        obtain ⟨pj, zj, gj⟩ := hat j _ (List.getElem?_eq_getElem hjl)
        refine r_iL1 ((e2.trans e3) _ _ hx) (atI_nat (j := j) zj) ?_
        wtm_at "of_rd"
        refine ⟨p, pj, ks.getD i [], ks[j], rfl, rfl, SqT.of ((e2.trans e3) _ _ hp), SqT.of ((e2.trans e3) _ _ gj), ?_⟩
        rw [lexLt_eq, show ks[j] = ks.getD j [] from by rw [List.getD_eq_getElem?_getD, List.getElem?_eq_getElem hjl]; rfl]
        refine ⟨_, rfl, ?_⟩
        split
        · rename_i hlt
          refine tn ?_
          wtm_at "of_rd"
          refine ⟨⟨a', by rw [show (((a' + 1 : Nat) : Int) - 1) = (a' : Int) from by omega]; rfl, rfl, by omega, fun kk j2 hk hj2 => ?_⟩, ?_⟩
          · by_cases z : kk = a'
            · subst z; rw [hj] at hj2; cases hj2; exact hlt
            · exact hhi kk j2 (by omega) hj2
          · show downOf 4 _ < downOf 4 _
            show ((((a' + 1 : Nat) : Int) - 1)).toNat < (((a' + 1 : Nat) : Int)).toNat
            omega
        · rename_i hlt
          wtm_at "of_rd"
          refine ⟨ty_l h3, ?_⟩
          wtm_at "of_rd"
          refine ⟨o, _, _, _, rfl, rfl, h3, by rw [List.length_map, so.len, sizeLine_eq]; omega, (i63 (by omega)).1, (i63 (by omega)).2, ?_⟩
          wtm_at "of_rd"
          exact ⟨_, _, _, _, rfl, (e2.trans e3).put n1, by rw [upd_same, ins_map], so.insert ha (fun j2 _ hj2 => by rw [show a' + 1 - 1 = a' from rfl, hj] at hj2; cases hj2; simpa using hlt) hhi⟩
      · wtm_at "of_rd"
        refine ⟨ty_l h3, ?_⟩
        wtm_at "of_rd"
        refine ⟨o, _, _, _, rfl, rfl, h3, by rw [List.length_map, so.len, sizeLine_eq]; omega, (i63 (by omega)).1, (i63 (by omega)).2, ?_⟩
        wtm_at "of_rd"
        exact ⟨_, _, _, _, rfl, (e2.trans e3).put n1, by rw [upd_same, ins_map], so.insert ha (fun j2 h0 _ => by omega) hhi⟩
    · rintro σ H2 ⟨idx, v2, v3, v4, rfl, e2, h2, so⟩
      wtm_at "of_rd"
      rw [hl] at so
      exact kont H2 o idx e2 h2 so
end
end
section
open PySem PySem.Spec PyProof.Rows L2
/-- the places below n whose key is z -/
def buck (key : List Int) (n : Nat) (z : Int) : List Nat := (List.range n).filter fun j => decide (key.getD j 0 = z)
theorem mem_buck {key : List Int} {n j : Nat} {z : Int} : j ∈ buck key n z ↔ j < n ∧ key.getD j 0 = z := by
  unfold buck
  rw [List.mem_filter, List.mem_range, decide_eq_true_iff]
theorem buck_same {key : List Int} {n : Nat} : buck key (n + 1) (key.getD n 0) = buck key n (key.getD n 0) ++ [n] := by
  unfold buck
  rw [List.range_succ, List.filter_append]
  congr 1
  simp
theorem buck_ne {key : List Int} {n : Nat} {z : Int} (h : key.getD n 0 ≠ z) : buck key (n + 1) z = buck key n z := by
  unfold buck
  rw [List.range_succ, List.filter_append]
  have : List.filter (fun j => decide (key.getD j 0 = z)) [n] = [] := by
    rw [List.filter_cons, if_neg (by simpa using h)]; rfl
  rw [this, List.append_nil]
theorem buck_len {key : List Int} {n : Nat} {z : Int} : (buck key n z).length ≤ n := by
  unfold buck
  have := List.length_filter_le (fun j => decide (key.getD j 0 = z)) (List.range n)
  rwa [List.length_range] at this
theorem filter_two {α : Type} {p q : α → Bool} : ∀ l : List α, (∀ x, p x = true → q x = false) → (l.filter p ++ l.filter q).Perm (l.filter fun x => p x || q x)
  | [], _ => .refl _
  | x :: l, h => by
    have ih := filter_two l h
    cases e : p x with
    | true =>
      have e2 := h x e
      simp only [List.filter_cons, e, e2, Bool.true_or, if_true, List.cons_append]
      exact ih.cons x
    | false =>
      cases e2 : q x with
      | true =>
        simp only [List.filter_cons, e, e2, Bool.false_or, if_true]
        exact List.perm_middle.trans (ih.cons x)
      | false =>
        simp only [List.filter_cons, e, e2, Bool.false_or]
        exact ih
theorem buck_perm {key : List Int} {n : Nat} : ∀ zs : List Int, zs.Nodup → (zs.flatMap (buck key n)).Perm ((List.range n).filter fun j => decide (key.getD j 0 ∈ zs))
  | [], _ => by
    have : (List.range n).filter (fun j => decide (key.getD j 0 ∈ ([] : List Int))) = [] := by
      rw [List.filter_eq_nil_iff]; intro a _; simp
    rw [this]; exact .refl _
  | z :: zs, h => by
    rw [List.flatMap_cons]
    have hn := List.nodup_cons.mp h
    have ih := buck_perm (key := key) (n := n) zs hn.2
    refine ((List.Perm.refl _).append ih).trans ?_
    have := filter_two (p := fun j => decide (key.getD j 0 = z)) (q := fun j => decide (key.getD j 0 ∈ zs)) (List.range n) fun x e => by
      have e := of_decide_eq_true e
      rw [e]; exact decide_eq_false hn.1
    refine this.trans ?_
    have e : (fun j => decide (key.getD j 0 = z) || decide (key.getD j 0 ∈ zs)) = fun j => decide (key.getD j 0 ∈ z :: zs) := by
      funext j
      rw [Bool.eq_iff_iff]; simp
    rw [e]
theorem lex_same {ks : List (List Int)} {i j : Nat} (h : ks.getD i [] = ks.getD j []) : leR ks i j = true := by
  show leI (ks.getD i []) (ks.getD j []) = true
  rw [h]; exact leI_refl _
theorem buck_sorted {ks : List (List Int)} {m B : Nat} {key zs : List Int} (hk : KeysOf ks m key) (ok : IOk m B ks) (hs : zs.Pairwise (· < ·)) (hall : ∀ j, j < ks.length → key.getD j 0 ∈ zs) : Sorted ks (zs.flatMap (buck key ks.length)) := by
  have tk : ∀ i, i < ks.length → (ks.getD i []).take m = ks.getD i [] := fun i hi => List.take_of_length_le (by rw [(ok _ (getD_mem hi)).1]; exact Nat.le_refl _)
  refine ⟨(buck_perm zs (hs.imp fun h => by omega)).trans ?_, ?_⟩
  · have : (List.range ks.length).filter (fun j => decide (key.getD j 0 ∈ zs)) = List.range ks.length := by
      rw [List.filter_eq_self]
      intro a ha
      exact decide_eq_true (hall a (List.mem_range.mp ha))
    rw [this]
  · rw [List.pairwise_flatMap]
    refine ⟨fun z _ => ?_, hs.imp fun {z1 z2} hz x hx y hy => ?_⟩
    · rw [List.pairwise_iff_forall_sublist]
      intro a b hab
      have ha := mem_buck.mp (hab.subset (List.mem_cons_self))
      have hb := mem_buck.mp (hab.subset (List.mem_cons_of_mem _ (List.mem_cons_self)))
      refine lex_same ?_
      have := (hk.2 a b ha.1 hb.1).2.mp (by rw [ha.2, hb.2])
      rwa [tk a ha.1, tk b hb.1] at this
    · have hx := mem_buck.mp hx
      have hy := mem_buck.mp hy
      have := (hk.2 x y hx.1 hy.1).1.mp (by rw [hx.2, hy.2]; exact hz)
      rw [tk x hx.1, tk y hy.1] at this
      exact leI_of_lt this
/-- the dict of buckets, behind the first n places -/
def Bks (H0 H : Hp) (d : Addr) (key : List Int) (n : Nat) : Prop := ∃ kvs : List (Key × V), H d = some (.dK kvs) ∧ kvs.length ≤ n ∧ (kvs.map (·.1)).Nodup ∧ (∀ kv ∈ kvs, ∃ z : Int, kv.1 = Sum.inl z ∧ ∃ j, j < n ∧ key.getD j 0 = z) ∧
  ∀ j, j < n → ∃ a, valV kvs (Sum.inl (key.getD j 0)) = some (.ref a) ∧ H0 a = none ∧ H a = some (.lst ((buck key n (key.getD j 0)).map nat))
theorem Bks.zero {H0 H : Hp} {d : Addr} {key : List Int} (h : H d = some (.dK [])) : Bks H0 H d key 0 := ⟨[], h, Nat.le_refl _, List.nodup_nil, (fun kv h => by cases h), fun j h => by omega⟩
theorem nat_inj {a b : List Nat} (h : a.map nat = b.map nat) : a = b := by
  refine (List.map_inj_right (f := nat) fun x y e => ?_).mp h
  unfold nat at e
  have := V.int.inj e
  omega
/-- one more place in a bucket that is there -/
theorem Bks.more {H0 H H1 : Hp} {d : Addr} {key : List Int} {n : Nat} (h : Bks H0 H d key n) (e : Ex H H1) {kvs : List (Key × V)} {v : V} (hk : H1 d = some (.dK kvs)) (hv : valV kvs (Sum.inl (key.getD n 0)) = some v) :
    ∃ a, v = .ref a ∧ H0 a = none ∧ H1 a = some (.lst ((buck key n (key.getD n 0)).map nat)) ∧ ∀ o, o = HO.lst ((buck key n (key.getD n 0)).map nat ++ [nat n]) → Bks H0 (upd H1 a o) d key (n + 1) := by
  obtain ⟨kvs', h1, h2, h3, h4, h5⟩ := h
  have h1' := e _ _ h1
  rw [hk] at h1'
  cases h1'
  have hin := valV_in hv
  obtain ⟨kv, hm, ek⟩ := List.mem_map.mp hin
  obtain ⟨z, ez, j, hj, ej⟩ := h4 kv hm
  rw [ek] at ez
  have ez : key.getD n 0 = z := Sum.inl.inj ez
  obtain ⟨a, g1, g2, g3⟩ := h5 j hj
  rw [ej, ← ez] at g1 g3
  rw [hv] at g1
  cases g1
  refine ⟨a, rfl, g2, e _ _ g3, ?_⟩
  rintro o rfl
  have da : d ≠ a := fun z => by rw [z] at h1; rw [g3] at h1; cases h1
  refine ⟨kvs, by rw [upd_ne da]; exact hk, by omega, h3, fun kv hm => ?_, fun i hi => ?_⟩
  · obtain ⟨z, e1, j, e2, e3⟩ := h4 kv hm
    exact ⟨z, e1, j, by omega, e3⟩
  · by_cases hz : key.getD i 0 = key.getD n 0
    · refine ⟨a, by rw [hz]; exact hv, g2, ?_⟩
      rw [upd_same, hz, buck_same, List.map_append]; rfl
    · have hi2 : i < n := by
        rcases Nat.lt_or_ge i n with q | q
        · exact q
        · exact (hz (by rw [show i = n from by omega])).elim
      obtain ⟨b, k1, k2, k3⟩ := h5 i hi2
      have ba : b ≠ a := fun z => by
        rw [z, g3] at k3
        have := nat_inj (HO.lst.inj (Option.some.inj k3)).symm
        have m1 : i ∈ buck key n (key.getD i 0) := mem_buck.mpr ⟨hi2, rfl⟩
        rw [this] at m1
        exact hz (mem_buck.mp m1).2
      exact ⟨b, k1, k2, by rw [upd_ne ba, buck_ne (fun q => hz q.symm)]; exact e _ _ k3⟩
/-- a new bucket -/
theorem Bks.new {H0 H H1 : Hp} {d o : Addr} {key : List Int} {n : Nat} (h : Bks H0 H d key n) (e : Ex H H1) {kvs : List (Key × V)} (hk : H1 d = some (.dK kvs)) (hv : valV kvs (Sum.inl (key.getD n 0)) = none) (ho : H o = none) (ho0 : H0 o = none) {x : HO} (hx : x = HO.lst [nat n]) :
    Bks H0 (upd (upd H1 d (.dK (putK kvs (Sum.inl (key.getD n 0)) (.ref o)))) o x) d key (n + 1) := by
  subst hx
  obtain ⟨kvs', h1, h2, h3, h4, h5⟩ := h
  have h1' := e _ _ h1
  rw [hk] at h1'
  cases h1'
  have od : o ≠ d := fun z => by rw [z, h1] at ho; cases ho
  have hno : ∀ i, i < n → key.getD i 0 ≠ key.getD n 0 := fun i hi z => by
    obtain ⟨a, g1, _⟩ := h5 i hi
    rw [z, hv] at g1; cases g1
  refine ⟨_, by rw [upd_ne (Ne.symm od)]; exact upd_same, ?_, nd_putK _ h3 hv, fun kv hm => ?_, fun i hi => ?_⟩
  · have := length_putK kvs (Sum.inl (key.getD n 0)) (.ref o)
    omega
  · rw [putK_new _ hv, List.mem_append, List.mem_singleton] at hm
    rcases hm with hm | rfl
    · obtain ⟨z, e1, j, e2, e3⟩ := h4 kv hm
      exact ⟨z, e1, j, by omega, e3⟩
    · exact ⟨_, rfl, n, by omega, rfl⟩
  · by_cases hi2 : i < n
    · obtain ⟨b, k1, k2, k3⟩ := h5 i hi2
      have ne := hno i hi2
      have bo : b ≠ o := fun z => by rw [z, ho] at k3; cases k3
      have bd : b ≠ d := fun z => by rw [z, h1] at k3; cases k3
      refine ⟨b, by rw [valV_put, if_neg (fun z => ne (Sum.inl.inj z))]; exact k1, k2, ?_⟩
      rw [upd_ne bo, upd_ne bd, buck_ne (fun q => ne q.symm)]; exact e _ _ k3
    · have : i = n := by omega
      subst this
      refine ⟨o, by rw [valV_put, if_pos rfl], ho0, ?_⟩
      have hb : buck key i (key.getD i 0) = [] := by
        rw [List.eq_nil_iff_forall_not_mem]
        intro j hj
        have := mem_buck.mp hj
        exact hno j this.1 this.2
      rw [upd_same, buck_same, hb]; rfl
end
section
open PySem PySem.Spec PyProof.Rows L2
def keyI : Key → Int
  | .inl z => z
  | .inr _ => 0
def fK (kvs : List (Key × V)) (i : Nat) : Int := match kvs[i]? with
  | some kv => keyI kv.1
  | none => 0
theorem fK_map (kvs : List (Key × V)) : (List.range kvs.length).map (fK kvs) = kvs.map fun kv => keyI kv.1 := by
  apply List.ext_getElem?
  intro i
  rw [List.getElem?_map, List.getElem?_map]
  by_cases h : i < kvs.length
  · rw [List.getElem?_range h, List.getElem?_eq_getElem h]
    show some (fK kvs i) = some _
    unfold fK
    rw [List.getElem?_eq_getElem h]
  · rw [List.getElem?_eq_none (by rw [List.length_range]; omega), List.getElem?_eq_none (by omega)]; rfl
theorem keys_nodup {kvs : List (Key × V)} (h : (kvs.map (·.1)).Nodup) (hk : ∀ kv ∈ kvs, ∃ z : Int, kv.1 = Sum.inl z) : (kvs.map fun kv => keyI kv.1).Nodup := by
  have h : List.Pairwise (· ≠ ·) (kvs.map (·.1)) := h
  rw [List.pairwise_map] at h
  show List.Pairwise (· ≠ ·) _
  rw [List.pairwise_map]
  refine h.imp_of_mem fun {a b} ha hb ne e => ne ?_
  obtain ⟨x, hx⟩ := hk a ha
  obtain ⟨y, hy⟩ := hk b hb
  rw [hx, hy] at e ⊢
  have e : x = y := e
  rw [e]
theorem key_in {kvs : List (Key × V)} {z : Int} {v : V} (h : valV kvs (Sum.inl z) = some v) : z ∈ kvs.map fun kv => keyI kv.1 := by
  obtain ⟨kv, hm, e⟩ := List.mem_map.mp (valV_in h)
  exact List.mem_map.mpr ⟨kv, hm, by rw [e]; rfl⟩
theorem int_at {key : List Int} {i : Nat} {x : V} (h : (key.map V.int)[i]? = some x) : ∃ z, key[i]? = some z ∧ key.getD i 0 = z ∧ x = .int z := by
  rw [List.getElem?_map] at h
  cases e : key[i]? with
  | none => rw [e] at h; cases h
  | some z => rw [e] at h; exact ⟨z, rfl, by rw [List.getD_eq_getElem?_getD, e]; rfl, (Option.some.inj h).symm⟩
theorem lock_ex {H H' : Hp} {d : Addr} {u : HO} {od : Obj} (h : H d = some u) (e : Ex (upd H d (.frz od u)) H') : Ex H (upd H' d u) := by
  intro a o ha
  by_cases z : a = d
  · subst z; rw [upd_same]; rw [h] at ha; exact ha
  · rw [upd_ne z]; exact e _ _ (by rw [upd_ne z]; exact ha)
theorem lt_of_le_ne {ns ns' : List Int} (hp : ns'.Perm ns) (hs : ns'.Pairwise (· ≤ ·)) (hn : ns.Nodup) : ns'.Pairwise (· < ·) := by
  have h2 : ns'.Pairwise (· ≠ ·) := hp.symm.nodup hn
  exact (hs.and h2).imp fun ⟨a, b⟩ => by omega
section
variable {K : PySem.W.Frag} {σ : L2.St} {H : Hp} {Q : VK} {wi wi1 : TI} {te td ty tx : TE} {g g1 : TG} {tt tt1 : TT} {vs vs1 : List Nat} {a d : Addr} {xs : List V}
/-- d.setdefault(y, z) -/
theorem r_dsetd (k : td σ H fun x H1 => ∃ a, x = .ref a ∧ IsD H1 a ∧ ty σ H1 fun y H2 => tx σ H2 fun z H3 => ∃ (kvs : List (Key × V)) (k : Key), H3 a = some (.dK kvs) ∧ y = kV k ∧ kvs.length < sizeLine ∧
  (∀ v, valV kvs k = some v → Q v H3) ∧ (valV kvs k = none → Q z (upd H3 a (.dK (putK kvs k z))))) : tDSetd td ty tx σ H Q := k
theorem r_iK {R : It → Hp → Prop} (k : td σ H fun x H1 => ∃ d o, x = .ref d ∧ ((∃ kvs, H1 d = some (.frz o (.dK kvs)) ∧ R (Itk d o kvs) H1) ∨ ∃ kvs, H1 d = some (.frz o (.dT kvs)) ∧ R (Itkt d o kvs) H1)) : iKeys td σ H R := k
theorem isD_k {kvs : List (Key × V)} (h : H a = some (.dK kvs)) : IsD H a := .inl ⟨kvs, .inl h⟩
/-- over the keys of a dict that is locked -/
theorem lKeysI {od : Obj} {kvs : List (Key × V)} (f : Nat → Int) (hd : H d = some (.frz od (.dK kvs)))
    (hs : ∀ L i k v acc H', H L = none → Ex H H' → H' L = some (.lst acc) → acc = ((List.range i).map f).map V.int → kvs[i]? = some (k, v) → LTurn g tt te vs σ L (PI f H (i + 1)) (kV k) H')
    (he : ∀ L H', H L = none → Ex H H' → H' L = some (.lst (((List.range kvs.length).map f).map V.int)) → Q (.ref L) H') : LcIt (Itk d od kvs) g tt te vs σ H Q := by
  intro L hL
  refine lc_it (walk_keys (kvs := kvs)) (fun i H' => ∃ acc, H' L = some (.lst acc) ∧ PI f H i acc H') ⟨[], upd_same, Ex.new hL, rfl⟩
    (fun i H' hi ⟨acc, h1, h2⟩ => h2.1 _ _ hd) (fun i x H1 H' hi ⟨acc, h1, h2⟩ hy => ?_) (fun H' ⟨acc, h1, h2⟩ => he L H' hL h2.1 (by rw [← h2.2]; exact h1))
  obtain ⟨rfl, k, v, hk, rfl⟩ := hy
  exact hs L i k v acc _ hL h2.1 h1 h2.2 hk
/-- the inner loop of a comprehension with two fors -/
def InIt (J1 : It) (g1 : TG) (tt1 : TT) (te : TE) (vs1 : List Nat) (σ2 : L2.St) (D : Addr) (Nx : Hp → Prop) (H4 : Hp) : Prop := ∃ W1 : Nat → Nat → Hp → Prop, (∃ m, W1 0 m H4) ∧ ∀ j k H, W1 j k H →
  (J1.stop j H ∧ Nx H) ∨ (J1.go j H ∧ ∃ Nx1 : Hp → Prop, (∀ H', Nx1 H' → ∃ k', k' < k ∧ W1 (j + 1) k' H') ∧ ∀ x H', J1.yld j H x H' → g1 x (wipe σ2 vs1) H' fun σ3 H5 => wipe σ3 vs1 = wipe σ2 vs1 ∧ tt1 σ3 H5 fun b H6 =>
    if b = true then te σ3 H6 fun y H7 => ∃ acc, H7 D = some (.lst acc) ∧ acc.length < sizeLine ∧ Nx1 (upd H7 D (.lst (acc ++ [y]))) else Nx1 H6)
def Lc2It (J : It) (g : TG) (tt : TT) (wi1 : TI) (g1 : TG) (tt1 : TT) (te : TE) (vs vs1 : List Nat) (σ : L2.St) (H1 : Hp) (Q : VK) : Prop := ∀ D, H1 D = none → ∃ W : Nat → Nat → Hp → Prop, (∃ m, W 0 m (upd H1 D (.lst []))) ∧ ∀ i m H, W i m H →
  (J.stop i H ∧ Q (.ref D) H) ∨ (J.go i H ∧ ∃ Nx : Hp → Prop, (∀ H', Nx H' → ∃ m', m' < m ∧ W (i + 1) m' H') ∧ ∀ x H', J.yld i H x H' → g x (wipe σ vs) H' fun σ2 H2 => wipe σ2 vs = wipe σ vs ∧ tt σ2 H2 fun b H3 =>
    if b = true then wi1 σ2 H3 fun J1 H4 => InIt J1 g1 tt1 te vs1 σ2 D Nx H4
    else Nx H3)
theorem r_lc2 (k : wi σ H fun J H1 => Lc2It J g tt wi1 g1 tt1 te vs vs1 σ H1 Q) : tLc2 wi g tt wi1 g1 tt1 te vs vs1 σ H Q := k
theorem inL {D : Addr} {Nx : Hp → Prop} (Pv : Nat → List V → Hp → Prop) (h0 : ∃ acc, H D = some (.lst acc) ∧ Pv 0 acc H) (hl : ∀ i acc H', i ≤ xs.length → Pv i acc H' → H' a = some (.lst xs))
    (hs : ∀ i x acc H', xs[i]? = some x → Pv i acc H' → H' D = some (.lst acc) → LTurn g1 tt1 te vs1 σ D (Pv (i + 1)) x H') (hd : ∀ acc H', H' D = some (.lst acc) → Pv xs.length acc H' → Nx H') : InIt (Itl K a) g1 tt1 te vs1 σ D Nx H := by
  refine ⟨fun i m H' => m = xs.length - i ∧ i ≤ xs.length ∧ ∃ acc, H' D = some (.lst acc) ∧ Pv i acc H', ⟨xs.length, by simp, Nat.zero_le _, h0⟩, ?_⟩
  rintro i m H' ⟨rfl, hi, acc, h1, h2⟩
  have q := SqL.of (K := K) (hl i acc H' hi h2)
  by_cases hlt : i < xs.length
  · refine .inr ⟨walk_list.goes i H' hlt q, fun H' => ∃ acc, H' D = some (.lst acc) ∧ Pv (i + 1) acc H', fun H' p' => ⟨xs.length - (i + 1), by omega, rfl, hlt, p'⟩, fun x H'' y => ?_⟩
    obtain ⟨rfl, hx⟩ := walk_list.yields i H' x H'' hlt q y
    exact hs i x acc _ hx h2 h1
  · have e : i = xs.length := by omega
    subst e
    exact .inl ⟨walk_list.stops H' q, hd acc H' h1 h2⟩
theorem lc2L (Pv : Addr → Nat → List V → Hp → Prop) (h0 : ∀ L, H L = none → ∀ H', Ex H H' → H' L = some (.lst []) → Pv L 0 [] H')
    (hl : ∀ L i acc H', H L = none → i ≤ xs.length → Pv L i acc H' → H' a = some (.lst xs))
    (hs : ∀ L i x acc H', H L = none → xs[i]? = some x → Pv L i acc H' → H' L = some (.lst acc) → g x (wipe σ vs) H' fun σ2 H2 => wipe σ2 vs = wipe σ vs ∧ tt σ2 H2 fun b H3 =>
      if b = true then wi1 σ2 H3 fun J1 H4 => InIt J1 g1 tt1 te vs1 σ2 L (fun H' => ∃ acc, H' L = some (.lst acc) ∧ Pv L (i + 1) acc H') H4 else ∃ acc, H3 L = some (.lst acc) ∧ Pv L (i + 1) acc H3)
    (hd : ∀ L acc H', H L = none → H' L = some (.lst acc) → Pv L xs.length acc H' → Q (.ref L) H') : Lc2It (Itl K a) g tt wi1 g1 tt1 te vs vs1 σ H Q := by
  intro L hL
  refine ⟨fun i m H' => m = xs.length - i ∧ i ≤ xs.length ∧ ∃ acc, H' L = some (.lst acc) ∧ Pv L i acc H', ⟨xs.length, by simp, Nat.zero_le _, [], upd_same, h0 L hL _ (Ex.new hL) upd_same⟩, ?_⟩
  rintro i m H' ⟨rfl, hi, acc, h1, h2⟩
  have q := SqL.of (K := K) (hl L i acc H' hL hi h2)
  by_cases hlt : i < xs.length
  · refine .inr ⟨walk_list.goes i H' hlt q, fun H' => ∃ acc, H' L = some (.lst acc) ∧ Pv L (i + 1) acc H', fun H' p' => ⟨xs.length - (i + 1), by omega, rfl, hlt, p'⟩, fun x H'' y => ?_⟩
    obtain ⟨rfl, hx⟩ := walk_list.yields i H' x H'' hlt q y
    exact hs L i x acc _ hL hx h2 h1
  · have e : i = xs.length := by omega
    subst e
    exact .inl ⟨walk_list.stops H' q, hd L acc H' hL h1 h2⟩
end
theorem flat_take {α β : Type} (f : α → List β) (zs : List α) (i : Nat) : ((zs.take i).flatMap f).length ≤ (zs.flatMap f).length := by
  have : (zs.flatMap f).length = ((zs.take i).flatMap f).length + ((zs.drop i).flatMap f).length := by
    rw [← List.length_append, ← List.flatMap_append, List.take_append_drop]
  omega
theorem pw_few {qs : List Rat} (h : qs.length < 2) : qs.Pairwise (· ≤ ·) := by
  match qs, h with
  | [], _ => exact .nil
  | [a], _ => exact List.pairwise_singleton _ _
  | a :: b :: t, h => exact absurd h (by simp)
theorem ord_sortedI {qs : List Rat} {key : List Int} {idx : List Nat} (rk : RKeys qs key) (hlt : ∀ i ∈ idx, i < qs.length) (h : idx.Pairwise (fun i j => leR (key.map fun z => [z]) i j = true)) : (idx.map fun i => qs.getD i 0).Pairwise (· ≤ ·) := by
  rw [List.pairwise_map]
  refine List.Pairwise.imp_of_mem (fun {a b} ha hb z => ?_) h
  have la := hlt a ha
  have lb := hlt b hb
  have ka : a < key.length := by rw [rk.1]; exact la
  have kb : b < key.length := by rw [rk.1]; exact lb
  have ea : (key.map fun z => [z]).getD a [] = [key.getD a 0] := by
    rw [List.getD_eq_getElem?_getD, List.getElem?_map, List.getD_eq_getElem?_getD, List.getElem?_eq_getElem ka]; rfl
  have eb : (key.map fun z => [z]).getD b [] = [key.getD b 0] := by
    rw [List.getD_eq_getElem?_getD, List.getElem?_map, List.getD_eq_getElem?_getD, List.getElem?_eq_getElem kb]; rfl
  have z : leI ((key.map fun z => [z]).getD a []) ((key.map fun z => [z]).getD b []) = true := z
  rw [ea, eb] at z
  unfold leI lexI at z
  have hab := (rk.2.2 b a lb la)
  by_cases e : key.getD b 0 = key.getD a 0
  · rw [hab.2.mp e]; exact Rat.le_refl
  · rw [if_neg e, Bool.not_eq_true', decide_eq_false_iff_not, hab.1, Rat.not_lt] at z; exact z
end
section
open PySem PySem.Spec PyProof.Rows L2 He
section
variable {P : Program} {w : World} {K : PySem.W.Frag} {mg : Str → Option Value} {base : Heap} {C_Ratio C_BadNumber C_NoSuch f_Ratio_eq f_Ratio_lt f_Ratio_le f_Ratio_gt f_Ratio_ge f_Ratio_bool f_Ratio_neg f_Ratio_abs f_Ratio_str f_Ratio_add f_Ratio_radd f_Ratio_sub f_Ratio_rsub f_Ratio_mul f_Ratio_rmul f_Ratio_floordiv f_Ratio_rfloordiv f_Ratio_mod f_Ratio_rmod f_Ratio_pow f_Ratio_over f_Ratio_floor f_Ratio_ceiling f_Ratio_whole f_Ratio_sign  : Addr}
abbrev s_ranked : Stmt := (top 10)
theorem sc_ranked : FnScope ["rows", "places", "index", "key"] ["rows"] (defScope s_ranked) := ⟨rfl, rfl, rfl, by decide +kernel, rfl, by decide +kernel, by decide +kernel⟩
theorem ok_ranked {f : Addr} {fd : FuncData} (F : FunD K "ranked" "ranked" (defArgs s_ranked) (defBody s_ranked) (defScope s_ranked) [] [] f fd) (TB : TBl mg) (TR : RT K mg C_Ratio) (g_FEW : mg "FEW" = some (.int 8 t_FEW)) (c_row_keys : Cl P w K mg base 1 "row_keys" (spRowKeys)) (c_inserted : Cl P w K mg base 1 "inserted" (spOrd)) : FnOk P w K mg base (L2.CX P w) 2 f fd ["rows"] (spOrd) := by
  refine F.ok (CX := L2.CX P w) sc_ranked (fun vs H Q E h => ?_) (fun cdv A outer s H vs Q E hr h => ?_)
  · obtain ⟨k, ks, m, B, rfl, _⟩ := h; rfl
  · obtain ⟨k, ks, m, B, rfl, hk, ok, m1, m2, hB, hn, kont⟩ := h
    have gf := g_FEW
    refine ⟨_, (pss_cons (ps_if (pt_cmpR op_le (pe_callB (kc_len (K := K) rfl) (by rfl) TB.b_len PySem.boot_len (pa_cons (pv 0) pa_nil)) (pe_glob (v := .int 8) (by rfl) g_FEW ⟨_, rfl⟩) (nomark _)) (pss_one (ps_ret (pe_cl c_inserted hr (by decide) (by rfl) psE (pa_cons (pv 0) pa_nil)))) pss_nil) (pss_cons (ps_set (i := 1) sc_ranked.nd rfl (Or.inr rfl) pe_dnewK) (pss_cons (ps_for (passes_of rfl) rfl (kpi_enum (K := K) rfl (by rfl) TB.b_enumerate (pa_cons (pe_cl c_row_keys hr (by decide) (by rfl) psE (pa_cons (pv 0) pa_nil)) pa_nil)) (kpg_tup (K := K) 2 rfl rfl (pgs_cons (pg_name (i := 2) sc_ranked.nd rfl (Or.inl rfl)) (pgs_cons (pg_name (i := 3) sc_ranked.nd rfl (Or.inl rfl)) pgs_nil))) (pss_one (ps_expr (kapp (K := K) rfl PySem.F.plainAttrs_list PySem.F.slot_list_append PySem.F.type_list_append mt_append (pe_dsetd (pv 1) (pv 3) (pe_lst pa_nil) ⟨by rfl, by rfl, by rfl, by rfl⟩) (pa_cons (pv 2) pa_nil))))) (pss_one (ps_ret (pe_lc2 (own := [("key", 3), ("index", 2)]) (vs1 := [2]) (by rfl) sc_ranked.nd (kpi_l (K := K) rfl (pe_callB (kc_sortedI (K := K) rfl) (by rfl) TB.b_sorted (by decide +kernel) (pa_cons (pe_lock (pe_lc (own := [("key", 3)]) (tt := tYes) (by rfl) sc_ranked.nd (pi_keys (pv 1)) (blkOk_by (own := [("key", 3)]) (N := ["rows", "places", "index", "key"]) (sc := defScope s_ranked) (by decide +kernel)) (fun _ _ _ _ _ => (pg_name (i := 3) sc_ranked.nd rfl (Or.inl rfl))) (fun _ _ _ _ _ => pts_nil) (fun _ _ _ _ _ => (pe_callTy kc_int1 (by rfl) TB.b_int (by decide +kernel) (pa_cons (pv 3) pa_nil))))) pa_nil))) (blkOk_by (own := [("key", 3), ("index", 2)]) (N := ["rows", "places", "index", "key"]) (sc := defScope s_ranked) (by decide +kernel)) (by decide) (fun _ _ _ _ _ => (pg_name (i := 3) sc_ranked.nd rfl (Or.inl rfl))) (fun _ _ _ _ _ => pts_nil) (fun _ _ _ _ _ => (kpi_l (K := K) rfl (pe_dget (hu_of hr) (pv 1) (pv 3) (fun _ _ => rfl)))) (fun _ _ _ _ _ => (pg_name (i := 2) sc_ranked.nd rfl (Or.inl rfl))) (fun _ _ _ _ _ => pts_nil) (fun _ _ _ _ _ => (pv 2)))))))), ?_⟩
    have hk0 := hk
    obtain ⟨xs, hx, hl, hat⟩ := hk
    wtm_at "of_rd"
    refine q_lenL hx ?_
    wtm_at "of_rd"
    refine ite2 (fun hle => ?_) (fun hgt => ?_)
    · wtm_at "of_rd"
      refine ⟨k, ks, m, B, rfl, hk0, ok, m1, m2, hB, hn, fun H' p idx e h s => ?_⟩
      wtm_at "of_rd"
      exact kont H' p idx e h s
    have h8 : 0 < ks.length := by omega
    wtm_at "of_rd"
    intro d hd
    have ed := Ex.new (o := HO.dK []) hd
    wtm_at "of_rd"
    refine r_iE ?_
    wtm_at "of_rd"
    refine ⟨k, ks, m, B, rfl, ⟨xs, ed _ _ hx, hl, fun i r hr => by
      obtain ⟨p, z1, z2⟩ := hat i r hr
      exact ⟨p, z1, ed _ _ z2⟩⟩, ok, m1, m2, hB, h8, hn, ?_⟩
    intro H1 Lk key e1 h1 hkey
    wtm_at "of_rd"
    have hd1 := e1 _ _ (upd_same (H := H) (a := d) (o := HO.dK []))
    have e01 := ed.trans e1
    refine ⟨Lk, key.map V.int, rfl, SqL.of h1, ?_⟩
    refine fE (xs := key.map V.int) (fun i σ H' => ∃ (v2 v3 : Option V), σ = [some (.ref k), some (.ref d), v2, v3] ∧ Ex H H' ∧ H' Lk = some (.lst (key.map V.int)) ∧ (∀ b, H' b = none → H1 b = none) ∧ Bks H1 H' d key i)
      ⟨none, none, rfl, e01, h1, fun _ z => z, Bks.zero hd1⟩ (fun i σ H' ⟨_, _, _, _, h, _⟩ => h) ?_ ?_
    · rintro i x T σ H2 H3 hxi ⟨v2, v3, rfl, e2, h2, nn, bk⟩ e3 hT
      obtain ⟨z, hz, ez, rfl⟩ := int_at hxi
      have hik : i < key.length := (List.getElem?_eq_some_iff.mp hz).1
      have hkl := hkey.1
      refine r_gTup hT rfl ?_
      wtm_at "of_rd"
      refine r_dsetd ?_
      wtm_at "of_rd"
      have bk0 := bk
      obtain ⟨kvs, hk2, hkl2, _⟩ := bk0
      refine ⟨d, rfl, isD_k (e3 _ _ hk2), ?_⟩
      wtm_at "of_rd"
      refine r_laidL (by decide) ?_
      intro o H4 e4 n4 h4
      have e34 := e3.trans e4
      have hk4 := e34 _ _ hk2
      refine ⟨kvs, Sum.inl z, hk4, rfl, by rw [sizeLine_eq]; omega, fun v hv => ?_, fun hv => ?_⟩
      · obtain ⟨a, rfl, ha0, ha, hB⟩ := bk.more e34 hk4 (by rw [ez]; exact hv)
        wtm_at "of_rd"
        refine ⟨ty_l ha, ?_⟩
        wtm_at "of_rd"
        refine r_app ha (by rw [List.length_map]; exact Nat.le_trans buck_len (by omega)) ?_
        wtm_at "of_rd"
        exact ⟨_, _, rfl, (e2.trans e34).put (none_of e01 ha0), by rw [upd_ne (fun q => by rw [q, ha0] at h1; cases h1)]; exact e34 _ _ h2, fun b hb => by
          by_cases q : b = a
          · rw [q]; exact ha0
          · rw [upd_ne q] at hb; exact nn b (none_of e34 hb), hB _ rfl⟩
      · have no2 := none_of e3 n4
        have od : o ≠ d := fun q => by rw [q, hk2] at no2; cases no2
        wtm_at "of_rd"
        refine ⟨ty_l (xs := []) (by rw [upd_ne od]; exact h4), ?_⟩
        wtm_at "of_rd"
        refine r_app (xs := []) (by rw [upd_ne od]; exact h4) (by decide) ?_
        wtm_at "of_rd"
        refine ⟨_, _, rfl, ((e2.trans e34).put hd).put (none_of e2 no2), ?_, fun b hb => ?_, by
          have q := bk.new e34 hk4 (by rw [ez]; exact hv) no2 (nn o no2) rfl
          rw [ez] at q; exact q⟩
        · rw [upd_ne (fun q => by rw [q, no2] at h2; cases h2), upd_ne (fun q => by rw [q, hk2] at h2; cases h2)]; exact e34 _ _ h2
        · by_cases q : b = o
          · rw [q]; exact nn o no2
          · rw [upd_ne q] at hb
            by_cases q2 : b = d
            · subst q2; rw [upd_same] at hb; cases hb
            · rw [upd_ne q2] at hb; exact nn b (none_of e34 hb)
    · rintro σ H2 ⟨v2, v3, rfl, e2, h2, nn, kvs, hd2, hkl, nd, hks, hbk⟩
      rw [List.length_map, hkey.1] at hkl hks hbk
      wtm_at "of_rd"
      refine r_lc2 ?_
      wtm_at "of_rd"
      refine ⟨d, _, hd2, trivial, fun od => ?_⟩
      wtm_at "of_rd"
      refine r_iK ?_
      wtm_at "of_rd"
      refine ⟨d, od, rfl, .inl ⟨kvs, upd_same, ?_⟩⟩
      refine lKeysI (fK kvs) upd_same ?_ ?_
      · intro L i kk v acc H' hL e hacc ha hkv
        obtain ⟨z, ez, _⟩ := hks _ (List.mem_of_getElem? hkv)
        have ez : kk = Sum.inl z := ez
        subst ez
        show LTurn _ _ _ _ _ L _ (V.int z) H'
        wtm_at "of_rd"
        refine ⟨rfl, ?_⟩
        wtm_at "of_rd"
        refine lputI hacc e hL ha ?_ (by have := (List.getElem?_eq_some_iff.mp hkv).1; omega)
        unfold fK
        rw [hkv]; rfl
      intro L H3 hL e3 h3
      rw [fK_map] at h3
      refine ⟨e3 _ _ upd_same, ?_⟩
      have e23 := lock_ex hd2 e3
      have Ld : L ≠ d := fun q => by rw [q, upd_same] at hL; cases hL
      wtm_at "of_rd"
      refine ⟨L, _, rfl, SqL.of (by rw [upd_ne Ld]; exact h3), fun ns' p hp hs hpn => ?_⟩
      have e24 := e23.trans (Ex.new (o := HO.lst (ns'.map V.int)) hpn)
      have lt := lt_of_le_ne hp hs (keys_nodup nd fun kv hm => by
        obtain ⟨z, ez, _⟩ := hks kv hm
        exact ⟨z, ez⟩)
      have hin : ∀ j, j < ks.length → key.getD j 0 ∈ ns' := fun j hj => by
        obtain ⟨a, g1, _⟩ := hbk j hj
        exact hp.mem_iff.mpr (key_in g1)
      have hmem : ∀ z ∈ ns', ∃ j, j < ks.length ∧ key.getD j 0 = z := fun z hz => by
        obtain ⟨kv, hm, e⟩ := List.mem_map.mp (hp.mem_iff.mp hz)
        obtain ⟨z', e1, j, hj, ej⟩ := hks kv hm
        rw [e1] at e
        exact ⟨j, hj, by rw [ej]; exact e⟩
      have so := buck_sorted hkey ok lt hin
      have hlen : (ns'.flatMap (buck key ks.length)).length = ks.length := by rw [so.1.length_eq, List.length_range]
      generalize hH5 : upd (upd H3 d (HO.dK kvs)) p (HO.lst (ns'.map V.int)) = H5 at *
      refine i_L (by rw [← hH5]; exact upd_same) ?_
      have h5 : H5 p = some (.lst (ns'.map V.int)) := by rw [← hH5]; exact upd_same
      refine lc2L (fun D i acc H' => Ex H5 H' ∧ acc = ((ns'.take i).flatMap (buck key ks.length)).map nat) (fun L hL H' e h => ⟨e, rfl⟩) (fun L i acc H' hL hi ⟨e, _⟩ => e _ _ h5) ?_ ?_
      · rintro D i x acc H6 hD hxi ⟨e, rfl⟩ hacc
        obtain ⟨z, hz, ez, rfl⟩ := int_at hxi
        obtain ⟨j, hj, ej⟩ := hmem z (List.mem_of_getElem? hz)
        obtain ⟨b, g1, g2, g3⟩ := hbk j hj
        rw [ej] at g1 g3
        have tk : ns'.take (i + 1) = ns'.take i ++ [z] := by rw [List.take_add_one, hz]; rfl
        wtm_at "of_rd"
        refine ⟨rfl, ?_⟩
        wtm_at "of_rd"
        refine ⟨d, _, rfl, by
          have := DGet.k (k := Sum.inl z) ((e24.trans e) _ _ hd2)
          rw [g1] at this; exact this, ?_⟩
        refine i_L ((e24.trans e) _ _ g3) ?_
        refine inL (fun j acc H' => Ex H5 H' ∧ acc = ((ns'.take i).flatMap (buck key ks.length) ++ (buck key ks.length z).take j).map nat) ⟨_, hacc, e, by rw [List.take_zero, List.append_nil]⟩ (fun i acc H' hi ⟨e, _⟩ => (e24.trans e) _ _ g3) ?_ ?_
        · rintro j2 x2 acc2 H7 hx2 ⟨e7, rfl⟩ hacc2
          obtain ⟨w, hw, rfl⟩ := nat_at hx2
          have ltot : ((ns'.take i).flatMap (buck key ks.length) ++ (buck key ks.length z).take j2).length ≤ ks.length + ks.length := by
            rw [List.length_append]
            have q1 : ((ns'.take i).flatMap (buck key ks.length)).length ≤ ks.length := by
              have := flat_take (buck key ks.length) ns' i
              omega
            have q2 : ((buck key ks.length z).take j2).length ≤ ks.length := Nat.le_trans (List.length_take_le' _ _) buck_len
            omega
          wtm_at "of_rd"
          refine ⟨rfl, ?_⟩
          wtm_at "of_rd"
          refine lput hacc2 (by rw [List.length_map]; omega) ⟨e7.put hD, ?_⟩
          rw [List.take_add_one, hw]
          simp
        · rintro acc2 H7 h7 ⟨e7, rfl⟩
          refine ⟨_, h7, e7, ?_⟩
          rw [tk, List.flatMap_append, List.length_map, List.take_length]
          simp
      · rintro D acc H6 hD h6 ⟨e, rfl⟩
        rw [List.length_map, List.take_length] at h6
        wtm_at "of_rd"
        exact kont H6 D _ (e2.trans (e24.trans e)) h6 so
end
end
section
open PySem PySem.Spec PyProof.Rows L2 He
section
variable {P : Program} {w : World} {K : PySem.W.Frag} {mg : Str → Option Value} {base : Heap} {C_Ratio C_BadNumber C_NoSuch f_Ratio_eq f_Ratio_lt f_Ratio_le f_Ratio_gt f_Ratio_ge f_Ratio_bool f_Ratio_neg f_Ratio_abs f_Ratio_str f_Ratio_add f_Ratio_radd f_Ratio_sub f_Ratio_rsub f_Ratio_mul f_Ratio_rmul f_Ratio_floordiv f_Ratio_rfloordiv f_Ratio_mod f_Ratio_rmod f_Ratio_pow f_Ratio_over f_Ratio_floor f_Ratio_ceiling f_Ratio_whole f_Ratio_sign  : Addr}
abbrev s_ascending : Stmt := (top 24)
theorem sc_ascending : FnScope ["numbers", "ratios", "number", "index", "key"] ["numbers"] (defScope s_ascending) := ⟨rfl, rfl, rfl, by decide +kernel, rfl, by decide +kernel, by decide +kernel⟩
theorem ok_ascending {f : Addr} {fd : FuncData} (F : FunD K "ascending" "ascending" (defArgs s_ascending) (defBody s_ascending) (defScope s_ascending) [] [] f fd) (TB : TBl mg) (TR : RT K mg C_Ratio) (c_ratio_of : Cl P w K mg base 6 "ratio_of" (spRatioOf K C_Ratio C_BadNumber)) (c_order_keys : Cl P w K mg base 1 "order_keys" (spOrderKeys C_Ratio)) (c_ranked : Cl P w K mg base 2 "ranked" (spOrd)) : FnOk P w K mg base (L2.CX P w) 7 f fd ["numbers"] (spAscending C_Ratio) := by
  refine F.ok (CX := L2.CX P w) sc_ascending (fun vs H Q E h => ?_) (fun cdv A outer s H vs Q E hr h => ?_)
  · obtain ⟨k, xs, qs, rfl, _⟩ := h; rfl
  · obtain ⟨k, xs, qs, rfl, hx, hlen, hat, hb, hn, kont⟩ := h
    refine ⟨_, (pss_cons (ps_set (i := 1) sc_ascending.nd rfl (Or.inr rfl) (pe_lc (own := [("number", 2)]) (tt := tYes) (by rfl) sc_ascending.nd (kpi_or (kpi_l (K := K) rfl (pv 0)) (kpi_t (K := K) rfl (pv 0))) (blkOk_by (own := [("number", 2)]) (N := ["numbers", "ratios", "number", "index", "key"]) (sc := defScope s_ascending) (by decide +kernel)) (fun _ _ _ _ _ => (pg_name (i := 2) sc_ascending.nd rfl (Or.inl rfl))) (fun _ _ _ _ _ => pts_nil) (fun _ _ _ _ _ => (pe_cl c_ratio_of hr (by decide) (by rfl) passL (pa_cons (pv 2) pa_nil))))) (pss_cons (ps_if (pt_cmpR op_lt (pe_callB (kc_len (K := K) rfl) (by rfl) TB.b_len PySem.boot_len (pa_cons (pv 1) pa_nil)) pe_int (nomark _)) (pss_one (ps_ret (pv 1))) pss_nil) (pss_one (ps_ret (pe_lc (own := [("index", 3)]) (tt := tYes) (by rfl) sc_ascending.nd (kpi_l (K := K) rfl (pe_cl c_ranked hr (by decide) (by rfl) psE (pa_cons (pe_lc (own := [("key", 4)]) (tt := tYes) (by rfl) sc_ascending.nd (kpi_l (K := K) rfl (pe_cl c_order_keys hr (by decide) (by rfl) psE (pa_cons (pv 1) pa_nil))) (blkOk_by (own := [("key", 4)]) (N := ["numbers", "ratios", "number", "index", "key"]) (sc := defScope s_ascending) (by decide +kernel)) (fun _ _ _ _ _ => (pg_name (i := 4) sc_ascending.nd rfl (Or.inl rfl))) (fun _ _ _ _ _ => pts_nil) (fun _ _ _ _ _ => (pe_tup (pa_cons (pv 4) pa_nil)))) pa_nil))) (blkOk_by (own := [("index", 3)]) (N := ["numbers", "ratios", "number", "index", "key"]) (sc := defScope s_ascending) (by decide +kernel)) (fun _ _ _ _ _ => (pg_name (i := 3) sc_ascending.nd rfl (Or.inl rfl))) (fun _ _ _ _ _ => pts_nil) (fun _ _ _ _ _ => (pe_ix (kix_l (K := K) rfl) (pv 1) (pv 3) (fun _ _ => rfl)))))))), ?_⟩
    wtm_at "of_rd"
    refine i_LT (by with_unfolding_all rfl) hx ?_
    intro J hJ
    refine lLT hJ (fun L i acc H' => Ex H H' ∧ Acc (fun j p H => ∃ q, qs[j]? = some q ∧ IsR C_Ratio H p q) acc i H') (fun L hL H' e h => ⟨e, .nil⟩) (fun L i acc H' hL hi ⟨e, _⟩ => e) ?_ ?_
    · intro L i x acc H' hL hxi ⟨e, ac⟩ hacc
      have hi : i < qs.length := by rw [← hlen]; exact (List.getElem?_eq_some_iff.mp hxi).1
      have hq : qs[i]? = some qs[i] := List.getElem?_eq_getElem hi
      obtain ⟨v, hv, nv⟩ := hat i _ hq
      rw [hxi] at hv; cases hv
      wtm_at "of_rd"
      refine ⟨rfl, ?_⟩
      wtm_at "of_rd"
      refine q_ratioOf (nv.ex e) (hb _ (List.getElem_mem hi)) ?_
      intro H2 p e2 h2
      exact lput (e2 _ _ hacc) (by rw [ac.len]; omega) ⟨(e.trans e2).put hL, ac.snoc (fun j q ⟨r, z1, z2⟩ => ⟨r, z1, (z2.ex e2).put (e2 _ _ hacc)⟩) ⟨_, hq, h2.put (e2 _ _ hacc)⟩⟩
    intro L acc H1 hL h1 ⟨e1, ac⟩
    rw [hlen] at ac
    wtm_at "of_rd"
    have rs := RsL.of_acc ac
    refine q_lenL h1 ?_
    wtm_at "of_rd"
    refine ite2 (fun hlt => ?_) (fun hge => ?_)
    · wtm_at "of_rd"
      exact kont H1 L acc qs e1 hL h1 rs (.refl _) (pw_few (by have := ac.len; omega))
    wtm_at "of_rd"
    refine ⟨L, acc, qs, rfl, h1, rs, hb, by have := ac.len; omega, hn, ?_⟩
    intro H2 Lk key e2 h2 rk
    wtm_at "of_rd"
    have kl := rk.1
    refine i_L h2 ?_
    refine lL (xs := key.map V.int) (fun L i acc H' => Ex H2 H' ∧ Acc (fun j p H => ∃ z, key[j]? = some z ∧ H p = some (.tup [.int z])) acc i H') (fun L hL H' e h => ⟨e, .nil⟩) (fun L i acc H' hL hi ⟨e, _⟩ => e _ _ h2) ?_ ?_
    · intro L3 i x acc3 H' hL3 hxi ⟨e, ac3⟩ hacc
      obtain ⟨z, hz, ez, rfl⟩ := int_at hxi
      have hik : i < key.length := (List.getElem?_eq_some_iff.mp hz).1
      wtm_at "of_rd"
      refine ⟨rfl, ?_⟩
      wtm_at "of_rd"
      refine r_laidT (by show 1 ≤ 1000; decide) ?_
      intro t H3 e3 n3 h3
      have hacc3 := e3 _ _ hacc
      have tk : ∀ {b : Addr} {w : Int} {o : HO}, H3 b = some (.tup [.int w]) → upd H3 L3 o b = some (.tup [.int w]) := fun h => by rw [upd_ne (ne_of h hacc3 (by intro z; cases z))]; exact h
      exact lput hacc3 (by rw [ac3.len]; omega) ⟨(e.trans e3).put hL3, ac3.snoc (fun j q ⟨r, z1, z2⟩ => ⟨r, z1, tk (e3 _ _ z2)⟩) ⟨z, hz, tk h3⟩⟩
    intro L3 acc3 H3 hL3 h3 ⟨e3, ac3⟩
    rw [List.length_map] at ac3
    wtm_at "of_rd"
    refine ⟨L3, key.map (fun z => [z]), 1, 20000, rfl, ⟨acc3, h3, by rw [List.length_map]; exact ac3.len, fun i r hr => ?_⟩, fun r hr => ?_, by decide, by decide, by decide, by rw [List.length_map, kl]; exact hn, ?_⟩
    · rw [List.getElem?_map] at hr
      cases ek : key[i]? with
      | none => rw [ek] at hr; cases hr
      | some z =>
        rw [ek] at hr; cases hr
        obtain ⟨p, z1, z', z2, z3⟩ := ac3.at_ i (List.getElem?_eq_some_iff.mp ek).1
        rw [ek] at z2; cases z2
        exact ⟨p, z1, z3⟩
    · obtain ⟨z, hz, rfl⟩ := List.mem_map.mp hr
      exact ⟨rfl, fun x hx => by rw [List.mem_singleton.mp hx]; exact rk.2.1 z hz⟩
    intro H4 p4 idx e4 h4 hso
    obtain ⟨hperm, hsort⟩ := hso
    rw [List.length_map, kl] at hperm
    have e13 := (e2.trans e3).trans e4
    have hlt : ∀ i ∈ idx, i < qs.length := fun i hi => List.mem_range.mp (hperm.mem_iff.mp hi)
    have hil : idx.length = qs.length := by rw [hperm.length_eq, List.length_range]
    wtm_at "of_rd"
    refine i_L h4 ?_
    refine lL (fun L i acc H' => Ex H4 H' ∧ Acc (fun j p H => ∃ q, (idx.map fun i => qs.getD i 0)[j]? = some q ∧ IsR C_Ratio H p q) acc i H') (fun L hL H' e h => ⟨e, .nil⟩) (fun L i acc H' hL hi ⟨e, _⟩ => e _ _ h4) ?_ ?_
    · intro L4 i x acc4 H' hL4 hxi ⟨e, ac4⟩ hacc
      obtain ⟨j, hj, rfl⟩ := nat_at hxi
      have hjl := hlt j (List.mem_of_getElem? hj)
      have hil2 : i < idx.length := (List.getElem?_eq_some_iff.mp hj).1
      obtain ⟨p, z1, q, z2, z3⟩ := ac.at_ j hjl
      have e5 := e13.trans e
      wtm_at "of_rd"
      refine ⟨rfl, ?_⟩
      wtm_at "of_rd"
      refine r_iL1 (e5 _ _ h1) (atI_nat z1) ?_
      refine lput hacc (by rw [ac4.len]; omega) ⟨e.put hL4, ac4.snoc (fun j q ⟨r, z1, z2⟩ => ⟨r, z1, z2.put hacc⟩) ⟨q, ?_, (z3.ex e5).put hacc⟩⟩
      rw [List.getElem?_map, hj]
      show some (qs.getD j 0) = _
      rw [List.getD_eq_getElem?_getD, z2]; rfl
    intro L5 acc5 H5 hL5 h5 ⟨e5, ac5⟩
    rw [List.length_map] at ac5
    have e6 := (e1.trans e13).trans e5
    wtm_at "of_rd"
    refine kont H5 L5 acc5 (idx.map fun i => qs.getD i 0) e6 ?_ h5 (RsL.of_acc (by rw [List.length_map]; exact ac5)) (ord_perm hperm) (ord_sortedI rk hlt hsort)
    exact none_of (e1.trans e13) hL5
abbrev s_least : Stmt := (top 25)
theorem sc_least : FnScope ["numbers"] ["numbers"] (defScope s_least) := ⟨rfl, rfl, rfl, by decide +kernel, rfl, by decide +kernel, by decide +kernel⟩
theorem ok_least {f : Addr} {fd : FuncData} (F : FunD K "least" "least" (defArgs s_least) (defBody s_least) (defScope s_least) [] [] f fd) (TB : TBl mg) (TR : RT K mg C_Ratio) (c_NoSuch : Cox P w K mg base 1 "NoSuch" C_NoSuch "number") (c_ascending : Cl P w K mg base 7 "ascending" (spAscending C_Ratio)) : FnOk P w K mg base (L2.CX P w) 8 f fd ["numbers"] (spLeast C_Ratio C_NoSuch 0) := by
  refine F.ok (CX := L2.CX P w) sc_least (fun vs H Q E h => ?_) (fun cdv A outer s H vs Q E hr h => ?_)
  · obtain ⟨k, xs, rfl, _⟩ := h; rfl
  · obtain ⟨k, xs, rfl, hx, h⟩ := h
    refine ⟨_, (pss_cons (ps_if (pt_cmpR op_eq (pe_callB (kc_len (K := K) rfl) (by rfl) TB.b_len PySem.boot_len (pa_cons (pv 0) pa_nil)) pe_int (nomark _)) (pss_one (ps_rz c_NoSuch hr (by decide) tkE rfl (pa_cons pe_int pa_nil))) pss_nil) (pss_one (ps_ret (pe_ix (kix_l (K := K) rfl) (pe_cl c_ascending hr (by decide) (by rfl) psE (pa_cons (pv 0) pa_nil)) pe_int (fun _ _ => rfl))))), ?_⟩
    rcases h with ⟨rfl, hz⟩ | ⟨qs, h1, h2, h3, h4, hn, kont⟩
    · wtm_at "of_rd"
      refine q_lenLT hx ?_
      wtm_at "of_rd"
      refine iteD rfl ?_
      wtm_at "of_rd"
      exact hz.at
    · wtm_at "of_rd"
      refine q_lenLT hx ?_
      wtm_at "of_rd"
      refine iteDn (by omega) ?_
      wtm_at "of_rd"
      refine ⟨k, xs, qs, rfl, hx, h1, h2, h3, h4, ?_⟩
      intro H1 p ys rs e1 n1 g1 g2 g3 g4
      have hl : rs.length = qs.length := g3.length_eq
      have h0 : rs[0]? = some rs[0] := List.getElem?_eq_getElem (by omega)
      obtain ⟨q, z1, z2⟩ := g2.2 0 _ h0
      wtm_at "of_rd"
      refine r_iL1 g1 (atI_nat (j := 0) z1) ?_
      exact kont H1 q rs _ e1 g3 g4 (.inl ⟨rfl, h0⟩) z2
abbrev s_greatest : Stmt := (top 26)
theorem sc_greatest : FnScope ["numbers"] ["numbers"] (defScope s_greatest) := ⟨rfl, rfl, rfl, by decide +kernel, rfl, by decide +kernel, by decide +kernel⟩
theorem ok_greatest {f : Addr} {fd : FuncData} (F : FunD K "greatest" "greatest" (defArgs s_greatest) (defBody s_greatest) (defScope s_greatest) [] [] f fd) (TB : TBl mg) (TR : RT K mg C_Ratio) (c_NoSuch : Cox P w K mg base 1 "NoSuch" C_NoSuch "number") (c_ascending : Cl P w K mg base 7 "ascending" (spAscending C_Ratio)) : FnOk P w K mg base (L2.CX P w) 8 f fd ["numbers"] (spLeast C_Ratio C_NoSuch 1) := by
  refine F.ok (CX := L2.CX P w) sc_greatest (fun vs H Q E h => ?_) (fun cdv A outer s H vs Q E hr h => ?_)
  · obtain ⟨k, xs, rfl, _⟩ := h; rfl
  · obtain ⟨k, xs, rfl, hx, h⟩ := h
    refine ⟨_, (pss_cons (ps_if (pt_cmpR op_eq (pe_callB (kc_len (K := K) rfl) (by rfl) TB.b_len PySem.boot_len (pa_cons (pv 0) pa_nil)) pe_int (nomark _)) (pss_one (ps_rz c_NoSuch hr (by decide) tkE rfl (pa_cons pe_int pa_nil))) pss_nil) (pss_one (ps_ret (pe_ix (kix_l (K := K) rfl) (pe_cl c_ascending hr (by decide) (by rfl) psE (pa_cons (pv 0) pa_nil)) (pe_un un_neg pe_int) (fun _ _ => rfl))))), ?_⟩
    rcases h with ⟨rfl, hz⟩ | ⟨qs, h1, h2, h3, h4, hn, kont⟩
    · wtm_at "of_rd"
      refine q_lenLT hx ?_
      wtm_at "of_rd"
      refine iteD rfl ?_
      wtm_at "of_rd"
      exact hz.at
    · wtm_at "of_rd"
      refine q_lenLT hx ?_
      wtm_at "of_rd"
      refine iteDn (by omega) ?_
      wtm_at "of_rd"
      refine ⟨k, xs, qs, rfl, hx, h1, h2, h3, h4, ?_⟩
      intro H1 p ys rs e1 n1 g1 g2 g3 g4
      have hl : rs.length = qs.length := g3.length_eq
      have h0 : rs[rs.length - 1]? = some rs[rs.length - 1] := List.getElem?_eq_getElem (by omega)
      obtain ⟨q, z1, z2⟩ := g2.2 _ _ h0
      wtm_at "of_rd"
      refine r_iL1 g1 (atI_last (by rw [g2.1]; omega) (by rw [g2.1]; exact z1)) ?_
      exact kont H1 q rs _ e1 g3 g4 (.inr ⟨rfl, h0⟩) z2
end
end
section
open PySem PySem.Spec PyProof.Rows L2 He
theorem kb_of {K : PySem.W.Frag} {x qual : Str} {params : Arguments} {body : List Stmt} {scope : Scope} {f : Addr} {fd : FuncData} {ps ks : List Str} {n : Nat} (F : FunD K x qual params body scope [] [] f fd)
    (h : ∀ (kV doc pm : Value) (an : Option Addr) (cdv ct : Value) (us ws : List Value), us.length = n → ws.length = ks.length → bindArgs (PySem.W.fnOf x qual params body scope .none kV doc pm an cdv ct) ⟨us, ks.zip ws⟩ = pure (ps.zip (us ++ ws))) : KBn K fd ps n ks (fun us ws => us ++ ws) (fun vs zs => vs ++ zs) := by
  obtain ⟨oc, od, dV, kV, doc, pm, an, cdv, ct, osl, rfl, lk, hcd, hD, hK⟩ := F.ex
  rcases hD with ⟨_, rfl⟩ | ⟨e, _⟩
  · exact ⟨fun s us ws _ l1 l2 => .of_eq (h kV doc pm an cdv ct us ws l1 l2), fun r1 r2 => r1.append r2⟩
  · exact absurd rfl e
theorem bindsR {K : PySem.W.Frag} {f : Addr} {fd : FuncData} (F : FunD K "__init__" "Ratio.__init__" (defArgs (inClass (top 19) 0)) (defBody (inClass (top 19) 0)) (defScope (inClass (top 19) 0)) [.int 1] [] f fd) (n j : Nat) (hn : n = 2 ∧ j = 0 ∨ n = 3 ∧ j = 1) : ∃ ds, Vals ([V.int 1].drop j) ds ∧ Binds K fd ["self", "top", "bottom"] ds := by
  rcases hn with ⟨rfl, rfl⟩ | ⟨rfl, rfl⟩
  · exact F.binds1 2 0 (by simp) rfl fun _ _ _ _ _ _ _ us its h1 h2 => match us, h1, its, h2 with | [_, _], _, [_], _ => ⟨_, rfl, rfl⟩
  · exact F.binds1 3 1 (by simp) rfl fun _ _ _ _ _ _ _ us its h1 h2 => match us, h1, its, h2 with | [_, _, _], _, [_], _ => ⟨_, rfl, rfl⟩
theorem law_at {w : World} {K : PySem.W.Frag} {mg : Str → Option Value} {h : Heap} {fl : Addr} (X : K.In h) (G : h.Ns mainGlobals mg) (hfa : mg ("law" : Str) = some (.ref fl)) (c : SaysX fa fn [] tfs ex w h K) : LamX.LawAtS PySem.Challenge.rw_overfloors_k09_whole_numbers_in_order w K (L2.CX (PySem.Challenge.rw_overfloors_k09_whole_numbers_in_order).prog w) 15 63 "_law_script" mg fl h := by
  have d : SaysD fa fn K := c.t.d
  have hx : fl = ga K "law" := Value.ref.inj (Option.some.inj (hfa.symm.trans (glo_ok X G (d.fact 47 (f := .glo "law") rfl))))
  subst hx
  have TB : TBl mg := ⟨(free_ok X G (d.fact 0 (f := .free "type") rfl)), (free_ok X G (d.fact 1 (f := .free "isinstance") rfl)), (free_ok X G (d.fact 2 (f := .free "int") rfl)), (free_ok X G (d.fact 3 (f := .free "bool") rfl)), (free_ok X G (d.fact 4 (f := .free "len") rfl)), (free_ok X G (d.fact 5 (f := .free "range") rfl)), (free_ok X G (d.fact 6 (f := .free "zip") rfl)), (free_ok X G (d.fact 7 (f := .free "enumerate") rfl)), (free_ok X G (d.fact 8 (f := .free "list") rfl)), (free_ok X G (d.fact 9 (f := .free "tuple") rfl)), (free_ok X G (d.fact 10 (f := .free "max") rfl)), (free_ok X G (d.fact 11 (f := .free "abs") rfl)), (free_ok X G (d.fact 12 (f := .free "str") rfl)), (free_ok X G (d.fact 13 (f := .free "sorted") rfl)), (free_ok X G (d.fact 14 (f := .free "all") rfl)), PySem.W.mg_of X G (eqO_ok (ba (ba (ba (ba (ba (ba (ba c.more).2).2).2).2).2).2).1), PySem.W.mg_of X G (eqO_ok (ba (ba (ba (ba (ba (ba (ba c.more).2).2).2).2).2).2).2)⟩
  have k_Ratio : ClsP K (ga K "Ratio") := clsPB_ok (cls_ok (d.fact 56 (f := .cls "Ratio") rfl)) (ba c.more).1
  have g_Ratio : mg "Ratio" = some (.ref (ga K "Ratio")) := (glo_ok X G (d.fact 51 (f := .glo "Ratio") rfl))
  have TR : RT K mg (ga K "Ratio") := ⟨k_Ratio, noat_ok (d.fact 57 (f := .noat "Ratio" "top") rfl), noat_ok (d.fact 58 (f := .noat "Ratio" "bottom") rfl), g_Ratio⟩
  have o_BadNumber : OexC K (ga K "BadNumber") := oexB_ok (ba (ba c.more).2).1
  have g_BadNumber : mg "BadNumber" = some (.ref (ga K "BadNumber")) := (glo_ok X G (d.fact 49 (f := .glo "BadNumber") rfl))
  have n_BadNumber : PySem.W.findIn K (.ref (ga K "BadNumber")) "value" = some none := noat_ok (d.fact 53 (f := .noat "BadNumber" "value") rfl)
  have o_NoSuch : OexC K (ga K "NoSuch") := oexB_ok (ba (ba (ba c.more).2).2).1
  have g_NoSuch : mg "NoSuch" = some (.ref (ga K "NoSuch")) := (glo_ok X G (d.fact 50 (f := .glo "NoSuch") rfl))
  have n_NoSuch : PySem.W.findIn K (.ref (ga K "NoSuch")) "number" = some none := noat_ok (d.fact 55 (f := .noat "NoSuch" "number") rfl)
  have EC : ExcC K (ga K "NoSuch") := excCB_ok (ba (ba (ba (ba c.more).2).2).2).1
  have XF : XfC K (ga K "NoSuch") := xfB_ok (ba (ba (ba (ba (ba c.more).2).2).2).2).1
  have veN : PySem.W.kitOne K (.ref (ga K "NoSuch")) (.type "ValueError") = some true := of_decide_eq_true (ba (ba (ba (ba (ba (ba c.more).2).2).2).2).2).1
  have exN := exm_ok (d.fact 81 (f := .exm "NoSuch" "NoSuch" true) rfl)
  have bv : mg "ValueError" = none := (free_ok X G (d.fact 15 (f := .free "ValueError") rfl))
  obtain ⟨t_FEW, g_FEW⟩ := int_ok X G (d.fact 82 (f := .int "FEW" 8) rfl)
  obtain ⟨fd_is_int, F_is_int⟩ := d.def_ 3 (d := ⟨("is_int", none), "is_int", "is_int", defArgs (top 12), defBody (top 12), defScope (top 12), [], []⟩) rfl
  obtain ⟨fd_BadNumber_init, F_BadNumber_init⟩ := d.def_ 32 (d := ⟨("BadNumber", some "__init__"), "__init__", "BadNumber.__init__", defArgs (inClass (top 4) 0), defBody (inClass (top 4) 0), defScope (inClass (top 4) 0), [], []⟩) rfl
  obtain ⟨fd_check_parts, F_check_parts⟩ := d.def_ 9 (d := ⟨("check_parts", none), "check_parts", "check_parts", defArgs (top 18), defBody (top 18), defScope (top 18), [], []⟩) rfl
  obtain ⟨fd_Ratio_init, F_Ratio_init⟩ := d.def_ 34 (d := ⟨("Ratio", some "__init__"), "__init__", "Ratio.__init__", defArgs (inClass (top 19) 0), defBody (inClass (top 19) 0), defScope (inClass (top 19) 0), [.int 1], []⟩) rfl
  obtain ⟨fd_is_number, F_is_number⟩ := d.def_ 4 (d := ⟨("is_number", none), "is_number", "is_number", defArgs (top 13), defBody (top 13), defScope (top 13), [], []⟩) rfl
  obtain ⟨fd_ratio_of, F_ratio_of⟩ := d.def_ 5 (d := ⟨("ratio_of", none), "ratio_of", "ratio_of", defArgs (top 14), defBody (top 14), defScope (top 14), [], []⟩) rfl
  obtain ⟨fd_Ratio_eq, F_Ratio_eq⟩ := d.def_ 40 (d := ⟨("Ratio", some "__eq__"), "__eq__", "Ratio.__eq__", defArgs (inClass (top 19) 10), defBody (inClass (top 19) 10), defScope (inClass (top 19) 10), [], []⟩) rfl
  obtain ⟨fd_Ratio_lt, F_Ratio_lt⟩ := d.def_ 41 (d := ⟨("Ratio", some "__lt__"), "__lt__", "Ratio.__lt__", defArgs (inClass (top 19) 11), defBody (inClass (top 19) 11), defScope (inClass (top 19) 11), [], []⟩) rfl
  obtain ⟨fd_Ratio_le, F_Ratio_le⟩ := d.def_ 42 (d := ⟨("Ratio", some "__le__"), "__le__", "Ratio.__le__", defArgs (inClass (top 19) 12), defBody (inClass (top 19) 12), defScope (inClass (top 19) 12), [], []⟩) rfl
  obtain ⟨fd_Ratio_gt, F_Ratio_gt⟩ := d.def_ 43 (d := ⟨("Ratio", some "__gt__"), "__gt__", "Ratio.__gt__", defArgs (inClass (top 19) 13), defBody (inClass (top 19) 13), defScope (inClass (top 19) 13), [], []⟩) rfl
  obtain ⟨fd_Ratio_ge, F_Ratio_ge⟩ := d.def_ 44 (d := ⟨("Ratio", some "__ge__"), "__ge__", "Ratio.__ge__", defArgs (inClass (top 19) 14), defBody (inClass (top 19) 14), defScope (inClass (top 19) 14), [], []⟩) rfl
  obtain ⟨fd_Ratio_floor, F_Ratio_floor⟩ := d.def_ 35 (d := ⟨("Ratio", some "floor"), "floor", "Ratio.floor", defArgs (inClass (top 19) 2), defBody (inClass (top 19) 2), defScope (inClass (top 19) 2), [], []⟩) rfl
  obtain ⟨fd_Ratio_bool, F_Ratio_bool⟩ := d.def_ 37 (d := ⟨("Ratio", some "__bool__"), "__bool__", "Ratio.__bool__", defArgs (inClass (top 19) 7), defBody (inClass (top 19) 7), defScope (inClass (top 19) 7), [], []⟩) rfl
  obtain ⟨fd_Ratio_neg, F_Ratio_neg⟩ := d.def_ 38 (d := ⟨("Ratio", some "__neg__"), "__neg__", "Ratio.__neg__", defArgs (inClass (top 19) 8), defBody (inClass (top 19) 8), defScope (inClass (top 19) 8), [], []⟩) rfl
  obtain ⟨fd_Ratio_abs, F_Ratio_abs⟩ := d.def_ 39 (d := ⟨("Ratio", some "__abs__"), "__abs__", "Ratio.__abs__", defArgs (inClass (top 19) 9), defBody (inClass (top 19) 9), defScope (inClass (top 19) 9), [], []⟩) rfl
  obtain ⟨fd_Ratio_add, F_Ratio_add⟩ := d.def_ 45 (d := ⟨("Ratio", some "__add__"), "__add__", "Ratio.__add__", defArgs (inClass (top 19) 15), defBody (inClass (top 19) 15), defScope (inClass (top 19) 15), [], []⟩) rfl
  obtain ⟨fd_Ratio_mul, F_Ratio_mul⟩ := d.def_ 49 (d := ⟨("Ratio", some "__mul__"), "__mul__", "Ratio.__mul__", defArgs (inClass (top 19) 19), defBody (inClass (top 19) 19), defScope (inClass (top 19) 19), [], []⟩) rfl
  obtain ⟨fd_Ratio_sub, F_Ratio_sub⟩ := d.def_ 47 (d := ⟨("Ratio", some "__sub__"), "__sub__", "Ratio.__sub__", defArgs (inClass (top 19) 17), defBody (inClass (top 19) 17), defScope (inClass (top 19) 17), [], []⟩) rfl
  obtain ⟨fd_Ratio_radd, F_Ratio_radd⟩ := d.def_ 46 (d := ⟨("Ratio", some "__radd__"), "__radd__", "Ratio.__radd__", defArgs (inClass (top 19) 16), defBody (inClass (top 19) 16), defScope (inClass (top 19) 16), [], []⟩) rfl
  obtain ⟨fd_Ratio_rsub, F_Ratio_rsub⟩ := d.def_ 48 (d := ⟨("Ratio", some "__rsub__"), "__rsub__", "Ratio.__rsub__", defArgs (inClass (top 19) 18), defBody (inClass (top 19) 18), defScope (inClass (top 19) 18), [], []⟩) rfl
  obtain ⟨fd_Ratio_rmul, F_Ratio_rmul⟩ := d.def_ 50 (d := ⟨("Ratio", some "__rmul__"), "__rmul__", "Ratio.__rmul__", defArgs (inClass (top 19) 20), defBody (inClass (top 19) 20), defScope (inClass (top 19) 20), [], []⟩) rfl
  obtain ⟨fd_floor_quotient, F_floor_quotient⟩ := d.def_ 6 (d := ⟨("floor_quotient", none), "floor_quotient", "floor_quotient", defArgs (top 15), defBody (top 15), defScope (top 15), [], []⟩) rfl
  obtain ⟨fd_remainder_of, F_remainder_of⟩ := d.def_ 7 (d := ⟨("remainder_of", none), "remainder_of", "remainder_of", defArgs (top 16), defBody (top 16), defScope (top 16), [], []⟩) rfl
  obtain ⟨fd_Ratio_floordiv, F_Ratio_floordiv⟩ := d.def_ 51 (d := ⟨("Ratio", some "__floordiv__"), "__floordiv__", "Ratio.__floordiv__", defArgs (inClass (top 19) 21), defBody (inClass (top 19) 21), defScope (inClass (top 19) 21), [], []⟩) rfl
  obtain ⟨fd_Ratio_rfloordiv, F_Ratio_rfloordiv⟩ := d.def_ 52 (d := ⟨("Ratio", some "__rfloordiv__"), "__rfloordiv__", "Ratio.__rfloordiv__", defArgs (inClass (top 19) 22), defBody (inClass (top 19) 22), defScope (inClass (top 19) 22), [], []⟩) rfl
  obtain ⟨fd_Ratio_mod, F_Ratio_mod⟩ := d.def_ 53 (d := ⟨("Ratio", some "__mod__"), "__mod__", "Ratio.__mod__", defArgs (inClass (top 19) 23), defBody (inClass (top 19) 23), defScope (inClass (top 19) 23), [], []⟩) rfl
  obtain ⟨fd_Ratio_rmod, F_Ratio_rmod⟩ := d.def_ 54 (d := ⟨("Ratio", some "__rmod__"), "__rmod__", "Ratio.__rmod__", defArgs (inClass (top 19) 24), defBody (inClass (top 19) 24), defScope (inClass (top 19) 24), [], []⟩) rfl
  obtain ⟨fd_Ratio_str, F_Ratio_str⟩ := d.def_ 36 (d := ⟨("Ratio", some "__str__"), "__str__", "Ratio.__str__", defArgs (inClass (top 19) 6), defBody (inClass (top 19) 6), defScope (inClass (top 19) 6), [], []⟩) rfl
  obtain ⟨fd_power_of, F_power_of⟩ := d.def_ 8 (d := ⟨("power_of", none), "power_of", "power_of", defArgs (top 17), defBody (top 17), defScope (top 17), [], []⟩) rfl
  obtain ⟨fd_Ratio_pow, F_Ratio_pow⟩ := d.def_ 55 (d := ⟨("Ratio", some "__pow__"), "__pow__", "Ratio.__pow__", defArgs (inClass (top 19) 25), defBody (inClass (top 19) 25), defScope (inClass (top 19) 25), [], []⟩) rfl
  obtain ⟨fd_NoSuch_init, F_NoSuch_init⟩ := d.def_ 33 (d := ⟨("NoSuch", some "__init__"), "__init__", "NoSuch.__init__", defArgs (inClass (top 5) 0), defBody (inClass (top 5) 0), defScope (inClass (top 5) 0), [], []⟩) rfl
  obtain ⟨fd_order_keys, F_order_keys⟩ := d.def_ 13 (d := ⟨("order_keys", none), "order_keys", "order_keys", defArgs (top 23), defBody (top 23), defScope (top 23), [], []⟩) rfl
  obtain ⟨fd_row_keys, F_row_keys⟩ := d.def_ 0 (d := ⟨("row_keys", none), "row_keys", "row_keys", defArgs (top 8), defBody (top 8), defScope (top 8), [], []⟩) rfl
  obtain ⟨fd_inserted, F_inserted⟩ := d.def_ 1 (d := ⟨("inserted", none), "inserted", "inserted", defArgs (top 9), defBody (top 9), defScope (top 9), [], []⟩) rfl
  obtain ⟨fd_ranked, F_ranked⟩ := d.def_ 2 (d := ⟨("ranked", none), "ranked", "ranked", defArgs (top 10), defBody (top 10), defScope (top 10), [], []⟩) rfl
  obtain ⟨fd_ascending, F_ascending⟩ := d.def_ 14 (d := ⟨("ascending", none), "ascending", "ascending", defArgs (top 24), defBody (top 24), defScope (top 24), [], []⟩) rfl
  obtain ⟨fd_least, F_least⟩ := d.def_ 15 (d := ⟨("least", none), "least", "least", defArgs (top 25), defBody (top 25), defScope (top 25), [], []⟩) rfl
  obtain ⟨fd_greatest, F_greatest⟩ := d.def_ 16 (d := ⟨("greatest", none), "greatest", "greatest", defArgs (top 26), defBody (top 26), defScope (top 26), [], []⟩) rfl
  obtain ⟨fd_gcd_of, F_gcd_of⟩ := d.def_ 10 (d := ⟨("gcd_of", none), "gcd_of", "gcd_of", defArgs (top 20), defBody (top 20), defScope (top 20), [], []⟩) rfl
  obtain ⟨fd_lcm_of, F_lcm_of⟩ := d.def_ 11 (d := ⟨("lcm_of", none), "lcm_of", "lcm_of", defArgs (top 21), defBody (top 21), defScope (top 21), [], []⟩) rfl
  obtain ⟨fd_bezout, F_bezout⟩ := d.def_ 12 (d := ⟨("bezout", none), "bezout", "bezout", defArgs (top 22), defBody (top 22), defScope (top 22), [], []⟩) rfl
  obtain ⟨fd__law_begin, F__law_begin⟩ := d.def_ 17 (d := ⟨("_law_begin", none), "_law_begin", "_law_begin", defArgs (top 28), defBody (top 28), defScope (top 28), [], []⟩) rfl
  obtain ⟨fd__law_draw, F__law_draw⟩ := d.def_ 18 (d := ⟨("_law_draw", none), "_law_draw", "_law_draw", defArgs (top 29), defBody (top 29), defScope (top 29), [], []⟩) rfl
  obtain ⟨fd__law_pick, F__law_pick⟩ := d.def_ 19 (d := ⟨("_law_pick", none), "_law_pick", "_law_pick", defArgs (top 30), defBody (top 30), defScope (top 30), [], []⟩) rfl
  obtain ⟨fd__law_ten, F__law_ten⟩ := d.def_ 20 (d := ⟨("_law_ten", none), "_law_ten", "_law_ten", defArgs (top 31), defBody (top 31), defScope (top 31), [], []⟩) rfl
  obtain ⟨fd__law_long, F__law_long⟩ := d.def_ 21 (d := ⟨("_law_long", none), "_law_long", "_law_long", defArgs (top 32), defBody (top 32), defScope (top 32), [], []⟩) rfl
  obtain ⟨fd__law_size, F__law_size⟩ := d.def_ 22 (d := ⟨("_law_size", none), "_law_size", "_law_size", defArgs (top 33), defBody (top 33), defScope (top 33), [], []⟩) rfl
  obtain ⟨fd__law_number, F__law_number⟩ := d.def_ 23 (d := ⟨("_law_number", none), "_law_number", "_law_number", defArgs (top 34), defBody (top 34), defScope (top 34), [], []⟩) rfl
  obtain ⟨fd__law_gcd, F__law_gcd⟩ := d.def_ 24 (d := ⟨("_law_gcd", none), "_law_gcd", "_law_gcd", defArgs (top 35), defBody (top 35), defScope (top 35), [], []⟩) rfl
  obtain ⟨fd__law_whole_is, F__law_whole_is⟩ := d.def_ 25 (d := ⟨("_law_whole_is", none), "_law_whole_is", "_law_whole_is", defArgs (top 36), defBody (top 36), defScope (top 36), [], []⟩) rfl
  obtain ⟨fd__law_ratio_is, F__law_ratio_is⟩ := d.def_ 26 (d := ⟨("_law_ratio_is", none), "_law_ratio_is", "_law_ratio_is", defArgs (top 37), defBody (top 37), defScope (top 37), [], []⟩) rfl
  obtain ⟨fd__law_divisors_right, F__law_divisors_right⟩ := d.def_ 27 (d := ⟨("_law_divisors_right", none), "_law_divisors_right", "_law_divisors_right", defArgs (top 38), defBody (top 38), defScope (top 38), [], []⟩) rfl
  obtain ⟨fd__law_near, F__law_near⟩ := d.def_ 28 (d := ⟨("_law_near", none), "_law_near", "_law_near", defArgs (top 39), defBody (top 39), defScope (top 39), [], []⟩) rfl
  obtain ⟨fd__law_order_right, F__law_order_right⟩ := d.def_ 29 (d := ⟨("_law_order_right", none), "_law_order_right", "_law_order_right", defArgs (top 40), defBody (top 40), defScope (top 40), [], []⟩) rfl
  obtain ⟨fd_law, F_law⟩ := d.def_ 31 (d := ⟨("law", none), "law", "law", defArgs (top 42), defBody (top 42), defScope (top 42), [], []⟩) rfl
  obtain ⟨fd__law_empty, F__law_empty⟩ := d.def_ 30 (d := ⟨("_law_empty", none), "_law_empty", "_law_empty", defArgs (top 41), defBody (top 41), defScope (top 41), [], []⟩) rfl
  obtain ⟨oc1, od1, dV1, kV1, doc1, pm1, an1, cd1, ct1, osl1, rfl, lk1, hcd1, _, _⟩ := F_law.ex
  obtain ⟨cL, rfl⟩ := codeIn_ref hcd1
  have eL1 : codeOf K ("law", none) = cL := codeOf_eq lk1 rfl
  have eT1 : cT K ("law", none) = (cL, tabOf K cL) := by unfold cT; rw [eL1]
  obtain ⟨oc2, od2, dV2, kV2, doc2, pm2, an2, cd2, ct2, osl2, rfl, lk2, hcd2, _, _⟩ := F__law_empty.ex
  have bE : Binds K (PySem.W.fnOf "_law_empty" "_law_empty" (defArgs s_empty) (defBody s_empty) (defScope s_empty) dV2 kV2 doc2 pm2 an2 cd2 ct2) ["_law_call"] [] := F__law_empty.bindsN fun _ _ _ _ _ _ us hl => match us, hl with | [_], _ => rfl
  refine ⟨PySem.W.fnOf "law" "law" (defArgs (top 42)) (defBody (top 42)) (defScope (top 42)) dV1 kV1 doc1 pm1 an1 (.ref cL) ct1, [(cL, tabOf K cL)], spLaw K [(tabOf K cL, qL)], fun p hp => ?_, fun p hp => ?_, fun p hp => ?_, fun s u => ?_, fun H a ns hl _ hT hS => ?_, fun base KB GB TT => ?_⟩
  · have hp' := hp; simp only [List.mem_cons, List.not_mem_nil, or_false] at hp'; rcases hp' with rfl
    · rw [← eT1]; exact c.empty _ (.head _)
  · have hp' := hp; simp only [List.mem_cons, List.not_mem_nil, or_false] at hp'; rcases hp' with rfl
    · rw [← eT1]; exact c.out _ (.head _)
  · have hp' := hp; simp only [List.mem_cons, List.not_mem_nil, or_false] at hp'; rcases hp' with rfl
    · rw [← eT1]; exact PySem.W.codeHd_of_K X (c.hd _ (.head _))
  · exact F_law.bindsA (ps := ["_law_script"]) (fun _ _ _ _ _ _ us hl => match us, hl with | [_], _ => rfl) s [u] rfl
  · refine ⟨a, ns, rfl, hS, hl, fun p hp => ?_, fun _ => rfl⟩
    have hp' := hp; simp only [List.mem_cons, List.not_mem_nil, or_false] at hp'; rcases hp' with rfl
    · exact LamX.TabS.nil (hT _ (.head _))
  have a_Ratio_floor := (meth_ok (d.fact 60 (f := .meth "Ratio" "floor") rfl)).at_
  have a_Ratio_str := (meth_ok (d.fact 61 (f := .meth "Ratio" "__str__") rfl)).at_
  have a_Ratio_bool := (meth_ok (d.fact 62 (f := .meth "Ratio" "__bool__") rfl)).at_
  have a_Ratio_neg := (meth_ok (d.fact 63 (f := .meth "Ratio" "__neg__") rfl)).at_
  have a_Ratio_abs := (meth_ok (d.fact 64 (f := .meth "Ratio" "__abs__") rfl)).at_
  have a_Ratio_eq := (meth_ok (d.fact 65 (f := .meth "Ratio" "__eq__") rfl)).at_
  have a_Ratio_lt := (meth_ok (d.fact 66 (f := .meth "Ratio" "__lt__") rfl)).at_
  have a_Ratio_le := (meth_ok (d.fact 67 (f := .meth "Ratio" "__le__") rfl)).at_
  have a_Ratio_gt := (meth_ok (d.fact 68 (f := .meth "Ratio" "__gt__") rfl)).at_
  have a_Ratio_ge := (meth_ok (d.fact 69 (f := .meth "Ratio" "__ge__") rfl)).at_
  have a_Ratio_add := (meth_ok (d.fact 70 (f := .meth "Ratio" "__add__") rfl)).at_
  have a_Ratio_radd := (meth_ok (d.fact 71 (f := .meth "Ratio" "__radd__") rfl)).at_
  have a_Ratio_sub := (meth_ok (d.fact 72 (f := .meth "Ratio" "__sub__") rfl)).at_
  have a_Ratio_rsub := (meth_ok (d.fact 73 (f := .meth "Ratio" "__rsub__") rfl)).at_
  have a_Ratio_mul := (meth_ok (d.fact 74 (f := .meth "Ratio" "__mul__") rfl)).at_
  have a_Ratio_rmul := (meth_ok (d.fact 75 (f := .meth "Ratio" "__rmul__") rfl)).at_
  have a_Ratio_floordiv := (meth_ok (d.fact 76 (f := .meth "Ratio" "__floordiv__") rfl)).at_
  have a_Ratio_rfloordiv := (meth_ok (d.fact 77 (f := .meth "Ratio" "__rfloordiv__") rfl)).at_
  have a_Ratio_mod := (meth_ok (d.fact 78 (f := .meth "Ratio" "__mod__") rfl)).at_
  have a_Ratio_rmod := (meth_ok (d.fact 79 (f := .meth "Ratio" "__rmod__") rfl)).at_
  have a_Ratio_pow := (meth_ok (d.fact 80 (f := .meth "Ratio" "__pow__") rfl)).at_
  have c_is_int : Cl (PySem.Challenge.rw_overfloors_k09_whole_numbers_in_order).prog w K mg base 1 "is_int" (spIsInt K) := mkCl F_is_int (glo_ok X G (d.fact 19 (f := .glo "is_int") rfl)) (ok_is_int F_is_int TB TR) (F_is_int.bindsN (ps := ["value"]) fun _ _ _ _ _ _ us hl => match us, hl with | [_], _ => rfl)
  have m_BadNumber := meth_ok (d.fact 52 (f := .meth "BadNumber" "__init__") rfl)
  have c_BadNumber : Cox (PySem.Challenge.rw_overfloors_k09_whole_numbers_in_order).prog w K mg base 1 "BadNumber" (ga K "BadNumber") "value" := mkCox o_BadNumber (glo_ok X G (d.fact 49 (f := .glo "BadNumber") rfl)) m_BadNumber (by have e := m_BadNumber.fn; unfold PySem.W.isFn at e; exact beq_iff_eq.mp e) (ok_BadNumber_init F_BadNumber_init TR o_BadNumber n_BadNumber) (F_BadNumber_init.bindsN (ps := ["self", "value"]) fun _ _ _ _ _ _ us hl => match us, hl with | [_, _], _ => rfl)
  have c_check_parts : Cl (PySem.Challenge.rw_overfloors_k09_whole_numbers_in_order).prog w K mg base 3 "check_parts" (spChk K (ga K "Ratio") (ga K "BadNumber")) := mkCl F_check_parts (glo_ok X G (d.fact 25 (f := .glo "check_parts") rfl)) (ok_check_parts F_check_parts TR c_is_int c_BadNumber) (F_check_parts.bindsN (ps := ["top", "bottom"]) fun _ _ _ _ _ _ us hl => match us, hl with | [_, _], _ => rfl)
  have ok_R : FnOk (PySem.Challenge.rw_overfloors_k09_whole_numbers_in_order).prog w K mg base (L2.CX (PySem.Challenge.rw_overfloors_k09_whole_numbers_in_order).prog w) 4 (ma K (ga K "Ratio") "__init__") fd_Ratio_init ["self", "top", "bottom"] (spRInit K (ga K "Ratio") (ga K "BadNumber")) := (ok_Ratio_init F_Ratio_init TB TR c_check_parts)
  have M_R := mkr_ok (d.fact 59 (f := .mkr "Ratio") rfl)
  have c_Ratio_1 : Ck (PySem.Challenge.rw_overfloors_k09_whole_numbers_in_order).prog w K mg base 4 "Ratio" (ga K "Ratio") [.int 1] (spRInit K (ga K "Ratio") (ga K "BadNumber")) := by
    obtain ⟨ds, hv, b⟩ := bindsR F_Ratio_init 2 0 (.inl ⟨rfl, rfl⟩)
    exact mkCk M_R g_Ratio ok_R b hv
  have c_Ratio_2 : Ck (PySem.Challenge.rw_overfloors_k09_whole_numbers_in_order).prog w K mg base 4 "Ratio" (ga K "Ratio") [] (spRInit K (ga K "Ratio") (ga K "BadNumber")) := by
    obtain ⟨ds, hv, b⟩ := bindsR F_Ratio_init 3 1 (.inr ⟨rfl, rfl⟩)
    exact mkCk M_R g_Ratio ok_R b hv
  have c_is_number : Cl (PySem.Challenge.rw_overfloors_k09_whole_numbers_in_order).prog w K mg base 2 "is_number" (spIsNum K (ga K "Ratio")) := mkCl F_is_number (glo_ok X G (d.fact 20 (f := .glo "is_number") rfl)) (ok_is_number F_is_number g_Ratio TB TR c_is_int) (F_is_number.bindsN (ps := ["value"]) fun _ _ _ _ _ _ us hl => match us, hl with | [_], _ => rfl)
  have c_ratio_of : Cl (PySem.Challenge.rw_overfloors_k09_whole_numbers_in_order).prog w K mg base 6 "ratio_of" (spRatioOf K (ga K "Ratio") (ga K "BadNumber")) := mkCl F_ratio_of (glo_ok X G (d.fact 21 (f := .glo "ratio_of") rfl)) (ok_ratio_of F_ratio_of g_Ratio TB TR c_is_int c_BadNumber c_Ratio_1) (F_ratio_of.bindsN (ps := ["number"]) fun _ _ _ _ _ _ us hl => match us, hl with | [_], _ => rfl)
  have c_Ratio_eq : Cm (PySem.Challenge.rw_overfloors_k09_whole_numbers_in_order).prog w K mg base 2 (ga K "Ratio") "__eq__" (ma K (ga K "Ratio") "__eq__") (spREq K (ga K "Ratio")) := mkCm (meth_ok (d.fact 65 (f := .meth "Ratio" "__eq__") rfl)) (ok_Ratio_eq F_Ratio_eq g_Ratio TB TR c_is_int) (F_Ratio_eq.bindsN (ps := ["self", "other"]) fun _ _ _ _ _ _ us hl => match us, hl with | [_, _], _ => rfl)
  have c_Ratio_lt : Cm (PySem.Challenge.rw_overfloors_k09_whole_numbers_in_order).prog w K mg base 2 (ga K "Ratio") "__lt__" (ma K (ga K "Ratio") "__lt__") (spRB (ga K "Ratio") (fun q r => decide (q < r))) := mkCm (meth_ok (d.fact 66 (f := .meth "Ratio" "__lt__") rfl)) (ok_Ratio_lt F_Ratio_lt g_Ratio TB TR c_is_int) (F_Ratio_lt.bindsN (ps := ["self", "other"]) fun _ _ _ _ _ _ us hl => match us, hl with | [_, _], _ => rfl)
  have c_Ratio_le : Cm (PySem.Challenge.rw_overfloors_k09_whole_numbers_in_order).prog w K mg base 2 (ga K "Ratio") "__le__" (ma K (ga K "Ratio") "__le__") (spRB (ga K "Ratio") (fun q r => decide (q ≤ r))) := mkCm (meth_ok (d.fact 67 (f := .meth "Ratio" "__le__") rfl)) (ok_Ratio_le F_Ratio_le g_Ratio TB TR c_is_int) (F_Ratio_le.bindsN (ps := ["self", "other"]) fun _ _ _ _ _ _ us hl => match us, hl with | [_, _], _ => rfl)
  have c_Ratio_gt : Cm (PySem.Challenge.rw_overfloors_k09_whole_numbers_in_order).prog w K mg base 2 (ga K "Ratio") "__gt__" (ma K (ga K "Ratio") "__gt__") (spRB (ga K "Ratio") (fun q r => decide (r < q))) := mkCm (meth_ok (d.fact 68 (f := .meth "Ratio" "__gt__") rfl)) (ok_Ratio_gt F_Ratio_gt g_Ratio TB TR c_is_int) (F_Ratio_gt.bindsN (ps := ["self", "other"]) fun _ _ _ _ _ _ us hl => match us, hl with | [_, _], _ => rfl)
  have c_Ratio_ge : Cm (PySem.Challenge.rw_overfloors_k09_whole_numbers_in_order).prog w K mg base 2 (ga K "Ratio") "__ge__" (ma K (ga K "Ratio") "__ge__") (spRB (ga K "Ratio") (fun q r => decide (r ≤ q))) := mkCm (meth_ok (d.fact 69 (f := .meth "Ratio" "__ge__") rfl)) (ok_Ratio_ge F_Ratio_ge g_Ratio TB TR c_is_int) (F_Ratio_ge.bindsN (ps := ["self", "other"]) fun _ _ _ _ _ _ us hl => match us, hl with | [_, _], _ => rfl)
  have c_Ratio_floor : Cm (PySem.Challenge.rw_overfloors_k09_whole_numbers_in_order).prog w K mg base 1 (ga K "Ratio") "floor" (ma K (ga K "Ratio") "floor") (spRV (ga K "Ratio") (fun q => .int q.floor)) := mkCm (meth_ok (d.fact 60 (f := .meth "Ratio" "floor") rfl)) (ok_Ratio_floor F_Ratio_floor TR) (F_Ratio_floor.bindsN (ps := ["self"]) fun _ _ _ _ _ _ us hl => match us, hl with | [_], _ => rfl)
  have c_Ratio_bool : Cm (PySem.Challenge.rw_overfloors_k09_whole_numbers_in_order).prog w K mg base 1 (ga K "Ratio") "__bool__" (ma K (ga K "Ratio") "__bool__") (spRV (ga K "Ratio") (fun q => .bl (!decide (q.num = 0)))) := mkCm (meth_ok (d.fact 62 (f := .meth "Ratio" "__bool__") rfl)) (ok_Ratio_bool F_Ratio_bool TB TR) (F_Ratio_bool.bindsN (ps := ["self"]) fun _ _ _ _ _ _ us hl => match us, hl with | [_], _ => rfl)
  have c_Ratio_neg : Cm (PySem.Challenge.rw_overfloors_k09_whole_numbers_in_order).prog w K mg base 6 (ga K "Ratio") "__neg__" (ma K (ga K "Ratio") "__neg__") (spR0 (ga K "Ratio") (fun q => -q)) := mkCm (meth_ok (d.fact 63 (f := .meth "Ratio" "__neg__") rfl)) (ok_Ratio_neg F_Ratio_neg TR c_Ratio_2) (F_Ratio_neg.bindsN (ps := ["self"]) fun _ _ _ _ _ _ us hl => match us, hl with | [_], _ => rfl)
  have c_Ratio_abs : Cm (PySem.Challenge.rw_overfloors_k09_whole_numbers_in_order).prog w K mg base 6 (ga K "Ratio") "__abs__" (ma K (ga K "Ratio") "__abs__") (spR0 (ga K "Ratio") absQ) := mkCm (meth_ok (d.fact 64 (f := .meth "Ratio" "__abs__") rfl)) (ok_Ratio_abs F_Ratio_abs TB TR c_Ratio_2) (F_Ratio_abs.bindsN (ps := ["self"]) fun _ _ _ _ _ _ us hl => match us, hl with | [_], _ => rfl)
  have c_Ratio_add : Cm (PySem.Challenge.rw_overfloors_k09_whole_numbers_in_order).prog w K mg base 6 (ga K "Ratio") "__add__" (ma K (ga K "Ratio") "__add__") (spR1 (ga K "Ratio") (fun q r => q + r) (fun _ _ => True)) := mkCm (meth_ok (d.fact 70 (f := .meth "Ratio" "__add__") rfl)) (ok_Ratio_add F_Ratio_add g_Ratio TB TR c_is_int c_Ratio_2) (F_Ratio_add.bindsN (ps := ["self", "other"]) fun _ _ _ _ _ _ us hl => match us, hl with | [_, _], _ => rfl)
  have c_Ratio_mul : Cm (PySem.Challenge.rw_overfloors_k09_whole_numbers_in_order).prog w K mg base 6 (ga K "Ratio") "__mul__" (ma K (ga K "Ratio") "__mul__") (spR1 (ga K "Ratio") (fun q r => q * r) (fun _ _ => True)) := mkCm (meth_ok (d.fact 74 (f := .meth "Ratio" "__mul__") rfl)) (ok_Ratio_mul F_Ratio_mul g_Ratio TB TR c_is_int c_Ratio_2) (F_Ratio_mul.bindsN (ps := ["self", "other"]) fun _ _ _ _ _ _ us hl => match us, hl with | [_, _], _ => rfl)
  have c_Ratio_sub : Cm (PySem.Challenge.rw_overfloors_k09_whole_numbers_in_order).prog w K mg base 6 (ga K "Ratio") "__sub__" (ma K (ga K "Ratio") "__sub__") (spR1 (ga K "Ratio") (fun q r => q - r) (fun _ _ => True)) := mkCm (meth_ok (d.fact 72 (f := .meth "Ratio" "__sub__") rfl)) (ok_Ratio_sub F_Ratio_sub g_Ratio TB TR c_is_int c_Ratio_2) (F_Ratio_sub.bindsN (ps := ["self", "other"]) fun _ _ _ _ _ _ us hl => match us, hl with | [_, _], _ => rfl)
  have c_Ratio_radd : Cm (PySem.Challenge.rw_overfloors_k09_whole_numbers_in_order).prog w K mg base 6 (ga K "Ratio") "__radd__" (ma K (ga K "Ratio") "__radd__") (spRI (ga K "Ratio") (fun q r => r + q) (fun _ _ => True)) := mkCm (meth_ok (d.fact 71 (f := .meth "Ratio" "__radd__") rfl)) (ok_Ratio_radd F_Ratio_radd TR c_is_int c_Ratio_2) (F_Ratio_radd.bindsN (ps := ["self", "other"]) fun _ _ _ _ _ _ us hl => match us, hl with | [_, _], _ => rfl)
  have c_Ratio_rsub : Cm (PySem.Challenge.rw_overfloors_k09_whole_numbers_in_order).prog w K mg base 6 (ga K "Ratio") "__rsub__" (ma K (ga K "Ratio") "__rsub__") (spRI (ga K "Ratio") (fun q r => r - q) (fun _ _ => True)) := mkCm (meth_ok (d.fact 73 (f := .meth "Ratio" "__rsub__") rfl)) (ok_Ratio_rsub F_Ratio_rsub TR c_is_int c_Ratio_2) (F_Ratio_rsub.bindsN (ps := ["self", "other"]) fun _ _ _ _ _ _ us hl => match us, hl with | [_, _], _ => rfl)
  have c_Ratio_rmul : Cm (PySem.Challenge.rw_overfloors_k09_whole_numbers_in_order).prog w K mg base 6 (ga K "Ratio") "__rmul__" (ma K (ga K "Ratio") "__rmul__") (spRI (ga K "Ratio") (fun q r => r * q) (fun _ _ => True)) := mkCm (meth_ok (d.fact 75 (f := .meth "Ratio" "__rmul__") rfl)) (ok_Ratio_rmul F_Ratio_rmul TR c_is_int c_Ratio_2) (F_Ratio_rmul.bindsN (ps := ["self", "other"]) fun _ _ _ _ _ _ us hl => match us, hl with | [_, _], _ => rfl)
  have c_floor_quotient : Cl (PySem.Challenge.rw_overfloors_k09_whole_numbers_in_order).prog w K mg base 7 "floor_quotient" (spFloQ K (ga K "Ratio") (ga K "BadNumber")) := mkCl F_floor_quotient (glo_ok X G (d.fact 22 (f := .glo "floor_quotient") rfl)) (ok_floor_quotient F_floor_quotient TR c_BadNumber c_ratio_of) (F_floor_quotient.bindsN (ps := ["one", "other"]) fun _ _ _ _ _ _ us hl => match us, hl with | [_, _], _ => rfl)
  have c_remainder_of : Cl (PySem.Challenge.rw_overfloors_k09_whole_numbers_in_order).prog w K mg base 7 "remainder_of" (spRemQ K (ga K "Ratio") (ga K "BadNumber")) := mkCl F_remainder_of (glo_ok X G (d.fact 23 (f := .glo "remainder_of") rfl)) (ok_remainder_of F_remainder_of TR c_BadNumber c_Ratio_2 c_ratio_of) (F_remainder_of.bindsN (ps := ["one", "other"]) fun _ _ _ _ _ _ us hl => match us, hl with | [_, _], _ => rfl)
  have c_Ratio_floordiv : Cm (PySem.Challenge.rw_overfloors_k09_whole_numbers_in_order).prog w K mg base 8 (ga K "Ratio") "__floordiv__" (ma K (ga K "Ratio") "__floordiv__") (spRF (ga K "Ratio") (ga K "BadNumber") (fun q r => (q / r).floor)) := mkCm (meth_ok (d.fact 76 (f := .meth "Ratio" "__floordiv__") rfl)) (ok_Ratio_floordiv F_Ratio_floordiv TR c_is_number c_floor_quotient) (F_Ratio_floordiv.bindsN (ps := ["self", "other"]) fun _ _ _ _ _ _ us hl => match us, hl with | [_, _], _ => rfl)
  have c_Ratio_rfloordiv : Cm (PySem.Challenge.rw_overfloors_k09_whole_numbers_in_order).prog w K mg base 8 (ga K "Ratio") "__rfloordiv__" (ma K (ga K "Ratio") "__rfloordiv__") (spRFI (ga K "Ratio") (ga K "BadNumber") (fun q r => (r / q).floor)) := mkCm (meth_ok (d.fact 77 (f := .meth "Ratio" "__rfloordiv__") rfl)) (ok_Ratio_rfloordiv F_Ratio_rfloordiv TR c_is_number c_floor_quotient) (F_Ratio_rfloordiv.bindsN (ps := ["self", "other"]) fun _ _ _ _ _ _ us hl => match us, hl with | [_, _], _ => rfl)
  have c_Ratio_mod : Cm (PySem.Challenge.rw_overfloors_k09_whole_numbers_in_order).prog w K mg base 8 (ga K "Ratio") "__mod__" (ma K (ga K "Ratio") "__mod__") (spRM (ga K "Ratio") (ga K "BadNumber") (fun q r => q - r * ((q / r).floor : Rat))) := mkCm (meth_ok (d.fact 78 (f := .meth "Ratio" "__mod__") rfl)) (ok_Ratio_mod F_Ratio_mod TR c_is_number c_remainder_of) (F_Ratio_mod.bindsN (ps := ["self", "other"]) fun _ _ _ _ _ _ us hl => match us, hl with | [_, _], _ => rfl)
  have c_Ratio_rmod : Cm (PySem.Challenge.rw_overfloors_k09_whole_numbers_in_order).prog w K mg base 8 (ga K "Ratio") "__rmod__" (ma K (ga K "Ratio") "__rmod__") (spRMI (ga K "Ratio") (ga K "BadNumber") (fun q r => r - q * ((r / q).floor : Rat))) := mkCm (meth_ok (d.fact 79 (f := .meth "Ratio" "__rmod__") rfl)) (ok_Ratio_rmod F_Ratio_rmod TR c_is_number c_remainder_of) (F_Ratio_rmod.bindsN (ps := ["self", "other"]) fun _ _ _ _ _ _ us hl => match us, hl with | [_, _], _ => rfl)
  have c_Ratio_str : Cm (PySem.Challenge.rw_overfloors_k09_whole_numbers_in_order).prog w K mg base 1 (ga K "Ratio") "__str__" (ma K (ga K "Ratio") "__str__") (spRS (ga K "Ratio")) := mkCm (meth_ok (d.fact 61 (f := .meth "Ratio" "__str__") rfl)) (ok_Ratio_str F_Ratio_str TB TR) (F_Ratio_str.bindsN (ps := ["self"]) fun _ _ _ _ _ _ us hl => match us, hl with | [_], _ => rfl)
  have c_power_of : Cl (PySem.Challenge.rw_overfloors_k09_whole_numbers_in_order).prog w K mg base 1 "power_of" (spPow) := mkCl F_power_of (glo_ok X G (d.fact 24 (f := .glo "power_of") rfl)) (ok_power_of F_power_of TR) (F_power_of.bindsN (ps := ["base", "number", "unit"]) fun _ _ _ _ _ _ us hl => match us, hl with | [_, _, _], _ => rfl)
  have c_Ratio_pow : Cm (PySem.Challenge.rw_overfloors_k09_whole_numbers_in_order).prog w K mg base 6 (ga K "Ratio") "__pow__" (ma K (ga K "Ratio") "__pow__") (spRP (ga K "Ratio")) := mkCm (meth_ok (d.fact 80 (f := .meth "Ratio" "__pow__") rfl)) (ok_Ratio_pow F_Ratio_pow TR c_is_int c_Ratio_2 c_power_of) (F_Ratio_pow.bindsN (ps := ["self", "other"]) fun _ _ _ _ _ _ us hl => match us, hl with | [_, _], _ => rfl)
  have m_NoSuch := meth_ok (d.fact 54 (f := .meth "NoSuch" "__init__") rfl)
  have c_NoSuch : Cox (PySem.Challenge.rw_overfloors_k09_whole_numbers_in_order).prog w K mg base 1 "NoSuch" (ga K "NoSuch") "number" := mkCox o_NoSuch (glo_ok X G (d.fact 50 (f := .glo "NoSuch") rfl)) m_NoSuch (by have e := m_NoSuch.fn; unfold PySem.W.isFn at e; exact beq_iff_eq.mp e) (ok_NoSuch_init F_NoSuch_init TR o_NoSuch n_NoSuch) (F_NoSuch_init.bindsN (ps := ["self", "number"]) fun _ _ _ _ _ _ us hl => match us, hl with | [_, _], _ => rfl)
  have c_order_keys : Cl (PySem.Challenge.rw_overfloors_k09_whole_numbers_in_order).prog w K mg base 1 "order_keys" (spOrderKeys (ga K "Ratio")) := mkCl F_order_keys (glo_ok X G (d.fact 29 (f := .glo "order_keys") rfl)) (ok_order_keys F_order_keys TB TR) (F_order_keys.bindsN (ps := ["ratios"]) fun _ _ _ _ _ _ us hl => match us, hl with | [_], _ => rfl)
  have c_row_keys : Cl (PySem.Challenge.rw_overfloors_k09_whole_numbers_in_order).prog w K mg base 1 "row_keys" (spRowKeys) := mkCl F_row_keys (glo_ok X G (d.fact 16 (f := .glo "row_keys") rfl)) (ok_row_keys F_row_keys TB TR) (F_row_keys.bindsN (ps := ["rows"]) fun _ _ _ _ _ _ us hl => match us, hl with | [_], _ => rfl)
  have c_inserted : Cl (PySem.Challenge.rw_overfloors_k09_whole_numbers_in_order).prog w K mg base 1 "inserted" (spOrd) := mkCl F_inserted (glo_ok X G (d.fact 17 (f := .glo "inserted") rfl)) (ok_inserted F_inserted TB TR) (F_inserted.bindsN (ps := ["rows"]) fun _ _ _ _ _ _ us hl => match us, hl with | [_], _ => rfl)
  have c_ranked : Cl (PySem.Challenge.rw_overfloors_k09_whole_numbers_in_order).prog w K mg base 2 "ranked" (spOrd) := mkCl F_ranked (glo_ok X G (d.fact 18 (f := .glo "ranked") rfl)) (ok_ranked F_ranked TB TR g_FEW c_row_keys c_inserted) (F_ranked.bindsN (ps := ["rows"]) fun _ _ _ _ _ _ us hl => match us, hl with | [_], _ => rfl)
  have c_ascending : Cl (PySem.Challenge.rw_overfloors_k09_whole_numbers_in_order).prog w K mg base 7 "ascending" (spAscending (ga K "Ratio")) := mkCl F_ascending (glo_ok X G (d.fact 30 (f := .glo "ascending") rfl)) (ok_ascending F_ascending TB TR c_ratio_of c_order_keys c_ranked) (F_ascending.bindsN (ps := ["numbers"]) fun _ _ _ _ _ _ us hl => match us, hl with | [_], _ => rfl)
  have c_least : Cl (PySem.Challenge.rw_overfloors_k09_whole_numbers_in_order).prog w K mg base 8 "least" (spLeast (ga K "Ratio") (ga K "NoSuch") 0) := mkCl F_least (glo_ok X G (d.fact 31 (f := .glo "least") rfl)) (ok_least F_least TB TR c_NoSuch c_ascending) (F_least.bindsN (ps := ["numbers"]) fun _ _ _ _ _ _ us hl => match us, hl with | [_], _ => rfl)
  have c_greatest : Cl (PySem.Challenge.rw_overfloors_k09_whole_numbers_in_order).prog w K mg base 8 "greatest" (spLeast (ga K "Ratio") (ga K "NoSuch") 1) := mkCl F_greatest (glo_ok X G (d.fact 32 (f := .glo "greatest") rfl)) (ok_greatest F_greatest TB TR c_NoSuch c_ascending) (F_greatest.bindsN (ps := ["numbers"]) fun _ _ _ _ _ _ us hl => match us, hl with | [_], _ => rfl)
  have c_gcd_of : Cl (PySem.Challenge.rw_overfloors_k09_whole_numbers_in_order).prog w K mg base 1 "gcd_of" (spII (fun a b => ((Int.gcd a b : Nat) : Int))) := mkCl F_gcd_of (glo_ok X G (d.fact 26 (f := .glo "gcd_of") rfl)) (ok_gcd_of F_gcd_of TB TR) (F_gcd_of.bindsN (ps := ["first", "second"]) fun _ _ _ _ _ _ us hl => match us, hl with | [_, _], _ => rfl)
  have c_lcm_of : Cl (PySem.Challenge.rw_overfloors_k09_whole_numbers_in_order).prog w K mg base 1 "lcm_of" (spII (fun a b => ((Int.lcm a b : Nat) : Int))) := mkCl F_lcm_of (glo_ok X G (d.fact 27 (f := .glo "lcm_of") rfl)) (ok_lcm_of F_lcm_of TB TR) (F_lcm_of.bindsN (ps := ["first", "second"]) fun _ _ _ _ _ _ us hl => match us, hl with | [_, _], _ => rfl)
  have c_bezout : Cl (PySem.Challenge.rw_overfloors_k09_whole_numbers_in_order).prog w K mg base 1 "bezout" (spBez) := mkCl F_bezout (glo_ok X G (d.fact 28 (f := .glo "bezout") rfl)) (ok_bezout F_bezout TR) (F_bezout.bindsN (ps := ["first", "second"]) fun _ _ _ _ _ _ us hl => match us, hl with | [_, _], _ => rfl)
  have c__law_begin : Cl (PySem.Challenge.rw_overfloors_k09_whole_numbers_in_order).prog w K mg base 1 "_law_begin" (spBegin K) := mkCl F__law_begin (glo_ok X G (d.fact 33 (f := .glo "_law_begin") rfl)) (ok__law_begin F__law_begin TB TR) (F__law_begin.bindsN (ps := ["_law_script"]) fun _ _ _ _ _ _ us hl => match us, hl with | [_], _ => rfl)
  have c__law_draw : Cl (PySem.Challenge.rw_overfloors_k09_whole_numbers_in_order).prog w K mg base 1 "_law_draw" (spDraw) := mkCl F__law_draw (glo_ok X G (d.fact 34 (f := .glo "_law_draw") rfl)) (ok__law_draw F__law_draw TB TR) (F__law_draw.bindsN (ps := ["_law_tape", "_law_limit"]) fun _ _ _ _ _ _ us hl => match us, hl with | [_, _], _ => rfl)
  have c__law_pick : Cl (PySem.Challenge.rw_overfloors_k09_whole_numbers_in_order).prog w K mg base 2 "_law_pick" (spPick) := mkCl F__law_pick (glo_ok X G (d.fact 35 (f := .glo "_law_pick") rfl)) (ok__law_pick F__law_pick TB TR c__law_draw) (F__law_pick.bindsN (ps := ["_law_tape", "_law_some"]) fun _ _ _ _ _ _ us hl => match us, hl with | [_, _], _ => rfl)
  have c__law_ten : Cl (PySem.Challenge.rw_overfloors_k09_whole_numbers_in_order).prog w K mg base 1 "_law_ten" (spTen) := mkCl F__law_ten (glo_ok X G (d.fact 36 (f := .glo "_law_ten") rfl)) (ok__law_ten F__law_ten TB TR) (F__law_ten.bindsN (ps := ["_law_figures"]) fun _ _ _ _ _ _ us hl => match us, hl with | [_], _ => rfl)
  have c__law_long : Cl (PySem.Challenge.rw_overfloors_k09_whole_numbers_in_order).prog w K mg base 2 "_law_long" (spNum 40 0 false) := mkCl F__law_long (glo_ok X G (d.fact 37 (f := .glo "_law_long") rfl)) (ok__law_long F__law_long TB TR c__law_draw c__law_ten) (F__law_long.bindsN (ps := ["_law_tape", "_law_figures"]) fun _ _ _ _ _ _ us hl => match us, hl with | [_, _], _ => rfl)
  have c__law_size : Cl (PySem.Challenge.rw_overfloors_k09_whole_numbers_in_order).prog w K mg base 3 "_law_size" (spNum 50 2 false) := mkCl F__law_size (glo_ok X G (d.fact 38 (f := .glo "_law_size") rfl)) (ok__law_size F__law_size TB TR c__law_draw c__law_ten c__law_long) (F__law_size.bindsN (ps := ["_law_tape", "_law_figures"]) fun _ _ _ _ _ _ us hl => match us, hl with | [_, _], _ => rfl)
  have c__law_number : Cl (PySem.Challenge.rw_overfloors_k09_whole_numbers_in_order).prog w K mg base 4 "_law_number" (spNum 51 2 true) := mkCl F__law_number (glo_ok X G (d.fact 39 (f := .glo "_law_number") rfl)) (ok__law_number F__law_number TR c__law_draw c__law_size) (F__law_number.bindsN (ps := ["_law_tape", "_law_figures"]) fun _ _ _ _ _ _ us hl => match us, hl with | [_, _], _ => rfl)
  have c__law_gcd : Cl (PySem.Challenge.rw_overfloors_k09_whole_numbers_in_order).prog w K mg base 1 "_law_gcd" (spII (fun a b => ((Int.gcd a b : Nat) : Int))) := mkCl F__law_gcd (glo_ok X G (d.fact 40 (f := .glo "_law_gcd") rfl)) (ok__law_gcd F__law_gcd TB TR) (F__law_gcd.bindsN (ps := ["_law_one", "_law_other"]) fun _ _ _ _ _ _ us hl => match us, hl with | [_, _], _ => rfl)
  have c__law_whole_is : Cl (PySem.Challenge.rw_overfloors_k09_whole_numbers_in_order).prog w K mg base 1 "_law_whole_is" (spWhole K) := mkCl F__law_whole_is (glo_ok X G (d.fact 41 (f := .glo "_law_whole_is") rfl)) (ok__law_whole_is F__law_whole_is TB TR) (F__law_whole_is.bindsN (ps := ["_law_value", "_law_due"]) fun _ _ _ _ _ _ us hl => match us, hl with | [_, _], _ => rfl)
  have c__law_ratio_is : Cl (PySem.Challenge.rw_overfloors_k09_whole_numbers_in_order).prog w K mg base 2 "_law_ratio_is" (spRatioIs (ga K "Ratio")) := mkCl F__law_ratio_is (glo_ok X G (d.fact 42 (f := .glo "_law_ratio_is") rfl)) (ok__law_ratio_is F__law_ratio_is g_Ratio TB TR c__law_gcd c__law_whole_is) (F__law_ratio_is.bindsN (ps := ["_law_value", "_law_top", "_law_bottom"]) fun _ _ _ _ _ _ us hl => match us, hl with | [_, _, _], _ => rfl)
  have c__law_divisors_right : Cl (PySem.Challenge.rw_overfloors_k09_whole_numbers_in_order).prog w K mg base 2 "_law_divisors_right" (spDiv) := mkCl F__law_divisors_right (glo_ok X G (d.fact 43 (f := .glo "_law_divisors_right") rfl)) (ok__law_divisors_right F__law_divisors_right TB TR c_gcd_of c_lcm_of c_bezout c__law_gcd c__law_whole_is) (F__law_divisors_right.bindsN (ps := ["_law_one", "_law_other"]) fun _ _ _ _ _ _ us hl => match us, hl with | [_, _], _ => rfl)
  have c__law_near : Cl (PySem.Challenge.rw_overfloors_k09_whole_numbers_in_order).prog w K mg base 5 "_law_near" (spNear) := mkCl F__law_near (glo_ok X G (d.fact 44 (f := .glo "_law_near") rfl)) (ok__law_near F__law_near TR c__law_draw c__law_pick c__law_size c__law_number) (F__law_near.bindsN (ps := ["_law_tape", "_law_known"]) fun _ _ _ _ _ _ us hl => match us, hl with | [_, _], _ => rfl)
  have c__law_order_right : Cl (PySem.Challenge.rw_overfloors_k09_whole_numbers_in_order).prog w K mg base 9 "_law_order_right" (spOrder (ga K "Ratio")) := mkCl F__law_order_right (glo_ok X G (d.fact 45 (f := .glo "_law_order_right") rfl)) (ok__law_order_right F__law_order_right TB TR c_ascending c_least c_greatest c__law_ratio_is) (F__law_order_right.bindsN (ps := ["_law_rows", "_law_handed"]) fun _ _ _ _ _ _ us hl => match us, hl with | [_, _], _ => rfl)
  exact ok_law lk1 hcd1 (TT _ (List.mem_singleton.mpr rfl)) lk2 hcd2 F__law_empty.kp (glo_ok X G (d.fact 46 (f := .glo "_law_empty") rfl)) bE EC XF n_NoSuch g_NoSuch bv exN veN c_least c_greatest TB TR k_Ratio c_Ratio_2 c_Ratio_eq c_ascending c__law_begin c__law_draw c__law_size c__law_number c__law_whole_is c__law_divisors_right c__law_near c__law_order_right
end
end Of
open PySem PySem.W PySem.Calls PyProof.Rows
theorem PySem.Challenge.cw_overfloors_k09_whole_numbers_in_order_holds : PySem.Challenge.rw_overfloors_k09_whole_numbers_in_order.Holds := by
  exact Of.law_early fun _ _ _ _ _ X G hfa c => Of.law_at X G hfa c
