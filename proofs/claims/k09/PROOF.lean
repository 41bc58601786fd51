import PyProof.Rows.All
import Wide.All
import OpenK.AllK
import Wide.FinOn
import PyProof.ListMulRight
import KE.KOpsOwn
import KE.KCallOwn
import HandS.ForMost
import HandS.ForExc
import HandS.SlotsOwn
import HandS.Flow
import HandS.IsInst
import PyProof.Rows.StrBool
import HandS.More
import HandS.Small
import HandS.FStr
import HandS.Wide
import HandS.WideMore
import HandS.Gcd
import HandS.ExcInit
import HandS.ExcField
import HandS.Style
import HandS.Evl
import HandS.RaiseMore
import HandS.WideBits
import HandS.Zip
import HandS.Head0
import HandS.Head1
import HandS.Head2
import HandS.HeadEnd
import HandS.HeadHook1
import HandS.HeadHook2
import HandS.HeadHook3
import HandS.HeadHook4
import HandS.Text
import KE.IntTextLaws
import KE.DataFind
import HandS.ExcIs
import KE.KExcIs
import HandS.Lambda
import HandS.HeadWalk
import HandS.Head3
import HandS.NestedK
import PySem.Challenge.RW_overfloors_k09_whole_numbers_in_order
set_option Elab.async false
set_option linter.all false
set_option exponentiation.threshold 20000
set_option maxRecDepth 100000
set_option maxHeartbeats 0
namespace Of
section
open PySem PySem.Spec PyProof.Rows
section
open Builtin
theorem int_add_inst (a : Int) (t : Tok) (x C dx : Addr) :
    Meets (Builtin.«int.__add__» ⟨[.int a t, .ref x], []⟩) (fun _ R s => s.heap.get? x = some (PySem.W.instObj C dx) ∧ R (.ok (.ret Value.notImplemented)) s) :=
  .of_wp fun prog w A R s h => by obtain ⟨hp, g, d, tk, os⟩ := s; obtain ⟨hl, h⟩ := h; wp_walk; exact ⟨_, rfl, h⟩
theorem int_sub_inst (a : Int) (t : Tok) (x C dx : Addr) :
    Meets (Builtin.«int.__sub__» ⟨[.int a t, .ref x], []⟩) (fun _ R s => s.heap.get? x = some (PySem.W.instObj C dx) ∧ R (.ok (.ret Value.notImplemented)) s) :=
  .of_wp fun prog w A R s h => by obtain ⟨hp, g, d, tk, os⟩ := s; obtain ⟨hl, h⟩ := h; wp_walk; exact ⟨_, rfl, h⟩
theorem int_mul_inst (a : Int) (t : Tok) (x C dx : Addr) :
    Meets (Builtin.«int.__mul__» ⟨[.int a t, .ref x], []⟩) (fun _ R s => s.heap.get? x = some (PySem.W.instObj C dx) ∧ R (.ok (.ret Value.notImplemented)) s) :=
  .of_wp fun prog w A R s h => by obtain ⟨hp, g, d, tk, os⟩ := s; obtain ⟨hl, h⟩ := h; wp_walk; exact ⟨_, rfl, h⟩
theorem int_mod_inst (a : Int) (t : Tok) (x C dx : Addr) :
    Meets (Builtin.«int.__mod__» ⟨[.int a t, .ref x], []⟩) (fun _ R s => s.heap.get? x = some (PySem.W.instObj C dx) ∧ R (.ok (.ret Value.notImplemented)) s) :=
  .of_wp fun prog w A R s h => by obtain ⟨hp, g, d, tk, os⟩ := s; obtain ⟨hl, h⟩ := h; wp_walk; exact ⟨_, rfl, h⟩
theorem int_floordiv_inst (a : Int) (t : Tok) (x C dx : Addr) :
    Meets (Builtin.«int.__floordiv__» ⟨[.int a t, .ref x], []⟩) (fun _ R s => s.heap.get? x = some (PySem.W.instObj C dx) ∧ R (.ok (.ret Value.notImplemented)) s) :=
  .of_wp fun prog w A R s h => by obtain ⟨hp, g, d, tk, os⟩ := s; obtain ⟨hl, h⟩ := h; wp_walk; exact ⟨_, rfl, h⟩
theorem int_eq_inst (a : Int) (t : Tok) (x C dx : Addr) :
    Meets (Builtin.«int.__eq__» ⟨[.int a t, .ref x], []⟩) (fun _ R s => s.heap.get? x = some (PySem.W.instObj C dx) ∧ R (.ok (.ret Value.notImplemented)) s) :=
  .of_wp fun prog w A R s h => by obtain ⟨hp, g, d, tk, os⟩ := s; obtain ⟨hl, h⟩ := h; wp_walk; exact ⟨_, rfl, h⟩
theorem int_lt_inst (a : Int) (t : Tok) (x C dx : Addr) :
    Meets (Builtin.«int.__lt__» ⟨[.int a t, .ref x], []⟩) (fun _ R s => s.heap.get? x = some (PySem.W.instObj C dx) ∧ R (.ok (.ret Value.notImplemented)) s) :=
  .of_wp fun prog w A R s h => by obtain ⟨hp, g, d, tk, os⟩ := s; obtain ⟨hl, h⟩ := h; wp_walk; exact ⟨_, rfl, h⟩
theorem int_le_inst (a : Int) (t : Tok) (x C dx : Addr) :
    Meets (Builtin.«int.__le__» ⟨[.int a t, .ref x], []⟩) (fun _ R s => s.heap.get? x = some (PySem.W.instObj C dx) ∧ R (.ok (.ret Value.notImplemented)) s) :=
  .of_wp fun prog w A R s h => by obtain ⟨hp, g, d, tk, os⟩ := s; obtain ⟨hl, h⟩ := h; wp_walk; exact ⟨_, rfl, h⟩
theorem int_gt_inst (a : Int) (t : Tok) (x C dx : Addr) :
    Meets (Builtin.«int.__gt__» ⟨[.int a t, .ref x], []⟩) (fun _ R s => s.heap.get? x = some (PySem.W.instObj C dx) ∧ R (.ok (.ret Value.notImplemented)) s) :=
  .of_wp fun prog w A R s h => by obtain ⟨hp, g, d, tk, os⟩ := s; obtain ⟨hl, h⟩ := h; wp_walk; exact ⟨_, rfl, h⟩
theorem int_ge_inst (a : Int) (t : Tok) (x C dx : Addr) :
    Meets (Builtin.«int.__ge__» ⟨[.int a t, .ref x], []⟩) (fun _ R s => s.heap.get? x = some (PySem.W.instObj C dx) ∧ R (.ok (.ret Value.notImplemented)) s) :=
  .of_wp fun prog w A R s h => by obtain ⟨hp, g, d, tk, os⟩ := s; obtain ⟨hl, h⟩ := h; wp_walk; exact ⟨_, rfl, h⟩
end
section
variable {prog : Program} {w : World} {A : Around} {E : Value → Shared → Prop} {s : Shared} {K : PySem.W.Frag} {x C f g : Addr} {dx : Addr} {od : Option Obj}
theorem rbin_K {op : Operator} {i : Int} {t : Tok} {id : String} {B : Builtin} {Q : Value → Shared → Prop} (X : K.In s.heap) (I : PySem.W.InstAt s.heap x (PySem.W.instObj C dx) C od) (hc : PySem.W.selfFirst K C = true)
    (hs : PySem.W.findIn K (.ref C) (PySem.dunder op.info.2) = some (some (.ref g))) (hr : PySem.W.findIn K (.ref C) (dunderR op.info.2) = some (some (.ref f))) (hf : PySem.W.isFn K (.ref f) = true) (hsub : PySem.W.subIn K (.ref C) (.type "int") = some false)
    (fills : fillsNumberSlot (.type "int") op.info.2 = pure true) (slot : Slot "int" (PySem.dunder op.info.2) id) (entry : entryFor table id = some B) (args : argsOk id ⟨[.int i t, .ref x], []⟩)
    (g0 : Meets (B ⟨[.int i t, .ref x], []⟩) (fun _ R s => s.heap.get? x = some (PySem.W.instObj C dx) ∧ R (.ok (.ret Value.notImplemented)) s))
    (h : wpAny (model prog w) A (call (.ref f) [.ref x, .int i t]) (PySem.W.CmpBack Q) E s) : wpAny (model prog w) A (binaryOp op (.int i t) (.ref x)) Q E s := by
  obtain ⟨cd, rest, hcd, hm⟩ := PySem.W.ksp_first hc
  rcases hi : op.info with ⟨sym, nm'⟩
  rw [hi] at hs hr fills slot
  dsimp only at hs hr fills slot
  have one := PySem.W.ksp_try X I hr hf h
  have dec : ∀ {Q' : Option Value → Shared → Prop}, Q' none s → wpAny (model prog w) A (tryMethod (.int i t) (PySem.dunder nm') (.ref x)) Q' E s := fun {Q'} q =>
    wpAny_tryMethod_declines (typeIs_int s i t) slot (call_meets slot (typeIs_int s i t) entry args g0 ⟨I.at_, rfl, q⟩)
  obtain ⟨hh, gg, d, tt, os⟩ := s
  have L1 : PySem.W.Looks (model prog w) hh (typeOf (.ref x)) (.ref C) := I.type
  have L2 : PySem.W.Looks (model prog w) hh (typeOf (.int i t)) (.type "int") := PySem.W.Looks.of_pure rfl
  have L3 : PySem.W.Looks (model prog w) hh (fillsNumberSlot (.ref C) nm') true := PySem.W.fills_K X hcd hm hs
  have L4 : PySem.W.Looks (model prog w) hh (fillsNumberSlot (.type "int") nm') true := PySem.W.Looks.of_pure fills
  have L5 : PySem.W.Looks (model prog w) hh (isSubtype (.ref C) (.type "int")) false := PySem.W.looks_subIn X hsub
  have L7 : PySem.W.Looks (model prog w) hh (numberSlotInPython (.type "int") nm') false := PySem.W.Looks.of_pure rfl
  have hne : (Value.type "int" == Value.ref C) = false := Bool.eq_false_iff.mpr fun q => by cases beq_iff_eq.mp q
  simp only [binaryOp, hi]
  refine wpAny_holding (wpAny_bind ?_)
  unfold binaryOp1
  refine wpAny_bind (L2.at (wpAny_bind (L1.at (wpAny_bind (L4.at ?_)))))
  simp only [hne, Bool.false_eq_true, if_false]
  ksp_lk
  refine dec ?_
  ksp_lk
  refine wpAny_mono one (fun r s' hr' => ?_) fun _ _ e => e
  obtain ⟨v, rfl, hq⟩ := hr'
  ksp_lk
  exact hq
end
end
section
open PySem PySem.Spec PyProof.Rows
section
variable {prog : Program} {w : World} {A : Around} {E : Value → Shared → Prop} {s : Shared} {K : PySem.W.Frag} {x C f g : Addr} {dx : Addr} {od : Option Obj}
theorem typeOf_int_ne {i : Int} {t : Tok} : (Value.type "int" != Value.ref C) = true := by
  rw [bne_iff_ne]; exact fun z => by cases z
/-- i op x with the reflected comparison of x's class -/
theorem rcmp_K {op : CmpOp} {i : Int} {t : Tok} {id : String} {B : Builtin} {Q : Value → Shared → Prop} (hu : A.units < cLine) (X : K.In s.heap) (I : PySem.W.InstAt s.heap x (PySem.W.instObj C dx) C od)
    (hr : PySem.W.findIn K (.ref C) (cmpInfo op).2.2 = some (some (.ref f))) (hf : PySem.W.isFn K (.ref f) = true) (hsub : PySem.W.subIn K (.ref C) (.type "int") = some false)
    (slot : Slot "int" (cmpInfo op).2.1 id) (entry : entryFor table id = some B) (args : argsOk id ⟨[.int i t, .ref x], []⟩)
    (g0 : Meets (B ⟨[.int i t, .ref x], []⟩) (fun _ R s => s.heap.get? x = some (PySem.W.instObj C dx) ∧ R (.ok (.ret Value.notImplemented)) s))
    (h : wpAny (model prog w) A (call (.ref f) [.ref x, .int i t]) (PySem.W.CmpBack Q) E s) : wpAny (model prog w) A (richCompare op (.int i t) (.ref x)) Q E s := by
  have one : wpAny (model prog w) A (tryCompare (.ref x) (cmpInfo op).2.2 (.int i t)) (fun r s' => ∃ v, r = some v ∧ Q v s') E s := by
    unfold tryCompare
    refine wpAny_bind (PySem.W.ifBound_K X I hr hf (wpAny_mono h (fun v s' hv => ?_) fun _ _ e => e))
    cases v <;> first | exact hv.elim | exact wpAny_pure ⟨_, rfl, hv⟩
  have dec : ∀ {Q' : Option Value → Shared → Prop}, Q' none s → wpAny (model prog w) A (tryCompare (.int i t) (cmpInfo op).2.1 (.ref x)) Q' E s := fun {Q'} q =>
    wpAny_tryCompare_declines (typeIs_int s i t) slot (call_meets slot (typeIs_int s i t) entry args g0 ⟨I.at_, rfl, q⟩)
  have L2 : PySem.W.Looks (model prog w) s.heap (typeOf (.int i t)) (.type "int") := PySem.W.Looks.of_pure rfl
  unfold richCompare
  have e1 : oneThing? op (.int i t) (.ref x) = none := by cases op <;> rfl
  simp only [e1]
  refine wpAny_holding (wpAny_bind (wpAny_cRoomFor hu ?_))
  refine wpAny_bind (L2.here (wpAny_bind (I.type.here ?_)))
  rw [if_pos (typeOf_int_ne (i := i) (t := t))]
  refine wpAny_bind ((PySem.W.looks_subIn X hsub).here ?_)
  simp only [Bool.false_eq_true, if_false]
  refine wpAny_bind (dec ?_)
  simp only [Bool.not_false, if_true]
  refine wpAny_bind (wpAny_mono one (fun r s' z => ?_) fun _ _ e => e)
  obtain ⟨v, rfl, hq⟩ := z
  exact wpAny_pure hq
/-- object.__ne__ by the own == -/
theorem ne_try {b : Value} {Q : Value → Shared → Prop} (hu : A.units + 1 < cLine) (X : K.In s.heap) (I : PySem.W.InstAt s.heap x (PySem.W.instObj C dx) C od)
    (hn : PySem.W.findIn K (.ref C) "__ne__" = some (some (.builtin "object.__ne__"))) (he : PySem.W.findIn K (.ref C) "__eq__" = some (some (.ref f))) (hf : PySem.W.isFn K (.ref f) = true) (hm : PySem.W.mroIn K C (.type "object") = some true)
    (h : wpAny (model prog w) A.in1 (call (.ref f) [.ref x, b]) (fun v s' => ∃ k, v = .bool k ∧ Q (.bool (!k)) s') E s) :
    wpAny (model prog w) A (tryCompare (.ref x) "__ne__" b) (fun r s' => ∃ v, r = some v ∧ Q v s') E s := by
  have NE := F.cmp_object.ne
  have sub : PySem.W.Looks (model prog w) s.heap (isInstance (.ref x) (.type "object")) true := I.type.andThen (PySem.W.looks_mroIn X hm)
  have body : wpAny (model prog w) A.in1 (Builtin.«object.__ne__» ⟨[.ref x, b], []⟩) (fun fin s' => match fin with | .done f => wants (fun v s' => ∃ k, v = .bool k ∧ Q (.bool k) s') E (.ok f) s' | .again c' => c'.quiet = true ∧ codeAny (model prog w) A c' (wants (fun v s' => ∃ k, v = .bool k ∧ Q (.bool k) s') E) s') (fun e s' => wants (fun v s' => ∃ k, v = .bool k ∧ Q (.bool k) s') E (.error e) s') s := by
    unfold Builtin.«object.__ne__»
    refine wpAny_bind (m := slotArgs "__ne__" 1 _) (wpAny_pure ?_)
    refine wpAny_bind (wpAny_cRoomFor hu ?_)
    refine wpAny_bind (m := callSpecialIfBound? (.ref x) (Str.ofString "__eq__") [b]) (PySem.W.ifBound_K X I he hf (wpAny_mono h (fun v s' hv => ?_) fun _ _ e => e))
    obtain ⟨k, rfl, hq⟩ := hv
    refine wpAny_bind (m := truthy (.bool k)) (wpAny_truthy_bool ?_)
    exact wpAny_pure ⟨!k, rfl, hq⟩
  have cal : wpAny (model prog w) A (call (.builtin "object.__ne__") [.ref x, b]) (fun v s' => ∃ k, v = .bool k ∧ Q (.bool k) s') E s :=
    wpAny_call (codeAny_call_builtin NE.plain F.cmpEntry_ne (PySem.W.check_slot F.cmpKind_ne F.cmpSplit_ne sub (F.cmpArgs_ne _ _) body))
  unfold tryCompare
  simp only [callSpecialIfBound?, bindSpecialIfBound?]
  refine wpAny_bind (wpAny_holding (wpAny_bind (wpAny_bind (wpAny_bind (I.type.here ((PySem.W.looks_findIn X hn).here ?_))))))
  have fin : wpAny (model prog w) A (call (.builtin "object.__ne__") ([.ref x] ++ [b]) >>= fun v => pure (some v)) (fun r s' => wpAny (model prog w) A (match r with
    | some .notImplemented | none => pure none
    | some v => pure (some v)) (fun r s' => ∃ v, r = some v ∧ Q v s') E s') E s := wpAny_bind (wpAny_mono cal (fun v s' hv => by
      obtain ⟨k, rfl, hq⟩ := hv
      exact wpAny_pure (wpAny_pure ⟨_, rfl, hq⟩)) fun _ _ e => e)
  simp only [NE.bind]
  refine wpAny_bind (wpAny_askSetting (wpAny_ite ?_))
  split
  · exact wpAny_bind (wpAny_pure (wpAny_pure fin))
  · exact wpAny_tryCatch (wpAny_bind (wpAny_pure (wpAny_pure fin)))
/-- x != b by the own == -/
theorem ne_K {b tb : Value} {Q : Value → Shared → Prop} (hu : A.units + 1 < cLine) (X : K.In s.heap) (I : PySem.W.InstAt s.heap x (PySem.W.instObj C dx) C od) (hb : PySem.W.Looks (model prog w) s.heap (typeOf b) tb) (hnf : PySem.W.notFirst K C tb = true)
    (hn : PySem.W.findIn K (.ref C) "__ne__" = some (some (.builtin "object.__ne__"))) (he : PySem.W.findIn K (.ref C) "__eq__" = some (some (.ref f))) (hf : PySem.W.isFn K (.ref f) = true) (hm : PySem.W.mroIn K C (.type "object") = some true)
    (h : wpAny (model prog w) A.in1 (call (.ref f) [.ref x, b]) (fun v s' => ∃ k, v = .bool k ∧ Q (.bool (!k)) s') E s) :
    wpAny (model prog w) A (richCompare .NotEq (.ref x) b) Q E s := by
  have one := ne_try (K := K) hu X I hn he hf hm h
  unfold richCompare
  simp only [oneThing_ref]
  refine wpAny_holding (wpAny_bind (wpAny_cRoomFor (Nat.lt_of_succ_lt hu) ?_))
  refine wpAny_bind (I.type.here (wpAny_bind (hb.here ?_)))
  rw [cmpInfo_NotEq]
  dsimp only
  split
  · rename_i q
    have e : PySem.W.subIn K tb (.ref C) = some false := by
      rcases Bool.or_eq_true_iff.mp hnf with e | e
      · rw [beq_iff_eq.mp e] at q; simp at q
      · exact beq_iff_eq.mp e
    refine wpAny_bind ((PySem.W.looks_subIn X e).here ?_)
    simp only [Bool.false_eq_true, if_false]
    refine wpAny_bind (wpAny_mono one (fun r s' z => ?_) fun _ _ e => e)
    obtain ⟨v, rfl, hq⟩ := z
    exact wpAny_pure hq
  · refine wpAny_bind (wpAny_pure ?_)
    simp only [Bool.false_eq_true, if_false]
    refine wpAny_bind (wpAny_mono one (fun r s' z => ?_) fun _ _ e => e)
    obtain ⟨v, rfl, hq⟩ := z
    exact wpAny_pure hq
/-- abs(x) by the own __abs__ -/
theorem abs_K {Q : Value → Shared → Prop} (X : K.In s.heap) (I : PySem.W.InstAt s.heap x (PySem.W.instObj C dx) C od) (hs : PySem.W.findIn K (.ref C) "__abs__" = some (some (.ref f))) (hf : PySem.W.isFn K (.ref f) = true)
    (h : wpAny (model prog w) A.in1 (call (.ref f) [.ref x]) Q E s) : wpAny (model prog w) A (call (.builtin "abs") [.ref x]) Q E s := by
  refine PySem.Calls.call_function_entry kind_abs plain_abs entry_abs (args_abs _) ?_
  unfold Builtin.«abs»
  refine wpAny_bind (m := oneArg "abs" _) (wpAny_pure ?_)
  refine wpAny_bind (m := callSpecial? (.ref x) (Str.ofString "__abs__")) (PySem.W.special_fn X I hs (beq_iff_eq.mp hf) (wpAny_mono h (fun v s' hv => ?_) fun _ _ e => e))
  exact wpAny_pure ⟨_, rfl, hv⟩
end
end
section
open PySem PySem.Spec PyProof.Rows L2
section
variable {prog : Program} {w : World} {A : Around} {E : Value → Shared → Prop} {s : Shared} {K : PySem.W.Frag} {x C f g : Addr} {dx : Addr} {od : Option Obj}
theorem boolnew_K {Q : Value → Shared → Prop} (X : K.In s.heap) (I : PySem.W.InstAt s.heap x (PySem.W.instObj C dx) C od) (hs : PySem.W.findIn K (.ref C) "__bool__" = some (some (.ref f))) (hf : PySem.W.isFn K (.ref f) = true)
    (h : wpAny (model prog w) A.in1.in1 (call (.ref f) [.ref x]) (PySem.W.BoolBack fun b s' => Q (.bool b) s') E s) : wpAny (model prog w) A (call (.type "bool") [.ref x]) Q E s := by
  refine callType_codes (T := "bool") (Bi := Builtin.«object.__init__») (Q₁ := fun r s₁ => ∃ b, r = .bool b ∧ Q r s₁) PySem.F.called_bool (PySem.F.typeCall_bool_1 _) PySem.F.entry_object_init ?_ ?_
  · refine codeAny_of_tree ?_
    show wpAny _ A.in1.in1 (do checkBuiltinCall "bool.__new__" ⟨[.type "bool", .ref x], []⟩; again (.builtin "bool.__new__" ⟨[.type "bool", .ref x], []⟩)) _ _ s
    refine wpAny_bind (wpAny_of_eq (PySem.F.newCall_bool_1 _) (wpAny_pure ⟨plainId_quiet (by decide +kernel) _, codeAny_builtin PySem.F.entry_bool_new ?_⟩))
    rw [Around.under_plainId (by decide +kernel) _]
    unfold Builtin.«bool.__new__»
    have f1 := F.conv_sub_bool
    have tr : ∀ {Q' : Bool → Shared → Prop}, (∀ b s', Q (.bool b) s' → Q' b s') → wpAny (model prog w) A.in1.in1 (truthy (.ref x)) Q' E s := fun {Q'} k => by
      unfold truthy
      refine wpAny_bind (m := callSpecial? (.ref x) (Str.ofString "__bool__")) (PySem.W.special_fn X I hs (beq_iff_eq.mp hf) (wpAny_mono h (fun r s' hr => ?_) fun _ _ y => y))
      cases r <;> first | exact hr.elim | skip
      exact wpAny_pure (k _ _ hr)
    repeat (any_goals (first | assumption | (with_reducible refine tr ?_; intro b s' q) | wp_step))
    all_goals first | exact ⟨_, rfl, q⟩ | exact ⟨_, rfl, _, rfl, q⟩ | skip
  · rintro obj s₁ ⟨b, rfl, hq⟩
    exact ⟨rfl, PySem.F.args_object_init_2 _ _, object_init_meets PySem.F.called_bool.init.lookup PySem.F.called_bool.made (by decide) prog w A.in1 _ s₁ ⟨rfl, rfl, hq⟩⟩
end
section
variable {X : Cx} {CX : CXT} {pins : List (Addr × Obj)} {σ : L2.St} {H : Hp} {s : Shared} {C C' f g : Addr} {n : Nat} {sp : Sp} {E : XK}
theorem ins_inst (I : Inv X pins σ H s) {a dx : Addr} {fs : List (Str × V)} (h : H a = some (.ins C dx fs)) : ∃ od, PySem.W.InstAt s.heap a (PySem.W.instObj C dx) C (some od) := by
  obtain ⟨mA, O, _⟩ := ins_get I.hok h
  obtain ⟨od, J, _⟩ := O.look
  exact ⟨od, J⟩
theorem cb_of {Q : VK} {v : Value} {s' : Shared} (h : EP X pins σ Q v s') : PySem.W.CmpBack (EP X pins σ Q) v s' := by
  obtain ⟨z, H', I', rz, q⟩ := h
  exact SlX.cmpback rz ⟨z, H', I', rz, q⟩
/-- what an operator asks: the promise of the class's def, of the instance and the other value -/
def rO (C : Addr) (sp : Sp) (E : XK) (ok : V → Hp → Prop) : R2 := fun x y H Q => ∃ a dx fs, x = .ref a ∧ H a = some (.ins C dx fs) ∧ ok y H ∧ sp [.ref a, y] H Q E
/-- reflected: the instance on the right -/
def rOr (C : Addr) (sp : Sp) (E : XK) : R2 := fun x y H Q => ∃ a dx fs i, x = .int i ∧ y = .ref a ∧ H a = some (.ins C dx fs) ∧ sp [.ref a, .int i] H Q E
def isIns (C : Addr) : V → Hp → Prop := fun y H => ∃ b dy gs, y = .ref b ∧ H b = some (.ins C dy gs)
def isInt : V → Hp → Prop := fun y _ => ∃ i, y = .int i
theorem op_bin2 {op : Operator} (hc : PySem.W.selfFirst X.K C = true) (hs : PySem.W.findIn X.K (.ref C) (PySem.dunder op.info.2) = some (some (.ref f))) (hf : PySem.W.isFn X.K (.ref f) = true) (F : FnR X.prog X.w X.K X.mg X.base CX n f sp) (hr : Room n X.A)
    (hx : Passes CX X E) : OpR X (binaryOp op) (rO C sp E (isIns C)) := by
  intro pins s σ H x y v u Q I rx ry h
  obtain ⟨a, dx, fs, rfl, ha, ⟨b, dy, gs, rfl, hb⟩, q⟩ := h
  cases (show v = Value.ref a from rx)
  cases (show u = Value.ref b from ry)
  obtain ⟨od, J⟩ := ins_inst I ha
  obtain ⟨od', J'⟩ := ins_inst I hb
  obtain ⟨m, hF⟩ := I.fr
  exact PySem.W.binop_K hF I.ok.mod.kin J J'.type hc hs hf (thn (wpAny_call (run_fnR (us := [.ref a, .ref b]) (vs := [.ref a, .ref b]) F hr hx I (.cons rfl (.cons rfl .nil)) q)) fun _ _ z => cb_of z)
theorem op_binI {op : Operator} {fo ro rc : Option Value} (hc : PySem.W.selfFirst X.K C = true) (hs : PySem.W.findIn X.K (.ref C) (PySem.dunder op.info.2) = some (some (.ref f))) (hf : PySem.W.isFn X.K (.ref f) = true)
    (hrc : PySem.W.findIn X.K (.ref C) (dunderR op.info.2) = some rc) (hp : rc = none ∨ ∃ g : Addr, rc = some (.ref g)) (h1 : PySem.W.findIn X.K (.type "int") (PySem.dunder op.info.2) = some fo) (h2 : PySem.W.findIn X.K (.type "int") (dunderR op.info.2) = some ro)
    (hsub : PySem.W.subIn X.K (.type "int") (.ref C) = some false) (F : FnR X.prog X.w X.K X.mg X.base CX n f sp) (hr : Room n X.A) (hx : Passes CX X E) : OpR X (binaryOp op) (rO C sp E isInt) := by
  intro pins s σ H x y v u Q I rx ry h
  obtain ⟨a, dx, fs, rfl, ha, ⟨i, rfl⟩, q⟩ := h
  cases (show v = Value.ref a from rx)
  obtain ⟨t, rfl⟩ := ry
  obtain ⟨od, J⟩ := ins_inst I ha
  obtain ⟨m, hF⟩ := I.fr
  exact PySem.W.ksp_binT (T := "int") hF I.ok.mod.kin J rfl hc hs hf hrc hp h1 h2 hsub (thn (wpAny_call (run_fnR (us := [.ref a, .int i t]) (vs := [.ref a, .int i]) F hr hx I (.cons rfl (.cons ⟨t, rfl⟩ .nil)) q)) fun _ _ z => cb_of z)
theorem op_rbin {op : Operator} {id : String} {B : Builtin} (hc : PySem.W.selfFirst X.K C = true) (hs : PySem.W.findIn X.K (.ref C) (PySem.dunder op.info.2) = some (some (.ref g))) (hrf : PySem.W.findIn X.K (.ref C) (dunderR op.info.2) = some (some (.ref f)))
    (hf : PySem.W.isFn X.K (.ref f) = true) (hsub : PySem.W.subIn X.K (.ref C) (.type "int") = some false)
    (fills : fillsNumberSlot (.type "int") op.info.2 = pure true) (slot : Slot "int" (PySem.dunder op.info.2) id) (entry : entryFor table id = some B) (args : ∀ a b : Value, argsOk id ⟨[a, b], []⟩)
    (g0 : ∀ i t x C dx, Meets (B ⟨[.int i t, .ref x], []⟩) (fun _ R s => s.heap.get? x = some (PySem.W.instObj C dx) ∧ R (.ok (.ret Value.notImplemented)) s))
    (F : FnR X.prog X.w X.K X.mg X.base CX n f sp) (hr : Room n X.A) (hx : Passes CX X E) : OpR X (binaryOp op) (rOr C sp E) := by
  intro pins s σ H x y v u Q I rx ry h
  obtain ⟨a, dx, fs, i, rfl, rfl, ha, q⟩ := h
  cases (show u = Value.ref a from ry)
  obtain ⟨t, rfl⟩ := rx
  obtain ⟨od, J⟩ := ins_inst I ha
  exact rbin_K I.kIn J hc hs hrf hf hsub fills slot entry (args _ _) (g0 i t a C dx) (thn (wpAny_call (run_fnR (us := [.ref a, .int i t]) (vs := [.ref a, .int i]) F hr hx I (.cons rfl (.cons ⟨t, rfl⟩ .nil)) q)) fun _ _ z => cb_of z)
/-- the type of the other value of a comparison, told by the abstract heap -/
inductive TyC (X : Cx) (H : Hp) : V → Value → Prop where
  | of {y : V} {t : Value} (h : TyX X.K H y t) : TyC X H y t
theorem ty_look {y : V} {t u : Value} (I : Inv X pins σ H s) (ry : RelV y u) (h : TyX X.K H y t) : PySem.W.Looks (model X.prog X.w) s.heap (typeOf u) t := by
  have ld : ∀ {a : Addr} {o : Obj} {c : Value}, s.heap.get? a = some o → o.cls = c → PySem.W.Looks (model X.prog X.w) s.heap (typeOf (.ref a)) c := fun {a o c} e z => by
    subst z
    exact (PySem.W.Looks.ld (part := none) e).andThen .now
  cases h with
  | base b =>
    cases b with
    | non => cases (show u = Value.none from ry); exact PySem.W.Looks.of_pure rfl
    | bl y => cases (show u = Value.bool y from ry); exact PySem.W.Looks.of_pure rfl
    | int i => obtain ⟨t, q⟩ := (show ∃ t, u = Value.int i t from ry); cases q; exact PySem.W.Looks.of_pure rfl
    | str y => obtain ⟨t, q⟩ := (show ∃ t, u = Value.str y t from ry); cases q; exact PySem.W.Looks.of_pure rfl
    | flt y => obtain ⟨t, q⟩ := (show ∃ t, u = Value.float y t from ry); cases q; exact PySem.W.Looks.of_pure rfl
    | @lst a xs ea =>
      cases (show u = Value.ref a from ry)
      obtain ⟨_, _, n, _, h1⟩ := (show ObjOk X.prog X.w H s.heap a (.lst xs) from I.hok a _ ea)
      exact ld h1 rfl
    | @frz a ob xs ea =>
      cases (show u = Value.ref a from ry)
      obtain ⟨_, _, _, n, _, h1⟩ := (show ObjOk X.prog X.w H s.heap a (.frz ob (.lst xs)) from I.hok a _ ea)
      exact ld h1 rfl
    | @tup a xs ea =>
      cases (show u = Value.ref a from ry)
      obtain ⟨_, _, _, o, h1, h2, _⟩ := (show ObjOk X.prog X.w H s.heap a (.tup xs) from I.hok a _ ea)
      exact ld h1 h2
    | @dK a kvs ea =>
      cases (show u = Value.ref a from ry)
      obtain ⟨_, _, vs, _, o, es, ep, h1, h2, _⟩ := (show ObjOk X.prog X.w H s.heap a (.dK kvs) from I.hok a _ ea)
      exact ld h1 h2.1
    | @dT a kvs ea =>
      cases (show u = Value.ref a from ry)
      obtain ⟨_, _, xs, _, o, es, ep, h1, h2, _⟩ := (show ObjOk X.prog X.w H s.heap a (.dT kvs) from I.hok a _ ea)
      exact ld h1 h2.1
    | @ins a C dx fs ea cl ha hn htk hm =>
      cases (show u = Value.ref a from ry)
      obtain ⟨od, J⟩ := ins_inst I ea
      exact J.type
  | byt y => obtain ⟨t, q⟩ := (show ∃ t, u = Value.bytes y t from ry); cases q; exact PySem.W.Looks.of_pure rfl
  | @set a S n ea =>
    cases (show u = Value.ref a from ry)
    obtain ⟨o, _, _, _, e, ex, _⟩ := I.hok a _ ea
    exact ld e ex.1
  | @kList a o e c => cases (show u = Value.ref a from ry); exact ld (I.kIn a o e) c
  | @kTuple a o e c => cases (show u = Value.ref a from ry); exact ld (I.kIn a o e) c
  | @kDict a o e c => cases (show u = Value.ref a from ry); exact ld (I.kIn a o e) c
  | @fTuple a ob xs ea =>
    cases (show u = Value.ref a from ry)
    obtain ⟨_, _, _, _, o, h1, h2, _⟩ := (show ObjOk X.prog X.w H s.heap a (.frz ob (.tup xs)) from I.hok a _ ea)
    exact ld h1 h2
  | @fDict a ob kvs ea =>
    cases (show u = Value.ref a from ry)
    obtain ⟨_, _, _, vs, _, o, es, ep, h1, h2, _⟩ := (show ObjOk X.prog X.w H s.heap a (.frz ob (.dK kvs)) from I.hok a _ ea)
    exact ld h1 h2.1
/-- the other value of a comparison: of a type that does not come first -/
def isAny (K : PySem.W.Frag) (C : Addr) : V → Hp → Prop := fun y H => ∃ t, TyX K H y t ∧ PySem.W.notFirst K C t = true
theorem op_cmp {op : CmpOp} (hop : ∀ a b, compareOp op a b = richCompare op a b) (hs : PySem.W.findIn X.K (.ref C) (cmpInfo op).2.1 = some (some (.ref f))) (hf : PySem.W.isFn X.K (.ref f) = true) (F : FnR X.prog X.w X.K X.mg X.base CX n f sp)
    (hr : Room n X.A) (hx : Passes CX X E) : OpR X (compareOp op) (rO C sp E (isAny X.K C)) := by
  intro pins s σ H x y v u Q I rx ry h
  obtain ⟨a, dx, fs, rfl, ha, ⟨t, ht, hn⟩, q⟩ := h
  cases (show v = Value.ref a from rx)
  obtain ⟨od, J⟩ := ins_inst I ha
  obtain ⟨m, hF⟩ := I.fr
  rw [hop]
  exact PySem.W.cmp_K hr.units0 hF I.ok.mod.kin J (ty_look I ry ht) hn hs hf (thn (wpAny_call (run_fnR (us := [.ref a, u]) (vs := [.ref a, y]) F hr hx I (.cons rfl (.cons ry .nil)) q)) fun _ _ z => cb_of z)
theorem op_rcmp {op : CmpOp} {id : String} {B : Builtin} (hop : ∀ a b, compareOp op a b = richCompare op a b) (hs : PySem.W.findIn X.K (.ref C) (cmpInfo op).2.2 = some (some (.ref f))) (hf : PySem.W.isFn X.K (.ref f) = true)
    (hsub : PySem.W.subIn X.K (.ref C) (.type "int") = some false) (slot : Slot "int" (cmpInfo op).2.1 id) (entry : entryFor table id = some B) (args : ∀ a b : Value, argsOk id ⟨[a, b], []⟩)
    (g0 : ∀ i t x C dx, Meets (B ⟨[.int i t, .ref x], []⟩) (fun _ R s => s.heap.get? x = some (PySem.W.instObj C dx) ∧ R (.ok (.ret Value.notImplemented)) s))
    (F : FnR X.prog X.w X.K X.mg X.base CX n f sp) (hr : Room n X.A) (hx : Passes CX X E) : OpR X (compareOp op) (rOr C sp E) := by
  intro pins s σ H x y v u Q I rx ry h
  obtain ⟨a, dx, fs, i, rfl, rfl, ha, q⟩ := h
  cases (show u = Value.ref a from ry)
  obtain ⟨t, rfl⟩ := rx
  obtain ⟨od, J⟩ := ins_inst I ha
  rw [hop]
  exact rcmp_K hr.units0 I.kIn J hs hf hsub slot entry (args _ _) (g0 i t a C dx) (thn (wpAny_call (run_fnR (us := [.ref a, .int i t]) (vs := [.ref a, .int i]) F hr hx I (.cons rfl (.cons ⟨t, rfl⟩ .nil)) q)) fun _ _ z => cb_of z)
/-- the callee runs one C level deeper -/
theorem run_fnR1 {Q : VK} {us : List Value} {vs : List V} {A : Around} (F : FnR X.prog X.w X.K X.mg X.base CX n f sp) (hr : Room n A) (e0 : Env0 X.prog X.w X.K X.mg X.base A X.stack s H) (hx : Passes CX X E) (I : Inv X pins σ H s) (r : Vals vs us) (h : sp vs H Q E) :
    wpAny (model X.prog X.w) A (call (.ref f) us) (EP X pins σ Q) X.xe s := wpAny_call (SlX.run_at F hr e0 hx I r h)
/-- what comes back is a bool -/
def kB (Q : VK) : VK := fun v H => ∃ b, v = .bl b ∧ Q (.bl b) H
def kNB (Q : VK) : VK := fun v H => ∃ b, v = .bl b ∧ Q (.bl (!b)) H
def rNO (C : Addr) (sp : Sp) (E : XK) (ok : V → Hp → Prop) : R2 := fun x y H Q => ∃ a dx fs, x = .ref a ∧ H a = some (.ins C dx fs) ∧ ok y H ∧ sp [.ref a, y] H (kNB Q) E
theorem op_ne1 (hn : PySem.W.findIn X.K (.ref C) "__ne__" = some (some (.builtin "object.__ne__"))) (hm : PySem.W.mroIn X.K C (.type "object") = some true) (hs : PySem.W.findIn X.K (.ref C) "__eq__" = some (some (.ref f))) (hf : PySem.W.isFn X.K (.ref f) = true)
    (F : FnR X.prog X.w X.K X.mg X.base CX n f sp) (hr : Room (n + 1) X.A) (hx : Passes CX X E) : OpR X (compareOp .NotEq) (rNO C sp E (isAny X.K C)) := by
  intro pins s σ H x y v u Q I rx ry h
  obtain ⟨a, dx, fs, rfl, ha, ⟨t, ht, hnf⟩, q⟩ := h
  cases (show v = Value.ref a from rx)
  obtain ⟨od, J⟩ := ins_inst I ha
  show wpAny _ _ (richCompare .NotEq _ _) _ _ _
  refine ne_K (by have := hr.units; omega) I.kIn J (ty_look I ry ht) hnf hn hs hf hm (thn (run_fnR1 (us := [.ref a, u]) (vs := [.ref a, y]) F hr.in1 I.env0.in1 hx I (.cons rfl (.cons ry .nil)) q) fun v s' z => ?_)
  obtain ⟨z, H', I', rz, b, ez, q'⟩ := z
  subst ez
  cases rz
  exact ⟨b, rfl, .bl (!b), H', I', rfl, q'⟩
def rU1 (C : Addr) (sp : Sp) (E : XK) : V → Hp → VK → Prop := fun x H Q => ∃ a dx fs, x = .ref a ∧ H a = some (.ins C dx fs) ∧ sp [.ref a] H Q E
theorem un_negO (hs : PySem.W.findIn X.K (.ref C) "__neg__" = some (some (.ref f))) (hf : PySem.W.isFn X.K (.ref f) = true) (F : FnR X.prog X.w X.K X.mg X.base CX n f sp) (hr : Room n X.A) (hx : Passes CX X E) : UnR X (unaryOp .USub) (rU1 C sp E) := by
  intro pins s σ H x v Q I rx h
  obtain ⟨a, dx, fs, rfl, ha, q⟩ := h
  cases (show v = Value.ref a from rx)
  obtain ⟨od, J⟩ := ins_inst I ha
  obtain ⟨m, hF⟩ := I.fr
  exact PySem.W.ksp_neg hF I.ok.mod.kin J hs hf (wpAny_call (run_fnR (us := [.ref a]) (vs := [.ref a]) F hr hx I (.cons rfl .nil) q))
theorem un_invO (hs : PySem.W.findIn X.K (.ref C) "__invert__" = some (some (.ref f))) (hf : PySem.W.isFn X.K (.ref f) = true) (F : FnR X.prog X.w X.K X.mg X.base CX n f sp) (hr : Room n X.A) (hx : Passes CX X E) : UnR X (unaryOp .Invert) (rU1 C sp E) := by
  intro pins s σ H x v Q I rx h
  obtain ⟨a, dx, fs, rfl, ha, q⟩ := h
  cases (show v = Value.ref a from rx)
  obtain ⟨od, J⟩ := ins_inst I ha
  obtain ⟨m, hF⟩ := I.fr
  exact PySem.W.ksp_inv hF I.ok.mod.kin J hs hf (wpAny_call (run_fnR (us := [.ref a]) (vs := [.ref a]) F hr hx I (.cons rfl .nil) q))
/-- a call of a built-in with one instance -/
def rC1 (C : Addr) (sp : Sp) (E : XK) (k : VK → VK) : List V → Hp → VK → Prop := fun xs H Q => ∃ a dx fs, xs = [.ref a] ∧ H a = some (.ins C dx fs) ∧ sp [.ref a] H (k Q) E
def kS (Q : VK) : VK := fun v H => ∃ z, v = .str z ∧ Q (.str z) H
theorem call_absO (hs : PySem.W.findIn X.K (.ref C) "__abs__" = some (some (.ref f))) (hf : PySem.W.isFn X.K (.ref f) = true) (F : FnR X.prog X.w X.K X.mg X.base CX n f sp) (hr : Room (n + 1) X.A) (hx : Passes CX X E) : CallR X (.builtin "abs") (rC1 C sp E id) := by
  intro pins s σ H xs us Q I r h
  obtain ⟨a, dx, fs, rfl, ha, q⟩ := h
  obtain ⟨u, rfl, ru⟩ := vals1 r
  cases (show u = Value.ref a from ru)
  obtain ⟨od, J⟩ := ins_inst I ha
  exact abs_K I.kIn J hs hf (run_fnR1 (us := [.ref a]) (vs := [.ref a]) F hr.in1 I.env0.in1 hx I (.cons rfl .nil) q)
theorem call_boolO (hs : PySem.W.findIn X.K (.ref C) "__bool__" = some (some (.ref f))) (hf : PySem.W.isFn X.K (.ref f) = true) (F : FnR X.prog X.w X.K X.mg X.base CX n f sp) (hr : Room (n + 2) X.A) (hx : Passes CX X E) : CallR X (.type "bool") (rC1 C sp E kB) := by
  intro pins s σ H xs us Q I r h
  obtain ⟨a, dx, fs, rfl, ha, q⟩ := h
  obtain ⟨u, rfl, ru⟩ := vals1 r
  cases (show u = Value.ref a from ru)
  obtain ⟨od, J⟩ := ins_inst I ha
  refine boolnew_K I.kIn J hs hf (thn (run_fnR1 (us := [.ref a]) (vs := [.ref a]) F (show Room n X.A.in1.in1 from (Room.in1 (k := n + 1) hr).in1) I.env0.in1.in1 hx I (.cons rfl .nil) q) fun v s' z => ?_)
  obtain ⟨z, H', I', rz, b, ez, q'⟩ := z
  subst ez
  cases rz
  exact ⟨.bl b, H', I', rfl, q'⟩
theorem call_strO (hs : PySem.W.findIn X.K (.ref C) "__str__" = some (some (.ref f))) (hf : PySem.W.isFn X.K (.ref f) = true) (F : FnR X.prog X.w X.K X.mg X.base CX n f sp) (hr : Room (n + 2) X.A) (hx : Passes CX X E) : CallR X (.type "str") (rC1 C sp E kS) := by
  intro pins s σ H xs us Q I r h
  obtain ⟨a, dx, fs, rfl, ha, q⟩ := h
  obtain ⟨u, rfl, ru⟩ := vals1 r
  cases (show u = Value.ref a from ru)
  obtain ⟨od, J⟩ := ins_inst I ha
  have hr2 : Room n X.A.in1.in1 := (Room.in1 (k := n + 1) hr).in1
  refine PySem.W.kso_call hr2.units0 I.kIn J hs hf (thn (run_fnR1 (us := [.ref a]) (vs := [.ref a]) F hr2 I.env0.in1.in1 hx I (.cons rfl .nil) q) fun v s' z => ?_)
  obtain ⟨z, H', I', rz, b, ez, q'⟩ := z
  subst ez
  obtain ⟨t, rfl⟩ := (show ∃ t, v = Value.str b t from rz)
  exact ⟨.str b, H', I', ⟨t, rfl⟩, q'⟩
/-- truth by the own __bool__ -/
theorem tru_O (hs : PySem.W.findIn X.K (.ref C) "__bool__" = some (some (.ref f))) (hf : PySem.W.isFn X.K (.ref f) = true) (F : FnR X.prog X.w X.K X.mg X.base CX n f sp) (hr : Room n X.A) (hx : Passes CX X E) :
    TruR X (fun x H Q => ∃ a dx fs, x = .ref a ∧ H a = some (.ins C dx fs) ∧ sp [.ref a] H (fun v H' => ∃ b, v = .bl b ∧ Q b H') E) := by
  intro pins s σ H x v Q I rx h
  obtain ⟨a, dx, fs, rfl, ha, q⟩ := h
  cases (show v = Value.ref a from rx)
  obtain ⟨od, J⟩ := ins_inst I ha
  obtain ⟨m, hF⟩ := I.fr
  refine PySem.W.truthy_K hF I.ok.mod.kin J hs hf (thn (wpAny_call (run_fnR (us := [.ref a]) (vs := [.ref a]) F hr hx I (.cons rfl .nil) q)) fun v s' z => ?_)
  obtain ⟨z, H', I', rz, b, ez, q'⟩ := z
  subst ez
  cases rz
  exact ⟨H', I', q'⟩
end
end
section
open PySem PySem.Spec PyProof.Rows L2
def Ex (H H' : Hp) : Prop := ∀ a o, H a = some o → H' a = some o
def Stab : HO → Prop
  | .dK _ => False
  | _ => True
/-- all but dicts stands as it was -/
def Le (H H' : Hp) : Prop := ∀ a o, H a = some o → Stab o → H' a = some o
theorem Ex.refl (H : Hp) : Ex H H := fun _ _ h => h
theorem Ex.trans {H H1 H2 : Hp} (a : Ex H H1) (b : Ex H1 H2) : Ex H H2 := fun x o h => b x o (a x o h)
theorem Ex.le {H H' : Hp} (e : Ex H H') : Le H H' := fun a o h _ => e a o h
theorem Le.refl (H : Hp) : Le H H := fun _ _ h _ => h
theorem Le.trans {H H1 H2 : Hp} (a : Le H H1) (b : Le H1 H2) : Le H H2 := fun x o h s => b x o (a x o h s) s
theorem Ex.new {H : Hp} {p : Addr} {o : HO} (h : H p = none) : Ex H (upd H p o) := fun a u e => by
  rw [upd_ne (ne_of_none e h)]
  exact e
theorem Ex.new2 {H : Hp} {p q : Addr} {o u : HO} (h : H p = none) (h' : H q = none) : Ex H (upd (upd H p o) q u) := fun a v e => by
  rw [upd_ne (ne_of_none e h'), upd_ne (ne_of_none e h)]
  exact e
theorem Le.dict {H : Hp} {p : Addr} {kvs : List (Key × V)} {o : HO} (h : H p = some (.dK kvs)) : Le H (upd H p o) := fun a u e s => by
  have : a ≠ p := fun z => by subst z; rw [h] at e; cases e; exact s
  rw [upd_ne this]
  exact e
structure Cl (P : Program) (w : World) (K : PySem.W.Frag) (mg : Str → Option Value) (base : Heap) (k : Nat) (x : Str) (sp : Sp) : Prop where
  ex : ∃ (f : Addr) (fd : FuncData) (ps : List Str), FnOk P w K mg base (L2.CX P w) k f fd ps sp ∧ mg x = some (.ref f) ∧ PySem.W.keepIn K (.ref f) = true ∧ Binds K fd ps []
structure Cm (P : Program) (w : World) (K : PySem.W.Frag) (mg : Str → Option Value) (base : Heap) (k : Nat) (C : Addr) (m : Str) (f : Addr) (sp : Sp) : Prop where
  ex : ∃ (fd : FuncData) (ps : List Str), FnOk P w K mg base (L2.CX P w) k f fd ps sp ∧ Binds K fd ps []
  me : Meth K C m f
section
variable {P : Program} {w : World} {K : PySem.W.Frag} {mg : Str → Option Value} {base : Heap} {k j : Nat} {x m : Str} {C f : Addr} {sp sp' : Sp}
theorem Cm.fnr (c : Cm P w K mg base k C m f sp) : FnR P w K mg base (L2.CX P w) k f sp := by
  obtain ⟨fd, ps, F, b⟩ := c.ex
  have q := F.raw (dvs := []) b .nil
  intro A outer s H us vs Q E hr e0 r hs
  exact q A outer s H us vs Q E hr e0 r (by show sp (vs ++ []) H Q E; rw [List.append_nil]; exact hs)
theorem Cm.fn (c : Cm P w K mg base k C m f sp) : PySem.W.isFn K (.ref f) = true := c.me.fn
theorem Cm.at_ (c : Cm P w K mg base k C m f sp) : PySem.W.findIn K (.ref C) m = some (some (.ref f)) := c.me.at_
theorem Cl.imp (c : Cl P w K mg base k x sp) (h : ∀ vs H Q E, sp' vs H Q E → sp vs H Q E) : Cl P w K mg base k x sp' := by
  obtain ⟨f, fd, ps, F, r⟩ := c.ex
  exact ⟨f, fd, ps, F.imp h, r⟩
theorem Cm.imp (c : Cm P w K mg base k C m f sp) (h : ∀ vs H Q E, sp' vs H Q E → sp vs H Q E) : Cm P w K mg base k C m f sp' := by
  obtain ⟨fd, ps, F, r⟩ := c.ex
  exact ⟨⟨fd, ps, F.imp h, r⟩, c.me⟩
end
section
variable {X : Cx} {k j : Nat} {x m : Str} {C f : Addr} {sp : Sp} {E : XK} {e o : Expr} {es : List Expr} {t : TA} {ta : TE} {p pos apos : Pos}
def tC1 (sp : Sp) (E : XK) (t : TA) : TE := fun σ H Q => t σ H fun vs H1 => sp vs H1 Q E
def tM1 (C : Addr) (m : Str) (sp : Sp) (E : XK) (ta : TE) (t : TA) : TE := fun σ H Q => ta σ H fun x H1 => ∃ a dx fs, x = .ref a ∧ H1 a = some (.ins C dx fs) ∧ fs.lookup m = none ∧ t σ H1 fun vs H2 => sp (.ref a :: vs) H2 Q E
theorem pe_cl (c : Cl X.prog X.w X.K X.mg X.base k x sp) (hr : Room j X.A) (hk : k ≤ j) (hg : Gl X x) (hx : Passes (L2.CX X.prog X.w) X E) (ha : PA X (e :: es) t) (hdb : (x == ("__debug__" : Str)) = false := by decide)
    (he : starEach (e :: es) X.env = (false, eval e X.env) :: starEach es X.env := by rfl) (hpl : (backTo pos (starEach es X.env)).any (·.1) = false := by rfl) : PE X (.Call (.Name x p) (e :: es) [] pos) (tC1 sp E t) := by
  obtain ⟨f, fd, ps, F, hm, hkp, hb⟩ := c.ex
  have q := pe_call (p := p) (pos := pos) F (hr.mono hk) hg hm hkp hb .nil hx ha hdb he hpl
  refine ⟨fun pins s σ H Q I h => q.run pins s σ H Q I ?_⟩
  show t σ H fun vs H1 => sp (vs ++ []) H1 Q E
  simp only [List.append_nil]
  exact h
theorem pe_cm {pl : Sem Bool} (cl : Cls X.K C) (c : Cm X.prog X.w X.K X.mg X.base k C m f sp) (hr : Room j X.A) (hk : k ≤ j) (hx : Passes (L2.CX X.prog X.w) X E) (he : PE X o ta) (ha : PA X (e :: es) t)
    (hst : starEach (e :: es) X.env = (false, eval e X.env) :: starEach es X.env := by rfl) (hpl : (backTo pos (starEach es X.env)).any (·.1) = false := by rfl)
    (ht : eval (.Call (.Attribute o m apos) (e :: es) [] pos) X.env = (do
      let ov ← eval o X.env
      standAt apos.atName
      let (f, first) ← holding [ov] (getMethod ov m pl)
      callWith pos f first (backTo pos (starEach (e :: es) X.env)) (backToKw pos (keywordEach [] X.env))) := by rfl) :
    PE X (.Call (.Attribute o m apos) (e :: es) [] pos) (tM1 C m sp E ta t) := by
  obtain ⟨fd, ps, F, b⟩ := c.ex
  have q := pe_meth (pos := pos) (apos := apos) he cl c.me F (hr.mono hk) b .nil hx ha hst hpl ht
  refine ⟨fun pins s σ H Q I h => q.run pins s σ H Q I ?_⟩
  show ta σ H fun x H1 => ∃ a dx fs, x = .ref a ∧ H1 a = some (.ins C dx fs) ∧ fs.lookup m = none ∧ t σ H1 fun vs H2 => sp (x :: (vs ++ [])) H2 Q E
  simp only [List.append_nil]
  have e : (fun (x : V) (H1 : Hp) => ∃ a dx fs, x = .ref a ∧ H1 a = some (.ins C dx fs) ∧ fs.lookup m = none ∧ t σ H1 fun vs H2 => sp (x :: vs) H2 Q E) = (fun (x : V) (H1 : Hp) => ∃ a dx fs, x = .ref a ∧ H1 a = some (.ins C dx fs) ∧ fs.lookup m = none ∧ t σ H1 fun vs H2 => sp (.ref a :: vs) H2 Q E) := by
    funext x H1
    apply propext
    constructor
    · rintro ⟨a, dx, fs, rfl, r⟩; exact ⟨a, dx, fs, rfl, r⟩
    · rintro ⟨a, dx, fs, rfl, r⟩; exact ⟨a, dx, fs, rfl, r⟩
  rw [e]
  exact h
theorem pe_cm0 {pl : Sem Bool} (cl : Cls X.K C) (c : Cm X.prog X.w X.K X.mg X.base k C m f sp) (hr : Room j X.A) (hk : k ≤ j) (hx : Passes (L2.CX X.prog X.w) X E) (he : PE X o ta)
    (ht : eval (.Call (.Attribute o m apos) [] [] pos) X.env = (do
      let ov ← eval o X.env
      standAt apos.atName
      let (f, first) ← holding [ov] (getMethod ov m pl)
      callWith pos f first (backTo pos (starEach [] X.env)) (backToKw pos (keywordEach [] X.env))) := by rfl) :
    PE X (.Call (.Attribute o m apos) [] [] pos) (tM1 C m sp E ta tNil) := by
  obtain ⟨fd, ps, F, b⟩ := c.ex
  have q := pe_meth0 (pos := pos) (apos := apos) he cl c.me F (hr.mono hk) b .nil hx ht
  refine ⟨fun pins s σ H Q I h => q.run pins s σ H Q I ?_⟩
  show ta σ H fun x H1 => ∃ a dx fs, x = .ref a ∧ H1 a = some (.ins C dx fs) ∧ fs.lookup m = none ∧ sp (x :: ([] ++ [])) H1 Q E
  have e : (fun (x : V) (H1 : Hp) => ∃ a dx fs, x = .ref a ∧ H1 a = some (.ins C dx fs) ∧ fs.lookup m = none ∧ sp (x :: ([] ++ [])) H1 Q E) = (fun (x : V) (H1 : Hp) => ∃ a dx fs, x = .ref a ∧ H1 a = some (.ins C dx fs) ∧ fs.lookup m = none ∧ sp (.ref a :: []) H1 Q E) := by
    funext x H1
    apply propext
    constructor
    · rintro ⟨a, dx, fs, rfl, r⟩; exact ⟨a, dx, fs, rfl, r⟩
    · rintro ⟨a, dx, fs, rfl, r⟩; exact ⟨a, dx, fs, rfl, r⟩
  rw [e]
  exact h
/-- C(e, ..), __init__'s promise given the fresh instance; dvs fill up the defaults -/
structure Ck (P : Program) (w : World) (K : PySem.W.Frag) (mg : Str → Option Value) (base : Heap) (k : Nat) (x : Str) (C : Addr) (dvs : List V) (sp : Sp) : Prop where
  ex : ∃ (f : Addr) (fd : FuncData) (ps : List Str) (ds : List Value), FnOk P w K mg base (L2.CX P w) k f fd ps sp ∧ Mk K C f ∧ mg x = some (.ref C) ∧ Binds K fd ps ds ∧ Vals dvs ds
def tK1 (C : Addr) (sp : Sp) (dvs : List V) (E : XK) (t : TA) : TE := tMake C sp dvs E t
theorem pe_ck {dvs : List V} (c : Ck X.prog X.w X.K X.mg X.base k x C dvs sp) (hr : Room j X.A) (hk : k + 1 ≤ j) (hg : Gl X x) (hx : Passes (L2.CX X.prog X.w) X E) (ha : PA X (e :: es) t) (hdb : (x == ("__debug__" : Str)) = false := by decide)
    (he : starEach (e :: es) X.env = (false, eval e X.env) :: starEach es X.env := by rfl) (hpl : (backTo pos (starEach es X.env)).any (·.1) = false := by rfl) : PE X (.Call (.Name x p) (e :: es) [] pos) (tK1 C sp dvs E t) := by
  obtain ⟨f, fd, ps, ds, F, M, hm, hb, hv⟩ := c.ex
  exact pe_make M F (hr.mono hk) hg hm hb hv hx ha hdb he hpl
end
/-- in a def's body what a callee raises goes on -/
theorem psE {P : Program} {w : World} {K : PySem.W.Frag} {mg : Str → Option Value} {base : Heap} {N : List Str} {q : Str} {sc : Scope} {f : Addr} {cdv : Value} {A : Around} {outer : List Env} {s : Shared} {H : Hp} {E : XK} :
    Passes (L2.CX P w) (cxOf (L2.CX P w) P w K mg base N q sc f cdv A outer s H E) E := passes_call (W := fun cls d _ H => E cls d H) (takes_of rfl rfl rfl rfl) fun _ _ _ _ h => h
theorem tkE {P : Program} {w : World} {K : PySem.W.Frag} {mg : Str → Option Value} {base : Heap} {N : List Str} {q : Str} {sc : Scope} {f : Addr} {cdv : Value} {A : Around} {outer : List Env} {s : Shared} {H : Hp} {E : XK} :
    Takes (cxOf (L2.CX P w) P w K mg base N q sc f cdv A outer s H E) (fun cls d _ H => E cls d H) := takes_of rfl rfl rfl rfl
section
variable {K : PySem.W.Frag} {σ : L2.St} {H : Hp} {Q : VK} {QT : Bool → Hp → Prop} {QA : List V → Hp → Prop} {D : Ends} {ta tb te : TE} {t u : TT} {tr : TA} {v x y : V} {i : Nat} {r : R2} {ts us ws : TS} {g : TG} {b : Bool}
theorem r_var (h : σ[i]? = some (some v)) (k : Q v H) : tVar i σ H Q := ⟨v, h, k⟩
theorem r_c (k : Q v H) : tC v σ H Q := k
theorem r_op (k : ta σ H fun x H1 => tb σ H1 fun y H2 => r x y H2 Q) : tOp r ta tb σ H Q := k
theorem r_un {ru : V → Hp → VK → Prop} (k : ta σ H fun x H1 => ru x H1 Q) : tUn ru ta σ H Q := k
theorem r_I0 {g : Int → Int → V} {a c : Int} (k : Q (g a c) H) : rI0 g (.int a) (.int c) H Q := ⟨a, c, rfl, rfl, k⟩
theorem r_I {C : Int → Int → Prop} {g : Int → Int → V} {a c : Int} (hc : C a c) (k : Q (g a c) H) : rI C g (.int a) (.int c) H Q := ⟨a, c, rfl, rfl, hc, k⟩
theorem r_U {g : Int → V} {a : Int} (k : Q (g a) H) : rU g (.int a) H Q := ⟨a, rfl, k⟩
theorem r_eqI {a c : Int} (k : Q (.bl (decide (a = c))) H) : rEq (.int a) (.int c) H Q := ⟨rfl, by rw [show decide (V.int a = V.int c) = decide (a = c) from by rw [Bool.eq_iff_iff]; simp]; exact k⟩
theorem r_neI {a c : Int} (k : Q (.bl (!decide (a = c))) H) : rNe (.int a) (.int c) H Q := ⟨rfl, by rw [show decide (V.int a = V.int c) = decide (a = c) from by rw [Bool.eq_iff_iff]; simp]; exact k⟩
theorem r_eqS {a c : Str} (k : Q (.bl (decide (a = c))) H) : rEq (.str a) (.str c) H Q := ⟨rfl, by rw [show decide (V.str a = V.str c) = decide (a = c) from by rw [Bool.eq_iff_iff]; simp]; exact k⟩
theorem r_neS {a c : Str} (k : Q (.bl (!decide (a = c))) H) : rNe (.str a) (.str c) H Q := ⟨rfl, by rw [show decide (V.str a = V.str c) = decide (a = c) from by rw [Bool.eq_iff_iff]; simp]; exact k⟩
theorem r_test (k : te σ H fun x H' => ∃ b, x = .bl b ∧ QT b H') : tTest te σ H QT := k
theorem r_B (k : te σ H fun x H' => ∃ b, x = .bl b ∧ QT b H') : tB te σ H QT := k
theorem r_bl (k : QT b H) : ∃ b', V.bl b = .bl b' ∧ QT b' H := ⟨b, rfl, k⟩
theorem r_and (k : t σ H fun c H1 => if c = true then u σ H1 QT else QT false H1) : tAnd t u σ H QT := k
theorem r_or (k : t σ H fun c H1 => if c = true then QT true H1 else u σ H1 QT) : tOr t u σ H QT := k
theorem r_not (k : t σ H fun c H1 => QT (!c) H1) : tNot t σ H QT := k
theorem r_andV (k : ta σ H fun x H1 => ∃ c, x = .bl c ∧ if c = true then tb σ H1 Q else Q (.bl false) H1) : tAndV ta tb σ H Q := k
theorem r_orV (k : ta σ H fun x H1 => ∃ c, x = .bl c ∧ if c = true then Q (.bl true) H1 else tb σ H1 Q) : tOrV ta tb σ H Q := k
theorem r_notV (k : ta σ H fun x H1 => ∃ c, x = .bl c ∧ Q (.bl (!c)) H1) : tNotV ta σ H Q := k
theorem r_ifE (k : t σ H fun c H1 => if c = true then ta σ H1 Q else tb σ H1 Q) : tIf t ta tb σ H Q := k
theorem r_seq (k : ts { D with nx := us D } σ H) : tSeq ts us D σ H := k
theorem r_next (k : D.nx σ H) : tNext D σ H := k
theorem r_break (k : D.bk σ H) : tBreak D σ H := k
theorem r_cont (k : D.ct σ H) : tCont D σ H := k
theorem r_asg (k : te σ H fun x H1 => g x σ H1 D.nx) : tAsg te g D σ H := k
theorem r_name {QS : L2.St → Hp → Prop} (k : QS (σ.set i (some v)) H) : gName i v σ H QS := k
theorem r_ifS (k : t σ H fun b H1 => if b = true then ts D σ H1 else us D σ H1) : tIfS t ts us D σ H := k
theorem r_ret (k : te σ H D.rt) : tRet te D σ H := k
theorem r_retN (k : D.rt .non H) : tRetN D σ H := k
theorem r_drop (k : te σ H fun _ H1 => D.nx σ H1) : tDrop te D σ H := k
theorem r_nil (k : QA [] H) : tNil σ H QA := k
theorem r_cons (k : ta σ H fun x H1 => tr σ H1 fun xs H2 => QA (x :: xs) H2) : tCons ta tr σ H QA := k
theorem r_c1 {sp : Sp} {E : XK} (k : tr σ H fun vs H1 => sp vs H1 Q E) : tC1 sp E tr σ H Q := k
theorem r_cb {rc : List V → Hp → VK → Prop} (k : tr σ H fun vs H1 => rc vs H1 Q) : tCB rc tr σ H Q := k
def LaidT (xs : List V) (H : Hp) (Q : VK) : Prop := xs.length ≤ sizeLine ∧ ∀ p, H p = none → Q (.ref p) (upd H p (.tup xs))
def LaidL (xs : List V) (H : Hp) (Q : VK) : Prop := xs.length ≤ sizeLine ∧ ∀ p, H p = none → Q (.ref p) (upd H p (.lst xs))
theorem r_tup (k : tr σ H fun xs H1 => LaidT xs H1 Q) : tTup tr σ H Q := k
theorem r_lst (k : tr σ H fun xs H1 => LaidL xs H1 Q) : tLst tr σ H Q := k
/-- an object laid: known from then on by what stands at it -/
theorem r_laidT {xs : List V} (hz : xs.length ≤ 1000) (k : ∀ p H', Ex H H' → H p = none → H' p = some (.tup xs) → Q (.ref p) H') : LaidT xs H Q :=
  ⟨Nat.le_trans hz (by decide), fun p hp => k p _ (Ex.new hp) hp upd_same⟩
theorem r_laidL {xs : List V} (hz : xs.length ≤ 1000) (k : ∀ p H', Ex H H' → H p = none → H' p = some (.lst xs) → Q (.ref p) H') : LaidL xs H Q :=
  ⟨Nat.le_trans hz (by decide), fun p hp => k p _ (Ex.new hp) hp upd_same⟩
theorem r_par {i j : Nat} (k : tr σ H fun vs H1 => ∃ v w, vs = [v, w] ∧ D.nx ((σ.set i (some v)).set j (some w)) H1) : tPar i j tr D σ H := k
theorem r_par2 {QS : L2.St → Hp → Prop} {i j : Nat} {v w : V} (k : QS ((σ.set i (some v)).set j (some w)) H) : ∃ v' w', [v, w] = [v', w'] ∧ QS ((σ.set i (some v')).set j (some w')) H := ⟨v, w, rfl, k⟩
theorem r_par3 {i j l : Nat} (k : tr σ H fun vs H1 => ∃ v w z, vs = [v, w, z] ∧ D.nx (((σ.set i (some v)).set j (some w)).set l (some z)) H1) : tPar3 i j l tr D σ H := k
theorem r_par33 {QS : L2.St → Hp → Prop} {i j l : Nat} {v w z : V} (k : QS (((σ.set i (some v)).set j (some w)).set l (some z)) H) : ∃ v' w' z', [v, w, z] = [v', w', z'] ∧ QS (((σ.set i (some v')).set j (some w')).set l (some z')) H := ⟨v, w, z, rfl, k⟩
theorem r_gTup {QS : L2.St → Hp → Prop} {K : PySem.W.Frag} {n : Nat} {gs : TGs} {a : Addr} {xs : List V} (h : H a = some (.tup xs)) (hn : xs.length = n) (k : gs xs σ H QS) : gTup K n gs (.ref a) σ H QS := ⟨a, xs, rfl, SqT.of h, hn, k⟩
theorem r_gCons {QS : L2.St → Hp → Prop} {g : TG} {gs : TGs} {v : V} {vs : List V} (k : g v σ H fun σ' H' => gs vs σ' H' QS) : gCons g gs (v :: vs) σ H QS := ⟨v, vs, rfl, k⟩
theorem r_gNil {QS : L2.St → Hp → Prop} (k : QS σ H) : gNil [] σ H QS := ⟨rfl, k⟩
theorem r_ix {ri : R2} (k : ta σ H fun x H1 => tb σ H1 fun y H2 => ri x y H2 Q) : tOp ri ta tb σ H Q := k
theorem r_ixT {p : Addr} {xs : List V} {i : Int} {v : V} (h : H p = some (.tup xs)) (e : atI xs i = some v) (k : Q v H) : rIxT K (.ref p) (.int i) H Q := ⟨p, xs, i, v, rfl, rfl, SqT.of h, e, k⟩
theorem r_ixL {p : Addr} {xs : List V} {i : Int} {v : V} (h : H p = some (.lst xs)) (e : atI xs i = some v) (k : Q v H) : rIxL K (.ref p) (.int i) H Q := ⟨p, xs, i, v, rfl, rfl, SqL.of h, e, k⟩
theorem iteT {A B : Prop} (h : A) : if true = true then A else B := by rw [if_pos rfl]; exact h
theorem iteF {A B : Prop} (h : B) : if false = true then A else B := by rw [if_neg Bool.false_ne_true]; exact h
theorem iteD {p A B : Prop} [Decidable p] (h : p) (k : A) : if decide p = true then A else B := by rw [decide_eq_true h]; exact iteT k
theorem iteDn {p A B : Prop} [Decidable p] (h : ¬ p) (k : B) : if decide p = true then A else B := by rw [decide_eq_false h]; exact iteF k
theorem iteN {p A B : Prop} [Decidable p] (h : p) (k : B) : if (!decide p) = true then A else B := by rw [decide_eq_true h]; exact iteF k
theorem iteNn {p A B : Prop} [Decidable p] (h : ¬ p) (k : A) : if (!decide p) = true then A else B := by rw [decide_eq_false h]; exact iteT k
theorem iteNT {A B : Prop} (h : B) : if (!true) = true then A else B := iteF h
theorem iteNF {A B : Prop} (h : A) : if (!false) = true then A else B := iteT h
theorem ite2 {p A B : Prop} [Decidable p] (h1 : p → A) (h2 : ¬ p → B) : if decide p = true then A else B := by
  by_cases h : p
  · exact iteD h (h1 h)
  · exact iteDn h (h2 h)
theorem ite2n {p A B : Prop} [Decidable p] (h1 : ¬ p → A) (h2 : p → B) : if (!decide p) = true then A else B := by
  by_cases h : p
  · exact iteN h (h2 h)
  · exact iteNn h (h1 h)
/-- int(i), int(b), max, abs, of ints -/
theorem r_int1 {a : Int} (k : Q (.int a) H) : (∃ i, [V.int a] = [.int i] ∧ Q (.int i) H) ∨ ∃ b, [V.int a] = [.bl b] ∧ Q (.int (if b then 1 else 0)) H := .inl ⟨a, rfl, k⟩
theorem r_intB {b : Bool} (k : Q (.int (if b then 1 else 0)) H) : (∃ i, [V.bl b] = [.int i] ∧ Q (.int i) H) ∨ ∃ b', [V.bl b] = [.bl b'] ∧ Q (.int (if b' then 1 else 0)) H := .inr ⟨b, rfl, k⟩
theorem r_bool1 {a : Int} (k : Q (.bl (a != 0)) H) : (∃ i, [V.int a] = [.int i] ∧ Q (.bl (i != 0)) H) ∨ ∃ b, [V.int a] = [.bl b] ∧ Q (.bl b) H := .inl ⟨a, rfl, k⟩
theorem r_boolB {b : Bool} (k : Q (.bl b) H) : (∃ i, [V.bl b] = [.int i] ∧ Q (.bl (i != 0)) H) ∨ ∃ b', [V.bl b] = [.bl b'] ∧ Q (.bl b') H := .inr ⟨b, rfl, k⟩
theorem r_abs1 {a : Int} (k : Q (.int (a.natAbs : Int)) H) : ∃ i, [V.int a] = [.int i] ∧ Q (.int (if i < 0 then -i else i)) H := ⟨a, rfl, by
  have e : (if a < 0 then -a else a) = (a.natAbs : Int) := by split <;> omega
  rw [e]; exact k⟩
theorem r_gcd {a c : Int} (k : Q (.int (Int.gcd a c : Int)) H) : rGcd [.int a, .int c] H Q := ⟨a, c, rfl, k⟩
theorem r_isi {x c : V} {t u : Value} {b : Bool} (hc : ClsV c u) (ht : TyX K H x t) (e : PySem.W.kitOne K t u = some b) (k : Q (.bl b) H) : rIsi K [x, c] H Q := ⟨x, c, t, u, b, rfl, hc, ht, e, k⟩
theorem r_truI {a : Int} (k : QT (decide (a ≠ 0)) H) : ∃ b, TruV K (.int a) H b ∧ QT b H := ⟨a != 0, rfl, by
  have e : (a != 0) = decide (a ≠ 0) := by rw [Bool.eq_iff_iff]; simp
  rw [e]; exact k⟩
theorem r_truB {b' : Bool} (k : QT b' H) : ∃ b, TruV K (.bl b') H b ∧ QT b H := ⟨b', rfl, k⟩
end
end
section
open PySem PySem.Spec PyProof.Rows L2
theorem d_add : PySem.dunder Operator.Add.info.2 = ("__add__" : Str) := by decide +kernel
theorem d_sub : PySem.dunder Operator.Sub.info.2 = ("__sub__" : Str) := by decide +kernel
theorem d_mul : PySem.dunder Operator.Mult.info.2 = ("__mul__" : Str) := by decide +kernel
theorem d_floordiv : PySem.dunder Operator.FloorDiv.info.2 = ("__floordiv__" : Str) := by decide +kernel
theorem d_mod : PySem.dunder Operator.Mod.info.2 = ("__mod__" : Str) := by decide +kernel
theorem d_pow : PySem.dunder Operator.Pow.info.2 = ("__pow__" : Str) := by decide +kernel
theorem d_and : PySem.dunder Operator.BitAnd.info.2 = ("__and__" : Str) := by decide +kernel
theorem dr_add : dunderR Operator.Add.info.2 = ("__radd__" : Str) := by decide +kernel
theorem dr_sub : dunderR Operator.Sub.info.2 = ("__rsub__" : Str) := by decide +kernel
theorem dr_mul : dunderR Operator.Mult.info.2 = ("__rmul__" : Str) := by decide +kernel
theorem dr_floordiv : dunderR Operator.FloorDiv.info.2 = ("__rfloordiv__" : Str) := by decide +kernel
theorem dr_mod : dunderR Operator.Mod.info.2 = ("__rmod__" : Str) := by decide +kernel
theorem dr_pow : dunderR Operator.Pow.info.2 = ("__rpow__" : Str) := by decide +kernel
section
variable {K : PySem.W.Frag}
theorem fi_add : PySem.W.findIn K (.type "int") "__add__" = some (some (.builtin "int.__add__")) := by show PySem.fastLookup "int" _ = _; kernel_rfl
theorem fi_sub : PySem.W.findIn K (.type "int") "__sub__" = some (some (.builtin "int.__sub__")) := by show PySem.fastLookup "int" _ = _; kernel_rfl
theorem fi_mul : PySem.W.findIn K (.type "int") "__mul__" = some (some (.builtin "int.__mul__")) := by show PySem.fastLookup "int" _ = _; kernel_rfl
theorem fi_floordiv : PySem.W.findIn K (.type "int") "__floordiv__" = some (some (.builtin "int.__floordiv__")) := by show PySem.fastLookup "int" _ = _; kernel_rfl
theorem fi_mod : PySem.W.findIn K (.type "int") "__mod__" = some (some (.builtin "int.__mod__")) := by show PySem.fastLookup "int" _ = _; kernel_rfl
theorem fi_pow : PySem.W.findIn K (.type "int") "__pow__" = some (some (.builtin "int.__pow__")) := by show PySem.fastLookup "int" _ = _; kernel_rfl
theorem fir_add : PySem.W.findIn K (.type "int") "__radd__" = some (some (.builtin "int.__radd__")) := by show PySem.fastLookup "int" _ = _; kernel_rfl
theorem fir_sub : PySem.W.findIn K (.type "int") "__rsub__" = some (some (.builtin "int.__rsub__")) := by show PySem.fastLookup "int" _ = _; kernel_rfl
theorem fir_mul : PySem.W.findIn K (.type "int") "__rmul__" = some (some (.builtin "int.__rmul__")) := by show PySem.fastLookup "int" _ = _; kernel_rfl
theorem fir_floordiv : PySem.W.findIn K (.type "int") "__rfloordiv__" = some (some (.builtin "int.__rfloordiv__")) := by show PySem.fastLookup "int" _ = _; kernel_rfl
theorem fir_mod : PySem.W.findIn K (.type "int") "__rmod__" = some (some (.builtin "int.__rmod__")) := by show PySem.fastLookup "int" _ = _; kernel_rfl
theorem fir_pow : PySem.W.findIn K (.type "int") "__rpow__" = some (some (.builtin "int.__rpow__")) := by show PySem.fastLookup "int" _ = _; kernel_rfl
end
/-- no built-in type has an own class above it -/
theorem sub_ty {K : PySem.W.Frag} {C : Addr} {T : String} {l : List Value} (e : PySem.fastBuiltinMro T = some l) (h : l.all (fun v => match v with | .type _ => true | _ => false) = true) : PySem.W.subIn K (.type T) (.ref C) = some false := by
  show (PySem.fastBuiltinMro T).map (·.contains (.ref C)) = some false
  rw [e]
  show some (l.contains (.ref C)) = some false
  congr 1
  rw [← Bool.not_eq_true, List.contains_iff_mem]
  intro hm
  have := List.all_eq_true.mp h _ hm
  cases this
theorem sub_int {K : PySem.W.Frag} {C : Addr} : PySem.W.subIn K (.type "int") (.ref C) = some false := sub_ty (l := [.type "int", .type "object"]) (by decide +kernel) rfl
theorem sub_str {K : PySem.W.Frag} {C : Addr} : PySem.W.subIn K (.type "str") (.ref C) = some false := sub_ty (l := [.type "str", .type "object"]) (by decide +kernel) rfl
theorem sub_bool {K : PySem.W.Frag} {C : Addr} : PySem.W.subIn K (.type "bool") (.ref C) = some false := sub_ty (l := [.type "bool", .type "int", .type "object"]) (by decide +kernel) rfl
theorem sub_none {K : PySem.W.Frag} {C : Addr} : PySem.W.subIn K (.type "NoneType") (.ref C) = some false := sub_ty (l := [.type "NoneType", .type "object"]) (by decide +kernel) rfl
theorem sub_tuple {K : PySem.W.Frag} {C : Addr} : PySem.W.subIn K (.type "tuple") (.ref C) = some false := sub_ty (l := [.type "tuple", .type "object"]) (by decide +kernel) rfl
theorem sub_list {K : PySem.W.Frag} {C : Addr} : PySem.W.subIn K (.type "list") (.ref C) = some false := sub_ty (l := [.type "list", .type "object"]) (by decide +kernel) rfl
theorem nf_of {K : PySem.W.Frag} {C : Addr} {t : Value} (h : PySem.W.subIn K t (.ref C) = some false) : PySem.W.notFirst K C t = true := by
  unfold PySem.W.notFirst
  rw [h]
  simp
theorem nf_self {K : PySem.W.Frag} {C : Addr} : PySem.W.notFirst K C (.ref C) = true := by
  unfold PySem.W.notFirst
  simp
/-- what the written part says of a plain own class -/
structure ClsO (K : PySem.W.Frag) (C : Addr) : Prop where
  cl : Cls K C
  sf : PySem.W.selfFirst K C = true
  ni : PySem.W.subIn K (.ref C) (.type "int") = some false
  ne : PySem.W.findIn K (.ref C) "__ne__" = some (some (.builtin "object.__ne__"))
  ca : PySem.W.findIn K (.ref C) "__class__" = some (some (.builtin "object.__class__"))
  cn : PySem.W.specialIn K (.builtin "object.__class__") "__get__" = some (some (.builtin "getset_descriptor.__get__"))
  ct : PySem.W.takesIn K (.builtin "object.__class__") = some true
  mo : PySem.W.mroIn K C (.type "object") = some true
  nrpow : PySem.W.findIn K (.ref C) "__rpow__" = some none
theorem ClsO.ty {K : PySem.W.Frag} {C a dx : Addr} {fs : List (Str × V)} {H : Hp} (k : ClsO K C) (h : H a = some (.ins C dx fs)) : TyX K H (.ref a) (.ref C) := .base (.ins h k.cl k.ca k.cn k.ct k.mo)
section
variable {X : Cx} {k j : Nat} {m m' : Str} {C f g : Addr} {sp sp' : Sp} {E : XK} {op : Operator}
theorem op2 (d : PySem.dunder op.info.2 = m) (kc : ClsO X.K C) (c : Cm X.prog X.w X.K X.mg X.base k C m f sp) (hr : Room j X.A) (hk : k ≤ j) (hx : Passes (L2.CX X.prog X.w) X E) : OpR X (binaryOp op) (rO C sp E (isIns C)) :=
  op_bin2 kc.sf (by rw [d]; exact c.at_) c.fn c.fnr (hr.mono hk) hx
theorem opI {rc fo ro : Option Value} (d : PySem.dunder op.info.2 = m) (dr : dunderR op.info.2 = m') (kc : ClsO X.K C) (c : Cm X.prog X.w X.K X.mg X.base k C m f sp) (hp : (∃ g : Addr, PySem.W.findIn X.K (.ref C) m' = some (some (.ref g))) ∨ PySem.W.findIn X.K (.ref C) m' = some none)
    (h1 : PySem.W.findIn X.K (.type "int") m = some fo) (h2 : PySem.W.findIn X.K (.type "int") m' = some ro) (hr : Room j X.A) (hk : k ≤ j) (hx : Passes (L2.CX X.prog X.w) X E) : OpR X (binaryOp op) (rO C sp E isInt) := by
  rcases hp with ⟨g, hp⟩ | hp
  · exact op_binI kc.sf (by rw [d]; exact c.at_) c.fn (rc := some (.ref g)) (by rw [dr]; exact hp) (.inr ⟨g, rfl⟩) (by rw [d]; exact h1) (by rw [dr]; exact h2) sub_int c.fnr (hr.mono hk) hx
  · exact op_binI kc.sf (by rw [d]; exact c.at_) c.fn (rc := none) (by rw [dr]; exact hp) (.inl rfl) (by rw [d]; exact h1) (by rw [dr]; exact h2) sub_int c.fnr (hr.mono hk) hx
theorem opR_add (kc : ClsO X.K C) (hs : PySem.W.findIn X.K (.ref C) "__add__" = some (some (.ref g))) (c : Cm X.prog X.w X.K X.mg X.base k C "__radd__" f sp) (hr : Room j X.A) (hk : k ≤ j) (hx : Passes (L2.CX X.prog X.w) X E) : OpR X (binaryOp .Add) (rOr C sp E) :=
  op_rbin kc.sf (by rw [d_add]; exact hs) (by rw [dr_add]; exact c.at_) c.fn kc.ni PySem.F.fills_int_add (by rw [d_add]; exact PySem.F.slot_int_add) PySem.F.entry_int_add (fun _ _ => PySem.F.args_int_add_2 _ _) int_add_inst c.fnr (hr.mono hk) hx
theorem opR_sub (kc : ClsO X.K C) (hs : PySem.W.findIn X.K (.ref C) "__sub__" = some (some (.ref g))) (c : Cm X.prog X.w X.K X.mg X.base k C "__rsub__" f sp) (hr : Room j X.A) (hk : k ≤ j) (hx : Passes (L2.CX X.prog X.w) X E) : OpR X (binaryOp .Sub) (rOr C sp E) :=
  op_rbin kc.sf (by rw [d_sub]; exact hs) (by rw [dr_sub]; exact c.at_) c.fn kc.ni PySem.F.fills_int_sub (by rw [d_sub]; exact PySem.F.slot_int_sub) PySem.F.entry_int_sub (fun _ _ => PySem.F.args_int_sub_2 _ _) int_sub_inst c.fnr (hr.mono hk) hx
theorem opR_mul (kc : ClsO X.K C) (hs : PySem.W.findIn X.K (.ref C) "__mul__" = some (some (.ref g))) (c : Cm X.prog X.w X.K X.mg X.base k C "__rmul__" f sp) (hr : Room j X.A) (hk : k ≤ j) (hx : Passes (L2.CX X.prog X.w) X E) : OpR X (binaryOp .Mult) (rOr C sp E) :=
  op_rbin kc.sf (by rw [d_mul]; exact hs) (by rw [dr_mul]; exact c.at_) c.fn kc.ni PySem.F.fills_int_mul (by rw [d_mul]; exact PySem.F.slot_int_mul) PySem.F.entry_int_mul (fun _ _ => PySem.F.args_int_mul_2 _ _) int_mul_inst c.fnr (hr.mono hk) hx
theorem opR_mod (kc : ClsO X.K C) (hs : PySem.W.findIn X.K (.ref C) "__mod__" = some (some (.ref g))) (c : Cm X.prog X.w X.K X.mg X.base k C "__rmod__" f sp) (hr : Room j X.A) (hk : k ≤ j) (hx : Passes (L2.CX X.prog X.w) X E) : OpR X (binaryOp .Mod) (rOr C sp E) :=
  op_rbin kc.sf (by rw [d_mod]; exact hs) (by rw [dr_mod]; exact c.at_) c.fn kc.ni PySem.F.fills_int_mod (by rw [d_mod]; exact PySem.F.slot_int_mod) PySem.F.entry_int_mod (fun _ _ => PySem.F.args_int_mod_2 _ _) int_mod_inst c.fnr (hr.mono hk) hx
theorem opR_floordiv (kc : ClsO X.K C) (hs : PySem.W.findIn X.K (.ref C) "__floordiv__" = some (some (.ref g))) (c : Cm X.prog X.w X.K X.mg X.base k C "__rfloordiv__" f sp) (hr : Room j X.A) (hk : k ≤ j) (hx : Passes (L2.CX X.prog X.w) X E) : OpR X (binaryOp .FloorDiv) (rOr C sp E) :=
  op_rbin kc.sf (by rw [d_floordiv]; exact hs) (by rw [dr_floordiv]; exact c.at_) c.fn kc.ni PySem.F.fills_int_floordiv (by rw [d_floordiv]; exact PySem.F.slot_int_floordiv) PySem.F.entry_int_floordiv (fun _ _ => PySem.F.args_int_floordiv_2 _ _) int_floordiv_inst c.fnr (hr.mono hk) hx
theorem opC_eq (c : Cm X.prog X.w X.K X.mg X.base k C "__eq__" f sp) (hr : Room j X.A) (hk : k ≤ j) (hx : Passes (L2.CX X.prog X.w) X E) : OpR X (compareOp .Eq) (rO C sp E (isAny X.K C)) := op_cmp (fun _ _ => rfl) c.at_ c.fn c.fnr (hr.mono hk) hx
theorem opC_lt (c : Cm X.prog X.w X.K X.mg X.base k C "__lt__" f sp) (hr : Room j X.A) (hk : k ≤ j) (hx : Passes (L2.CX X.prog X.w) X E) : OpR X (compareOp .Lt) (rO C sp E (isAny X.K C)) := op_cmp (fun _ _ => rfl) c.at_ c.fn c.fnr (hr.mono hk) hx
theorem opC_le (c : Cm X.prog X.w X.K X.mg X.base k C "__le__" f sp) (hr : Room j X.A) (hk : k ≤ j) (hx : Passes (L2.CX X.prog X.w) X E) : OpR X (compareOp .LtE) (rO C sp E (isAny X.K C)) := op_cmp (fun _ _ => rfl) c.at_ c.fn c.fnr (hr.mono hk) hx
theorem opC_gt (c : Cm X.prog X.w X.K X.mg X.base k C "__gt__" f sp) (hr : Room j X.A) (hk : k ≤ j) (hx : Passes (L2.CX X.prog X.w) X E) : OpR X (compareOp .Gt) (rO C sp E (isAny X.K C)) := op_cmp (fun _ _ => rfl) c.at_ c.fn c.fnr (hr.mono hk) hx
theorem opC_ge (c : Cm X.prog X.w X.K X.mg X.base k C "__ge__" f sp) (hr : Room j X.A) (hk : k ≤ j) (hx : Passes (L2.CX X.prog X.w) X E) : OpR X (compareOp .GtE) (rO C sp E (isAny X.K C)) := op_cmp (fun _ _ => rfl) c.at_ c.fn c.fnr (hr.mono hk) hx
theorem opNe (kc : ClsO X.K C) (c : Cm X.prog X.w X.K X.mg X.base k C "__eq__" f sp) (hr : Room j X.A) (hk : k + 1 ≤ j) (hx : Passes (L2.CX X.prog X.w) X E) : OpR X (compareOp .NotEq) (rNO C sp E (isAny X.K C)) := op_ne1 kc.ne kc.mo c.at_ c.fn c.fnr (hr.mono hk) hx
theorem opRC_eq (kc : ClsO X.K C) (c : Cm X.prog X.w X.K X.mg X.base k C "__eq__" f sp) (hr : Room j X.A) (hk : k ≤ j) (hx : Passes (L2.CX X.prog X.w) X E) : OpR X (compareOp .Eq) (rOr C sp E) := op_rcmp (fun _ _ => rfl) c.at_ c.fn kc.ni PySem.F.slot_int_eq PySem.F.entry_int_eq (fun _ _ => PySem.F.args_int_eq_2 _ _) int_eq_inst c.fnr (hr.mono hk) hx
theorem opRC_lt (kc : ClsO X.K C) (c : Cm X.prog X.w X.K X.mg X.base k C "__gt__" f sp) (hr : Room j X.A) (hk : k ≤ j) (hx : Passes (L2.CX X.prog X.w) X E) : OpR X (compareOp .Lt) (rOr C sp E) := op_rcmp (fun _ _ => rfl) c.at_ c.fn kc.ni PySem.F.slot_int_lt PySem.F.entry_int_lt (fun _ _ => PySem.F.args_int_lt_2 _ _) int_lt_inst c.fnr (hr.mono hk) hx
theorem opRC_le (kc : ClsO X.K C) (c : Cm X.prog X.w X.K X.mg X.base k C "__ge__" f sp) (hr : Room j X.A) (hk : k ≤ j) (hx : Passes (L2.CX X.prog X.w) X E) : OpR X (compareOp .LtE) (rOr C sp E) := op_rcmp (fun _ _ => rfl) c.at_ c.fn kc.ni PySem.F.slot_int_le PySem.F.entry_int_le (fun _ _ => PySem.F.args_int_le_2 _ _) int_le_inst c.fnr (hr.mono hk) hx
theorem opRC_gt (kc : ClsO X.K C) (c : Cm X.prog X.w X.K X.mg X.base k C "__lt__" f sp) (hr : Room j X.A) (hk : k ≤ j) (hx : Passes (L2.CX X.prog X.w) X E) : OpR X (compareOp .Gt) (rOr C sp E) := op_rcmp (fun _ _ => rfl) c.at_ c.fn kc.ni PySem.F.slot_int_gt PySem.F.entry_int_gt (fun _ _ => PySem.F.args_int_gt_2 _ _) int_gt_inst c.fnr (hr.mono hk) hx
theorem opRC_ge (kc : ClsO X.K C) (c : Cm X.prog X.w X.K X.mg X.base k C "__le__" f sp) (hr : Room j X.A) (hk : k ≤ j) (hx : Passes (L2.CX X.prog X.w) X E) : OpR X (compareOp .GtE) (rOr C sp E) := op_rcmp (fun _ _ => rfl) c.at_ c.fn kc.ni PySem.F.slot_int_ge PySem.F.entry_int_ge (fun _ _ => PySem.F.args_int_ge_2 _ _) int_ge_inst c.fnr (hr.mono hk) hx
/-- a test by a value's truth, told by a rule -/
def tTr (r : V → Hp → (Bool → Hp → Prop) → Prop) (ta : TE) : TT := fun σ H Q => ta σ H fun x H' => r x H' Q
theorem pt_tr {a : Expr} {ta : TE} {r : V → Hp → (Bool → Hp → Prop) → Prop} (ha : PE X a ta) (ht : TruR X r) (he : ∀ whole, isTrue a X.env whole = (do let v ← whole; standAt a.pos; holding [v] (truthy v))) : PT X a (tTr r ta) := by
  refine ⟨fun pins s σ H Q I h => ?_⟩
  exact isTrue_plain (thn (ha.run pins s σ H _ I h) fun v s1 ⟨x, H1, I1, r1, q1⟩ => ht pins s1 σ H1 x v Q I1 r1 q1) (he _)
theorem r_tr {r : V → Hp → (Bool → Hp → Prop) → Prop} {ta : TE} {σ : L2.St} {H : Hp} {Q : Bool → Hp → Prop} (h : ta σ H fun x H' => r x H' Q) : tTr r ta σ H Q := h
/-- // by any divisor but 0, below 2 ^ 9000 -/
def CDivZ (_ j : Int) : Prop := j ≠ 0 ∧ j.natAbs < 2 ^ 9000
theorem op_fdivZ : OpR X (binaryOp .FloorDiv) (rI CDivZ fun i j => .int (i.fdiv j)) := L2.opI fun i j _ _ _ _ _ hc q => by
  have h1 : j ≠ 0 := hc.1
  have h2 := PySem.Flt.log2_lt_of (by decide) hc.2
  exact floordiv_int h1 q (.inl (PyProof.noPylong_of_log2 h2))
theorem hu_of64 {A : Around} {k : Nat} (hr : Room k A) : A.units + 64 < cLine := hr.units
def tAMono (t : TA) : TA := fun σ H Q => ∃ Q0 : List V → Hp → Prop, t σ H Q0 ∧ ∀ vs H1, Q0 vs H1 → Q vs H1
theorem pa_mono {es : List Expr} {t : TA} (h : PA X es t) : PA X es (tAMono t) := by
  refine ⟨fun pos pins s σ H Q I q => ?_⟩
  obtain ⟨Q0, q0, w⟩ := q
  exact thn (h.run pos pins s σ H Q0 I q0) fun us s1 ⟨xs, H1, I1, r1, q1⟩ => ⟨xs, H1, I1, r1, w xs H1 q1⟩
def spEx (C : Addr) (fn : Str) : Sp := fun vs H Q _ => ∃ a v, vs = [.ref a, v] ∧ H a = some (exo a C none) ∧ ∀ dx, H dx = none → dx ≠ a → Q .non (upd (upd H dx (exd dx [(fn, v)])) a (exo a C (some dx)))
structure Cox (P : Program) (w : World) (K : PySem.W.Frag) (mg : Str → Option Value) (base : Heap) (k : Nat) (x : Str) (C : Addr) (fn : Str) : Prop where
  ox : OexC K C
  hm : mg x = some (.ref C)
  ex : ∃ (f : Addr) (fd : FuncData) (ps : List Str), PySem.W.findIn K (.ref C) "__init__" = some (some (.ref f)) ∧ PySem.W.typeIn K (.ref f) = some (.type "function") ∧ FnOk P w K mg base (L2.CX P w) k f fd ps (spEx C fn) ∧ Binds K fd ps []
def tRz (C : Addr) (fn : Str) (W : WX) (ta : TA) : TS := fun _ σ H => ta σ H fun vs H1 => ∃ v, vs = [v] ∧ ∀ d, H1 d = none → W (.ref C) (some d) σ (upd H1 d (.xd [(fn, v)]))
theorem ps_rz {x fn : Str} {W : WX} {e : Expr} {ta : TA} {p pos pos' : Pos} (c : Cox X.prog X.w X.K X.mg X.base k x C fn) (hr : Room j X.A) (hk : k + 1 ≤ j) (tk : Takes X W) (hg : Gl X x) (ha : PA X (e :: []) ta) (hc : X.calm = true := by rfl) (hdb : (x == ("__debug__" : Str)) = false := by decide)
    (he : starEach (e :: []) X.env = (false, eval e X.env) :: starEach [] X.env := by rfl) (hpl : (backTo pos (starEach [] X.env)).any (·.1) = false := by rfl) :
    PS X (.Raise (some (.Call (.Name x p) (e :: []) [] pos)) none pos') (tRz C fn W ta) := by
  obtain ⟨f, fd, ps, iC, tI, F, hb⟩ := c.ex
  have q := ps_raise (pos := pos') hc tk (pmk_oex (p := p) (pos := pos) c.ox iC tI F (hr.mono hk) hb .nil passL hg c.hm (pa_mono ha) hdb he hpl)
  refine ⟨fun pins s σ H D I h => q.run pins s σ H D I ?_⟩
  show tMkO C (spEx C fn) [] (tAMono ta) σ H fun cls d H' => W cls d σ H'
  unfold tMkO tAMono
  have key : ∀ (vs : List V) (H1 : Hp), (∃ v, vs = [v] ∧ ∀ d, H1 d = none → W (.ref C) (some d) σ (upd H1 d (.xd [(fn, v)]))) → (vs.length ≤ 1000 ∧ ∀ a, H1 a = none → spEx C fn (.ref a :: (vs ++ [])) (upd H1 a (exo a C none))
      (fun v H2 => v = .non ∧ ∃ (d : Addr) (fs : List (Str × V)), H2 a = some (exo a C (some d)) ∧ H2 d = some (exd d fs) ∧ H1 d = none ∧ W (.ref C) (some d) σ (upd (del H2 a) d (.xd fs))) (fun _ _ _ => False)) := by
    rintro vs H1 ⟨v, rfl, w⟩
    refine ⟨by show 1 ≤ 1000; decide, fun a ha => ⟨a, v, rfl, upd_same, fun dx hdx hne => ⟨rfl, dx, [(fn, v)], upd_same, ?_, ?_, ?_⟩⟩⟩
    · rw [upd_ne hne, upd_same]
    · rw [upd_ne hne] at hdx; exact hdx
    · have hd1 : H1 dx = none := by rw [upd_ne hne] at hdx; exact hdx
      have e : upd (del (upd (upd (upd H1 a (exo a C none)) dx (exd dx [(fn, v)])) a (exo a C (some dx))) a) dx (.xd [(fn, v)]) = upd H1 dx (.xd [(fn, v)]) := by
        funext b
        by_cases hb : b = dx
        · subst hb; rw [upd_same, upd_same]
        · rw [upd_ne hb, upd_ne hb]
          by_cases hba : b = a
          · subst hba; rw [del_same, ha]
          · rw [del_ne hba, upd_ne hba, upd_ne hb, upd_ne hba]
      rw [e]
      exact w dx hd1
  exact ⟨_, h, key⟩
theorem r_rz {fn : Str} {W : WX} {ta : TA} {D : Ends} {σ : L2.St} {H : Hp} (h : ta σ H fun vs H1 => ∃ v, vs = [v] ∧ ∀ d, H1 d = none → W (.ref C) (some d) σ (upd H1 d (.xd [(fn, v)]))) : tRz C fn W ta D σ H := h
end
end
section
open PySem PySem.Spec PyProof.Rows L2
/-- below 4000 bits -/
def Bt (i : Int) : Prop := i.natAbs < 2 ^ 4000
def Sz (n : Nat) (q : Rat) : Prop := q.num.natAbs < 2 ^ n ∧ q.den < 2 ^ n
def Bq (q : Rat) : Prop := Bt q.num ∧ Bt (q.den : Int)
theorem pow_mono {a b n : Nat} (h : a < 2 ^ n) (hb : n ≤ b) : a < 2 ^ b := Nat.lt_of_lt_of_le h (Nat.pow_le_pow_right (by decide) hb)
theorem bt_of {i : Int} {n : Nat} (h : i.natAbs < 2 ^ n) (hn : n ≤ 4000) : Bt i := pow_mono h hn
theorem Sz.bq {n : Nat} {q : Rat} (h : Sz n q) (hn : n ≤ 4000) : Bq q := ⟨pow_mono h.1 hn, by show ((q.den : Int)).natAbs < _; rw [Int.natAbs_natCast]; exact pow_mono h.2 hn⟩
theorem Sz.mono {n m : Nat} {q : Rat} (h : Sz n q) (hn : n ≤ m) : Sz m q := ⟨pow_mono h.1 hn, pow_mono h.2 hn⟩
theorem pow_mul_lt {a b n m : Nat} (ha : a < 2 ^ n) (hb : b < 2 ^ m) : a * b < 2 ^ (n + m) := by
  rw [Nat.pow_add]; exact Nat.mul_lt_mul'' ha hb
theorem lt_mul {i j : Int} {n m : Nat} (hi : i.natAbs < 2 ^ n) (hj : j.natAbs < 2 ^ m) : (i * j).natAbs < 2 ^ (n + m) := by
  rw [Int.natAbs_mul]; exact pow_mul_lt hi hj
theorem lt_add {i j : Int} {n m k : Nat} (hi : i.natAbs < 2 ^ n) (hj : j.natAbs < 2 ^ m) (h1 : n < k) (h2 : m < k) : (i + j).natAbs < 2 ^ k := by
  have a := pow_mono hi (show n ≤ k - 1 by omega)
  have b := pow_mono hj (show m ≤ k - 1 by omega)
  have e : 2 ^ k = 2 ^ (k - 1) + 2 ^ (k - 1) := by
    obtain ⟨r, rfl⟩ : ∃ r, k = r + 1 := ⟨k - 1, by omega⟩
    rw [Nat.add_sub_cancel, Nat.pow_succ]; omega
  omega
theorem lt_sub {i j : Int} {n m k : Nat} (hi : i.natAbs < 2 ^ n) (hj : j.natAbs < 2 ^ m) (h1 : n < k) (h2 : m < k) : (i - j).natAbs < 2 ^ k := by
  rw [Int.sub_eq_add_neg]; exact lt_add hi (by rw [Int.natAbs_neg]; exact hj) h1 h2
theorem natAbs_div_le (a : Int) (b : Nat) : (a / (b : Int)).natAbs ≤ a.natAbs := by
  exact Int.natAbs_ediv_le_natAbs a b
theorem Sz.divInt {a b : Int} {n : Nat} (ha : a.natAbs < 2 ^ n) (hb : b.natAbs < 2 ^ n) (h0 : 0 < n) : Sz n (Rat.divInt a b) := by
  constructor
  · rw [Rat.num_divInt]
    refine Nat.lt_of_le_of_lt (natAbs_div_le _ _) ?_
    rw [Int.natAbs_mul]
    refine Nat.lt_of_le_of_lt (Nat.mul_le_mul_right _ (show b.sign.natAbs ≤ 1 from ?_)) (by rw [Nat.one_mul]; exact ha)
    rw [Int.natAbs_sign]; split <;> omega
  · rw [Rat.den_divInt]
    split
    · exact Nat.one_lt_two_pow (by omega)
    · exact Nat.lt_of_le_of_lt (Nat.div_le_self _ _) hb
theorem den_ne (q : Rat) : (q.den : Int) ≠ 0 := by have := q.den_nz; omega
theorem den_pos (q : Rat) : 0 < (q.den : Int) := by have := den_ne q; omega
theorem Sz.add {n m k : Nat} {q r : Rat} (h : Sz n q) (g : Sz m r) (hk : n + m < k) : Sz k (q + r) := by
  rw [← Rat.num_divInt_den q, ← Rat.num_divInt_den r, Rat.divInt_add_divInt _ _ (den_ne q) (den_ne r)]
  refine Sz.divInt (lt_add (n := n + m) (m := m + n) (lt_mul h.1 ?_) (lt_mul g.1 ?_) hk (by omega)) (pow_mono (lt_mul (n := n) (m := m) ?_ ?_) (by omega)) (by omega)
  all_goals first | exact g.2 | exact h.2
theorem Sz.mul {n m : Nat} {q r : Rat} (h : Sz n q) (g : Sz m r) (hk : 0 < n + m) : Sz (n + m) (q * r) := by
  rw [← Rat.num_divInt_den q, ← Rat.num_divInt_den r, Rat.divInt_mul_divInt]
  refine Sz.divInt (lt_mul h.1 g.1) (lt_mul ?_ ?_) hk
  all_goals first | exact g.2 | exact h.2
theorem Sz.neg {n : Nat} {q : Rat} (h : Sz n q) : Sz n (-q) := ⟨by show (-q.num).natAbs < _; rw [Int.natAbs_neg]; exact h.1, h.2⟩
theorem Sz.int {n : Nat} {i : Int} (h : i.natAbs < 2 ^ n) (h0 : 0 < n) : Sz n (i : Rat) := ⟨h, by show 1 < 2 ^ n; exact Nat.one_lt_two_pow (by omega)⟩
/-- what Ratio's __init__ writes -/
theorem made_num {a b : Int} (hb : b ≠ 0) : a.fdiv (if b < 0 then -(Int.gcd a b : Int) else (Int.gcd a b : Int)) = (Rat.divInt a b).num := by
  rw [Rat.num_divInt]
  have hg : (Int.gcd a b : Int) ∣ a := Int.gcd_dvd_left ..
  have e : Int.gcd b a = Int.gcd a b := Int.gcd_comm ..
  rw [e]
  obtain ⟨c, hc⟩ := hg
  have hg0 : (Int.gcd a b : Int) ≠ 0 := by
    have := Int.gcd_ne_zero_right (a := a) hb; omega
  split
  · rename_i h
    rw [Int.sign_eq_neg_one_of_neg h, Int.fdiv_eq_ediv_of_dvd (by rw [Int.neg_dvd]; exact ⟨c, hc⟩), Int.ediv_neg, Int.neg_one_mul, Int.neg_ediv_of_dvd ⟨c, hc⟩]
  · rename_i h
    have : 0 < b := by omega
    rw [Int.sign_eq_one_of_pos this, Int.fdiv_eq_ediv_of_dvd ⟨c, hc⟩, Int.one_mul]
theorem made_den {a b : Int} (hb : b ≠ 0) : b.fdiv (if b < 0 then -(Int.gcd a b : Int) else (Int.gcd a b : Int)) = ((Rat.divInt a b).den : Int) := by
  rw [Rat.den_divInt, if_neg hb]
  have e : Int.gcd b a = Int.gcd a b := Int.gcd_comm ..
  rw [e]
  have hg : (Int.gcd a b : Int) ∣ b := Int.gcd_dvd_right ..
  rw [Int.natCast_ediv]
  split
  · rename_i h
    rw [Int.fdiv_eq_ediv_of_dvd (by rw [Int.neg_dvd]; exact hg), Int.ediv_neg, Int.ofNat_natAbs_of_nonpos (by omega), Int.neg_ediv_of_dvd hg]
  · rename_i h
    rw [Int.fdiv_eq_ediv_of_dvd hg, Int.natAbs_of_nonneg (by omega)]
theorem gcd_le {a b : Int} (hb : b ≠ 0) : Int.gcd a b ≤ b.natAbs := Nat.le_of_dvd (by omega) (Int.gcd_dvd_natAbs_right a b)
theorem divInt_one (n : Int) : Rat.divInt n 1 = (n : Rat) := by
  apply Rat.ext <;> simp [Rat.num_divInt, Rat.den_divInt]
theorem rat_add (q r : Rat) : Rat.divInt (q.num * r.den + r.num * q.den) (q.den * r.den) = q + r := by
  conv => rhs; rw [← Rat.num_divInt_den q, ← Rat.num_divInt_den r, Rat.divInt_add_divInt _ _ (den_ne q) (den_ne r)]
theorem rat_mul (q r : Rat) : Rat.divInt (q.num * r.num) (q.den * r.den) = q * r := by
  conv => rhs; rw [← Rat.num_divInt_den q, ← Rat.num_divInt_den r, Rat.divInt_mul_divInt]
theorem rat_neg (q : Rat) : Rat.divInt (-q.num) q.den = -q := by
  conv => rhs; rw [← Rat.num_divInt_den q, Rat.neg_divInt]
theorem eq_iff (q r : Rat) : (q.num = r.num ∧ (q.den : Int) = r.den) ↔ q = r := ⟨fun h => Rat.ext h.1 (by omega), fun h => by subst h; exact ⟨rfl, rfl⟩⟩
theorem den_one {q : Rat} (h : (q.den : Int) = 1) : q = (q.num : Rat) := Rat.ext rfl (by show q.den = 1; omega)
/-- floor(q / r) -/
theorem rat_fdiv (q r : Rat) (hr : r ≠ 0) : (q.num * r.den).fdiv (q.den * r.num) = (q / r).floor := by
  have hn : r.num ≠ 0 := fun h => hr (Rat.num_eq_zero.mp h)
  have e : q / r = Rat.divInt (q.num * r.den) (q.den * r.num) := by
    conv => lhs; rw [← Rat.num_divInt_den q, ← Rat.num_divInt_den r, Rat.div_def, Rat.inv_divInt, Rat.divInt_mul_divInt]
  have hd : q.den * r.num ≠ 0 := Int.mul_ne_zero (den_ne q) hn
  rw [e, Rat.floor_def, ← made_num hd, ← made_den hd]
  generalize q.num * r.den = a at *
  generalize (q.den : Int) * r.num = b at *
  have hga : (Int.gcd a b : Int) ∣ a := Int.gcd_dvd_left ..
  have hgb : (Int.gcd a b : Int) ∣ b := Int.gcd_dvd_right ..
  have hg0 : (Int.gcd a b : Int) ≠ 0 := by
    have := Int.gcd_ne_zero_right (a := a) hd; omega
  generalize hG : (if b < 0 then -(Int.gcd a b : Int) else (Int.gcd a b : Int)) = G
  have hG0 : G ≠ 0 := by subst hG; split <;> omega
  have hGa : G ∣ a := by subst hG; split; exact (Int.neg_dvd).mpr hga; exact hga
  have hGb : G ∣ b := by subst hG; split; exact (Int.neg_dvd).mpr hgb; exact hgb
  have hp : 0 ≤ b.fdiv G := by
    have := made_den (a := a) hd
    rw [hG] at this; rw [this]; omega
  rw [← Int.fdiv_eq_ediv_of_nonneg _ hp]
  obtain ⟨c, rfl⟩ := hGa
  obtain ⟨d, rfl⟩ := hGb
  rw [Int.mul_fdiv_cancel_left _ hG0] at hp
  rw [Int.mul_fdiv_cancel_left _ hG0, Int.mul_fdiv_cancel_left _ hG0]
  rcases Int.lt_or_gt_of_ne hG0 with g | g
  · rw [← Int.neg_fdiv_neg (G * c), ← Int.neg_mul, ← Int.neg_mul, Int.fdiv_eq_ediv_of_nonneg _ hp, Int.fdiv_eq_ediv_of_nonneg _ (Int.mul_nonneg (by omega) hp), Int.mul_ediv_mul_of_pos _ _ (by omega)]
  · rw [Int.fdiv_eq_ediv_of_nonneg _ hp, Int.fdiv_eq_ediv_of_nonneg _ (Int.mul_nonneg (by omega) hp), Int.mul_ediv_mul_of_pos _ _ g]
theorem dec_eq_i {q : Rat} {n : Int} (h : (q.den : Int) = 1) : decide (q = (n : Rat)) = decide (q.num = n) := by
  rw [decide_eq_decide]
  constructor
  · intro z; rw [z]; rfl
  · intro z; rw [den_one h, z]
theorem dec_eq_i' {q : Rat} {n : Int} (h : ¬ (q.den : Int) = 1) : decide (q = (n : Rat)) = false := by
  rw [decide_eq_false_iff_not]; intro z; rw [z] at h; exact h rfl
theorem dec_eq_r {q r : Rat} (h : q.num = r.num) : decide (q = r) = decide ((q.den : Int) = r.den) := by
  rw [decide_eq_decide, ← eq_iff]; exact ⟨fun z => z.2, fun z => ⟨h, z⟩⟩
theorem dec_eq_r' {q r : Rat} (h : ¬ q.num = r.num) : decide (q = r) = false := by
  rw [decide_eq_false_iff_not]; intro z; exact h (by rw [z])
theorem dec_lt {q r : Rat} : decide (q < r) = decide (q.num * r.den < r.num * q.den) := by rw [decide_eq_decide, Rat.lt_iff]
theorem dec_le {q r : Rat} : decide (q ≤ r) = decide (q.num * r.den ≤ r.num * q.den) := by rw [decide_eq_decide, Rat.le_iff]
theorem dec_gt {q r : Rat} : decide (r < q) = decide (r.num * q.den < q.num * r.den) := dec_lt
theorem dec_ge {q r : Rat} : decide (r ≤ q) = decide (r.num * q.den ≤ q.num * r.den) := dec_le
end
section
open PySem PySem.Spec PyProof.Rows L2
/-- what the written part says of a plain own class, with what isinstance asks -/
structure ClsP (K : PySem.W.Frag) (C : Addr) : Prop where
  o : ClsO K C
  nb : PySem.W.subIn K (.ref C) (.type "bool") = some false
  ci : (PySem.W.clsIn K C).isSome = true
  ct : PySem.W.typeIn K (.ref C) = some (.type "type")
section
variable {K : PySem.W.Frag} {C D : Addr} {b : Bool} {t : Value}
theorem kit_self : PySem.W.kitOne K t t = some true := by
  unfold PySem.W.kitOne; rw [if_pos (by exact beq_self_eq_true t)]
theorem kit_own (k : ClsP K C) (h : PySem.W.subIn K t (.ref C) = some b) (hne : (t == Value.ref C) = false) : PySem.W.kitOne K t (.ref C) = some b := by
  unfold PySem.W.kitOne; rw [if_neg (by rw [hne]; simp)]
  show (if ((PySem.W.clsIn K C).isSome && PySem.W.typeIn K (.ref C) == some (.type "type")) = true then _ else _) = _
  rw [k.ci, k.ct, if_pos (by simp)]; exact h
theorem kit_ni (k : ClsP K C) : PySem.W.kitOne K (.ref C) (.type "int") = some false := by
  unfold PySem.W.kitOne; rw [if_neg (by intro z; cases beq_iff_eq.mp z)]
  show (if PySem.W.kitMeta "int" = true then PySem.W.subIn K (.ref C) (.type "int") else none) = _
  rw [if_pos (by decide +kernel)]; exact k.o.ni
theorem kit_nb (k : ClsP K C) : PySem.W.kitOne K (.ref C) (.type "bool") = some false := by
  unfold PySem.W.kitOne; rw [if_neg (by intro z; cases beq_iff_eq.mp z)]
  show (if PySem.W.kitMeta "bool" = true then PySem.W.subIn K (.ref C) (.type "bool") else none) = _
  rw [if_pos (by decide +kernel)]; exact k.nb
theorem kit_int (k : ClsP K C) : PySem.W.kitOne K (.type "int") (.ref C) = some false := kit_own k sub_int (Bool.eq_false_iff.mpr fun z => by cases beq_iff_eq.mp z)
theorem kit_str (k : ClsP K C) : PySem.W.kitOne K (.type "str") (.ref C) = some false := kit_own k sub_str (Bool.eq_false_iff.mpr fun z => by cases beq_iff_eq.mp z)
theorem kit_bool (k : ClsP K C) : PySem.W.kitOne K (.type "bool") (.ref C) = some false := kit_own k sub_bool (Bool.eq_false_iff.mpr fun z => by cases beq_iff_eq.mp z)
theorem kit_none (k : ClsP K C) : PySem.W.kitOne K (.type "NoneType") (.ref C) = some false := kit_own k sub_none (Bool.eq_false_iff.mpr fun z => by cases beq_iff_eq.mp z)
theorem kit_tup (k : ClsP K C) : PySem.W.kitOne K (.type "tuple") (.ref C) = some false := kit_own k sub_tuple (Bool.eq_false_iff.mpr fun z => by cases beq_iff_eq.mp z)
theorem kit_lst (k : ClsP K C) : PySem.W.kitOne K (.type "list") (.ref C) = some false := kit_own k sub_list (Bool.eq_false_iff.mpr fun z => by cases beq_iff_eq.mp z)
theorem ki_ii : PySem.W.kitOne K (.type "int") (.type "int") = some true := kit_ty (by decide +kernel)
theorem ki_ib : PySem.W.kitOne K (.type "int") (.type "bool") = some false := kit_ty (by decide +kernel)
theorem ki_bi : PySem.W.kitOne K (.type "bool") (.type "int") = some true := kit_ty (by decide +kernel)
theorem ki_bb : PySem.W.kitOne K (.type "bool") (.type "bool") = some true := kit_ty (by decide +kernel)
theorem ki_si : PySem.W.kitOne K (.type "str") (.type "int") = some false := kit_ty (by decide +kernel)
theorem ki_ni : PySem.W.kitOne K (.type "NoneType") (.type "int") = some false := kit_ty (by decide +kernel)
theorem ki_ti : PySem.W.kitOne K (.type "tuple") (.type "int") = some false := kit_ty (by decide +kernel)
theorem ki_li : PySem.W.kitOne K (.type "list") (.type "int") = some false := kit_ty (by decide +kernel)
theorem tyI {H : Hp} {n : Int} : TyX K H (.int n) (.type "int") := .base (.int n)
theorem tyB {H : Hp} {n : Bool} : TyX K H (.bl n) (.type "bool") := .base (.bl n)
theorem tyS {H : Hp} {n : Str} : TyX K H (.str n) (.type "str") := .base (.str n)
theorem tyN {H : Hp} : TyX K H .non (.type "NoneType") := .base .non
theorem tyT {H : Hp} {a : Addr} {xs : List V} (h : H a = some (.tup xs)) : TyX K H (.ref a) (.type "tuple") := .base (.tup h)
theorem tyL {H : Hp} {a : Addr} {xs : List V} (h : H a = some (.lst xs)) : TyX K H (.ref a) (.type "list") := .base (.lst h)
end
def CMulA (i j : Int) : Prop := CMul i j ∨ CMulW i j
section
variable {X : Cx}
theorem op_mulA : OpR X (binaryOp .Mult) (rI CMulA fun i j => .int (i * j)) := L2.opI fun _ _ _ _ _ _ _ hc q => mul_int q (hc.elim CMul.ok CMulW.ok)
variable {a b : Value} {r1 r2 : R2}
/-- two rules, of which one serves -/
theorem op_or {f : Value → Value → Sem Value} (h1 : OpR X f r1) (h2 : OpR X f r2) : OpR X f (fun x y H Q => r1 x y H Q ∨ r2 x y H Q) := by
  intro pins s σ H x y v u Q I rx ry h
  exact h.elim (h1 pins s σ H x y v u Q I rx ry) (h2 pins s σ H x y v u Q I rx ry)
theorem un_or {f : Value → Sem Value} {r1 r2 : V → Hp → VK → Prop} (h1 : UnR X f r1) (h2 : UnR X f r2) : UnR X f (fun x H Q => r1 x H Q ∨ r2 x H Q) := by
  intro pins s σ H x v Q I rx h
  exact h.elim (h1 pins s σ H x v Q I rx) (h2 pins s σ H x v Q I rx)
theorem tru_or {r1 r2 : V → Hp → (Bool → Hp → Prop) → Prop} (h1 : TruR X r1) (h2 : TruR X r2) : TruR X (fun x H Q => r1 x H Q ∨ r2 x H Q) := by
  intro pins s σ H x v Q I rx h
  exact h.elim (h1 pins s σ H x v Q I rx) (h2 pins s σ H x v Q I rx)
theorem call_or {f : Value} {r1 r2 : List V → Hp → VK → Prop} (h1 : CallR X f r1) (h2 : CallR X f r2) : CallR X f (fun x H Q => r1 x H Q ∨ r2 x H Q) := by
  intro pins s σ H xs us Q I r h
  exact h.elim (h1 pins s σ H xs us Q I r) (h2 pins s σ H xs us Q I r)
end
theorem cmA_bt {i j : Int} (hi : Bt i) (hj : Bt j) : CMulA i j := .inr (wide_mul hi hj (by decide) (by decide) (by decide))
theorem le64 {i : Int} (h : i.natAbs < 2 ^ 64) : -(2 ^ 64) < i ∧ i < 2 ^ 64 := by
  have e : (2 : Nat) ^ 64 = 18446744073709551616 := by decide
  have e' : (2 : Int) ^ 64 = 18446744073709551616 := by decide
  rw [e']; rw [e] at h; omega
theorem cmA_l {i j : Int} (h : i.natAbs < 2 ^ 64) : CMulA i j := .inl (.inl (le64 h))
theorem cmA_r {i j : Int} (h : j.natAbs < 2 ^ 64) : CMulA i j := .inl (.inr (le64 h))
theorem cmA_w {i j : Int} {n m : Nat} (hi : i.natAbs < 2 ^ n) (hj : j.natAbs < 2 ^ m) (h : n + m ≤ 999998) : CMulA i j :=
  .inr (wide_mul (a := n + 1) (b := m + 1) (pow_mono hi (Nat.le_succ n)) (pow_mono hj (Nat.le_succ m)) (Nat.succ_pos _) (Nat.succ_pos _) (by omega))
def fR (q : Rat) : List (Str × V) := [("top", .int q.num), ("bottom", .int (q.den : Int))]
def IsR (C : Addr) (H : Hp) (p : Addr) (q : Rat) : Prop := ∃ dx, H p = some (.ins C dx (fR q))
def NumV (C : Addr) (H : Hp) (v : V) (q : Rat) : Prop := (∃ n : Int, v = .int n ∧ q = (n : Rat)) ∨ ∃ p, v = .ref p ∧ IsR C H p q
/-- a value that is neither an int nor a Ratio -/
def Wrong (K : PySem.W.Frag) (C : Addr) (H : Hp) (v : V) : Prop := ∃ t, TyX K H v t ∧ PySem.W.kitOne K t (.ref C) = some false ∧ (PySem.W.kitOne K t (.type "int") = some false ∨ (PySem.W.kitOne K t (.type "int") = some true ∧ PySem.W.kitOne K t (.type "bool") = some true))
theorem IsR.le {C p : Addr} {H H' : Hp} {q : Rat} (l : Le H H') (h : IsR C H p q) : IsR C H' p q := by
  obtain ⟨dx, h⟩ := h
  exact ⟨dx, l _ _ h trivial⟩
theorem IsR.ex {C p : Addr} {H H' : Hp} {q : Rat} (l : Ex H H') (h : IsR C H p q) : IsR C H' p q := h.le l.le
theorem NumV.le {C : Addr} {v : V} {H H' : Hp} {q : Rat} (l : Le H H') (h : NumV C H v q) : NumV C H' v q := by
  rcases h with h | ⟨p, e, h⟩
  · exact .inl h
  · exact .inr ⟨p, e, h.le l⟩
theorem NumV.ex {C : Addr} {v : V} {H H' : Hp} {q : Rat} (l : Ex H H') (h : NumV C H v q) : NumV C H' v q := h.le l.le
structure RT (K : PySem.W.Frag) (mg : Str → Option Value) (C : Addr) : Prop where
  k : ClsP K C
  nT : NoAttr K C "top"
  nB : NoAttr K C "bottom"
  mgC : mg "Ratio" = some (.ref C)
theorem tb_ne : ¬ (("top" : Str) = "bottom") := by decide +kernel
theorem tb_ne' : ¬ (("bottom" : Str) = "top") := by decide +kernel
theorem lk_top {q : Rat} : (fR q).lookup ("top" : Str) = some (.int q.num) := by
  unfold fR; rw [List.lookup_cons]; simp
theorem lk_bot {q : Rat} : (fR q).lookup ("bottom" : Str) = some (.int (q.den : Int)) := by
  unfold fR
  rw [List.lookup_cons, show (("bottom" : Str) == "top") = false from by decide +kernel]
  show ([(("bottom" : Str), V.int (q.den : Int))]).lookup ("bottom" : Str) = _
  rw [List.lookup_cons]; simp
theorem lk_no {q : Rat} {m : Str} (h1 : (m == ("top" : Str)) = false) (h2 : (m == ("bottom" : Str)) = false) : (fR q).lookup m = none := by
  unfold fR
  rw [List.lookup_cons, h1]
  show ([(("bottom" : Str), V.int (q.den : Int))]).lookup m = _
  rw [List.lookup_cons, h2]; rfl
theorem fR_made {a b : Int} : putF "bottom" (.int b) (putF "top" (.int a) []) = [(("top" : Str), V.int a), (("bottom" : Str), V.int b)] := by
  show (if ("top" : Str) = "bottom" then _ else (("top" : Str), V.int a) :: putF "bottom" (V.int b) []) = _
  rw [if_neg tb_ne]; rfl
section
variable {K : PySem.W.Frag} {mg : Str → Option Value} {C a : Addr} {H : Hp} {Q : VK} {q : Rat} {E : XK} {σ : L2.St} {ta : TE} {f : Str} {v : V} {D : Ends}
/-- the field f of the instance x -/
def FldAt (K : PySem.W.Frag) (f : Str) (x : V) (H : Hp) (Q : VK) : Prop := ∃ a C dx fs v, x = .ref a ∧ H a = some (.ins C dx fs) ∧ Cls K C ∧ NoAttr K C f ∧ fs.lookup f = some v ∧ Q v H
theorem r_fld (k : ta σ H fun x H1 => FldAt K f x H1 Q) : tFld K ta f σ H Q := k
theorem r_top {K' : PySem.W.Frag} (T : RT K mg C) (e : K' = K) (h : IsR C H a q) (k : Q (.int q.num) H) : FldAt K' "top" (.ref a) H Q := by
  subst e
  obtain ⟨dx, h⟩ := h
  exact ⟨a, C, dx, _, _, rfl, h, T.k.o.cl, T.nT, lk_top, k⟩
theorem r_bot {K' : PySem.W.Frag} (T : RT K mg C) (e : K' = K) (h : IsR C H a q) (k : Q (.int (q.den : Int)) H) : FldAt K' "bottom" (.ref a) H Q := by
  subst e
  obtain ⟨dx, h⟩ := h
  exact ⟨a, C, dx, _, _, rfl, h, T.k.o.cl, T.nB, lk_bot, k⟩
/-- the store of a field -/
def PutAt (K : PySem.W.Frag) (f : Str) (x v : V) (H : Hp) (N : Hp → Prop) : Prop := ∃ a C dx fs, x = .ref a ∧ H a = some (.ins C dx fs) ∧ Cls K C ∧ NoAttr K C f ∧ fs.length < 1000 ∧ N (upd H a (.ins C dx (putF f v fs)))
theorem IsR.tyx (T : RT K mg C) (h : IsR C H a q) : TyX K H (.ref a) (.ref C) := by
  obtain ⟨dx, h⟩ := h
  exact T.k.o.ty h
def spIsInt (K : PySem.W.Frag) : Sp := fun vs H Q _ => ∃ v t r s, vs = [v] ∧ TyX K H v t ∧ PySem.W.kitOne K t (.type "int") = some r ∧ (r = true → PySem.W.kitOne K t (.type "bool") = some s) ∧ Q (.bl (r && !s)) H
theorem q_isInt_i {n : Int} (k : Q (.bl true) H) : spIsInt K [.int n] H Q E := ⟨_, _, true, false, rfl, tyI, ki_ii, fun _ => ki_ib, k⟩
theorem q_isInt_r (T : RT K mg C) (h : IsR C H a q) (k : Q (.bl false) H) : spIsInt K [.ref a] H Q E := ⟨_, _, false, false, rfl, h.tyx T, kit_ni T.k, (fun z => nomatch z), k⟩
theorem q_isInt_w (h : Wrong K C H v) (k : Q (.bl false) H) : spIsInt K [v] H Q E := by
  obtain ⟨t, ht, _, h | ⟨h1, h2⟩⟩ := h
  · exact ⟨v, t, false, false, rfl, ht, h, (fun z => nomatch z), k⟩
  · exact ⟨v, t, true, true, rfl, ht, h1, (fun _ => h2), k⟩
def spIsNum (K : PySem.W.Frag) (C : Addr) : Sp := fun vs H Q _ => ∃ v, vs = [v] ∧ (((∃ q, NumV C H v q) ∧ Q (.bl true) H) ∨ (Wrong K C H v ∧ Q (.bl false) H))
theorem q_isNum (h : NumV C H v q) (k : Q (.bl true) H) : spIsNum K C [v] H Q E := ⟨v, rfl, .inl ⟨⟨q, h⟩, k⟩⟩
/-- raises the own error CX with the value v -/
def Rz (E : XK) (CX : Addr) (fn : Str) (v : V) (H : Hp) : Prop := ∀ d H', Ex H H' → H' d = some (.xd [(fn, v)]) → H d = none → E (.ref CX) (some d) H'
theorem Rz.at {CX : Addr} {fn : Str} {v : V} (h : Rz E CX fn v H) : ∃ v', [v] = [v'] ∧ ∀ d, H d = none → E (.ref CX) (some d) (upd H d (.xd [(fn, v')])) := ⟨v, rfl, fun d hd => h d _ (Ex.new hd) upd_same hd⟩
theorem Rz.ex {CX : Addr} {fn : Str} {v : V} {H' : Hp} (h : Rz E CX fn v H) (e : Ex H H') : Rz E CX fn v H' := fun d H2 e2 hd hn => h d H2 (e.trans e2) hd (by
  cases z : H d with
  | none => rfl
  | some o => have := e d o z; rw [hn] at this; cases this)
def spRatioOf (K : PySem.W.Frag) (C CB : Addr) : Sp := fun vs H Q E => ∃ v, vs = [v] ∧ ((∃ q, NumV C H v q ∧ Bq q ∧ ∀ H' p, Ex H H' → IsR C H' p q → Q (.ref p) H') ∨ (Wrong K C H v ∧ Rz E CB "value" v H))
/-- __init__ -/
def spRInit (K : PySem.W.Frag) (C CB : Addr) : Sp := fun vs H Q E => ∃ p dx x y, vs = [.ref p, x, y] ∧ H p = some (.ins C dx []) ∧
  ((∃ a b : Int, x = .int a ∧ y = .int b ∧ b ≠ 0 ∧ b.natAbs < 2 ^ 9000 ∧ ∀ H', (∀ c o, H c = some o → c ≠ p → H' c = some o) → IsR C H' p (Rat.divInt a b) → Q .non H') ∨
   (Wrong K C H x ∧ Rz E CB "value" x H) ∨ (∃ a : Int, x = .int a ∧ Wrong K C H y ∧ Rz E CB "value" y H) ∨ (∃ a : Int, x = .int a ∧ y = .int 0 ∧ Rz E CB "value" (.int 0) H))
/-- a new Ratio, whatever it was made of -/
def NewR (C : Addr) (Q : VK) (H : Hp) (q : Rat) : Prop := ∀ H' p, Ex H H' → IsR C H' p q → Q (.ref p) H'
/-- the reading of C(..): the instance is new, __init__ keeps sp -/
def MkAt (C : Addr) (sp : Sp) (dvs : List V) (E : XK) (vs : List V) (H : Hp) (Q : VK) : Prop := ∀ x dx, H x = none → H dx = none → dx ≠ x → sp (.ref x :: (vs ++ dvs)) (upd (upd H dx (.own x)) x (.ins C dx [])) (fun v H2 => v = .non ∧ Q (.ref x) H2) E
/-- the reading of Ratio(a, b) -/
theorem q_mk {CB : Addr} {a b : Int} {dvs vs : List V} (e : vs ++ dvs = [.int a, .int b]) (hb : b ≠ 0) (h9 : b.natAbs < 2 ^ 9000) (k : NewR C Q H (Rat.divInt a b)) : MkAt C (spRInit K C CB) dvs E vs H Q := by
  intro x dx hx hdx hne
  rw [e]
  refine ⟨x, dx, _, _, rfl, upd_same, .inl ⟨a, b, rfl, rfl, hb, h9, fun H' st h => ⟨rfl, k H' x (fun c o hc => ?_) h⟩⟩⟩
  exact st c o (by rw [upd_ne (ne_of_none hc hx), upd_ne (ne_of_none hc hdx)]; exact hc) (ne_of_none hc hx)
/-- a method of one argument: a number of either kind -/
def spR1 (C : Addr) (g : Rat → Rat → Rat) (ok : Rat → Rat → Prop) : Sp := fun vs H Q _ => ∃ a v q r, vs = [.ref a, v] ∧ IsR C H a q ∧ NumV C H v r ∧ Bq q ∧ Bq r ∧ ok q r ∧ NewR C Q H (g q r)
/-- .. an int alone -/
def spRI (C : Addr) (g : Rat → Rat → Rat) (ok : Rat → Rat → Prop) : Sp := fun vs H Q _ => ∃ a q n, vs = [.ref a, .int n] ∧ IsR C H a q ∧ Bq q ∧ Bt n ∧ ok q (n : Rat) ∧ NewR C Q H (g q (n : Rat))
/-- a value, whatever was made on the way -/
def NewV (Q : VK) (H : Hp) (v : V) : Prop := ∀ H', Ex H H' → Q v H'
/-- a comparison -/
def spRB (C : Addr) (g : Rat → Rat → Bool) : Sp := fun vs H Q _ => ∃ a v q r, vs = [.ref a, v] ∧ IsR C H a q ∧ NumV C H v r ∧ Bq q ∧ Bq r ∧ NewV Q H (.bl (g q r))
/-- without an argument -/
def spR0 (C : Addr) (g : Rat → Rat) : Sp := fun vs H Q _ => ∃ a q, vs = [.ref a] ∧ IsR C H a q ∧ Bq q ∧ NewR C Q H (g q)
def spRV (C : Addr) (g : Rat → V) : Sp := fun vs H Q _ => ∃ a q, vs = [.ref a] ∧ IsR C H a q ∧ Bq q ∧ Q (g q) H
end
section
variable {X : Cx} {pos : Pos}
/-- a name that is not reached -/
theorem pe_ni {e : Expr} : PE X e (fun _ _ _ => False) := ⟨fun _ _ _ _ _ _ h => h.elim⟩
end
end
section
open PySem PySem.Spec PyProof.Rows L2
theorem st_set {σ : L2.St} {i : Nat} {v : Option V} {τ : L2.St} {QS : L2.St → Hp → Prop} {H : Hp} (e : σ.set i v = τ) (h : QS τ H) : QS (σ.set i v) H := by rw [e]; exact h
theorem r_blP {b : Bool} {R : Bool → Prop} (k : R b) : ∃ b', V.bl b = .bl b' ∧ R b' := ⟨b, rfl, k⟩
theorem Bq.n {q : Rat} (h : Bq q) : Bt q.num := h.1
theorem Bq.d {q : Rat} (h : Bq q) : Bt (q.den : Int) := h.2
theorem bt_abs {i : Int} (h : Bt i) : Bt (i.natAbs : Int) := by unfold Bt; rw [Int.natAbs_natCast]; exact h
theorem bt_neg {i : Int} (h : Bt i) : Bt (-i) := by unfold Bt; rw [Int.natAbs_neg]; exact h
theorem bt_mul9 {i j : Int} (hi : Bt i) (hj : Bt j) : (i * j).natAbs < 2 ^ 9000 := pow_mono (lt_mul hi hj) (by decide)
theorem bt_9 {i : Int} (hi : Bt i) : i.natAbs < 2 ^ 9000 := pow_mono hi (by decide)
section
variable {K : PySem.W.Frag} {mg : Str → Option Value} {C a p CB : Addr} {H : Hp} {Q : VK} {q r : Rat} {E : XK} {σ : L2.St} {t : TA} {ta : TE} {sp : Sp} {dvs : List V} {f m : Str} {v : V} {D : Ends} {k : Nat} {ok : Rat → Rat → Prop} {g : Rat → Rat → Rat}
theorem r_ck (h : t σ H fun vs H1 => MkAt C sp dvs E vs H1 Q) : tK1 C sp dvs E t σ H Q := h
theorem r_cm (h : ta σ H fun x H1 => ∃ a dx fs, x = .ref a ∧ H1 a = some (.ins C dx fs) ∧ fs.lookup m = none ∧ t σ H1 fun vs H2 => sp (.ref a :: vs) H2 Q E) : tM1 C m sp E ta t σ H Q := h
theorem q_ratioOf (h : NumV C H v q) (b : Bq q) (k : NewR C Q H q) : spRatioOf K C CB [v] H Q E := ⟨v, rfl, .inl ⟨q, h, b, k⟩⟩
theorem q_ratioOfW (h : Wrong K C H v) (k : Rz E CB "value" v H) : spRatioOf K C CB [v] H Q E := ⟨v, rfl, .inr ⟨h, k⟩⟩
theorem q_isNumW (h : Wrong K C H v) (k : Q (.bl false) H) : spIsNum K C [v] H Q E := ⟨v, rfl, .inr ⟨h, k⟩⟩
theorem NewR.ex {H' : Hp} (k : NewR C Q H q) (e : Ex H H') : NewR C Q H' q := fun H2 p e2 h => k H2 p (e.trans e2) h
theorem NewV.ex {H' : Hp} (k : NewV Q H v) (e : Ex H H') : NewV Q H' v := fun H2 e2 => k H2 (e.trans e2)
theorem NewV.here (k : NewV Q H v) : Q v H := k H (Ex.refl H)
theorem num_i {n : Int} : NumV C H (.int n) (n : Rat) := .inl ⟨n, rfl, rfl⟩
theorem num_r (h : IsR C H p q) : NumV C H (.ref p) q := .inr ⟨p, rfl, h⟩
theorem bq_i {n : Int} (h : Bt n) : Bq (n : Rat) := ⟨h, by show (1 : Int).natAbs < _; exact Nat.one_lt_two_pow (by decide)⟩
/-- an operator's reading, x a Ratio -/
theorem o_O {y : V} {ok : V → Hp → Prop} (h : IsR C H a q) (ho : ok y H) (k : sp [.ref a, y] H Q E) : rO C sp E ok (.ref a) y H Q := by
  obtain ⟨dx, h⟩ := h; exact ⟨a, dx, _, rfl, h, ho, k⟩
theorem o_ins (h : IsR C H p q) : isIns C (.ref p) H := by
  obtain ⟨dx, h⟩ := h; exact ⟨p, dx, _, rfl, h⟩
theorem o_int {n : Int} : isInt (.int n) H := ⟨n, rfl⟩
theorem o_any {t : Value} {y : V} (h : TyX K H y t) (n : PySem.W.notFirst K C t = true) : isAny K C y H := ⟨t, h, n⟩
theorem o_anyR (T : RT K mg C) (h : IsR C H p q) : isAny K C (.ref p) H := ⟨_, h.tyx T, nf_self⟩
theorem o_anyI {n : Int} : isAny K C (.int n) H := ⟨_, tyI, nf_of sub_int⟩
theorem o_Or {n : Int} (h : IsR C H a q) (k : sp [.ref a, .int n] H Q E) : rOr C sp E (.int n) (.ref a) H Q := by
  obtain ⟨dx, h⟩ := h; exact ⟨a, dx, _, n, rfl, rfl, h, k⟩
theorem o_NO {y : V} {ok : V → Hp → Prop} (h : IsR C H a q) (ho : ok y H) (k : sp [.ref a, y] H (kNB Q) E) : rNO C sp E ok (.ref a) y H Q := by
  obtain ⟨dx, h⟩ := h; exact ⟨a, dx, _, rfl, h, ho, k⟩
theorem o_U (h : IsR C H a q) (k : sp [.ref a] H Q E) : rU1 C sp E (.ref a) H Q := by
  obtain ⟨dx, h⟩ := h; exact ⟨a, dx, _, rfl, h, k⟩
theorem o_C {kk : VK → VK} (h : IsR C H a q) (k : sp [.ref a] H (kk Q) E) : rC1 C sp E kk [.ref a] H Q := by
  obtain ⟨dx, h⟩ := h; exact ⟨a, dx, _, rfl, h, k⟩
theorem o_T {QT : Bool → Hp → Prop} (h : IsR C H a q) (k : sp [.ref a] H (fun v H' => ∃ b, v = .bl b ∧ QT b H') E) : ∃ a' dx fs, V.ref a = .ref a' ∧ H a' = some (.ins C dx fs) ∧ sp [.ref a'] H (fun v H' => ∃ b, v = .bl b ∧ QT b H') E := by
  obtain ⟨dx, h⟩ := h; exact ⟨a, dx, _, rfl, h, k⟩
theorem o_M {R : Addr → Prop} (h : IsR C H a q) (hm : (m == ("top" : Str)) = false) (hm' : (m == ("bottom" : Str)) = false) (k : R a) : ∃ a' dx fs, V.ref a = .ref a' ∧ H a' = some (.ins C dx fs) ∧ fs.lookup m = none ∧ R a' := by
  obtain ⟨dx, h⟩ := h; exact ⟨a, dx, _, rfl, h, lk_no hm hm', k⟩
theorem q_R1 (h : IsR C H a q) (hv : NumV C H v r) (b : Bq q) (b' : Bq r) (o : ok q r) (k : NewR C Q H (g q r)) : spR1 C g ok [.ref a, v] H Q E := ⟨a, v, q, r, rfl, h, hv, b, b', o, k⟩
theorem q_RI {n : Int} (h : IsR C H a q) (b : Bq q) (b' : Bt n) (o : ok q (n : Rat)) (k : NewR C Q H (g q (n : Rat))) : spRI C g ok [.ref a, .int n] H Q E := ⟨a, q, n, rfl, h, b, b', o, k⟩
theorem q_RB {g : Rat → Rat → Bool} (h : IsR C H a q) (hv : NumV C H v r) (b : Bq q) (b' : Bq r) (k : NewV Q H (.bl (g q r))) : spRB C g [.ref a, v] H Q E := ⟨a, v, q, r, rfl, h, hv, b, b', k⟩
theorem q_R0 {g : Rat → Rat} (h : IsR C H a q) (b : Bq q) (k : NewR C Q H (g q)) : spR0 C g [.ref a] H Q E := ⟨a, q, rfl, h, b, k⟩
theorem q_RV {g : Rat → V} (h : IsR C H a q) (b : Bq q) (k : Q (g q) H) : spRV C g [.ref a] H Q E := ⟨a, q, rfl, h, b, k⟩
end
/-- a fact carried to the heap of the goal -/
theorem r_sfld {K : PySem.W.Frag} {σ : L2.St} {H : Hp} {ta tv : TE} {f : Str} {D : Ends} (k : tv σ H fun y H1 => ta σ H1 fun x H2 => PutAt K f x y H2 (fun H' => D.nx σ H')) : sFld K ta tv f D σ H := k
/-- a field of an instance of which all is known -/
theorem r_put {K K' : PySem.W.Frag} {C p dx : Addr} {fs : List (Str × V)} {f : Str} {v : V} {H : Hp} {N : Hp → Prop} (c : Cls K C) (n : NoAttr K C f) (e : K' = K) (h : H p = some (.ins C dx fs)) (hl : fs.length < 1000) (k : N (upd H p (.ins C dx (putF f v fs)))) : PutAt K' f (.ref p) v H N := by
  subst e
  exact ⟨p, C, dx, fs, rfl, h, c, n, hl, k⟩
theorem upd_upd {H : Hp} {p : Addr} {o o' : HO} : upd (upd H p o) p o' = upd H p o' := by
  funext b
  by_cases e : b = p
  · subst e; rw [upd_same, upd_same]
  · rw [upd_ne e, upd_ne e, upd_ne e]
end
open PySem PySem.Spec PyProof.Rows L2
local macro_rules | `(tactic| wtm_at "of_up") => `(tactic| first | assumption | (apply IsR.ex; assumption; wtm_at "of_up") | (apply NumV.ex; assumption; wtm_at "of_up") | (apply num_r; wtm_at "of_up") | exact num_i | (apply NewR.ex; wtm_at "of_up"; assumption) | (apply NewV.ex; wtm_at "of_up"; assumption) | (apply Rz.ex; wtm_at "of_up"; assumption))
section
open PySem PySem.Spec PyProof.Rows L2
end
open PySem PySem.Spec PyProof.Rows L2
local macro_rules | `(tactic| wtm_at "of_btl") => `(tactic| first | assumption | exact Bq.n (by assumption) | exact Bq.d (by assumption) | (refine bt_neg ?_; wtm_at "of_btl") | (refine bt_abs ?_; wtm_at "of_btl") | (refine bq_i ?_; wtm_at "of_btl"))
section
open PySem PySem.Spec PyProof.Rows L2
end
open PySem PySem.Spec PyProof.Rows L2
local macro_rules | `(tactic| wtm_at "of_rd1") => `(tactic| with_reducible first
  | refine r_seq ?_ | refine r_asg ?_ | refine r_ret ?_ | refine r_sfld ?_ | refine r_ifS ?_ | refine r_drop ?_ | refine r_next ?_ | refine r_retN ?_ | refine r_gcd ?_
  | refine r_op ?_ | refine r_un ?_ | refine r_fld ?_ | refine r_cons ?_ | refine r_nil ?_ | refine r_c ?_ | refine r_c1 ?_ | refine r_cb ?_ | refine r_ck ?_ | refine r_cm ?_
  | refine r_test ?_ | refine r_B ?_ | refine r_and ?_ | refine r_or ?_ | refine r_not ?_ | refine r_andV ?_ | refine r_orV ?_ | refine r_notV ?_ | refine r_ifE ?_
  | refine r_tr ?_ | refine r_name ?_ | refine r_blP ?_ | refine r_tup ?_ | refine r_lst ?_ | refine r_gCons ?_ | refine r_gNil ?_ | refine r_rz ?_
  | refine r_var (by with_unfolding_all rfl) ?_
  | refine iteT ?_ | refine iteF ?_ | refine iteNT ?_ | refine iteNF ?_
  | refine r_I0 ?_ | refine r_I (cmA_bt (by wtm_at "of_btl") (by wtm_at "of_btl")) ?_ | refine r_U ?_ | refine r_eqI ?_ | refine r_neI ?_
  | refine r_top (by assumption) (by with_unfolding_all rfl) (by wtm_at "of_up") ?_ | refine r_bot (by assumption) (by with_unfolding_all rfl) (by wtm_at "of_up") ?_)
section
open PySem PySem.Spec PyProof.Rows L2
end
open PySem PySem.Spec PyProof.Rows L2
local macro_rules | `(tactic| wtm_at "of_rd") => `(tactic| repeat wtm_at "of_rd1")
section
open PySem PySem.Spec PyProof.Rows L2
end
section
open PySem PySem.Spec PyProof.Rows L2 RZ
section
variable {K : PySem.W.Frag} {σ : L2.St} {H : Hp} {Q : VK} {QA : List V → Hp → Prop} {D : Ends} {ta tb te : TE} {tr : TA} {wi : TI} {g : TG} {ts : TS} {tt : TT} {vs : List Nat} {a l p : Addr} {xs : List V} {x y v : V} {R : It → Hp → Prop}
def ForIt (J : It) (g : TG) (tb : TS) (D : Ends) (σ : L2.St) (H : Hp) : Prop := ∃ W : Nat → Nat → L2.St → Hp → Prop, (∃ m, W 0 m σ H) ∧ ∀ i m σ H, W i m σ H →
  (J.stop i H ∧ D.nx σ H) ∨ (J.go i H ∧ ∃ N : L2.St → Hp → Prop, (∀ σ' H', N σ' H' → ∃ m', m' < m ∧ W (i + 1) m' σ' H') ∧ ∀ x H', J.yld i H x H' → g x σ H' fun σ2 H2 => tb { D with nx := N, ct := N, bk := D.nx } σ2 H2)
theorem r_for (k : wi σ H fun J H1 => ForIt J g ts D σ H1) : tFor wi g ts D σ H := k
def LcIt (J : It) (g : TG) (tt : TT) (te : TE) (vs : List Nat) (σ : L2.St) (H1 : Hp) (Q : VK) : Prop := ∀ D, H1 D = none → ∃ W : Nat → Nat → Hp → Prop, (∃ m, W 0 m (upd H1 D (.lst []))) ∧ ∀ i m H, W i m H →
  (J.stop i H ∧ Q (.ref D) H) ∨ (J.go i H ∧ ∃ Nx : Hp → Prop, (∀ H', Nx H' → ∃ m', m' < m ∧ W (i + 1) m' H') ∧ ∀ x H', J.yld i H x H' → g x (wipe σ vs) H' fun σ2 H2 => wipe σ2 vs = wipe σ vs ∧ tt σ2 H2 fun b H3 =>
    if b = true then te σ2 H3 fun y H4 => ∃ acc, H4 D = some (.lst acc) ∧ acc.length < sizeLine ∧ Nx (upd H4 D (.lst (acc ++ [y]))) else Nx H3)
theorem r_lc (k : wi σ H fun J H1 => LcIt J g tt te vs σ H1 Q) : tLc wi g tt te vs σ H Q := k
def ItL (K : PySem.W.Frag) (x : V) (H : Hp) (R : It → Hp → Prop) : Prop := ∃ a, x = .ref a ∧ (∃ xs, SqL K H a xs) ∧ R (Itl K a) H
def ItT (K : PySem.W.Frag) (x : V) (H : Hp) (R : It → Hp → Prop) : Prop := ∃ a, x = .ref a ∧ (∃ xs, SqT K H a xs) ∧ R (Itt K a) H
def ItR (vs : List V) (H : Hp) (R : It → Hp → Prop) : Prop := ∃ j : Int, vs = [.int j] ∧ -(2 ^ 62) ≤ j ∧ j < 2 ^ 62 ∧ R (Itr 0 j.toNat) H
def ItR2 (vs : List V) (H : Hp) (R : It → Hp → Prop) : Prop := ∃ i j : Int, vs = [.int i, .int j] ∧ (-(2 ^ 62) ≤ i ∧ i < 2 ^ 62 ∧ -(2 ^ 62) ≤ j ∧ j < 2 ^ 62) ∧ R (Itr i (j - i).toNat) H
def ItR3 (vs : List V) (H : Hp) (R : It → Hp → Prop) : Prop := ∃ (i j c : Int) (n : Nat), vs = [.int i, .int j, .int c] ∧ RgC i j c n ∧ R (Itc i c n) H
def ItZ (K : PySem.W.Frag) (vs : List V) (H : Hp) (R : It → Hp → Prop) : Prop := ∃ a b xs ys, vs = [.ref a, .ref b] ∧ ((SqL K H a xs ∧ SqL K H b ys ∧ R (Itz K a b) H) ∨ (SqT K H a xs ∧ SqT K H b ys ∧ R (ItzT K a b) H))
theorem r_iL (k : ta σ H fun x H1 => ItL K x H1 R) : iList K ta σ H R := k
theorem r_iT (k : ta σ H fun x H1 => ItT K x H1 R) : iTup K ta σ H R := k
theorem r_iR1 (k : tr σ H fun x H1 => ItR x H1 R) : iRng1 tr σ H R := k
theorem r_iR2 (k : tr σ H fun x H1 => ItR2 x H1 R) : iRng2 tr σ H R := k
theorem r_iR3 (k : tr σ H fun x H1 => ItR3 x H1 R) : iRng3 tr σ H R := k
theorem r_iZ (k : tr σ H fun x H1 => ItZ K x H1 R) : iZipA K tr σ H R := k
theorem i_L (h : H a = some (.lst xs)) (k : R (Itl K a) H) : ItL K (.ref a) H R := ⟨a, rfl, ⟨xs, SqL.of h⟩, k⟩
theorem i_T (h : H a = some (.tup xs)) (k : R (Itt K a) H) : ItT K (.ref a) H R := ⟨a, rfl, ⟨xs, SqT.of h⟩, k⟩
theorem n62 {n : Nat} (h : n ≤ 1000000000) : -(2 ^ 62) ≤ (n : Int) ∧ (n : Int) < 2 ^ 62 := by
  have e : (2 : Int) ^ 62 = 4611686018427387904 := by decide
  rw [e]; omega
theorem i_R {n : Nat} {j : Int} (e : j = (n : Int)) (h : n ≤ 1000000000) (k : R (Itr 0 n) H) : ItR [.int j] H R := by
  subst e
  exact ⟨_, rfl, (n62 h).1, (n62 h).2, k⟩
theorem i_ZT {b : Addr} {ys : List V} (h : H a = some (.tup xs)) (h' : H b = some (.tup ys)) (k : R (ItzT K a b) H) : ItZ K [.ref a, .ref b] H R := ⟨a, b, xs, ys, rfl, .inr ⟨SqT.of h, SqT.of h', k⟩⟩
theorem i_ZL {b : Addr} {ys : List V} (h : H a = some (.lst xs)) (h' : H b = some (.lst ys)) (k : R (Itz K a b) H) : ItZ K [.ref a, .ref b] H R := ⟨a, b, xs, ys, rfl, .inl ⟨SqL.of h, SqL.of h', k⟩⟩
/-- one turn of a loop: the body, with where it goes on -/
def Turn1 (g : TG) (tb : TS) (D : Ends) (N : L2.St → Hp → Prop) (x : V) (σ : L2.St) (H : Hp) : Prop := g x σ H fun σ2 H2 => tb { D with nx := N, ct := N, bk := D.nx } σ2 H2
theorem fL (Pv : Nat → L2.St → Hp → Prop) (h0 : Pv 0 σ H) (hl : ∀ i σ H, i ≤ xs.length → Pv i σ H → H a = some (.lst xs))
    (hs : ∀ i x σ H, xs[i]? = some x → Pv i σ H → Turn1 g ts D (Pv (i + 1)) x σ H) (hd : ∀ σ H, Pv xs.length σ H → D.nx σ H) : ForIt (Itl K a) g ts D σ H := for_list Pv h0 (fun i σ H hi h => SqL.of (hl i σ H hi h)) hs hd
theorem fR' {lo : Int} {n : Nat} (Pv : Nat → L2.St → Hp → Prop) (h0 : Pv 0 σ H) (hs : ∀ i σ H, i < n → Pv i σ H → Turn1 g ts D (Pv (i + 1)) (.int (lo + i)) σ H) (hd : ∀ σ H, Pv n σ H → D.nx σ H) : ForIt (Itr lo n) g ts D σ H := for_range Pv h0 hs hd
theorem fZT {b : Addr} {ys : List V} (hl : xs.length = ys.length) (Pv : Nat → L2.St → Hp → Prop) (h0 : Pv 0 σ H) (hq : ∀ i σ H, Pv i σ H → H a = some (.tup xs) ∧ H b = some (.tup ys))
    (hs : ∀ (i : Nat) (x y : V) (T : Addr) (σ : L2.St) (H H' : Hp), xs[i]? = some x → ys[i]? = some y → Pv i σ H → Ex H H' → H T = none → H' T = some (.tup [x, y]) → Turn1 g ts D (Pv (i + 1)) (.ref T) σ H') (hd : ∀ σ H, Pv xs.length σ H → D.nx σ H) : ForIt (ItzT K a b) g ts D σ H :=
  for_zipT hl Pv h0 (fun i σ H h => ⟨SqT.of (hq i σ H h).1, SqT.of (hq i σ H h).2⟩) (fun i x y T σ H h1 h2 h3 h4 => hs i x y T σ H _ h1 h2 h3 (Ex.new h4) h4 upd_same) hd
/-- a comprehension's item is put to its list -/
def LPut (L : Addr) (P : List V → Hp → Prop) (y : V) (H : Hp) : Prop := ∃ acc, H L = some (.lst acc) ∧ acc.length < sizeLine ∧ ∃ acc', upd H L (.lst (acc ++ [y])) L = some (.lst acc') ∧ P acc' (upd H L (.lst (acc ++ [y])))
theorem lput {L : Addr} {P : List V → Hp → Prop} {acc : List V} (h : H L = some (.lst acc)) (hn : acc.length ≤ 1000000) (k : P (acc ++ [y]) (upd H L (.lst (acc ++ [y])))) : LPut L P y H :=
  ⟨acc, h, by rw [sizeLine_eq]; omega, acc ++ [y], upd_same, k⟩
/-- a turn of a comprehension -/
def LTurn (g : TG) (tt : TT) (te : TE) (vs : List Nat) (σ : L2.St) (L : Addr) (P : List V → Hp → Prop) (x : V) (H : Hp) : Prop :=
  g x (wipe σ vs) H fun σ2 H2 => wipe σ2 vs = wipe σ vs ∧ tt σ2 H2 fun b H3 => if b = true then te σ2 H3 fun y H4 => LPut L P y H4 else ∃ acc, H3 L = some (.lst acc) ∧ P acc H3
theorem lL (Pv : Addr → Nat → List V → Hp → Prop) (h0 : ∀ L, H L = none → ∀ H', Ex H H' → H' L = some (.lst []) → Pv L 0 [] H')
    (hl : ∀ L i acc H', H L = none → i ≤ xs.length → Pv L i acc H' → H' a = some (.lst xs))
    (hs : ∀ L i x acc H', H L = none → xs[i]? = some x → Pv L i acc H' → H' L = some (.lst acc) → LTurn g tt te vs σ L (Pv L (i + 1)) x H')
    (hd : ∀ L acc H', H L = none → H' L = some (.lst acc) → Pv L xs.length acc H' → Q (.ref L) H') : LcIt (Itl K a) g tt te vs σ H Q := by
  intro L hL
  refine lc_list (xs := xs) (fun i H' => ∃ acc, H' L = some (.lst acc) ∧ Pv L i acc H') ⟨[], upd_same, h0 L hL _ (Ex.new hL) upd_same⟩ (fun i H' hi ⟨acc, h1, h2⟩ => SqL.of (hl L i acc H' hL hi h2)) (fun i x H' hx' ⟨acc, h1, h2⟩ => ?_) (fun H' ⟨acc, h1, h2⟩ => hd L acc H' hL h1 h2)
  exact hs L i x acc H' hL hx' h2 h1
theorem lR {lo : Int} {n : Nat} (Pv : Addr → Nat → List V → Hp → Prop) (h0 : ∀ L, H L = none → ∀ H', Ex H H' → H' L = some (.lst []) → Pv L 0 [] H')
    (hs : ∀ L i acc H', H L = none → i < n → Pv L i acc H' → H' L = some (.lst acc) → LTurn g tt te vs σ L (Pv L (i + 1)) (.int (lo + i)) H')
    (hd : ∀ L acc H', H L = none → H' L = some (.lst acc) → Pv L n acc H' → Q (.ref L) H') : LcIt (Itr lo n) g tt te vs σ H Q := by
  intro L hL
  refine lc_range (fun i H' => ∃ acc, H' L = some (.lst acc) ∧ Pv L i acc H') ⟨[], upd_same, h0 L hL _ (Ex.new hL) upd_same⟩ (fun i H' hi ⟨acc, h1, h2⟩ => ?_) (fun H' ⟨acc, h1, h2⟩ => hd L acc H' hL h1 h2)
  exact hs L i acc H' hL hi h2 h1
theorem lRC {lo c : Int} {n : Nat} (Pv : Addr → Nat → List V → Hp → Prop) (h0 : ∀ L, H L = none → ∀ H', Ex H H' → H' L = some (.lst []) → Pv L 0 [] H')
    (hs : ∀ L i acc H', H L = none → i < n → Pv L i acc H' → H' L = some (.lst acc) → LTurn g tt te vs σ L (Pv L (i + 1)) (.int (lo + (i : Nat) * c)) H')
    (hd : ∀ L acc H', H L = none → H' L = some (.lst acc) → Pv L n acc H' → Q (.ref L) H') : LcIt (Itc lo c n) g tt te vs σ H Q := by
  intro L hL
  refine ⟨fun i m H' => m = n - i ∧ i ≤ n ∧ ∃ acc, H' L = some (.lst acc) ∧ Pv L i acc H', ⟨n, by simp, Nat.zero_le _, [], upd_same, h0 L hL _ (Ex.new hL) upd_same⟩, ?_⟩
  rintro i m H' ⟨rfl, hi, acc, h1, h2⟩
  by_cases hlt : i < n
  · refine .inr ⟨hlt, fun H' => ∃ acc, H' L = some (.lst acc) ∧ Pv L (i + 1) acc H', fun H' p' => ⟨n - (i + 1), by omega, rfl, hlt, p'⟩, fun x H'' y => ?_⟩
    obtain ⟨e, y⟩ := y
    subst e y
    exact hs L i acc _ hL hlt h2 h1
  · have e : i = n := by omega
    subst e
    exact .inl ⟨Nat.le_refl _, hd L acc H' hL h1 h2⟩
theorem lT (Pv : Addr → Nat → List V → Hp → Prop) (h0 : ∀ L, H L = none → ∀ H', Ex H H' → H' L = some (.lst []) → Pv L 0 [] H')
    (hl : ∀ L i acc H', H L = none → i ≤ xs.length → Pv L i acc H' → H' a = some (.tup xs))
    (hs : ∀ L i x acc H', H L = none → xs[i]? = some x → Pv L i acc H' → H' L = some (.lst acc) → LTurn g tt te vs σ L (Pv L (i + 1)) x H')
    (hd : ∀ L acc H', H L = none → H' L = some (.lst acc) → Pv L xs.length acc H' → Q (.ref L) H') : LcIt (Itt K a) g tt te vs σ H Q := by
  intro L hL
  refine lc_tup (xs := xs) (fun i H' => ∃ acc, H' L = some (.lst acc) ∧ Pv L i acc H') ⟨[], upd_same, h0 L hL _ (Ex.new hL) upd_same⟩ (fun i H' hi ⟨acc, h1, h2⟩ => SqT.of (hl L i acc H' hL hi h2)) (fun i x H' hx' ⟨acc, h1, h2⟩ => ?_) (fun H' ⟨acc, h1, h2⟩ => hd L acc H' hL h1 h2)
  exact hs L i x acc H' hL hx' h2 h1
/-- a list or a tuple -/
def SeqAt1 (H : Hp) (a : Addr) (xs : List V) : Prop := H a = some (.lst xs) ∨ H a = some (.tup xs)
theorem lLT {J : It} (hJ : (J = Itl K a ∧ H a = some (.lst xs)) ∨ (J = Itt K a ∧ H a = some (.tup xs))) (Pv : Addr → Nat → List V → Hp → Prop) (h0 : ∀ L, H L = none → ∀ H', Ex H H' → H' L = some (.lst []) → Pv L 0 [] H')
    (hl : ∀ L i acc H', H L = none → i ≤ xs.length → Pv L i acc H' → Ex H H')
    (hs : ∀ L i x acc H', H L = none → xs[i]? = some x → Pv L i acc H' → H' L = some (.lst acc) → LTurn g tt te vs σ L (Pv L (i + 1)) x H')
    (hd : ∀ L acc H', H L = none → H' L = some (.lst acc) → Pv L xs.length acc H' → Q (.ref L) H') : LcIt J g tt te vs σ H Q := by
  rcases hJ with ⟨rfl, h⟩ | ⟨rfl, h⟩
  · exact lL Pv h0 (fun L i acc H' h1 h2 h3 => hl L i acc H' h1 h2 h3 _ _ h) hs hd
  · exact lT Pv h0 (fun L i acc H' h1 h2 h3 => hl L i acc H' h1 h2 h3 _ _ h) hs hd
def iOr (w1 w2 : TI) : TI := fun σ H R => w1 σ H R ∨ w2 σ H R
theorem i_LT {i : Nat} (e : σ[i]? = some (some (V.ref a))) (h : SeqAt1 H a xs) (k : ∀ J, ((J = Itl K a ∧ H a = some (.lst xs)) ∨ (J = Itt K a ∧ H a = some (.tup xs))) → R J H) : iOr (iList K (tVar i)) (iTup K (tVar i)) σ H R := by
  rcases h with h | h
  · exact .inl ⟨.ref a, e, a, rfl, ⟨xs, SqL.of h⟩, k _ (.inl ⟨rfl, h⟩)⟩
  · exact .inr ⟨.ref a, e, a, rfl, ⟨xs, SqT.of h⟩, k _ (.inr ⟨rfl, h⟩)⟩
theorem r_lturn {L : Addr} {P : List V → Hp → Prop} (k : g x (wipe σ vs) H fun σ2 H2 => wipe σ2 vs = wipe σ vs ∧ tt σ2 H2 fun b H3 => if b = true then te σ2 H3 fun y H4 => LPut L P y H4 else ∃ acc, H3 L = some (.lst acc) ∧ P acc H3) : LTurn g tt te vs σ L P x H := k
theorem r_yes {QT : Bool → Hp → Prop} (k : QT true H) : tYes σ H QT := k
/-- a while -/
def Tn (Pv : L2.St → Hp → Prop) (μ : L2.St → Hp → Nat) (m : Nat) (tb : TS) (D : Ends) (σ : L2.St) (H1 : Hp) : Prop := ∃ N : L2.St → Hp → Prop, (∀ σ' H', N σ' H' → ∃ m', m' < m ∧ (m' = μ σ' H' ∧ Pv σ' H')) ∧ tb { D with nx := N, ct := N, bk := D.nx } σ H1
theorem tn {Pv : L2.St → Hp → Prop} {μ : L2.St → Hp → Nat} {m : Nat} (k : ts { D with nx := fun σ' H' => Pv σ' H' ∧ μ σ' H' < m, ct := fun σ' H' => Pv σ' H' ∧ μ σ' H' < m, bk := D.nx } σ H) : Tn Pv μ m ts D σ H :=
  ⟨_, fun σ' H' h => ⟨_, h.2, rfl, h.1⟩, k⟩
theorem r_while {c : TT} (Pv : L2.St → Hp → Prop) (μ : L2.St → Hp → Nat) (h0 : Pv σ H) (hs : ∀ σ H, Pv σ H → c σ H fun b H1 => if b = true then Tn Pv μ (μ σ H) ts D σ H1 else D.nx σ H1) : tWhile c ts D σ H := by
  refine ⟨fun m σ H => m = μ σ H ∧ Pv σ H, ⟨_, rfl, h0⟩, ?_⟩
  rintro m σ H ⟨rfl, p⟩
  exact hs σ H p
/-- slices -/
theorem r_sl {r : V → Option Int → Option Int → Hp → VK → Prop} {tl th : TO} (k : te σ H fun x H1 => tl σ H1 fun l H2 => th σ H2 fun u H3 => r x l u H3 Q) : L2.tSl r te tl th σ H Q := k
theorem r_slL {lo hi : Option Int} (h : H a = some (.lst xs)) (k : ∀ p H', Ex H H' → H p = none → H' p = some (.lst (cutV xs lo hi)) → Q (.ref p) H') : rSlL K (.ref a) lo hi H Q := ⟨a, xs, rfl, SqL.of h, fun p hp => k p _ (Ex.new hp) hp upd_same⟩
/-- methods of built-in types -/
theorem r_bm {T : String} {r : V → List V → Hp → VK → Prop} (k : ta σ H fun x H1 => tyV K T x H1 ∧ tr σ H1 fun xs H2 => r x xs H2 Q) : tBM K T r ta tr σ H Q := k
theorem ty_l (h : H a = some (.lst xs)) : tyV K "list" (.ref a) H := .inl ⟨rfl, xs, SqL.of h⟩
theorem r_app (h : H l = some (.lst xs)) (hn : xs.length ≤ 1000000) (k : Q .non (upd H l (.lst (xs ++ [y])))) : rAppend (.ref l) [y] H Q := ⟨l, xs, y, rfl, rfl, h, by rw [sizeLine_eq]; omega, k⟩
theorem r_cat {b : Addr} {zs : List V} (h : H a = some (.lst xs)) (h' : H b = some (.lst zs)) (hn : xs.length + zs.length ≤ 1000000) (k : ∀ p H', Ex H H' → H p = none → H' p = some (.lst (xs ++ zs)) → Q (.ref p) H') : rCat (.ref a) (.ref b) H Q :=
  ⟨a, b, xs, zs, rfl, rfl, h, h', by rw [sizeLine_eq]; omega, fun p hp => k p _ (Ex.new hp) hp upd_same⟩
end
theorem none_of {H H' : Hp} {p : Addr} (e : Ex H H') (h : H' p = none) : H p = none := by
  cases z : H p with
  | none => rfl
  | some o => rw [e _ _ z] at h; cases h
/-- what was there before L stays whatever becomes of L -/
theorem Ex.put {H H' : Hp} {L : Addr} {o : HO} (e : Ex H H') (h : H L = none) : Ex H (upd H' L o) := fun a u q => by
  rw [upd_ne (ne_of_none q h)]; exact e a u q
theorem Le.put {H H' : Hp} {L : Addr} {o : HO} (e : Le H H') (h : H L = none) : Le H (upd H' L o) := fun a u q s => by
  rw [upd_ne (ne_of_none q h)]; exact e a u q s
theorem IsR.put {C p L : Addr} {H : Hp} {q : Rat} {xs : List V} {o : HO} (h : IsR C H p q) (hl : H L = some (.lst xs)) : IsR C (upd H L o) p q := by
  obtain ⟨dx, h⟩ := h
  exact ⟨dx, by rw [upd_ne (ne_of h hl (by intro z; cases z))]; exact h⟩
theorem cutV_all (xs : List V) : cutV xs none none = xs := by
  unfold cutV
  show (xs.drop 0).take (xs.length - 0) = xs
  simp
def rLen (K : PySem.W.Frag) : List V → Hp → VK → Prop := fun xs H Q => ∃ p ys, xs = [.ref p] ∧ (SqL K H p ys ∨ SqT K H p ys) ∧ Q (.int (List.length ys : Int)) H
def rListOf (K : PySem.W.Frag) : List V → Hp → VK → Prop := fun xs H Q => ∃ p ys, xs = [.ref p] ∧ (SqL K H p ys ∨ SqT K H p ys) ∧ ∀ l, H l = none → Q (.ref l) (upd H l (.lst ys))
def rTru (K : PySem.W.Frag) : V → Hp → (Bool → Hp → Prop) → Prop := fun x H Q => ∃ k, TruV K x H k ∧ Q k H
section
variable {X : Cx} {K : PySem.W.Frag} {e o : Expr} {es : List Expr} {ta tv tl to : TE} {tr : TA} {f : Str} {pos pos' p tpos : Pos} {tg : Expr} {value : Expr}
theorem kix_l (h : X.K = K) : IxR X (rIxL K) := by subst h; exact ix_list
theorem kix_t (h : X.K = K) : IxR X (rIxT K) := by subst h; exact ix_tup
theorem kc_len (h : X.K = K) : CallR X (.builtin "len") (rLen K) := by subst h; exact call_len_seq
theorem kc_listof (h : X.K = K) : CallR X (.type "list") (rListOf K) := by subst h; exact call_list_of
theorem kc_isi (h : X.K = K) : CallR X (.builtin "isinstance") (rIsi K) := by subst h; exact call_isi
theorem kc_isiT (h : X.K = K) : CallR X (.builtin "isinstance") (rIsiT K) := by subst h; exact call_isiT
theorem kfld (h : X.K = K) (he : PE X e ta) (hb : attributeBase e f X.env (eval e X.env) = eval e X.env) : PE X (.Attribute e f pos) (tFld K ta f) := by subst h; exact pe_fld he hb
theorem ksfld (h : X.K = K) (ha : PE X o ta) (hv : PE X value tv) (hs : swapsWith value (some (.Attribute o f pos')) pos.line X.env = pure false) : PS X (.Assign [.Attribute o f pos'] value pos) (sFld K ta tv f) := by subst h; exact ps_fld ha hv hs
theorem kpg_tup {es : List Expr} {k : Nat} {t : TGs} (n : Nat) (h : X.K = K) (hc : X.calm = true) (hp : PGs X es t)
    (hn : (assignEach es X.env).length = n := by rfl) (hst : (assignEach es X.env).findIdx? (·.1) = none := by rfl) : PG X (.Tuple es k pos) (gTup K n t) := by subst h; exact pg_tup hc hp hn hst
theorem kpi_l (h : X.K = K) (hl : PE X e tl) : PI X tg e (iList K tl) := by subst h; exact pi_list hl
theorem kpi_t (h : X.K = K) (hl : PE X e tl) : PI X tg e (iTup K tl) := by subst h; exact pi_tup hl
theorem kpi_or {w1 w2 : TI} (h1 : PI X tg e w1) (h2 : PI X tg e w2) : PI X tg e (iOr w1 w2) := ⟨fun pins s σ H R I h => h.elim (h1.run pins s σ H R I) (h2.run pins s σ H R I)⟩
theorem kpi_zip {e2 : Expr} {elts : List Expr} {kk : Nat} (h : X.K = K) (hg : Gl X "zip") (hm : X.mg "zip" = none) (ha : PA X [e, e2] tr)
    (hs : starEach [e, e2] X.env = (false, eval e X.env) :: starEach [e2] X.env := by rfl) (hpl : (backTo pos (starEach [e2] X.env)).any (·.1) = false := by rfl) :
    PI X (.Tuple elts kk tpos) (.Call (.Name "zip" p) [e, e2] [] pos) (RZ.iZipA K tr) := by subst h; exact RZ.pi_zipA hg hm ha hs hpl
theorem ksl_l (h : X.K = K) : SlR X (rSlL K) := by subst h; exact sl_list
theorem ksl_t (h : X.K = K) : SlR X (rSlT K) := by subst h; exact sl_tup
theorem kop_eqD (h : X.K = K) (hu : X.A.units + 64 < cLine) : OpR X (compareOp .Eq) (rEqD K) := by subst h; exact op_eqD hu
theorem kop_neD (h : X.K = K) (hu : X.A.units + 64 < cLine) : OpR X (compareOp .NotEq) (rNeD K) := by subst h; exact op_neD hu
theorem ktru (h : X.K = K) : TruR X (rTru K) := by subst h; exact tru_ok
theorem kapp {e : Expr} {es : List Expr} {apos cpos : Pos} {T id : String} {r : V → List V → Hp → VK → Prop} {name : Str} (h : X.K = K) (pa : PlainAttrs T) (slot : Slot T name id) (hty : typeOf (.builtin id) = pure (.type "method_descriptor")) (hm : MtR X id r) (ho : PE X o to) (ha : PA X (e :: es) tr)
    (hbase : attributeBase o name X.env (eval o X.env) = eval o X.env := by rfl)
    (hfew : ((backTo cpos (starEach (e :: es) X.env)).all (fun x => !x.1) && (backToKw cpos (keywordEach [] X.env)).all (fun x => x.1.isSome)
      && decide ((e :: es).length + ([] : List Keyword).length + (if ([] : List Keyword).isEmpty then 0 else 1) < 30)) = true := by rfl)
    (hline : (apos.endLine == cpos.line) = true := by rfl) (hs : starEach (e :: es) X.env = (false, eval e X.env) :: starEach es X.env := by rfl) (hplain : (backTo cpos (starEach es X.env)).any (·.1) = false := by rfl) :
    PE X (.Call (.Attribute o name apos) (e :: es) [] cpos) (tBM K T r to tr) := by subst h; exact pe_bm pa slot hty hm ho ha hbase hfew hline hs hplain
section
variable {k j : Nat} {C f g : Addr} {sp : Sp} {E : XK}
theorem kC_eq (h : X.K = K) (c : Cm X.prog X.w K X.mg X.base k C "__eq__" f sp) (hr : Room j X.A) (hk : k ≤ j) (hx : Passes (L2.CX X.prog X.w) X E) : OpR X (compareOp .Eq) (rO C sp E (isAny K C)) := by subst h; exact opC_eq c hr hk hx
theorem kC_lt (h : X.K = K) (c : Cm X.prog X.w K X.mg X.base k C "__lt__" f sp) (hr : Room j X.A) (hk : k ≤ j) (hx : Passes (L2.CX X.prog X.w) X E) : OpR X (compareOp .Lt) (rO C sp E (isAny K C)) := by subst h; exact opC_lt c hr hk hx
theorem kC_le (h : X.K = K) (c : Cm X.prog X.w K X.mg X.base k C "__le__" f sp) (hr : Room j X.A) (hk : k ≤ j) (hx : Passes (L2.CX X.prog X.w) X E) : OpR X (compareOp .LtE) (rO C sp E (isAny K C)) := by subst h; exact opC_le c hr hk hx
theorem kC_gt (h : X.K = K) (c : Cm X.prog X.w K X.mg X.base k C "__gt__" f sp) (hr : Room j X.A) (hk : k ≤ j) (hx : Passes (L2.CX X.prog X.w) X E) : OpR X (compareOp .Gt) (rO C sp E (isAny K C)) := by subst h; exact opC_gt c hr hk hx
theorem kC_ge (h : X.K = K) (c : Cm X.prog X.w K X.mg X.base k C "__ge__" f sp) (hr : Room j X.A) (hk : k ≤ j) (hx : Passes (L2.CX X.prog X.w) X E) : OpR X (compareOp .GtE) (rO C sp E (isAny K C)) := by subst h; exact opC_ge c hr hk hx
theorem kNe (h : X.K = K) (kc : ClsO K C) (c : Cm X.prog X.w K X.mg X.base k C "__eq__" f sp) (hr : Room j X.A) (hk : k + 1 ≤ j) (hx : Passes (L2.CX X.prog X.w) X E) : OpR X (compareOp .NotEq) (rNO C sp E (isAny K C)) := by subst h; exact opNe kc c hr hk hx
end
end
section
variable {K : PySem.W.Frag} {H : Hp} {Q : VK} {a : Addr} {xs : List V}
theorem q_lenL (h : H a = some (.lst xs)) (k : Q (.int (xs.length : Int)) H) : rLen K [.ref a] H Q := ⟨a, xs, rfl, .inl (SqL.of h), k⟩
theorem q_lenT (h : H a = some (.tup xs)) (k : Q (.int (xs.length : Int)) H) : rLen K [.ref a] H Q := ⟨a, xs, rfl, .inr (SqT.of h), k⟩
theorem q_lenLT (h : SeqAt1 H a xs) (k : Q (.int (xs.length : Int)) H) : rLen K [.ref a] H Q := by
  rcases h with h | h
  · exact ⟨a, xs, rfl, .inl (SqL.of h), k⟩
  · exact ⟨a, xs, rfl, .inr (SqT.of h), k⟩
theorem q_listL (h : H a = some (.lst xs)) (k : ∀ p H', Ex H H' → H p = none → H' p = some (.lst xs) → Q (.ref p) H') : rListOf K [.ref a] H Q := ⟨a, xs, rfl, .inl (SqL.of h), fun l hl => k l _ (Ex.new hl) hl upd_same⟩
theorem q_truI {i : Int} {QT : Bool → Hp → Prop} (k : QT (decide (i ≠ 0)) H) : rTru K (.int i) H QT := ⟨i != 0, rfl, by
  have e : (i != 0) = decide (i ≠ 0) := by rw [Bool.eq_iff_iff]; simp
  rw [e]; exact k⟩
theorem q_truB {b : Bool} {QT : Bool → Hp → Prop} (k : QT b H) : rTru K (.bl b) H QT := ⟨b, rfl, k⟩
end
theorem r_part {te : TE} {σ : L2.St} {H : Hp} {QO : Option Int → Hp → Prop} (k : te σ H fun x H1 => ∃ i, x = .int i ∧ QO (some i) H1) : tPart te σ H QO := k
theorem r_nopart {σ : L2.St} {H : Hp} {QO : Option Int → Hp → Prop} (k : QO none H) : tNoPart σ H QO := k
theorem r_intP {j : Int} {R : Int → Prop} (k : R j) : ∃ i, V.int j = .int i ∧ R i := ⟨j, rfl, k⟩
theorem r_parP {v w : V} {R : V → V → Prop} (k : R v w) : ∃ v' w', [v, w] = [v', w'] ∧ R v' w' := ⟨v, w, rfl, k⟩
theorem r_parP3 {v w z : V} {R : V → V → V → Prop} (k : R v w z) : ∃ v' w' z', [v, w, z] = [v', w', z'] ∧ R v' w' z' := ⟨v, w, z, rfl, k⟩
theorem r_turn1 {g : TG} {tb : TS} {D : Ends} {N : L2.St → Hp → Prop} {x : V} {σ : L2.St} {H : Hp} (k : g x σ H fun σ2 H2 => tb { D with nx := N, ct := N, bk := D.nx } σ2 H2) : Turn1 g tb D N x σ H := k
end
open PySem PySem.Spec PyProof.Rows L2 RZ
local macro_rules | `(tactic| wtm_at "of_rd1") => `(tactic| with_reducible first
  | refine r_par ?_ | refine r_par3 ?_ | refine r_parP ?_ | refine r_parP3 ?_ | refine r_part ?_ | refine r_nopart ?_ | refine r_intP ?_ | refine r_for ?_ | refine r_iL ?_ | refine r_iT ?_ | refine r_iR1 ?_ | refine r_iR2 ?_ | refine r_iR3 ?_ | refine r_iZ ?_ | refine r_lc ?_ | refine r_sl ?_ | refine r_bm ?_ | refine r_turn1 ?_ | refine r_lturn ?_ | refine r_yes ?_
  | refine r_seq ?_ | refine r_asg ?_ | refine r_ret ?_ | refine r_sfld ?_ | refine r_ifS ?_ | refine r_drop ?_ | refine r_next ?_ | refine r_retN ?_ | refine r_gcd ?_
  | refine r_op ?_ | refine r_un ?_ | refine r_fld ?_ | refine r_cons ?_ | refine r_nil ?_ | refine r_c ?_ | refine r_c1 ?_ | refine r_cb ?_ | refine r_ck ?_ | refine r_cm ?_
  | refine r_test ?_ | refine r_B ?_ | refine r_and ?_ | refine r_or ?_ | refine r_not ?_ | refine r_andV ?_ | refine r_orV ?_ | refine r_notV ?_ | refine r_ifE ?_
  | refine r_tr ?_ | refine r_name ?_ | refine r_blP ?_ | refine r_tup ?_ | refine r_lst ?_ | refine r_gCons ?_ | refine r_gNil ?_ | refine r_rz ?_
  | refine r_var (by with_unfolding_all rfl) ?_
  | refine iteT ?_ | refine iteF ?_ | refine iteNT ?_ | refine iteNF ?_
  | refine r_I0 ?_ | refine r_I (cmA_bt (by wtm_at "of_btl") (by wtm_at "of_btl")) ?_ | refine r_U ?_ | refine r_eqI ?_ | refine r_neI ?_
  | refine r_top (by assumption) (by with_unfolding_all rfl) (by wtm_at "of_up") ?_ | refine r_bot (by assumption) (by with_unfolding_all rfl) (by wtm_at "of_up") ?_)
section
open PySem PySem.Spec PyProof.Rows L2 RZ
section
variable {K : PySem.W.Frag} {σ : L2.St} {H : Hp} {Q : VK} {QT : Bool → Hp → Prop} {D : Ends} {te : TE} {x : V} {i : Nat} {p : Addr} {xs : List V} {v : V}
theorem r_aug {ti : TIp} (h : σ[i]? = some (some x)) (k : te σ H fun y H1 => ti x y H1 fun z H2 => D.nx (σ.set i (some z)) H2) : tAug i te ti D σ H := ⟨x, h, k⟩
theorem r_ipI {f : Int → Int → Int} {a b : Int} (k : Q (.int (f a b)) H) : ipI f (.int a) (.int b) H Q := ⟨a, b, rfl, rfl, k⟩
theorem r_iL1 (h : H p = some (.lst xs)) {j : Int} (e : atI xs j = some v) (k : Q v H) : rIxL K (.ref p) (.int j) H Q := ⟨p, xs, j, v, rfl, rfl, SqL.of h, e, k⟩
theorem r_iT1 (h : H p = some (.tup xs)) {j : Int} (e : atI xs j = some v) (k : Q v H) : rIxT K (.ref p) (.int j) H Q := ⟨p, xs, j, v, rfl, rfl, SqT.of h, e, k⟩
end
/-- a comprehension's items, all new objects -/
structure Acc (P : Nat → Addr → Hp → Prop) (acc : List V) (i : Nat) (H : Hp) : Prop where
  len : acc.length = i
  at_ : ∀ j, j < i → ∃ p : Addr, acc[j]? = some (V.ref p) ∧ P j p H
theorem Acc.nil {P : Nat → Addr → Hp → Prop} {H : Hp} : Acc P [] 0 H := ⟨rfl, fun j h => absurd h (Nat.not_lt_zero j)⟩
theorem Acc.snoc {P : Nat → Addr → Hp → Prop} {acc : List V} {i : Nat} {H H' : Hp} {p : Addr} (hP : ∀ j q, P j q H → P j q H') (a : Acc P acc i H) (h : P i p H') : Acc P (acc ++ [V.ref p]) (i + 1) H' := by
  refine ⟨by rw [List.length_append, a.len]; rfl, fun j hj => ?_⟩
  by_cases e : j < i
  · obtain ⟨q, h1, h2⟩ := a.at_ j e
    exact ⟨q, by rw [List.getElem?_append_left (by rw [a.len]; exact e)]; exact h1, hP j q h2⟩
  · have : j = i := by omega
    subst this
    exact ⟨p, by rw [List.getElem?_append_right (by rw [a.len]; omega), a.len]; simp, h⟩
theorem r_iRC {i j c : Int} {n : Nat} {H : Hp} {R : It → Hp → Prop} (h : RgC i j c n) (k : R (Itc i c n) H) : ItR3 [.int i, .int j, .int c] H R := ⟨i, j, c, n, rfl, h, k⟩
theorem rg2 {m : Nat} (h : 2 ≤ m) (h' : m ≤ 1000000) : RgC 0 ((m : Int) - 1) 2 (m / 2) := by
  have e : Builtin.Range.rangeSize 0 ((m : Int) - 1) 2 = ((m / 2 : Nat) : Int) := by
    unfold Builtin.Range.rangeSize
    rw [if_pos (by decide), if_pos (by omega)]; omega
  refine ⟨by decide, by decide, ?_, e⟩
  unfold Builtin.Range.small
  rw [e]
  simp only [Builtin.Range.rangeFitsLong, Bool.and_eq_true, Bool.or_eq_true, decide_eq_true_eq, beq_iff_eq, show (2 : Int) > 0 by decide, if_true]
  omega
end
section
open PySem PySem.Spec PyProof.Rows L2
theorem rlt_asymm {a b : Rat} (h : a < b) : ¬ b < a := by grind
theorem rlt_trans {a b c : Rat} (h : a < b) (h' : b < c) : a < c := by grind
theorem rlt_tri {a b : Rat} (h : a ≠ b) : a < b ∨ b < a := by grind
def lexLt : List Rat → List Rat → Bool
  | a :: as, b :: bs => if a = b then lexLt as bs else decide (a < b)
  | [], _ :: _ => true
  | _, [] => false
theorem lexLt_asymm : ∀ a b : List Rat, lexLt a b = true → lexLt b a = false
  | [], [], h => by cases h
  | [], _ :: _, _ => rfl
  | _ :: _, [], h => by cases h
  | a :: as, b :: bs, h => by
    unfold lexLt at h ⊢
    by_cases e : a = b
    · rw [if_pos e] at h; rw [if_pos e.symm]; exact lexLt_asymm as bs h
    · rw [if_neg e] at h; rw [if_neg (fun z => e z.symm)]
      rw [decide_eq_true_iff] at h; rw [decide_eq_false_iff_not]
      exact rlt_asymm h
theorem lexLt_step : ∀ a b c : List Rat, lexLt c a = true → lexLt c b = true ∨ lexLt b a = true
  | [], _, [], h => by cases h
  | [], _, _ :: _, h => by cases h
  | _ :: _, [], [], _ => .inr rfl
  | _ :: _, _ :: _, [], _ => .inl rfl
  | _ :: _, [], _ :: _, _ => .inr rfl
  | a :: as, b :: bs, c :: cs, h => by
    unfold lexLt at h ⊢
    by_cases e : c = a
    · rw [if_pos e] at h
      subst e
      by_cases e2 : c = b
      · rw [if_pos e2, if_pos e2.symm]; exact lexLt_step as bs cs h
      · rw [if_neg e2, if_neg (fun z => e2 z.symm), decide_eq_true_iff, decide_eq_true_iff]
        rcases rlt_tri e2 with z | z
        · exact .inl z
        · exact .inr z
    · rw [if_neg e, decide_eq_true_iff] at h
      by_cases e2 : c = b
      · subst e2; rw [if_neg e, decide_eq_true_iff]; exact .inr h
      · rw [if_neg e2, decide_eq_true_iff]
        rcases rlt_tri e2 with z | z
        · exact .inl z
        · right
          rw [if_neg (fun w => by subst w; exact rlt_asymm h z), decide_eq_true_iff]
          exact rlt_trans z h
def leftOf (n i : Nat) (σ : L2.St) : Nat := match σ[i]? with
  | some (some (V.int a)) => n - a.toNat
  | _ => 0
/-- the Ratios of a tuple or list -/
def RsL (C : Addr) (H : Hp) (xs : List V) (k : List Rat) : Prop := xs.length = k.length ∧ ∀ (i : Nat) (q : Rat), k[i]? = some q → ∃ p : Addr, xs[i]? = some (V.ref p) ∧ IsR C H p q
def KeyT (C : Addr) (H : Hp) (a : Addr) (k : List Rat) : Prop := ∃ xs, H a = some (.tup xs) ∧ RsL C H xs k
def Keys (C : Addr) (H : Hp) (a : Addr) (ks : List (List Rat)) : Prop := ∃ xs, H a = some (.lst xs) ∧ xs.length = ks.length ∧ ∀ (i : Nat) (k : List Rat), ks[i]? = some k → ∃ p : Addr, xs[i]? = some (V.ref p) ∧ KeyT C H p k
/-- keys of one length, of no great numbers -/
def KOk (m : Nat) (ks : List (List Rat)) : Prop := ∀ k ∈ ks, k.length = m ∧ ∀ q ∈ k, Bq q
abbrev nat (n : Nat) : V := .int n
def leK (ks : List (List Rat)) (i j : Nat) : Bool := !(lexLt (ks.getD j []) (ks.getD i []))
def spBefore (C : Addr) : Sp := fun vs H Q _ => ∃ (a b : Addr) (ka kb : List Rat), vs = [.ref a, .ref b] ∧ KeyT C H a ka ∧ KeyT C H b kb ∧ ka.length = kb.length ∧ (∀ q ∈ ka, Bq q) ∧ (∀ q ∈ kb, Bq q) ∧ NewV Q H (.bl (lexLt ka kb))
def spMerged (C : Addr) : Sp := fun vs H Q _ => ∃ (l r k : Addr) (L R : List Nat) (ks : List (List Rat)) (m : Nat), vs = [.ref l, .ref r, .ref k] ∧ H l = some (.lst (L.map nat)) ∧ H r = some (.lst (R.map nat)) ∧ Keys C H k ks ∧ KOk m ks ∧ L.length + R.length ≤ 1000 ∧ (∀ i ∈ L, i < ks.length) ∧ (∀ i ∈ R, i < ks.length) ∧
  ∀ (H' : Hp) (p : Addr), Ex H H' → H p = none → H' p = some (.lst ((List.merge L R (leK ks)).map nat)) → Q (.ref p) H'
def spRanked (C : Addr) : Sp := fun vs H Q _ => ∃ (k : Addr) (ks : List (List Rat)) (m : Nat), vs = [.ref k] ∧ Keys C H k ks ∧ KOk m ks ∧ ks.length ≤ 1000 ∧
  ∀ (H' : Hp) (p : Addr) (idx : List Nat), Ex H H' → H' p = some (.lst (idx.map nat)) → idx.Perm (List.range ks.length) → idx.Pairwise (fun i j => leK ks i j = true) → Q (.ref p) H'
def spAscending (C : Addr) : Sp := fun vs H Q _ => ∃ (k : Addr) (xs : List V) (qs : List Rat), vs = [.ref k] ∧ SeqAt1 H k xs ∧ xs.length = qs.length ∧ (∀ (i : Nat) (q : Rat), qs[i]? = some q → ∃ v, xs[i]? = some v ∧ NumV C H v q) ∧ (∀ q ∈ qs, Bq q) ∧ qs.length ≤ 1000 ∧
  ∀ (H' : Hp) (p : Addr) (ys : List V) (rs : List Rat), Ex H H' → H p = none → H' p = some (.lst ys) → RsL C H' ys rs → rs.Perm qs → rs.Pairwise (· ≤ ·) → Q (.ref p) H'
theorem lex_at {C : Addr} {H : Hp} {xs ys : List V} {ka kb : List Rat} {x y : V} {i : Nat} (hx : RsL C H xs ka) (hy : RsL C H ys kb) (hl : ka.length = kb.length) (h1 : xs[i]? = some x) (h2 : ys[i]? = some y) :
    ∃ q p r p', ka[i]? = some q ∧ kb[i]? = some r ∧ x = .ref p ∧ y = .ref p' ∧ IsR C H p q ∧ IsR C H p' r ∧ lexLt (ka.drop i) (kb.drop i) = if q = r then lexLt (ka.drop (i + 1)) (kb.drop (i + 1)) else decide (q < r) := by
  have i1 : i < xs.length := (List.getElem?_eq_some_iff.mp h1).1
  have ia : i < ka.length := by rw [← hx.1]; exact i1
  have ib : i < kb.length := by rw [← hl]; exact ia
  obtain ⟨p, hp, R1⟩ := hx.2 i ka[i] (List.getElem?_eq_getElem ia)
  obtain ⟨p', hp', R2⟩ := hy.2 i kb[i] (List.getElem?_eq_getElem ib)
  rw [hp] at h1; rw [hp'] at h2
  cases h1; cases h2
  refine ⟨ka[i], p, kb[i], p', List.getElem?_eq_getElem ia, List.getElem?_eq_getElem ib, rfl, rfl, R1, R2, ?_⟩
  rw [List.drop_eq_getElem_cons ia, List.drop_eq_getElem_cons ib]
  rfl
theorem leK_trans (ks : List (List Rat)) (a b c : Nat) (h1 : leK ks a b = true) (h2 : leK ks b c = true) : leK ks a c = true := by
  unfold leK at *
  rw [Bool.not_eq_true'] at *
  cases h : lexLt (ks.getD c []) (ks.getD a []) with
  | false => rfl
  | true =>
    rcases lexLt_step _ (ks.getD b []) _ h with z | z
    · rw [z] at h2; cases h2
    · rw [z] at h1; cases h1
theorem leK_total (ks : List (List Rat)) (a b : Nat) : (leK ks a b || leK ks b a) = true := by
  unfold leK
  cases h : lexLt (ks.getD b []) (ks.getD a []) with
  | false => rfl
  | true => rw [lexLt_asymm _ _ h]; rfl
/-- one step of a merge -/
theorem merge_at {le : Nat → Nat → Bool} {L R : List Nat} {a i x y : Nat} (hx : L[a]? = some x) (hy : R[i]? = some y) :
    List.merge (L.drop a) (R.drop i) le = if le x y = true then x :: List.merge (L.drop (a + 1)) (R.drop i) le else y :: List.merge (L.drop a) (R.drop (i + 1)) le := by
  obtain ⟨ha, rfl⟩ := List.getElem?_eq_some_iff.mp hx
  obtain ⟨hi, rfl⟩ := List.getElem?_eq_some_iff.mp hy
  rw [List.drop_eq_getElem_cons ha, List.drop_eq_getElem_cons hi, List.cons_merge_cons]
theorem nat_at {L : List Nat} {i : Nat} {v : V} (h : (L.map nat)[i]? = some v) : ∃ x, L[i]? = some x ∧ v = nat x := by
  rw [List.getElem?_map] at h
  cases e : L[i]? with
  | none => rw [e] at h; cases h
  | some x => rw [e] at h; exact ⟨x, rfl, (Option.some.inj h).symm⟩
theorem key_at {C : Addr} {H : Hp} {xs : List V} {ks : List (List Rat)} {i : Nat} (hl : xs.length = ks.length) (h : ∀ (i : Nat) (k : List Rat), ks[i]? = some k → ∃ p : Addr, xs[i]? = some (V.ref p) ∧ KeyT C H p k) (hi : i < ks.length) :
    ∃ p, atI xs (i : Int) = some (V.ref p) ∧ KeyT C H p (ks.getD i []) := by
  obtain ⟨p, h1, h2⟩ := h i ks[i] (List.getElem?_eq_getElem hi)
  refine ⟨p, atI_nat h1, ?_⟩
  rw [List.getD_eq_getElem?_getD, List.getElem?_eq_getElem hi]; exact h2
theorem key_ok {m : Nat} {ks : List (List Rat)} {i : Nat} (h : KOk m ks) (hi : i < ks.length) : (ks.getD i []).length = m ∧ ∀ q ∈ ks.getD i [], Bq q := by
  rw [List.getD_eq_getElem?_getD, List.getElem?_eq_getElem hi]; exact h _ (List.getElem_mem hi)
theorem RsL.ex {C : Addr} {H H' : Hp} {xs : List V} {k : List Rat} (e : Ex H H') (h : RsL C H xs k) : RsL C H' xs k := ⟨h.1, fun i q hq => by
  obtain ⟨p, h1, h2⟩ := h.2 i q hq
  exact ⟨p, h1, h2.ex e⟩⟩
theorem KeyT.ex {C a : Addr} {H H' : Hp} {k : List Rat} (e : Ex H H') (h : KeyT C H a k) : KeyT C H' a k := by
  obtain ⟨xs, h1, h2⟩ := h
  exact ⟨xs, e _ _ h1, h2.ex e⟩
theorem Keys.ex {C a : Addr} {H H' : Hp} {k : List (List Rat)} (e : Ex H H') (h : Keys C H a k) : Keys C H' a k := by
  obtain ⟨xs, h1, h2, h3⟩ := h
  exact ⟨xs, e _ _ h1, h2, fun i k hk => by
    obtain ⟨p, h4, h5⟩ := h3 i k hk
    exact ⟨p, h4, h5.ex e⟩⟩
theorem cutV_from {xs : List V} {a : Nat} (h : a ≤ xs.length) : cutV xs (some (a : Int)) none = xs.drop a := by
  unfold cutV
  have e1 : HT.sIx xs.length 0 (some (a : Int)) = a := by
    unfold HT.sIx
    show (if (a : Int) < 0 then ((a : Int) + xs.length).toNat else min (a : Int).toNat xs.length) = a
    rw [if_neg (by omega)]; omega
  have e2 : HT.sIx xs.length xs.length none = xs.length := rfl
  rw [e1, e2, List.take_of_length_le (by rw [List.length_drop]; omega)]
/-- a list of lists of indexes -/
def RowsAt (H : Hp) (r : Addr) (rs : List (List Nat)) : Prop := ∃ xs, H r = some (.lst xs) ∧ Acc (fun j p H => ∃ s, rs[j]? = some s ∧ H p = some (.lst (s.map nat))) xs rs.length H
theorem RowsAt.ex {H H' : Hp} {r : Addr} {rs : List (List Nat)} (e : Ex H H') (h : RowsAt H r rs) : RowsAt H' r rs := by
  obtain ⟨xs, h1, h2⟩ := h
  exact ⟨xs, e _ _ h1, h2.len, fun j hj => by
    obtain ⟨p, h3, s, h4, h5⟩ := h2.at_ j hj
    exact ⟨p, h3, s, h4, e _ _ h5⟩⟩
def rowsLeft (σ : L2.St) (H : Hp) : Nat := match σ[1]? with
  | some (some (V.ref r)) => (match H r with | some (.lst xs) => xs.length | _ => 0)
  | _ => 0
theorem rowsLeft_at {a b c d : Option V} {r : Addr} {H : Hp} {rs : List (List Nat)} (h : RowsAt H r rs) : rowsLeft [a, some (V.ref r), b, c, d] H = rs.length := by
  obtain ⟨xs, h1, h2⟩ := h
  show (match H r with | some (.lst xs) => xs.length | _ => 0) = _
  rw [h1]; exact h2.len
/-- pairs of rows merged -/
def joinRows (le : Nat → Nat → Bool) : List (List Nat) → List (List Nat)
  | a :: b :: rs => List.merge a b le :: joinRows le rs
  | rs => rs
theorem joinRows_perm (le : Nat → Nat → Bool) : ∀ rs, (joinRows le rs).flatten.Perm rs.flatten
  | [] => .refl _
  | [_] => .refl _
  | a :: b :: rs => by
    show (List.merge a b le ++ (joinRows le rs).flatten).Perm (a ++ (b ++ rs.flatten))
    rw [← List.append_assoc]
    exact (List.merge_perm_append le).append (joinRows_perm le rs)
theorem joinRows_sorted {le : Nat → Nat → Bool} (tr : ∀ a b c, le a b = true → le b c = true → le a c = true) (to : ∀ a b, (le a b || le b a) = true) : ∀ rs : List (List Nat), (∀ s ∈ rs, s.Pairwise (fun a b => le a b = true)) → ∀ s ∈ joinRows le rs, s.Pairwise (fun a b => le a b = true)
  | [], h => h
  | [_], h => h
  | a :: b :: rs, h => by
    intro s hs
    rcases List.mem_cons.mp hs with e | e
    · subst e
      exact List.pairwise_merge tr to a b (h a (by simp)) (h b (by simp))
    · exact joinRows_sorted tr to rs (fun s z => h s (by simp [z])) s e
theorem joinRows_length (le : Nat → Nat → Bool) : ∀ rs, (joinRows le rs).length = (rs.length + 1) / 2
  | [] => rfl
  | [_] => by simp [joinRows]
  | a :: b :: rs => by
    show (joinRows le rs).length + 1 = (rs.length + 1 + 1 + 1) / 2
    rw [joinRows_length le rs]; omega
theorem joinRows_at (le : Nat → Nat → Bool) : ∀ (rs : List (List Nat)) (i : Nat), 2 * i + 1 < rs.length → ∃ a b, rs[2 * i]? = some a ∧ rs[2 * i + 1]? = some b ∧ (joinRows le rs)[i]? = some (List.merge a b le)
  | [], i, h => by simp at h
  | [_], i, h => by simp at h
  | a :: b :: rs, 0, h => ⟨a, b, rfl, rfl, rfl⟩
  | a :: b :: rs, i + 1, h => by
    obtain ⟨x, y, h1, h2, h3⟩ := joinRows_at le rs i (by simp at h; omega)
    refine ⟨x, y, ?_, ?_, h3⟩
    · rw [show 2 * (i + 1) = 2 * i + 1 + 1 from by omega]; exact h1
    · rw [show 2 * (i + 1) + 1 = 2 * i + 1 + 1 + 1 from by omega]; exact h2
theorem joinRows_tail (le : Nat → Nat → Bool) : ∀ rs : List (List Nat), (joinRows le rs).drop (rs.length / 2) = rs.drop (rs.length / 2 * 2)
  | [] => rfl
  | [_] => by simp [joinRows]
  | a :: b :: rs => by
    show (List.merge a b le :: joinRows le rs).drop ((rs.length + 1 + 1) / 2) = (a :: b :: rs).drop ((rs.length + 1 + 1) / 2 * 2)
    rw [show (rs.length + 1 + 1) / 2 = rs.length / 2 + 1 from by omega, show (rs.length / 2 + 1) * 2 = rs.length / 2 * 2 + 1 + 1 from by omega]
    exact joinRows_tail le rs
theorem flat_mem {n : Nat} {rs : List (List Nat)} (h : rs.flatten.Perm (List.range n)) {s : List Nat} (hs : s ∈ rs) : ∀ i ∈ s, i < n := fun i hi => by
  have : i ∈ List.range n := h.mem_iff.mp (List.mem_flatten.mpr ⟨s, hs, hi⟩)
  exact List.mem_range.mp this
theorem flat_len : ∀ {rs : List (List Nat)} {a b : Nat} {s t : List Nat}, rs[a]? = some s → rs[b]? = some t → a < b → s.length + t.length ≤ rs.flatten.length
  | [], _, _, _, _, h, _, _ => by simp at h
  | r :: rs, 0, b + 1, s, t, h1, h2, _ => by
    cases h1
    have : t.length ≤ rs.flatten.length := by
      have hm : t ∈ rs := List.mem_of_getElem? h2
      obtain ⟨l1, l2, rfl⟩ := List.append_of_mem hm
      simp; omega
    show r.length + t.length ≤ (r ++ rs.flatten).length
    rw [List.length_append]; omega
  | r :: rs, a + 1, b + 1, s, t, h1, h2, hab => by
    have := flat_len (rs := rs) (a := a) (b := b) h1 h2 (by omega)
    show _ ≤ (r ++ rs.flatten).length
    rw [List.length_append]; omega
theorem rows_next {le : Nat → Nat → Bool} {rs : List (List Nat)} {acc xs : List V} {H H' : Hp} {L p : Addr} (hx : Acc (fun j p H => ∃ s, rs[j]? = some s ∧ H p = some (.lst (s.map nat))) xs rs.length H)
    (ha : Acc (fun j p H => p ≠ L ∧ ∃ s, (joinRows le rs)[j]? = some s ∧ H p = some (.lst (s.map nat))) acc (rs.length / 2) H) (e : Ex H H') (hp : H' p = some (.lst (acc ++ xs.drop (rs.length / 2 * 2)))) : RowsAt H' p (joinRows le rs) := by
  refine ⟨_, hp, ?_, fun j hj => ?_⟩
  · rw [List.length_append, ha.len, List.length_drop, hx.len, joinRows_length]; omega
  · rw [joinRows_length] at hj
    by_cases h : j < rs.length / 2
    · obtain ⟨q, h1, _, s, h3, h4⟩ := ha.at_ j h
      exact ⟨q, by rw [List.getElem?_append_left (by rw [ha.len]; exact h)]; exact h1, s, h3, e _ _ h4⟩
    · have hj2 : rs.length / 2 * 2 + (j - rs.length / 2) < rs.length := by omega
      obtain ⟨q, h1, s, h3, h4⟩ := hx.at_ _ hj2
      refine ⟨q, by rw [List.getElem?_append_right (by rw [ha.len]; omega), ha.len, List.getElem?_drop]; exact h1, s, ?_, e _ _ h4⟩
      have t := congrArg (fun l => l[j - rs.length / 2]?) (joinRows_tail le rs)
      simp only [List.getElem?_drop] at t
      rw [show rs.length / 2 + (j - rs.length / 2) = j from by omega] at t
      rw [t]; exact h3
theorem RsL.put {C L : Addr} {H : Hp} {xs ys : List V} {k : List Rat} {o : HO} (h : RsL C H xs k) (hl : H L = some (.lst ys)) : RsL C (upd H L o) xs k := ⟨h.1, fun i q hq => by
  obtain ⟨p, h1, h2⟩ := h.2 i q hq
  exact ⟨p, h1, h2.put hl⟩⟩
theorem KeyT.put {C a L : Addr} {H : Hp} {ys : List V} {k : List Rat} {o : HO} (h : KeyT C H a k) (hl : H L = some (.lst ys)) : KeyT C (upd H L o) a k := by
  obtain ⟨xs, h1, h2⟩ := h
  exact ⟨xs, by rw [upd_ne (ne_of h1 hl (by intro z; cases z))]; exact h1, h2.put hl⟩
theorem RsL.of_acc {C : Addr} {H : Hp} {xs : List V} {qs : List Rat} (h : Acc (fun j p H => ∃ q, qs[j]? = some q ∧ IsR C H p q) xs qs.length H) : RsL C H xs qs := ⟨h.len, fun i q hq => by
  obtain ⟨p, h1, q', h2, h3⟩ := h.at_ i (List.getElem?_eq_some_iff.mp hq).1
  rw [hq] at h2; cases h2
  exact ⟨p, h1, h3⟩⟩
theorem one_key {C : Addr} {H : Hp} {a : Addr} {p : Addr} {q : Rat} (h : H a = some (.tup [V.ref p])) (hp : IsR C H p q) : KeyT C H a [q] := ⟨_, h, rfl, fun i r hr => by
  match i, hr with
  | 0, hr => cases hr; exact ⟨p, rfl, hp⟩⟩
theorem ord_perm {qs : List Rat} {idx : List Nat} (h : idx.Perm (List.range qs.length)) : (idx.map fun i => qs.getD i 0).Perm qs := by
  have := h.map (fun i => qs.getD i 0)
  refine this.trans (List.Perm.of_eq ?_)
  apply List.ext_getElem?
  intro i
  rw [List.getElem?_map]
  by_cases hi : i < qs.length
  · rw [List.getElem?_range hi, List.getElem?_eq_getElem hi]
    show some (qs.getD i 0) = _
    rw [List.getD_eq_getElem?_getD, List.getElem?_eq_getElem hi]; rfl
  · rw [List.getElem?_eq_none (by rw [List.length_range]; omega), List.getElem?_eq_none (by omega)]; rfl
theorem ord_sorted {qs : List Rat} {idx : List Nat} (hlt : ∀ i ∈ idx, i < qs.length) (h : idx.Pairwise (fun i j => leK (qs.map fun q => [q]) i j = true)) : (idx.map fun i => qs.getD i 0).Pairwise (· ≤ ·) := by
  rw [List.pairwise_map]
  refine List.Pairwise.imp_of_mem (fun {a b} ha hb z => ?_) h
  have la := hlt a ha
  have lb := hlt b hb
  unfold leK at z
  rw [List.getD_eq_getElem?_getD, List.getD_eq_getElem?_getD, List.getElem?_map, List.getElem?_map, List.getElem?_eq_getElem la, List.getElem?_eq_getElem lb] at z
  rw [List.getD_eq_getElem?_getD, List.getD_eq_getElem?_getD, List.getElem?_eq_getElem la, List.getElem?_eq_getElem lb]
  show qs[a] ≤ qs[b]
  have z' : (!(if qs[b] = qs[a] then lexLt [] [] else decide (qs[b] < qs[a]))) = true := z
  by_cases e : qs[b] = qs[a]
  · rw [e]; exact Rat.le_refl
  · rw [if_neg e, Bool.not_eq_true', decide_eq_false_iff_not, Rat.not_lt] at z'; exact z'
/-- least (m = 0), greatest (m = 1) -/
def spLeast (C CN : Addr) (m : Nat) : Sp := fun vs H Q E => ∃ (k : Addr) (xs : List V), vs = [.ref k] ∧ SeqAt1 H k xs ∧ ((xs = [] ∧ Rz E CN "number" (.int 0) H) ∨
  ∃ qs : List Rat, xs.length = qs.length ∧ (∀ (i : Nat) (q : Rat), qs[i]? = some q → ∃ v, xs[i]? = some v ∧ NumV C H v q) ∧ (∀ q ∈ qs, Bq q) ∧ qs.length ≤ 1000 ∧ 0 < qs.length ∧
  ∀ (H' : Hp) (p : Addr) (rs : List Rat) (q : Rat), Ex H H' → rs.Perm qs → rs.Pairwise (· ≤ ·) → ((m = 0 ∧ rs[0]? = some q) ∨ (m = 1 ∧ rs[rs.length - 1]? = some q)) → IsR C H' p q → Q (.ref p) H')
def spII (g : Int → Int → Int) : Sp := fun vs H Q _ => ∃ a b : Int, vs = [.int a, .int b] ∧ Bt a ∧ Bt b ∧ Q (.int (g a b)) H
theorem atI_last {xs : List V} {v : V} (h : 0 < xs.length) (e : xs[xs.length - 1]? = some v) : atI xs (-1) = some v := by
  unfold atI
  have : ixN xs.length (-1) = some (xs.length - 1) := by
    unfold ixN
    rw [if_neg (by decide), if_pos (by omega)]
    congr 1
    omega
  rw [this]; exact e
/-- math.lcm -/
def rLcm : List V → Hp → VK → Prop := fun vs H Q => ∃ a b : Int, vs = [.int a, .int b] ∧ Bt a ∧ Bt b ∧ Q (.int ((Int.lcm a b : Nat) : Int)) H
theorem bt_log {a : Nat} (h : a < 2 ^ 4000) : a.log2 < 4000 := PySem.Flt.log2_lt_of (by decide) h
theorem cr_lcm {X : Cx} : CallR X (.builtin "math.lcm") rLcm := by
  intro pins s σ H vs us Q I r h
  obtain ⟨a, b, rfl, ha, hb, q⟩ := h
  obtain ⟨t, u, rfl⟩ := Vals.int2 r
  have la := bt_log ha
  have lb := bt_log hb
  have e : ((Nat.lcm 1 a.natAbs).lcm b.natAbs) = Int.lcm a b := by rw [Nat.lcm_one_left]; rfl
  have l1 : (max 1 a.natAbs).log2 < 4000 := by
    rcases Nat.le_total 1 a.natAbs with z | z
    · rw [Nat.max_eq_right z]; exact la
    · rw [Nat.max_eq_left z]; decide
  have l2 : (max a.natAbs b.natAbs).log2 < 4000 := by
    rcases Nat.le_total a.natAbs b.natAbs with z | z
    · rw [Nat.max_eq_right z]; exact lb
    · rw [Nat.max_eq_left z]; exact la
  have l3 : (((Nat.lcm 1 a.natAbs).lcm b.natAbs : Nat) : Int).natAbs.log2 < bitsLine := by
    rw [Int.natAbs_natCast, e]
    have : Int.lcm a b < 2 ^ 8000 := by
      show Nat.lcm a.natAbs b.natAbs < _
      refine Nat.lt_of_le_of_lt (Nat.div_le_self _ _) ?_
      exact pow_mono (pow_mul_lt ha hb) (by decide)
    have z := PySem.Flt.log2_lt_of (by decide) this
    have e : bitsLine = 134217728 := by decide
    omega
  exact call_function_meets PySem.W.MGF.kind_lcm PySem.W.MGF.plain_lcm PySem.W.MGF.entry_lcm (PySem.W.MGF.args_lcm _ _) (PySem.W.mg_run_lcm a t b u (by omega) (by omega) l3).meets ⟨.int _, H, I.tok _, ⟨_, rfl⟩, by rw [e]; exact q⟩
def spBez : Sp := fun vs H Q _ => ∃ a b : Int, vs = [.int a, .int b] ∧ Bt a ∧ Bt b ∧ ∀ (H' : Hp) (p : Addr) (s t : Int), Ex H H' → H p = none → H' p = some (.tup [.int ((Int.gcd a b : Nat) : Int), .int s, .int t]) → s * a + t * b = ((Int.gcd a b : Nat) : Int) → s.natAbs < 2 ^ 4002 → t.natAbs < 2 ^ 8010 → Q (.ref p) H'
/-- the state of the walk -/
structure Bez (a b u l s f : Int) : Prop where
  co : ∃ x y, u = s * a + x * b ∧ l = f * a + y * b
  gc : Int.gcd u l = Int.gcd a b
  ab : f.natAbs * u.natAbs + s.natAbs * l.natAbs = b.natAbs
  sg : (u = a ∧ l = b ∧ s = 1 ∧ f = 0) ∨ (u ≠ 0 ∧ ((0 ≤ u ∧ 0 ≤ l) ∨ (u ≤ 0 ∧ l ≤ 0)) ∧ ((0 ≤ s ∧ f ≤ 0) ∨ (s ≤ 0 ∧ 0 ≤ f)))
  bs : s.natAbs ≤ b.natAbs + 1
  bf : f.natAbs ≤ b.natAbs + 1
  bu : u.natAbs ≤ a.natAbs + b.natAbs
  bl : l.natAbs ≤ b.natAbs
theorem Bez.start (a b : Int) : Bez a b a b 1 0 := ⟨⟨0, 1, by omega, by omega⟩, rfl, by simp, .inl ⟨rfl, rfl, rfl, rfl⟩, by simp, by simp, by omega, Nat.le_refl _⟩
theorem fmod_facts {u l : Int} (h : l ≠ 0) : (0 < l → 0 ≤ u - u.fdiv l * l ∧ u - u.fdiv l * l < l) ∧ (l < 0 → l < u - u.fdiv l * l ∧ u - u.fdiv l * l ≤ 0) := by
  have e : u - u.fdiv l * l = u.fmod l := by rw [Int.fmod_def, Int.mul_comm]
  rw [e]
  exact ⟨fun hl => ⟨Int.fmod_nonneg_of_pos u hl, Int.fmod_lt_of_pos u hl⟩, fun hl => ⟨by
    have := Int.fmod_lt_of_pos (-u) (show 0 < -l by omega)
    have e2 := Int.neg_fmod_neg (a := u) (b := l)
    omega, by
    have := Int.fmod_nonneg_of_pos (-u) (show 0 < -l by omega)
    have e2 := Int.neg_fmod_neg (a := u) (b := l)
    omega⟩⟩
theorem abs_p {x : Int} (h : 0 ≤ x) : (x.natAbs : Int) = x := Int.natAbs_of_nonneg h
theorem abs_n {x : Int} (h : x ≤ 0) : (x.natAbs : Int) = -x := by omega
theorem Bez.step {a b u l s f q : Int} (B : Bez a b u l s f) (h : l ≠ 0) (hq : q = u.fdiv l) : Bez a b l (u - q * l) f (s - q * f) ∧ (u - q * l).natAbs < l.natAbs := by
  obtain ⟨⟨x, y, e1, e2⟩, gc, ab, sg, bs, bf, bu, bl⟩ := B
  have fm := fmod_facts (u := u) h
  rw [← hq] at fm
  have lt : (u - q * l).natAbs < l.natAbs := by
    rcases Int.lt_or_gt_of_ne h with z | z
    · have := fm.2 z; omega
    · have := fm.1 z; omega
  have sgn : (0 ≤ l ∧ 0 ≤ u - q * l) ∨ (l ≤ 0 ∧ u - q * l ≤ 0) := by
    rcases Int.lt_or_gt_of_ne h with z | z
    · exact .inr ⟨by omega, (fm.2 z).2⟩
    · exact .inl ⟨by omega, (fm.1 z).1⟩
  have gc' : Int.gcd l (u - q * l) = Int.gcd a b := by
    rw [← gc, Int.gcd_comm u l]
    have : u - q * l = u + l * (-q) := by grind
    rw [this, Int.gcd_add_mul_left_right]
  have co' : ∃ x y, l = f * a + x * b ∧ u - q * l = (s - q * f) * a + y * b := ⟨y, x - q * y, e2, by rw [e1]; grind⟩
  have main : (s - q * f).natAbs * l.natAbs + f.natAbs * (u - q * l).natAbs = b.natAbs ∧ ((0 ≤ f ∧ s - q * f ≤ 0) ∨ (f ≤ 0 ∧ 0 ≤ s - q * f)) := by
    rcases sg with ⟨rfl, rfl, rfl, rfl⟩ | ⟨hu, hs, hsf⟩
    · refine ⟨by simp, .inr ⟨by omega, by omega⟩⟩
    · have q0 : 0 ≤ q := by
        rw [hq]
        rcases hs with ⟨z1, z2⟩ | ⟨z1, z2⟩
        · exact Int.fdiv_nonneg z1 z2
        · rw [← Int.neg_fdiv_neg]; exact Int.fdiv_nonneg (by omega) (by omega)
      have key : (0 ≤ f ∧ s - q * f ≤ 0 ∧ s ≤ 0) ∨ (f ≤ 0 ∧ 0 ≤ s - q * f ∧ 0 ≤ s) := by
        rcases hsf with ⟨z1, z2⟩ | ⟨z1, z2⟩
        · right
          have := Int.mul_nonpos_of_nonneg_of_nonpos q0 z2
          exact ⟨z2, by omega, z1⟩
        · left
          have := Int.mul_nonneg q0 z2
          exact ⟨z2, by omega, z1⟩
      refine ⟨?_, key.elim (fun z => .inl ⟨z.1, z.2.1⟩) (fun z => .inr ⟨z.1, z.2.1⟩)⟩
      have hs' : (0 ≤ l ∧ 0 ≤ u ∧ 0 ≤ u - q * l) ∨ (l ≤ 0 ∧ u ≤ 0 ∧ u - q * l ≤ 0) := by
        rcases Int.lt_or_gt_of_ne h with z | z
        · right
          have := fm.2 z
          exact ⟨by omega, by omega, by omega⟩
        · left
          have := fm.1 z
          exact ⟨by omega, by omega, by omega⟩
      apply Int.ofNat_inj.mp
      rw [← ab]
      push_cast
      rcases key with ⟨k1, k2, k3⟩ | ⟨k1, k2, k3⟩ <;> rcases hs' with ⟨l1, l2, l3⟩ | ⟨l1, l2, l3⟩
      · rw [abs_n k2, abs_p l1, abs_p k1, abs_p l3, abs_p l2, abs_n k3]; grind
      · rw [abs_n k2, abs_n l1, abs_p k1, abs_n l3, abs_n l2, abs_n k3]; grind
      · rw [abs_p k2, abs_p l1, abs_n k1, abs_p l3, abs_p l2, abs_p k3]; grind
      · rw [abs_p k2, abs_n l1, abs_n k1, abs_n l3, abs_n l2, abs_p k3]; grind
  have bnd : (s - q * f).natAbs ≤ b.natAbs := by
    have h1 : 1 ≤ l.natAbs := by omega
    have := Nat.mul_le_mul_left (s - q * f).natAbs h1
    omega
  exact ⟨⟨co', gc', main.1, .inr ⟨h, sgn, main.2⟩, bf, by omega, by omega, by omega⟩, lt⟩
/-- the products of a step are not great -/
theorem Bez.small {a b u l s f q : Int} (B : Bez a b u l s f) (h : l ≠ 0) (hq : q = u.fdiv l) (ha : Bt a) (hb : Bt b) : CDivZ u l ∧ CMulA q l ∧ CMulA q f := by
  have st := (B.step h hq).2
  have bl := B.bl
  have bu := B.bu
  have bf := B.bf
  have a4 : a.natAbs < 2 ^ 4000 := ha
  have b4 : b.natAbs < 2 ^ 4000 := hb
  have e1 : (2 : Nat) ^ 4002 = 4 * 2 ^ 4000 := by rw [show (4002 : Nat) = 4000 + 2 from rfl, Nat.pow_add, Nat.mul_comm]
  have q1 : q.natAbs ≤ u.natAbs + l.natAbs := by
    have z : q.natAbs * l.natAbs ≤ u.natAbs + l.natAbs := by
      rw [← Int.natAbs_mul]; omega
    have h1 : 1 ≤ l.natAbs := by omega
    have := Nat.mul_le_mul_left q.natAbs h1
    omega
  have q2 : q.natAbs < 2 ^ 4002 := by rw [e1]; omega
  have p1 : 0 < 2 ^ 4000 := Nat.two_pow_pos 4000
  exact ⟨⟨h, Nat.lt_of_lt_of_le (Nat.lt_of_le_of_lt bl b4) (Nat.pow_le_pow_right (by decide) (by decide))⟩, cmA_w q2 (show l.natAbs < 2 ^ 4000 from Nat.lt_of_le_of_lt bl b4) (by decide), cmA_w q2 (show f.natAbs < 2 ^ 4002 by omega) (by decide)⟩
def absAt (i : Nat) (σ : L2.St) : Nat := match σ[i]? with
  | some (some (V.int a)) => a.natAbs
  | _ => 0
/-- the end of the walk -/
theorem Bez.fin {a b u s f : Int} (B : Bez a b u 0 s f) : (u.natAbs : Int) = ((Int.gcd a b : Nat) : Int) ∧ ∃ x, u = s * a + x * b := by
  obtain ⟨⟨x, y, e1, e2⟩, gc, ab, sg, bs, bf, bu, bl⟩ := B
  refine ⟨?_, x, e1⟩
  rw [← gc, Int.gcd_zero_right]
theorem bez_t {a b s t : Int} (e : s * a + t * b = ((Int.gcd a b : Nat) : Int)) (hb : b ≠ 0) (hs : s.natAbs < 2 ^ 4002) (ha : Bt a) (hb4 : Bt b) : t.natAbs < 2 ^ 8010 := by
  have h1 : t.natAbs ≤ (t * b).natAbs := by
    rw [Int.natAbs_mul]
    exact Nat.le_mul_of_pos_right _ (by omega)
  have h2 : t * b = ((Int.gcd a b : Nat) : Int) - s * a := by omega
  have h3 : (s * a).natAbs < 2 ^ (4002 + 4000) := lt_mul hs ha
  have h4 : Int.gcd a b < 2 ^ 4000 := Nat.lt_of_le_of_lt (gcd_le hb) hb4
  have h5 : (((Int.gcd a b : Nat) : Int) - s * a).natAbs < 2 ^ 8010 := lt_sub (n := 4000) (m := 8002) (by rw [Int.natAbs_natCast]; exact h4) h3 (by decide) (by decide)
  rw [← h2] at h5
  omega
theorem lcm_eq {a b : Int} : ((Int.lcm a b : Nat) : Int) = (a.natAbs : Int).fdiv ((Int.gcd a b : Nat) : Int) * (b.natAbs : Int) := by
  have hg : Int.gcd a b ∣ a.natAbs := Int.gcd_dvd_natAbs_left a b
  rw [Int.fdiv_eq_ediv_of_nonneg _ (by omega), ← Int.natCast_ediv, ← Int.natCast_mul]
  congr 1
  show a.natAbs * b.natAbs / Nat.gcd a.natAbs b.natAbs = a.natAbs / Nat.gcd a.natAbs b.natAbs * b.natAbs
  exact Nat.mul_div_right_comm hg b.natAbs
end
section
open PySem PySem.Spec PyProof.Rows L2 He
def oexB (K : PySem.W.Frag) (C : Addr) : Bool := (match K.lookup C with
  | some ⟨.type "type", _, .cls cd, sl⟩ => (match cd.mro, sl.toList with
    | .ref C' :: bm, [_, _, _, _, some (.builtin n), _] => decide (C' = C) && (decide (n = "ValueError.__new__") && (!cd.hasDel && (cd.hasDict && PySem.HandSPX.refsVE bm)))
    | _, _ => false)
  | _ => false) && (eqO (PySem.W.findIn K (.ref C) "__setattr__") (some (some (.builtin "object.__setattr__"))) && (decide (PySem.W.subIn K (.ref C) (.type "BaseException") = some true) && (decide (PySem.W.typeIn K (.ref C) = some (.type "type")) && PySem.W.keepIn K (.ref C))))
theorem oexB_ok {K : PySem.W.Frag} {C : Addr} (h : oexB K C = true) : OexC K C := by
  obtain ⟨h1, h2⟩ := ba h
  obtain ⟨h2, h3⟩ := ba h2
  obtain ⟨h3, h4⟩ := ba h3
  obtain ⟨h4, h5⟩ := ba h4
  refine ⟨?_, eqO_ok h2, of_decide_eq_true h3, of_decide_eq_true h4, h5⟩
  cases e : K.lookup C with
  | none => rw [e] at h1; cases h1
  | some o =>
    rw [e] at h1
    obtain ⟨oc, od, dt, sl⟩ := o
    skip
    split at h1
    · rename_i cd sl' ho
      cases ho
      split at h1
      · rename_i C' bm a0 a1 a2 a3 n a5 hm hs
        obtain ⟨nm, bs, mro, N, q, hd, sn, sub, ab, col, hdel⟩ := cd
        replace h1 : (decide (C' = C) && (decide (n = "ValueError.__new__") && (!hdel && (hd && PySem.HandSPX.refsVE bm)))) = true := h1
        simp only [Bool.and_eq_true, decide_eq_true_eq, Bool.not_eq_true'] at h1
        obtain ⟨e1, e2, e3, e4, g5⟩ := h1
        replace hm : mro = .ref C' :: bm := hm
        subst e1 e2 e3 e4 hm
        have e6 : sl = #[a0, a1, a2, a3, some (.builtin "ValueError.__new__"), a5] := by
          apply Array.ext'
          rw [hs]
        subst e6
        exact ⟨nm, q, N, bs, bm, sn, sub, ab, col, _, a0, a1, a2, a3, a5, rfl, g5⟩
      · cases h1
    · cases h1
def clsPB (K : PySem.W.Frag) (C : Addr) : Bool :=
  PySem.W.selfFirst K C && (decide (PySem.W.subIn K (.ref C) (.type "int") = some false) && (eqO (PySem.W.findIn K (.ref C) "__ne__") (some (some (.builtin "object.__ne__"))) && (eqO (PySem.W.findIn K (.ref C) "__class__") (some (some (.builtin "object.__class__"))) &&
  (decide (PySem.W.specialIn K (.builtin "object.__class__") "__get__" = some (some (.builtin "getset_descriptor.__get__"))) && (decide (PySem.W.takesIn K (.builtin "object.__class__") = some true) && (decide (PySem.W.mroIn K C (.type "object") = some true) &&
  (eqO (PySem.W.findIn K (.ref C) "__rpow__") (some none) && (decide (PySem.W.subIn K (.ref C) (.type "bool") = some false) && ((PySem.W.clsIn K C).isSome && decide (PySem.W.typeIn K (.ref C) = some (.type "type")))))))))))
theorem clsPB_ok {K : PySem.W.Frag} {C : Addr} (c : Cls K C) (h : clsPB K C = true) : ClsP K C := by
  obtain ⟨h1, h⟩ := ba h
  obtain ⟨h2, h⟩ := ba h
  obtain ⟨h3, h⟩ := ba h
  obtain ⟨h4, h⟩ := ba h
  obtain ⟨h5, h⟩ := ba h
  obtain ⟨h6, h⟩ := ba h
  obtain ⟨h7, h⟩ := ba h
  obtain ⟨h8, h⟩ := ba h
  obtain ⟨h9, h⟩ := ba h
  obtain ⟨h10, h11⟩ := ba h
  exact ⟨⟨c, h1, of_decide_eq_true h2, eqO_ok h3, eqO_ok h4, of_decide_eq_true h5, of_decide_eq_true h6, of_decide_eq_true h7, eqO_ok h8⟩, of_decide_eq_true h9, h10, of_decide_eq_true h11⟩
section
variable {X : Cx} {K : PySem.W.Frag} {o e : Expr} {to te : TE} {f : Str} {p' pos : Pos}
theorem kps_ost (h : X.K = K) (ho : PE X o to) (he : PE X e te) (hs : swapsWith e (some (.Attribute o f p')) pos.line X.env = pure false := by rfl) : PS X (.Assign [.Attribute o f p'] e pos) (tOst K f to te) := by subst h; exact ps_ost ho he hs
end
section
variable {P : Program} {w : World} {K : PySem.W.Frag} {mg : Str → Option Value} {base : Heap} {k : Nat} {x m : Str} {f C : Addr} {fd : FuncData} {ps : List Str} {sp : Sp} {pa : Arguments} {bd : List Stmt} {sc : Scope}
/-- a def as callers take it -/
theorem mkCl {q : Str} (F : FunD K x q pa bd sc [] [] f fd) (hm : mg x = some (.ref f)) (ok : FnOk P w K mg base (L2.CX P w) k f fd ps sp) (b : Binds K fd ps []) : Cl P w K mg base k x sp := ⟨f, fd, ps, ok, hm, F.kp, b⟩
theorem mkCm (me : Meth K C m f) (ok : FnOk P w K mg base (L2.CX P w) k f fd ps sp) (b : Binds K fd ps []) : Cm P w K mg base k C m f sp := ⟨⟨fd, ps, ok, b⟩, me⟩
theorem mkCk {dvs : List V} {ds : List Value} (M : Mk K C f) (hm : mg x = some (.ref C)) (ok : FnOk P w K mg base (L2.CX P w) k f fd ps sp) (b : Binds K fd ps ds) (hv : Vals dvs ds) : Ck P w K mg base k x C dvs sp := ⟨f, fd, ps, ds, ok, M, hm, b, hv⟩
theorem mkCox {fn : Str} (ox : OexC K C) (hm : mg x = some (.ref C)) (me : Meth K C "__init__" f) (ti : PySem.W.typeIn K (.ref f) = some (.type "function")) (ok : FnOk P w K mg base (L2.CX P w) k f fd ps (spEx C fn)) (b : Binds K fd ps []) : Cox P w K mg base k x C fn := ⟨ox, hm, f, fd, ps, me.at_, ti, ok, b⟩
/-- the same contract with a wider level is not needed: a Room serves all below it -/
theorem Cl.up' {k' : Nat} (c : Cl P w K mg base k x sp) : Cl P w K mg base k x sp := c
end
end
section
open PySem PySem.Spec PyProof.Rows L2 He
def top (i : Nat) : Stmt := PySem.Challenge.pw_overfloors_k09_whole_numbers_in_order.main.body.getD i (.Pass ⟨0, 0, 0, 0⟩)
structure TBl (mg : Str → Option Value) : Prop where
  b_isinstance : mg "isinstance" = none
  b_int : mg "int" = none
  b_bool : mg "bool" = none
  b_len : mg "len" = none
  b_range : mg "range" = none
  b_zip : mg "zip" = none
  b_list : mg "list" = none
  b_tuple : mg "tuple" = none
  b_max : mg "max" = none
  b_abs : mg "abs" = none
  b_all : mg "all" = none
  g_gcd : mg "gcd" = some (.builtin "math.gcd")
  g_lcm : mg "lcm" = some (.builtin "math.lcm")
section
variable {P : Program} {w : World} {K : PySem.W.Frag} {mg : Str → Option Value} {base : Heap} {C_Ratio C_BadNumber C_NoSuch f_Ratio_eq f_Ratio_lt : Addr} {T_ : List (Addr × Str)}
abbrev s_is_int : Stmt := (top 11)
theorem sc_is_int : FnScope ["value"] ["value"] (defScope s_is_int) := ⟨rfl, rfl, rfl, by decide +kernel, rfl, by decide +kernel, by decide +kernel⟩
theorem ok_is_int {f : Addr} {fd : FuncData} (F : FunD K "is_int" "is_int" (defArgs s_is_int) (defBody s_is_int) (defScope s_is_int) [] [] f fd) (TB : TBl mg) (TR : RT K mg C_Ratio) : FnOk P w K mg base (L2.CX P w) 1 f fd ["value"] (spIsInt K) := by
  refine F.ok (CX := L2.CX P w) sc_is_int (fun vs H Q E h => ?_) (fun cdv A outer s H vs Q E hr h => ?_)
  · obtain ⟨v, t, r, s, rfl, _⟩ := h; rfl
  · obtain ⟨v, t, r, s, rfl, ht, h1, h2, k⟩ := h
    refine ⟨_, (pss_one (ps_ret (pe_and (pe_callB (kc_isi (K := K) rfl) (by rfl) TB.b_isinstance (by decide +kernel) (pa_cons (pv 0) (pa_cons (pe_bltn (v := .ty "int") (u := .type "int") (by rfl) TB.b_int (by decide +kernel) rfl) pa_nil))) (pe_one (pe_not (pe_callB (kc_isi (K := K) rfl) (by rfl) TB.b_isinstance (by decide +kernel) (pa_cons (pv 0) (pa_cons (pe_bltn (v := .ty "bool") (u := .type "bool") (by rfl) TB.b_bool (by decide +kernel) rfl) pa_nil)))))))), ?_⟩
    wtm_at "of_rd"
    refine r_isi (.ty _) ht h1 ?_
    wtm_at "of_rd"
    cases r with
    | false => wtm_at "of_rd"; exact k
    | true =>
      wtm_at "of_rd"
      refine r_isi (.ty _) ht (h2 rfl) ?_
      wtm_at "of_rd"
      exact k
abbrev s_BadNumber_init : Stmt := (inClass (top 4) 0)
theorem sc_BadNumber___init__ : FnScope ["self", "value"] ["self", "value"] (defScope s_BadNumber_init) := ⟨rfl, rfl, rfl, by decide +kernel, rfl, by decide +kernel, by decide +kernel⟩
theorem ok_BadNumber_init {f : Addr} {fd : FuncData} (F : FunD K "__init__" "BadNumber.__init__" (defArgs s_BadNumber_init) (defBody s_BadNumber_init) (defScope s_BadNumber_init) [] [] f fd) (TR : RT K mg C_Ratio) (o_BadNumber : OexC K C_BadNumber) (n_BadNumber : PySem.W.findIn K (.ref C_BadNumber) "value" = some none) : FnOk P w K mg base (L2.CX P w) 1 f fd ["self", "value"] (spEx C_BadNumber "value") := by
  refine F.ok (CX := L2.CX P w) sc_BadNumber___init__ (fun vs H Q E h => ?_) (fun cdv A outer s H vs Q E hr h => ?_)
  · obtain ⟨a, v, rfl, _⟩ := h; rfl
  · obtain ⟨a, v, rfl, ha, k⟩ := h
    refine ⟨_, (pss_one (kps_ost (K := K) rfl (pv 0) (pv 1))), ?_⟩
    refine ⟨v, rfl, .ref a, rfl, a, C_BadNumber, rfl, o_BadNumber, n_BadNumber, .inl ⟨ha, ?_⟩⟩
    exact k
abbrev s_NoSuch_init : Stmt := (inClass (top 5) 0)
theorem sc_NoSuch___init__ : FnScope ["self", "number"] ["self", "number"] (defScope s_NoSuch_init) := ⟨rfl, rfl, rfl, by decide +kernel, rfl, by decide +kernel, by decide +kernel⟩
theorem ok_NoSuch_init {f : Addr} {fd : FuncData} (F : FunD K "__init__" "NoSuch.__init__" (defArgs s_NoSuch_init) (defBody s_NoSuch_init) (defScope s_NoSuch_init) [] [] f fd) (TR : RT K mg C_Ratio) (o_NoSuch : OexC K C_NoSuch) (n_NoSuch : PySem.W.findIn K (.ref C_NoSuch) "number" = some none) : FnOk P w K mg base (L2.CX P w) 1 f fd ["self", "number"] (spEx C_NoSuch "number") := by
  refine F.ok (CX := L2.CX P w) sc_NoSuch___init__ (fun vs H Q E h => ?_) (fun cdv A outer s H vs Q E hr h => ?_)
  · obtain ⟨a, v, rfl, _⟩ := h; rfl
  · obtain ⟨a, v, rfl, ha, k⟩ := h
    refine ⟨_, (pss_one (kps_ost (K := K) rfl (pv 0) (pv 1))), ?_⟩
    refine ⟨v, rfl, .ref a, rfl, a, C_NoSuch, rfl, o_NoSuch, n_NoSuch, .inl ⟨ha, ?_⟩⟩
    exact k
abbrev s_Ratio_init : Stmt := (inClass (top 16) 0)
theorem sc_Ratio___init__ : FnScope ["self", "top", "bottom", "common"] ["self", "top", "bottom"] (defScope s_Ratio_init) := ⟨rfl, rfl, rfl, by decide +kernel, rfl, by decide +kernel, by decide +kernel⟩
theorem ok_Ratio_init {f : Addr} {fd : FuncData} (F : FunD K "__init__" "Ratio.__init__" (defArgs s_Ratio_init) (defBody s_Ratio_init) (defScope s_Ratio_init) [.int 1] [] f fd) (TB : TBl mg) (TR : RT K mg C_Ratio) (c_is_int : Cl P w K mg base 1 "is_int" (spIsInt K)) (c_BadNumber : Cox P w K mg base 1 "BadNumber" C_BadNumber "value") : FnOk P w K mg base (L2.CX P w) 3 f fd ["self", "top", "bottom"] (spRInit K C_Ratio C_BadNumber) := by
  refine F.ok (CX := L2.CX P w) sc_Ratio___init__ (fun vs H Q E h => ?_) (fun cdv A outer s H vs Q E hr h => ?_)
  · obtain ⟨p, dx, x, y, rfl, _⟩ := h; rfl
  · obtain ⟨p, dx, x, y, rfl, hp, h⟩ := h
    refine ⟨_, (pss_cons (ps_if (pt_not (pt_val (pe_cl c_is_int hr (by decide) (by rfl) psE (pa_cons (pv 1) pa_nil)))) (pss_one (ps_rz c_BadNumber hr (by decide) tkE rfl (pa_cons (pv 1) pa_nil))) pss_nil) (pss_cons (ps_if (pt_not (pt_val (pe_cl c_is_int hr (by decide) (by rfl) psE (pa_cons (pv 2) pa_nil)))) (pss_one (ps_rz c_BadNumber hr (by decide) tkE rfl (pa_cons (pv 2) pa_nil))) pss_nil) (pss_cons (ps_if (pt_cmpR op_eq (pv 2) pe_int (nomark _)) (pss_one (ps_rz c_BadNumber hr (by decide) tkE rfl (pa_cons pe_int pa_nil))) pss_nil) (pss_cons (ps_set (i := 3) sc_Ratio___init__.nd rfl (Or.inl rfl) (pe_callBfun cr_gcd (by rfl) TB.g_gcd (pa_cons (pv 1) (pa_cons (pv 2) pa_nil)))) (pss_cons (ps_if (pt_cmpR op_lt (pv 2) pe_int (nomark _)) (pss_one (ps_set (i := 3) sc_Ratio___init__.nd rfl (Or.inl rfl) (pe_un un_neg (pv 3)))) pss_nil) (pss_cons (ksfld (K := K) rfl (pv 0) (pe_op op_fdivZ (pv 1) (pv 3)) rfl) (pss_one (ksfld (K := K) rfl (pv 0) (pe_op op_fdivZ (pv 2) (pv 3)) rfl)))))))), ?_⟩
    rcases h with ⟨a, b, rfl, rfl, hb, h9, k⟩ | ⟨hw, hz⟩ | ⟨a, rfl, hw, hz⟩ | ⟨a, rfl, rfl, hz⟩
    · wtm_at "of_rd"
      refine q_isInt_i ?_
      wtm_at "of_rd"
      refine q_isInt_i ?_
      wtm_at "of_rd"
      refine iteDn hb ?_
      wtm_at "of_rd"
      have fin : ∀ g : Int, g = (if b < 0 then -(Int.gcd a b : Int) else (Int.gcd a b : Int)) → ∀ H', H' = upd H p (.ins C_Ratio dx [("top", .int (a.fdiv g)), ("bottom", .int (b.fdiv g))]) → Q V.non H' := by
        intro g hg H' e
        subst e
        refine k _ (fun c o hc hn => by rw [upd_ne hn]; exact hc) ⟨dx, ?_⟩
        rw [upd_same, hg, made_num hb, made_den hb]; rfl
      have div : ∀ g : Int, g = (if b < 0 then -(Int.gcd a b : Int) else (Int.gcd a b : Int)) → ∀ i, CDivZ i g := by
        intro g hg i
        have g0 : (Int.gcd a b : Int) ≠ 0 := by have := Int.gcd_ne_zero_right (a := a) hb; omega
        have gl := gcd_le (a := a) hb
        refine ⟨by subst hg; split <;> omega, ?_⟩
        have : g.natAbs = Int.gcd a b := by subst hg; split <;> simp
        omega
      have rest : ∀ g : Int, g = (if b < 0 then -(Int.gcd a b : Int) else (Int.gcd a b : Int)) → _ := fun g hg => And.intro (fin g hg) (div g hg)
      refine ite2 (fun hlt => ?_) (fun hlt => ?_)
      all_goals
        wtm_at "of_rd"
        refine r_I (div _ (by first | rw [if_pos hlt] | rw [if_neg hlt]) _) ?_
        wtm_at "of_rd"
        refine r_put TR.k.o.cl TR.nT (by with_unfolding_all rfl) hp (by decide) ?_
        wtm_at "of_rd"
        refine r_I (div _ (by first | rw [if_pos hlt] | rw [if_neg hlt]) _) ?_
        wtm_at "of_rd"
        refine r_put TR.k.o.cl TR.nB (by with_unfolding_all rfl) upd_same (by show 1 < 1000; decide) ?_
        refine fin _ (by first | rw [if_pos hlt] | rw [if_neg hlt]) _ ?_
        rw [upd_upd, fR_made]
    · wtm_at "of_rd"
      refine q_isInt_w hw ?_
      wtm_at "of_rd"
      exact hz.at
    · wtm_at "of_rd"
      refine q_isInt_i ?_
      wtm_at "of_rd"
      refine q_isInt_w hw ?_
      wtm_at "of_rd"
      exact hz.at
    · wtm_at "of_rd"
      refine q_isInt_i ?_
      wtm_at "of_rd"
      refine q_isInt_i ?_
      wtm_at "of_rd"
      exact hz.at
abbrev s_is_number : Stmt := (top 12)
theorem sc_is_number : FnScope ["value"] ["value"] (defScope s_is_number) := ⟨rfl, rfl, rfl, by decide +kernel, rfl, by decide +kernel, by decide +kernel⟩
theorem ok_is_number {f : Addr} {fd : FuncData} (F : FunD K "is_number" "is_number" (defArgs s_is_number) (defBody s_is_number) (defScope s_is_number) [] [] f fd) (g_Ratio : mg "Ratio" = some (.ref C_Ratio)) (TB : TBl mg) (TR : RT K mg C_Ratio) (c_is_int : Cl P w K mg base 1 "is_int" (spIsInt K)) : FnOk P w K mg base (L2.CX P w) 2 f fd ["value"] (spIsNum K C_Ratio) := by
  refine F.ok (CX := L2.CX P w) sc_is_number (fun vs H Q E h => ?_) (fun cdv A outer s H vs Q E hr h => ?_)
  · obtain ⟨v, rfl, _⟩ := h; rfl
  · obtain ⟨v, rfl, h⟩ := h
    refine ⟨_, (pss_one (ps_ret (pe_or (pe_callB (kc_isi (K := K) rfl) (by rfl) TB.b_isinstance (by decide +kernel) (pa_cons (pv 0) (pa_cons (pe_glob (v := .ref C_Ratio) (by rfl) g_Ratio rfl) pa_nil))) (pe_one (pe_cl c_is_int hr (by decide) (by rfl) psE (pa_cons (pv 0) pa_nil)))))), ?_⟩
    rcases h with ⟨⟨q, ⟨n, rfl, rfl⟩ | ⟨a, rfl, ha⟩⟩, k⟩ | ⟨hw, k⟩
    · wtm_at "of_rd"
      refine r_isi (.own _) tyI (kit_int TR.k) ?_
      wtm_at "of_rd"
      exact q_isInt_i k
    · wtm_at "of_rd"
      refine r_isi (.own _) (ha.tyx TR) kit_self ?_
      wtm_at "of_rd"
      exact k
    · wtm_at "of_rd"
      obtain ⟨t, ht, hc, hi⟩ := _root_.id hw
      refine r_isi (.own _) ht hc ?_
      wtm_at "of_rd"
      exact q_isInt_w hw k
abbrev s_ratio_of : Stmt := (top 13)
theorem sc_ratio_of : FnScope ["number"] ["number"] (defScope s_ratio_of) := ⟨rfl, rfl, rfl, by decide +kernel, rfl, by decide +kernel, by decide +kernel⟩
theorem ok_ratio_of {f : Addr} {fd : FuncData} (F : FunD K "ratio_of" "ratio_of" (defArgs s_ratio_of) (defBody s_ratio_of) (defScope s_ratio_of) [] [] f fd) (g_Ratio : mg "Ratio" = some (.ref C_Ratio)) (TB : TBl mg) (TR : RT K mg C_Ratio) (c_is_int : Cl P w K mg base 1 "is_int" (spIsInt K)) (c_BadNumber : Cox P w K mg base 1 "BadNumber" C_BadNumber "value") (c_Ratio_1 : Ck P w K mg base 3 "Ratio" C_Ratio [.int 1] (spRInit K C_Ratio C_BadNumber)) : FnOk P w K mg base (L2.CX P w) 5 f fd ["number"] (spRatioOf K C_Ratio C_BadNumber) := by
  refine F.ok (CX := L2.CX P w) sc_ratio_of (fun vs H Q E h => ?_) (fun cdv A outer s H vs Q E hr h => ?_)
  · obtain ⟨v, rfl, _⟩ := h; rfl
  · obtain ⟨v, rfl, h⟩ := h
    refine ⟨_, (pss_cons (ps_if (pt_val (pe_callB (kc_isi (K := K) rfl) (by rfl) TB.b_isinstance (by decide +kernel) (pa_cons (pv 0) (pa_cons (pe_glob (v := .ref C_Ratio) (by rfl) g_Ratio rfl) pa_nil)))) (pss_one (ps_ret (pv 0))) pss_nil) (pss_cons (ps_if (pt_val (pe_cl c_is_int hr (by decide) (by rfl) psE (pa_cons (pv 0) pa_nil))) (pss_one (ps_ret (pe_ck c_Ratio_1 hr (by decide) (by rfl) psE (pa_cons (pv 0) pa_nil)))) pss_nil) (pss_one (ps_rz c_BadNumber hr (by decide) tkE rfl (pa_cons (pv 0) pa_nil))))), ?_⟩
    rcases h with ⟨q, ⟨n, rfl, rfl⟩ | ⟨a, rfl, ha⟩, hb, k⟩ | ⟨hw, hz⟩
    · wtm_at "of_rd"
      refine r_isi (.own _) tyI (kit_int TR.k) ?_
      wtm_at "of_rd"
      refine q_isInt_i ?_
      wtm_at "of_rd"
      refine q_mk rfl (by decide) (by decide) ?_
      rw [divInt_one]
      exact k
    · wtm_at "of_rd"
      refine r_isi (.own _) (ha.tyx TR) kit_self ?_
      wtm_at "of_rd"
      exact k H a (Ex.refl H) ha
    · wtm_at "of_rd"
      obtain ⟨t, ht, hc, hi⟩ := _root_.id hw
      refine r_isi (.own _) ht hc ?_
      wtm_at "of_rd"
      refine q_isInt_w hw ?_
      wtm_at "of_rd"
      exact hz.at
abbrev s_Ratio_eq : Stmt := (inClass (top 16) 10)
theorem sc_Ratio___eq__ : FnScope ["self", "other"] ["self", "other"] (defScope s_Ratio_eq) := ⟨rfl, rfl, rfl, by decide +kernel, rfl, by decide +kernel, by decide +kernel⟩
theorem ok_Ratio_eq {f : Addr} {fd : FuncData} (F : FunD K "__eq__" "Ratio.__eq__" (defArgs s_Ratio_eq) (defBody s_Ratio_eq) (defScope s_Ratio_eq) [] [] f fd) (g_Ratio : mg "Ratio" = some (.ref C_Ratio)) (TB : TBl mg) (TR : RT K mg C_Ratio) (c_is_int : Cl P w K mg base 1 "is_int" (spIsInt K)) : FnOk P w K mg base (L2.CX P w) 2 f fd ["self", "other"] (spRB C_Ratio (fun q r => decide (q = r))) := by
  refine F.ok (CX := L2.CX P w) sc_Ratio___eq__ (fun vs H Q E h => ?_) (fun cdv A outer s H vs Q E hr h => ?_)
  · obtain ⟨a, v, q, r, rfl, _⟩ := h; rfl
  · obtain ⟨a, v, q, r, rfl, ha, hv, hq, hr', k⟩ := h
    refine ⟨_, (pss_cons (ps_if (pt_val (pe_callB (kc_isi (K := K) rfl) (by rfl) TB.b_isinstance (by decide +kernel) (pa_cons (pv 1) (pa_cons (pe_glob (v := .ref C_Ratio) (by rfl) g_Ratio rfl) pa_nil)))) (pss_one (ps_ret (pe_and (pe_cmpR op_eq (kfld (K := K) rfl (pv 0) rfl) (kfld (K := K) rfl (pv 1) rfl) (nomark _)) (pe_one (pe_cmpR op_eq (kfld (K := K) rfl (pv 0) rfl) (kfld (K := K) rfl (pv 1) rfl) (nomark _)))))) pss_nil) (pss_one (ps_ret (pe_and (pe_cl c_is_int hr (by decide) (by rfl) psE (pa_cons (pv 1) pa_nil)) (pe_and (pe_cmpR op_eq (kfld (K := K) rfl (pv 0) rfl) pe_int (nomark _)) (pe_one (pe_cmpR op_eq (kfld (K := K) rfl (pv 0) rfl) (pv 1) (nomark _)))))))), ?_⟩
    have k0 := k.here
    rcases hv with ⟨n, rfl, rfl⟩ | ⟨c, rfl, hc⟩
    · wtm_at "of_rd"
      refine r_isi (.own _) tyI (kit_int TR.k) ?_
      wtm_at "of_rd"
      refine q_isInt_i ?_
      wtm_at "of_rd"
      refine ite2 (fun h1 => ?_) (fun h1 => ?_)
      · wtm_at "of_rd"
        dsimp only at k0; rw [dec_eq_i h1] at k0
        exact k0
      · dsimp only at k0; rw [dec_eq_i' h1] at k0
        exact k0
    · wtm_at "of_rd"
      refine r_isi (.own _) (hc.tyx TR) kit_self ?_
      wtm_at "of_rd"
      refine ite2 (fun h1 => ?_) (fun h1 => ?_)
      · wtm_at "of_rd"
        dsimp only at k0; rw [dec_eq_r h1] at k0
        exact k0
      · dsimp only at k0; rw [dec_eq_r' h1] at k0
        exact k0
abbrev s_Ratio_lt : Stmt := (inClass (top 16) 11)
theorem sc_Ratio___lt__ : FnScope ["self", "other", "bound"] ["self", "other"] (defScope s_Ratio_lt) := ⟨rfl, rfl, rfl, by decide +kernel, rfl, by decide +kernel, by decide +kernel⟩
theorem ok_Ratio_lt {f : Addr} {fd : FuncData} (F : FunD K "__lt__" "Ratio.__lt__" (defArgs s_Ratio_lt) (defBody s_Ratio_lt) (defScope s_Ratio_lt) [] [] f fd) (TR : RT K mg C_Ratio) (c_is_number : Cl P w K mg base 2 "is_number" (spIsNum K C_Ratio)) (c_ratio_of : Cl P w K mg base 5 "ratio_of" (spRatioOf K C_Ratio C_BadNumber)) : FnOk P w K mg base (L2.CX P w) 6 f fd ["self", "other"] (spRB C_Ratio (fun q r => decide (q < r))) := by
  refine F.ok (CX := L2.CX P w) sc_Ratio___lt__ (fun vs H Q E h => ?_) (fun cdv A outer s H vs Q E hr h => ?_)
  · obtain ⟨a, v, q, r, rfl, _⟩ := h; rfl
  · obtain ⟨a, v, q, r, rfl, ha, hv, hq, hr', k⟩ := h
    refine ⟨_, (pss_cons (ps_if (pt_not (pt_val (pe_cl c_is_number hr (by decide) (by rfl) psE (pa_cons (pv 1) pa_nil)))) (pss_one (ps_ret pe_ni)) pss_nil) (pss_cons (ps_set (i := 2) sc_Ratio___lt__.nd rfl (Or.inl rfl) (pe_cl c_ratio_of hr (by decide) (by rfl) psE (pa_cons (pv 1) pa_nil))) (pss_one (ps_ret (pe_cmpR op_lt (pe_op op_mulA (kfld (K := K) rfl (pv 0) rfl) (kfld (K := K) rfl (pv 2) rfl)) (pe_op op_mulA (kfld (K := K) rfl (pv 2) rfl) (kfld (K := K) rfl (pv 0) rfl)) (nomark _)))))), ?_⟩
    wtm_at "of_rd"
    refine q_isNum hv ?_
    wtm_at "of_rd"
    refine q_ratioOf hv hr' ?_
    intro H1 p1 e1 h1
    wtm_at "of_rd"
    dsimp only at k; rw [dec_lt] at k
    exact k H1 e1
abbrev s_comes_before : Stmt := (top 7)
theorem sc_comes_before : FnScope ["one", "other", "first", "second"] ["one", "other"] (defScope s_comes_before) := ⟨rfl, rfl, rfl, by decide +kernel, rfl, by decide +kernel, by decide +kernel⟩
theorem ok_comes_before {f : Addr} {fd : FuncData} (F : FunD K "comes_before" "comes_before" (defArgs s_comes_before) (defBody s_comes_before) (defScope s_comes_before) [] [] f fd) (TB : TBl mg) (TR : RT K mg C_Ratio) (k_Ratio : ClsP K C_Ratio) (c_Ratio_eq : Cm P w K mg base 2 C_Ratio "__eq__" f_Ratio_eq (spRB C_Ratio (fun q r => decide (q = r)))) (c_Ratio_lt : Cm P w K mg base 6 C_Ratio "__lt__" f_Ratio_lt (spRB C_Ratio (fun q r => decide (q < r)))) : FnOk P w K mg base (L2.CX P w) 7 f fd ["one", "other"] (spBefore C_Ratio) := by
  refine F.ok (CX := L2.CX P w) sc_comes_before (fun vs H Q E h => ?_) (fun cdv A outer s H vs Q E hr h => ?_)
  · obtain ⟨a, b, ka, kb, rfl, _⟩ := h; rfl
  · obtain ⟨a, b, ka, kb, rfl, ⟨xs, ha, hx⟩, ⟨ys, hb, hy⟩, hl, ba, bb, k⟩ := h
    refine ⟨_, (pss_cons (ps_for (passes_of rfl) rfl (kpi_zip (K := K) rfl (by rfl) TB.b_zip (pa_cons (pv 0) (pa_cons (pv 1) pa_nil))) (kpg_tup (K := K) 2 rfl rfl (pgs_cons (pg_name (i := 2) sc_comes_before.nd rfl (Or.inl rfl)) (pgs_cons (pg_name (i := 3) sc_comes_before.nd rfl (Or.inl rfl)) pgs_nil))) (pss_one (ps_if (pt_cmpR (kNe (K := K) rfl k_Ratio.o c_Ratio_eq hr (by decide) psE) (pv 2) (pv 3) (nomark _)) (pss_one (ps_ret (pe_cmpR (kC_lt (K := K) rfl c_Ratio_lt hr (by decide) psE) (pv 2) (pv 3) (nomark _)))) pss_nil))) (pss_one (ps_ret pe_bl))), ?_⟩
    wtm_at "of_rd"
    refine i_ZT ha hb ?_
    refine fZT (by rw [hx.1, hy.1, hl]) (fun i σ H' => ∃ u v, σ = [some (.ref a), some (.ref b), u, v] ∧ Ex H H' ∧ lexLt ka kb = lexLt (ka.drop i) (kb.drop i)) ⟨none, none, rfl, Ex.refl H, rfl⟩ (fun i σ H' ⟨_, _, _, e, _⟩ => ⟨e _ _ ha, e _ _ hb⟩) ?_ ?_
    · rintro i x y T σ H1 H2 h1 h2 ⟨u, v, rfl, e1, hk⟩ e2 _ hT
      obtain ⟨q, p, r, p', hq, hr2, rfl, rfl, R1, R2, hd⟩ := lex_at hx hy hl h1 h2
      have bq := ba q (List.mem_of_getElem? hq)
      have br := bb r (List.mem_of_getElem? hr2)
      have e3 := e1.trans e2
      have R1 := R1.ex e3
      have R2 := R2.ex e3
      wtm_at "of_rd"
      refine r_gTup hT rfl ?_
      wtm_at "of_rd"
      refine o_NO R1 (o_anyR TR R2) (q_RB R1 (num_r R2) bq br ?_)
      intro H3 e4
      have R1 := R1.ex e4
      have R2 := R2.ex e4
      refine r_blP ?_
      wtm_at "of_rd"
      refine ite2n (fun h => ?_) (fun h => ?_)
      · wtm_at "of_rd"
        refine o_O R1 (o_anyR TR R2) (q_RB R1 (num_r R2) bq br ?_)
        intro H4 e5
        have := k H4 ((e3.trans e4).trans e5)
        rw [hk, hd, if_neg h] at this
        exact this
      · wtm_at "of_rd"
        exact ⟨_, _, rfl, e3.trans e4, by rw [hk, hd, if_pos h]⟩
    · rintro σ H1 ⟨u, v, rfl, e1, hk⟩
      wtm_at "of_rd"
      have := k H1 e1
      rw [hk, List.drop_eq_nil_of_le (by rw [hx.1]; omega), List.drop_eq_nil_of_le (by rw [hx.1]; omega)] at this
      exact this
abbrev s_merged : Stmt := (top 8)
theorem sc_merged : FnScope ["left", "right", "keys", "found", "at", "index"] ["left", "right", "keys"] (defScope s_merged) := ⟨rfl, rfl, rfl, by decide +kernel, rfl, by decide +kernel, by decide +kernel⟩
theorem ok_merged {f : Addr} {fd : FuncData} (F : FunD K "merged" "merged" (defArgs s_merged) (defBody s_merged) (defScope s_merged) [] [] f fd) (TB : TBl mg) (TR : RT K mg C_Ratio) (c_comes_before : Cl P w K mg base 7 "comes_before" (spBefore C_Ratio)) : FnOk P w K mg base (L2.CX P w) 8 f fd ["left", "right", "keys"] (spMerged C_Ratio) := by
  refine F.ok (CX := L2.CX P w) sc_merged (fun vs H Q E h => ?_) (fun cdv A outer s H vs Q E hr h => ?_)
  · obtain ⟨l, r, k, L, R, ks, m, rfl, _⟩ := h; rfl
  · obtain ⟨l, r, k, L, R, ks, m, rfl, hl, hr2, hk, ok, hn, hL, hR, kont⟩ := h
    refine ⟨_, (pss_cons (ps_set (i := 3) sc_merged.nd rfl (Or.inl rfl) (pe_lst pa_nil)) (pss_cons (ps_set (i := 4) sc_merged.nd rfl (Or.inl rfl) pe_int) (pss_cons (ps_for (passes_of rfl) rfl (kpi_l (K := K) rfl (pv 1)) (pg_name (i := 5) sc_merged.nd rfl (Or.inl rfl)) (pss_cons (ps_while (passes_of rfl) (pw_and (pt_cmpR op_lt (pv 4) (pe_callB (kc_len (K := K) rfl) (by rfl) TB.b_len PySem.boot_len (pa_cons (pv 0) pa_nil)) (nomark _)) (pw_and1 (pt_not (pt_val (pe_cl c_comes_before hr (by decide) (by rfl) psE (pa_cons (pe_ix (kix_l (K := K) rfl) (pv 2) (pv 5) (fun _ _ => rfl)) (pa_cons (pe_ix (kix_l (K := K) rfl) (pv 2) (pe_ix (kix_l (K := K) rfl) (pv 0) (pv 4) (fun _ _ => rfl)) (fun _ _ => rfl)) pa_nil))))))).pt (pss_cons (ps_expr (kapp (K := K) rfl PySem.F.plainAttrs_list PySem.F.slot_list_append PySem.F.type_list_append mt_append (pv 3) (pa_cons (pe_ix (kix_l (K := K) rfl) (pv 0) (pv 4) (fun _ _ => rfl)) pa_nil))) (pss_one (ps_aug (i := 4) sc_merged.nd rfl (Or.inl rfl) pe_int ip_add)))) (pss_one (ps_expr (kapp (K := K) rfl PySem.F.plainAttrs_list PySem.F.slot_list_append PySem.F.type_list_append mt_append (pv 3) (pa_cons (pv 5) pa_nil)))))) (pss_one (ps_ret (pe_op op_cat (pv 3) (pe_slice (ksl_l (K := K) rfl) (pv 0) (po_some (pv 4)) po_none))))))), ?_⟩
    wtm_at "of_rd"
    refine r_laidL (by decide) ?_
    intro f H1 e1 n1 h1
    wtm_at "of_rd"
    refine i_L (e1 _ _ hr2) ?_
    obtain ⟨kx, hkx, klen, kat⟩ := _root_.id hk
    refine fL (fun i σ H' => ∃ (a : Nat) (v : Option V) (out : List Nat), σ = [some (.ref l), some (.ref r), some (.ref k), some (.ref f), some (nat a), v] ∧ Ex H H' ∧ H' f = some (.lst (out.map nat)) ∧ a ≤ L.length ∧ out.length = a + i ∧ out ++ List.merge (L.drop a) (R.drop i) (leK ks) = List.merge L R (leK ks))
      ⟨0, none, [], rfl, e1, h1, Nat.zero_le _, rfl, rfl⟩ (fun i σ H' _ ⟨a, v, out, _, e, _⟩ => e _ _ hr2) ?_ ?_
    · rintro i y σ H2 hy ⟨a, v, out, rfl, e2, h2, ha, ho, hm⟩
      obtain ⟨y, hy2, rfl⟩ := nat_at hy
      have hiR2 : i < R.length := (List.getElem?_eq_some_iff.mp hy2).1
      have hyk : y < ks.length := hR y (List.mem_of_getElem? hy2)
      wtm_at "of_rd"
      refine r_while (fun σ H' => ∃ (a : Nat) (out : List Nat), σ = [some (.ref l), some (.ref r), some (.ref k), some (.ref f), some (nat a), some (nat y)] ∧ Ex H H' ∧ H' f = some (.lst (out.map nat)) ∧ a ≤ L.length ∧ out.length = a + i ∧ out ++ List.merge (L.drop a) (R.drop i) (leK ks) = List.merge L R (leK ks))
        (fun σ _ => leftOf L.length 4 σ) ⟨a, out, rfl, e2, h2, ha, ho, hm⟩ ?_
      rintro σ H3 ⟨a, out, rfl, e3, h3, ha, ho, hm⟩
      wtm_at "of_rd"
      refine q_lenL (e3 _ _ hl) ?_
      wtm_at "of_rd"
      refine ite2 (fun hlt => ?_) (fun hlt => ?_)
      · have hlt : a < L.length := by rw [List.length_map] at hlt; omega
        have hxa : L[a]? = some L[a] := List.getElem?_eq_getElem hlt
        generalize L[a] = x at hxa
        have hxk : x < ks.length := hL x (List.mem_of_getElem? hxa)
        obtain ⟨py, ay, ky⟩ := key_at klen kat hyk
        obtain ⟨px, ax, kx'⟩ := key_at klen kat hxk
        wtm_at "of_rd"
        refine r_iL1 (e3 _ _ hkx) ay ?_
        wtm_at "of_rd"
        refine r_iL1 (v := nat x) (e3 _ _ hl) (atI_nat (by rw [List.getElem?_map, hxa]; rfl)) ?_
        wtm_at "of_rd"
        refine r_iL1 (e3 _ _ hkx) ax ?_
        wtm_at "of_rd"
        refine ⟨py, px, _, _, rfl, ky.ex e3, kx'.ex e3, by rw [(key_ok ok hyk).1, (key_ok ok hxk).1], (key_ok ok hyk).2, (key_ok ok hxk).2, ?_⟩
        intro H4 e4
        wtm_at "of_rd"
        have hst := merge_at (le := leK ks) hxa hy2
        show if leK ks x y = true then _ else _
        cases hle : leK ks x y with
        | true =>
          rw [hle, if_pos rfl] at hst
          refine iteT (tn ?_)
          wtm_at "of_rd"
          refine ⟨ty_l (e4 _ _ h3), ?_⟩
          wtm_at "of_rd"
          refine r_iL1 (v := nat x) ((e3.trans e4) _ _ hl) (atI_nat (by rw [List.getElem?_map, hxa]; rfl)) ?_
          wtm_at "of_rd"
          refine r_app (e4 _ _ h3) (by rw [List.length_map]; omega) ?_
          wtm_at "of_rd"
          refine r_aug rfl ?_
          wtm_at "of_rd"
          refine r_ipI ?_
          refine ⟨⟨a + 1, out ++ [x], rfl, (e3.trans e4).put n1, by rw [upd_same, List.map_append]; rfl, hlt, by rw [List.length_append]; show out.length + 1 = _; omega, ?_⟩, ?_⟩
          · rw [List.append_assoc, ← hm, hst]; rfl
          · show L.length - ((a : Int) + 1).toNat < L.length - ((a : Int)).toNat
            omega
        | false =>
          rw [hle, if_neg (by decide)] at hst
          wtm_at "of_rd"
          refine ⟨ty_l (e4 _ _ h3), ?_⟩
          wtm_at "of_rd"
          refine r_app (e4 _ _ h3) (by rw [List.length_map]; omega) ?_
          exact ⟨a, some (nat y), out ++ [y], rfl, (e3.trans e4).put n1, by rw [upd_same, List.map_append]; rfl, ha, by rw [List.length_append]; show out.length + 1 = _; omega, by rw [List.append_assoc, ← hm, hst]; rfl⟩
      · have hae : a = L.length := by rw [List.length_map] at hlt; omega
        have hiR := (List.getElem?_eq_some_iff.mp hy2)
        wtm_at "of_rd"
        refine ⟨ty_l h3, ?_⟩
        wtm_at "of_rd"
        refine r_app h3 (by rw [List.length_map]; omega) ?_
        refine ⟨a, some (nat y), out ++ [y], rfl, e3.put n1, by rw [upd_same, List.map_append]; rfl, ha, by rw [List.length_append]; show out.length + 1 = _; omega, ?_⟩
        rw [List.append_assoc, ← hm, List.drop_eq_nil_of_le (as := L) (by omega), List.nil_merge, List.nil_merge]
        obtain ⟨hi, hv⟩ := hiR
        rw [List.drop_eq_getElem_cons hi, hv]; rfl
    · rintro σ H2 ⟨a, v, out, rfl, e2, h2, ha, ho, hm⟩
      have ho2 := ho
      wtm_at "of_rd"
      refine r_slL (e2 _ _ hl) ?_
      intro p H3 e3 n3 h3
      rw [cutV_from (by rw [List.length_map]; exact ha)] at h3
      rw [List.length_map] at ho2
      refine r_cat (e3 _ _ h2) h3 (by rw [List.length_map, List.length_drop, List.length_map]; omega) ?_
      intro p' H4 e4 n4 h4
      refine kont H4 p' ((e2.trans e3).trans e4) ?_ ?_
      · cases z : H p' with
        | none => rfl
        | some o => rw [(e2.trans e3) _ _ z] at n4; cases n4
      · rw [h4, ← hm, List.drop_eq_nil_of_le (as := R) (by rw [List.length_map]; omega), List.merge_right, List.map_append, List.map_drop]
abbrev s_ranked : Stmt := (top 9)
theorem sc_ranked : FnScope ["keys", "rows", "joined", "index", "at"] ["keys"] (defScope s_ranked) := ⟨rfl, rfl, rfl, by decide +kernel, rfl, by decide +kernel, by decide +kernel⟩
theorem ok_ranked {f : Addr} {fd : FuncData} (F : FunD K "ranked" "ranked" (defArgs s_ranked) (defBody s_ranked) (defScope s_ranked) [] [] f fd) (TB : TBl mg) (TR : RT K mg C_Ratio) (c_merged : Cl P w K mg base 8 "merged" (spMerged C_Ratio)) : FnOk P w K mg base (L2.CX P w) 9 f fd ["keys"] (spRanked C_Ratio) := by
  refine F.ok (CX := L2.CX P w) sc_ranked (fun vs H Q E h => ?_) (fun cdv A outer s H vs Q E hr h => ?_)
  · obtain ⟨k, ks, m, rfl, _⟩ := h; rfl
  · obtain ⟨k, ks, m, rfl, hk, ok, hn, kont⟩ := h
    refine ⟨_, (pss_cons (ps_if (pt_cmpR op_eq (pe_callB (kc_len (K := K) rfl) (by rfl) TB.b_len PySem.boot_len (pa_cons (pv 0) pa_nil)) pe_int (nomark _)) (pss_one (ps_ret (pe_lst pa_nil))) pss_nil) (pss_cons (ps_set (i := 1) sc_ranked.nd rfl (Or.inr rfl) (pe_lc (own := [("index", 3)]) (tt := tYes) (by rfl) sc_ranked.nd (pi_range1 (by rfl) TB.b_range (pa_cons (pe_callB (kc_len (K := K) rfl) (by rfl) TB.b_len PySem.boot_len (pa_cons (pv 0) pa_nil)) pa_nil)) (blkOk_by (own := [("index", 3)]) (N := ["keys", "rows", "joined", "index", "at"]) (sc := defScope s_ranked) (by decide +kernel)) (fun _ _ _ _ _ => (pg_name (i := 3) sc_ranked.nd rfl (Or.inl rfl))) (fun _ _ _ _ _ => pts_nil) (fun _ _ _ _ _ => (pe_lst (pa_cons (pv 3) pa_nil))))) (pss_cons (ps_while (passes_of rfl) (pt_cmpR op_gt (pe_callB (kc_len (K := K) rfl) (by rfl) TB.b_len PySem.boot_len (pa_cons (pv 1) pa_nil)) pe_int (nomark _)) (pss_cons (ps_setLc (i := 2) (own := [("at", 4)]) (tt := tYes) (by rfl) sc_ranked.nd rfl rfl (sw_true rfl rfl rfl (by decide +kernel)) (pi_range3 (by rfl) TB.b_range (pa_cons pe_int (pa_cons (pe_op op_sub (pe_callB (kc_len (K := K) rfl) (by rfl) TB.b_len PySem.boot_len (pa_cons (pv 1) pa_nil)) pe_int) (pa_cons pe_int pa_nil)))) (blkOk_by (own := [("at", 4)]) (N := ["keys", "rows", "joined", "index", "at"]) (sc := defScope s_ranked) (by decide +kernel)) (fun _ _ _ _ _ => (pg_name (i := 4) sc_ranked.nd rfl (Or.inl rfl))) (fun _ _ _ _ _ => pts_nil) (fun _ _ _ _ _ => (pe_cl c_merged hr (by decide) (by rfl) passL (pa_cons (pe_ix (kix_l (K := K) rfl) (pv 1) (pv 4) (fun _ _ => rfl)) (pa_cons (pe_ix (kix_l (K := K) rfl) (pv 1) (pe_op op_add (pv 4) pe_int) (fun _ _ => rfl)) (pa_cons (pv 0) pa_nil)))))) (pss_one (ps_set (i := 1) sc_ranked.nd rfl (Or.inr rfl) (pe_op op_cat (pv 2) (pe_slice (ksl_l (K := K) rfl) (pv 1) (po_some (pe_op op_mulA (pe_callB (kc_len (K := K) rfl) (by rfl) TB.b_len PySem.boot_len (pa_cons (pv 2) pa_nil)) pe_int)) po_none)))))) (pss_one (ps_ret (pe_ix (kix_l (K := K) rfl) (pv 1) pe_int (fun _ _ => rfl))))))), ?_⟩
    obtain ⟨kx, hkx, klen, kat⟩ := _root_.id hk
    wtm_at "of_rd"
    refine q_lenL hkx ?_
    wtm_at "of_rd"
    refine ite2 (fun h0 => ?_) (fun h0 => ?_)
    · wtm_at "of_rd"
      refine r_laidL (by decide) ?_
      intro p H1 e1 n1 h1
      have z : ks = [] := List.length_eq_zero_iff.mp (by omega)
      subst z
      exact kont H1 p [] e1 h1 .nil .nil
    wtm_at "of_rd"
    refine q_lenL hkx ?_
    wtm_at "of_rd"
    refine i_R (n := ks.length) (by rw [klen]) (by omega) ?_
    refine lR (fun L i acc H' => Ex H H' ∧ Acc (fun j p H => p ≠ L ∧ H p = some (.lst [nat j])) acc i H') (fun L hL H' e h => ⟨e, .nil⟩) ?_ ?_
    · intro L i acc H' hL hi ⟨e, ac⟩ hacc
      wtm_at "of_rd"
      refine ⟨rfl, ?_⟩
      wtm_at "of_rd"
      refine r_laidL (by show 1 ≤ 1000; decide) ?_
      intro p H2 e2 n2 h2
      have npL : p ≠ L := fun z => by subst z; rw [hacc] at n2; cases n2
      refine lput (e2 _ _ hacc) (by rw [ac.len]; omega) ⟨(e.trans e2).put hL, ac.snoc (fun j q ⟨z1, z2⟩ => ⟨z1, by rw [upd_ne z1]; exact e2 _ _ z2⟩) ⟨npL, ?_⟩⟩
      rw [upd_ne npL, h2, Int.zero_add]
    intro L acc H1 hL h1 ⟨e1, ac⟩
    wtm_at "of_rd"
    refine r_while (fun σ H' => ∃ (r : Addr) (rs : List (List Nat)) (v2 v3 v4 : Option V), σ = [some (.ref k), some (.ref r), v2, v3, v4] ∧ Ex H H' ∧ RowsAt H' r rs ∧ (rs ≠ [] ∧ rs.length ≤ ks.length) ∧ rs.flatten.Perm (List.range ks.length) ∧ ∀ s ∈ rs, s.Pairwise (fun a b => leK ks a b = true)) rowsLeft ?_ ?_
    · refine ⟨L, (List.range ks.length).map fun i => [i], _, _, _, rfl, e1, ⟨acc, h1, by rw [List.length_map, List.length_range]; exact ac.len, fun j hj => ?_⟩, ?_, ?_, ?_⟩
      · rw [List.length_map, List.length_range] at hj
        obtain ⟨p, z1, z2, z3⟩ := ac.at_ j hj
        exact ⟨p, z1, [j], by rw [List.getElem?_map, List.getElem?_range hj]; rfl, z3⟩
      · refine ⟨?_, by rw [List.length_map, List.length_range]; exact Nat.le_refl _⟩
        intro z
        have := congrArg List.length z
        rw [List.length_map, List.length_range] at this
        have h00 : ks.length = 0 := this
        omega
      · rw [show ((List.range ks.length).map fun i => [i]).flatten = List.range ks.length from by
          rw [← List.flatMap_def]; simp]
      · intro s hs
        obtain ⟨i, _, rfl⟩ := List.mem_map.mp hs
        exact List.pairwise_singleton _ _
    rintro σ H2 ⟨r, rs, v2, v3, v4, rfl, e2, hr2, ⟨hne, hmle0⟩, hperm, hso⟩
    have hr2' := hr2
    obtain ⟨xs, hrx, hxs⟩ := hr2'
    wtm_at "of_rd"
    refine q_lenL hrx ?_
    wtm_at "of_rd"
    have hf : rs.flatten.length = ks.length := by rw [hperm.length_eq, List.length_range]
    refine ite2 (fun hlt => ?_) (fun hlt => ?_)
    · have hm2 : 2 ≤ rs.length := by rw [hxs.len] at hlt; omega
      refine tn ?_
      wtm_at "of_rd"
      refine q_lenL hrx ?_
      wtm_at "of_rd"
      have hmle : rs.length ≤ 1000 := by omega
      rw [hxs.len]
      refine r_iRC (rg2 hm2 (by omega)) ?_
      refine lRC (fun L i acc H' => Ex H2 H' ∧ Acc (fun j p H => p ≠ L ∧ ∃ s, (joinRows (leK ks) rs)[j]? = some s ∧ H p = some (.lst (s.map nat))) acc i H') (fun L hL H' e h => ⟨e, .nil⟩) ?_ ?_
      · intro L i acc H3 hL hi ⟨e3, ac⟩ hacc
        wtm_at "of_rd"
        refine ⟨rfl, ?_⟩
        have ea : (0 : Int) + (i : Int) * 2 = ((2 * i : Nat) : Int) := by omega
        rw [ea]
        obtain ⟨sa, sb, g1, g2, g3⟩ := joinRows_at (leK ks) rs i (by omega)
        obtain ⟨pa, x1, sa', y1, w1⟩ := hxs.at_ (2 * i) (by omega)
        obtain ⟨pb, x2, sb', y2, w2⟩ := hxs.at_ (2 * i + 1) (by omega)
        rw [g1] at y1; rw [g2] at y2
        cases y1; cases y2
        wtm_at "of_rd"
        refine r_iL1 (e3 _ _ hrx) (atI_nat x1) ?_
        wtm_at "of_rd"
        refine r_iL1 (e3 _ _ hrx) (atI_nat (j := 2 * i + 1) x2) ?_
        wtm_at "of_rd"
        refine ⟨pa, pb, k, sa, sb, ks, m, rfl, e3 _ _ w1, e3 _ _ w2, hk.ex (e2.trans e3), ok, by have := flat_len g1 g2 (by omega); omega, flat_mem hperm (List.mem_of_getElem? g1), flat_mem hperm (List.mem_of_getElem? g2), ?_⟩
        intro H4 p e4 n4 h4
        have npL : p ≠ L := fun z => by subst z; rw [hacc] at n4; cases n4
        exact lput (e4 _ _ hacc) (by rw [ac.len]; omega) ⟨(e3.trans e4).put hL, ac.snoc (fun j q ⟨z1, s, z2, z3⟩ => ⟨z1, s, z2, by rw [upd_ne z1]; exact e4 _ _ z3⟩) ⟨npL, _, g3, by rw [upd_ne npL]; exact h4⟩⟩
      intro L2 acc2 H3 hL2 h3 ⟨e3, ac2⟩
      wtm_at "of_rd"
      refine q_lenL h3 ?_
      wtm_at "of_rd"
      refine r_I (cmA_r (by decide)) ?_
      wtm_at "of_rd"
      refine r_slL (e3 _ _ hrx) ?_
      intro p H4 e4 n4 h4
      rw [ac2.len, show ((rs.length / 2 : Nat) : Int) * 2 = ((rs.length / 2 * 2 : Nat) : Int) from by omega, cutV_from (by rw [hxs.len]; omega)] at h4
      refine r_cat (e4 _ _ h3) h4 (by rw [ac2.len, List.length_drop, hxs.len]; omega) ?_
      intro p' H5 e5 n5 h5
      have rn : RowsAt H5 p' (joinRows (leK ks) rs) := rows_next (H := H3) (L := L2) ⟨hxs.len, fun j hj => by
        obtain ⟨q, z1, s, z2, z3⟩ := hxs.at_ j hj
        exact ⟨q, z1, s, z2, e3 _ _ z3⟩⟩ ac2 (e4.trans e5) h5
      wtm_at "of_rd"
      refine ⟨⟨p', joinRows (leK ks) rs, _, _, _, rfl, ((e2.trans e3).trans e4).trans e5, rn, ?_, (joinRows_perm _ rs).trans hperm, joinRows_sorted (leK_trans ks) (leK_total ks) rs hso⟩, ?_⟩
      · refine ⟨?_, by rw [joinRows_length]; omega⟩
        intro z
        have := congrArg List.length z
        rw [joinRows_length] at this
        have t : (rs.length + 1) / 2 = 0 := this
        omega
      · show rowsLeft [some (V.ref k), some (V.ref p'), some (V.ref L2), v3, v4] H5 < rowsLeft [some (V.ref k), some (V.ref r), v2, v3, v4] H2
        rw [rowsLeft_at rn, rowsLeft_at hr2, joinRows_length]; omega
    · have hm1 : rs.length = 1 := by
        have := List.length_pos_iff.mpr hne
        rw [hxs.len] at hlt; omega
      obtain ⟨s, rfl⟩ : ∃ s, rs = [s] := by
        match rs, hm1 with
        | [s], _ => exact ⟨s, rfl⟩
      obtain ⟨p, z1, s', z2, z3⟩ := hxs.at_ 0 (by show 0 < 1; decide)
      cases z2
      wtm_at "of_rd"
      refine r_iL1 hrx (atI_nat (j := 0) z1) ?_
      rw [List.flatten_cons, List.flatten_nil, List.append_nil] at hperm
      exact kont H2 p s e2 z3 hperm (hso s (by simp))
abbrev s_ascending : Stmt := (top 20)
theorem sc_ascending : FnScope ["numbers", "ratios", "number", "index", "ratio"] ["numbers"] (defScope s_ascending) := ⟨rfl, rfl, rfl, by decide +kernel, rfl, by decide +kernel, by decide +kernel⟩
theorem ok_ascending {f : Addr} {fd : FuncData} (F : FunD K "ascending" "ascending" (defArgs s_ascending) (defBody s_ascending) (defScope s_ascending) [] [] f fd) (TR : RT K mg C_Ratio) (c_ratio_of : Cl P w K mg base 5 "ratio_of" (spRatioOf K C_Ratio C_BadNumber)) (c_ranked : Cl P w K mg base 9 "ranked" (spRanked C_Ratio)) : FnOk P w K mg base (L2.CX P w) 10 f fd ["numbers"] (spAscending C_Ratio) := by
  refine F.ok (CX := L2.CX P w) sc_ascending (fun vs H Q E h => ?_) (fun cdv A outer s H vs Q E hr h => ?_)
  · obtain ⟨k, xs, qs, rfl, _⟩ := h; rfl
  · obtain ⟨k, xs, qs, rfl, hx, hlen, hat, hb, hn, kont⟩ := h
    refine ⟨_, (pss_cons (ps_set (i := 1) sc_ascending.nd rfl (Or.inr rfl) (pe_lc (own := [("number", 2)]) (tt := tYes) (by rfl) sc_ascending.nd (kpi_or (kpi_l (K := K) rfl (pv 0)) (kpi_t (K := K) rfl (pv 0))) (blkOk_by (own := [("number", 2)]) (N := ["numbers", "ratios", "number", "index", "ratio"]) (sc := defScope s_ascending) (by decide +kernel)) (fun _ _ _ _ _ => (pg_name (i := 2) sc_ascending.nd rfl (Or.inl rfl))) (fun _ _ _ _ _ => pts_nil) (fun _ _ _ _ _ => (pe_cl c_ratio_of hr (by decide) (by rfl) passL (pa_cons (pv 2) pa_nil))))) (pss_one (ps_ret (pe_lc (own := [("index", 3)]) (tt := tYes) (by rfl) sc_ascending.nd (kpi_l (K := K) rfl (pe_cl c_ranked hr (by decide) (by rfl) psE (pa_cons (pe_lc (own := [("ratio", 4)]) (tt := tYes) (by rfl) sc_ascending.nd (kpi_l (K := K) rfl (pv 1)) (blkOk_by (own := [("ratio", 4)]) (N := ["numbers", "ratios", "number", "index", "ratio"]) (sc := defScope s_ascending) (by decide +kernel)) (fun _ _ _ _ _ => (pg_name (i := 4) sc_ascending.nd rfl (Or.inl rfl))) (fun _ _ _ _ _ => pts_nil) (fun _ _ _ _ _ => (pe_tup (pa_cons (pv 4) pa_nil)))) pa_nil))) (blkOk_by (own := [("index", 3)]) (N := ["numbers", "ratios", "number", "index", "ratio"]) (sc := defScope s_ascending) (by decide +kernel)) (fun _ _ _ _ _ => (pg_name (i := 3) sc_ascending.nd rfl (Or.inl rfl))) (fun _ _ _ _ _ => pts_nil) (fun _ _ _ _ _ => (pe_ix (kix_l (K := K) rfl) (pv 1) (pv 3) (fun _ _ => rfl))))))), ?_⟩
    wtm_at "of_rd"
    refine i_LT (by with_unfolding_all rfl) hx ?_
    intro J hJ
    refine lLT hJ (fun L i acc H' => Ex H H' ∧ Acc (fun j p H => ∃ q, qs[j]? = some q ∧ IsR C_Ratio H p q) acc i H') (fun L hL H' e h => ⟨e, .nil⟩) (fun L i acc H' hL hi ⟨e, _⟩ => e) ?_ ?_
    · intro L i x acc H' hL hxi ⟨e, ac⟩ hacc
      have hi : i < qs.length := by rw [← hlen]; exact (List.getElem?_eq_some_iff.mp hxi).1
      have hq : qs[i]? = some qs[i] := List.getElem?_eq_getElem hi
      obtain ⟨v, hv, nv⟩ := hat i _ hq
      rw [hxi] at hv; cases hv
      wtm_at "of_rd"
      refine ⟨rfl, ?_⟩
      wtm_at "of_rd"
      refine q_ratioOf (nv.ex e) (hb _ (List.getElem_mem hi)) ?_
      intro H2 p e2 h2
      exact lput (e2 _ _ hacc) (by rw [ac.len]; omega) ⟨(e.trans e2).put hL, ac.snoc (fun j q ⟨r, z1, z2⟩ => ⟨r, z1, (z2.ex e2).put (e2 _ _ hacc)⟩) ⟨_, hq, h2.put (e2 _ _ hacc)⟩⟩
    intro L acc H1 hL h1 ⟨e1, ac⟩
    rw [hlen] at ac
    wtm_at "of_rd"
    refine i_L h1 ?_
    refine lL (fun L i acc H' => Ex H1 H' ∧ Acc (fun j p H => ∃ q, qs[j]? = some q ∧ KeyT C_Ratio H p [q]) acc i H') (fun L hL H' e h => ⟨e, .nil⟩) (fun L i acc H' hL hi ⟨e, _⟩ => e _ _ h1) ?_ ?_
    · intro L i x acc2 H' hL hxi ⟨e, ac2⟩ hacc
      have hi : i < qs.length := by rw [← ac.len]; exact (List.getElem?_eq_some_iff.mp hxi).1
      obtain ⟨p, z1, q, z2, z3⟩ := ac.at_ i hi
      rw [hxi] at z1; cases z1
      wtm_at "of_rd"
      refine ⟨rfl, ?_⟩
      wtm_at "of_rd"
      refine r_laidT (by show 1 ≤ 1000; decide) ?_
      intro t H2 e2 n2 h2
      refine lput (e2 _ _ hacc) (by rw [ac2.len]; omega) ⟨(e.trans e2).put hL, ac2.snoc (fun j q ⟨r, z1, z2⟩ => ⟨r, z1, (z2.ex e2).put (e2 _ _ hacc)⟩) ⟨q, z2, (one_key h2 (z3.ex (e.trans e2))).put (e2 _ _ hacc)⟩⟩
    intro L2 acc2 H2 hL2 h2 ⟨e2, ac2⟩
    rw [ac.len] at ac2
    wtm_at "of_rd"
    refine ⟨L2, qs.map fun q => [q], 1, rfl, ⟨acc2, h2, by rw [List.length_map]; exact ac2.len, fun i kk hk => ?_⟩, fun kk hk => ?_, by rw [List.length_map]; exact hn, ?_⟩
    · rw [List.getElem?_map] at hk
      have hi : i < qs.length := by
        rcases Nat.lt_or_ge i qs.length with z | z
        · exact z
        · rw [List.getElem?_eq_none z] at hk; cases hk
      obtain ⟨p, z1, q, z2, z3⟩ := ac2.at_ i hi
      rw [z2] at hk; cases hk
      exact ⟨p, z1, z3⟩
    · obtain ⟨q, hq, rfl⟩ := List.mem_map.mp hk
      exact ⟨rfl, fun r hr => by rw [List.mem_singleton.mp hr]; exact hb q hq⟩
    intro H3 p3 idx e3 h3 hperm hsort
    rw [List.length_map] at hperm
    have hlt : ∀ i ∈ idx, i < qs.length := fun i hi => List.mem_range.mp (hperm.mem_iff.mp hi)
    have hil : idx.length = qs.length := by rw [hperm.length_eq, List.length_range]
    refine i_L h3 ?_
    refine lL (fun L i acc H' => Ex H3 H' ∧ Acc (fun j p H => ∃ q, (idx.map fun i => qs.getD i 0)[j]? = some q ∧ IsR C_Ratio H p q) acc i H') (fun L hL H' e h => ⟨e, .nil⟩) (fun L i acc H' hL hi ⟨e, _⟩ => e _ _ h3) ?_ ?_
    · intro L4 i x acc4 H' hL4 hxi ⟨e, ac4⟩ hacc
      obtain ⟨j, hj, rfl⟩ := nat_at hxi
      have hjl := hlt j (List.mem_of_getElem? hj)
      have hil2 : i < idx.length := (List.getElem?_eq_some_iff.mp hj).1
      obtain ⟨p, z1, q, z2, z3⟩ := ac.at_ j hjl
      have e4 := (e2.trans e3).trans e
      wtm_at "of_rd"
      refine ⟨rfl, ?_⟩
      wtm_at "of_rd"
      refine r_iL1 (e4 _ _ h1) (atI_nat z1) ?_
      refine lput hacc (by rw [ac4.len]; omega) ⟨e.put hL4, ac4.snoc (fun j q ⟨r, z1, z2⟩ => ⟨r, z1, z2.put hacc⟩) ⟨q, ?_, (z3.ex e4).put hacc⟩⟩
      rw [List.getElem?_map, hj]
      show some (qs.getD j 0) = _
      rw [List.getD_eq_getElem?_getD, z2]; rfl
    intro L5 acc5 H5 hL5 h5 ⟨e5, ac5⟩
    rw [List.length_map] at ac5
    have e6 := ((e1.trans e2).trans e3).trans e5
    refine kont H5 L5 acc5 (idx.map fun i => qs.getD i 0) e6 ?_ h5 (RsL.of_acc (by rw [List.length_map]; exact ac5)) (ord_perm hperm) (ord_sorted hlt hsort)
    cases z : H L5 with
    | none => rfl
    | some o => rw [((e1.trans e2).trans e3) _ _ z] at hL5; cases hL5
end
end
section
open PySem PySem.Spec PyProof.Rows L2 He
section
variable {P : Program} {w : World} {K : PySem.W.Frag} {mg : Str → Option Value} {base : Heap} {C_Ratio C_BadNumber C_NoSuch f_Ratio_eq f_Ratio_lt : Addr} {T_ : List (Addr × Str)}
abbrev s_least : Stmt := (top 21)
theorem sc_least : FnScope ["numbers"] ["numbers"] (defScope s_least) := ⟨rfl, rfl, rfl, by decide +kernel, rfl, by decide +kernel, by decide +kernel⟩
theorem ok_least {f : Addr} {fd : FuncData} (F : FunD K "least" "least" (defArgs s_least) (defBody s_least) (defScope s_least) [] [] f fd) (TB : TBl mg) (TR : RT K mg C_Ratio) (c_NoSuch : Cox P w K mg base 1 "NoSuch" C_NoSuch "number") (c_ascending : Cl P w K mg base 10 "ascending" (spAscending C_Ratio)) : FnOk P w K mg base (L2.CX P w) 11 f fd ["numbers"] (spLeast C_Ratio C_NoSuch 0) := by
  refine F.ok (CX := L2.CX P w) sc_least (fun vs H Q E h => ?_) (fun cdv A outer s H vs Q E hr h => ?_)
  · obtain ⟨k, xs, rfl, _⟩ := h; rfl
  · obtain ⟨k, xs, rfl, hx, h⟩ := h
    refine ⟨_, (pss_cons (ps_if (pt_cmpR op_eq (pe_callB (kc_len (K := K) rfl) (by rfl) TB.b_len PySem.boot_len (pa_cons (pv 0) pa_nil)) pe_int (nomark _)) (pss_one (ps_rz c_NoSuch hr (by decide) tkE rfl (pa_cons pe_int pa_nil))) pss_nil) (pss_one (ps_ret (pe_ix (kix_l (K := K) rfl) (pe_cl c_ascending hr (by decide) (by rfl) psE (pa_cons (pv 0) pa_nil)) pe_int (fun _ _ => rfl))))), ?_⟩
    rcases h with ⟨rfl, hz⟩ | ⟨qs, h1, h2, h3, h4, hn, kont⟩
    · wtm_at "of_rd"
      refine q_lenLT hx ?_
      wtm_at "of_rd"
      refine iteD rfl ?_
      wtm_at "of_rd"
      exact hz.at
    · wtm_at "of_rd"
      refine q_lenLT hx ?_
      wtm_at "of_rd"
      refine iteDn (by omega) ?_
      wtm_at "of_rd"
      refine ⟨k, xs, qs, rfl, hx, h1, h2, h3, h4, ?_⟩
      intro H1 p ys rs e1 n1 g1 g2 g3 g4
      have hl : rs.length = qs.length := g3.length_eq
      have h0 : rs[0]? = some rs[0] := List.getElem?_eq_getElem (by omega)
      obtain ⟨q, z1, z2⟩ := g2.2 0 _ h0
      wtm_at "of_rd"
      refine r_iL1 g1 (atI_nat (j := 0) z1) ?_
      exact kont H1 q rs _ e1 g3 g4 (.inl ⟨rfl, h0⟩) z2
abbrev s_greatest : Stmt := (top 22)
theorem sc_greatest : FnScope ["numbers"] ["numbers"] (defScope s_greatest) := ⟨rfl, rfl, rfl, by decide +kernel, rfl, by decide +kernel, by decide +kernel⟩
theorem ok_greatest {f : Addr} {fd : FuncData} (F : FunD K "greatest" "greatest" (defArgs s_greatest) (defBody s_greatest) (defScope s_greatest) [] [] f fd) (TB : TBl mg) (TR : RT K mg C_Ratio) (c_NoSuch : Cox P w K mg base 1 "NoSuch" C_NoSuch "number") (c_ascending : Cl P w K mg base 10 "ascending" (spAscending C_Ratio)) : FnOk P w K mg base (L2.CX P w) 11 f fd ["numbers"] (spLeast C_Ratio C_NoSuch 1) := by
  refine F.ok (CX := L2.CX P w) sc_greatest (fun vs H Q E h => ?_) (fun cdv A outer s H vs Q E hr h => ?_)
  · obtain ⟨k, xs, rfl, _⟩ := h; rfl
  · obtain ⟨k, xs, rfl, hx, h⟩ := h
    refine ⟨_, (pss_cons (ps_if (pt_cmpR op_eq (pe_callB (kc_len (K := K) rfl) (by rfl) TB.b_len PySem.boot_len (pa_cons (pv 0) pa_nil)) pe_int (nomark _)) (pss_one (ps_rz c_NoSuch hr (by decide) tkE rfl (pa_cons pe_int pa_nil))) pss_nil) (pss_one (ps_ret (pe_ix (kix_l (K := K) rfl) (pe_cl c_ascending hr (by decide) (by rfl) psE (pa_cons (pv 0) pa_nil)) (pe_un un_neg pe_int) (fun _ _ => rfl))))), ?_⟩
    rcases h with ⟨rfl, hz⟩ | ⟨qs, h1, h2, h3, h4, hn, kont⟩
    · wtm_at "of_rd"
      refine q_lenLT hx ?_
      wtm_at "of_rd"
      refine iteD rfl ?_
      wtm_at "of_rd"
      exact hz.at
    · wtm_at "of_rd"
      refine q_lenLT hx ?_
      wtm_at "of_rd"
      refine iteDn (by omega) ?_
      wtm_at "of_rd"
      refine ⟨k, xs, qs, rfl, hx, h1, h2, h3, h4, ?_⟩
      intro H1 p ys rs e1 n1 g1 g2 g3 g4
      have hl : rs.length = qs.length := g3.length_eq
      have h0 : rs[rs.length - 1]? = some rs[rs.length - 1] := List.getElem?_eq_getElem (by omega)
      obtain ⟨q, z1, z2⟩ := g2.2 _ _ h0
      wtm_at "of_rd"
      refine r_iL1 g1 (atI_last (by rw [g2.1]; omega) (by rw [g2.1]; exact z1)) ?_
      exact kont H1 q rs _ e1 g3 g4 (.inr ⟨rfl, h0⟩) z2
abbrev s_gcd_of : Stmt := (top 17)
theorem sc_gcd_of : FnScope ["first", "second"] ["first", "second"] (defScope s_gcd_of) := ⟨rfl, rfl, rfl, by decide +kernel, rfl, by decide +kernel, by decide +kernel⟩
theorem ok_gcd_of {f : Addr} {fd : FuncData} (F : FunD K "gcd_of" "gcd_of" (defArgs s_gcd_of) (defBody s_gcd_of) (defScope s_gcd_of) [] [] f fd) (TB : TBl mg) (TR : RT K mg C_Ratio) : FnOk P w K mg base (L2.CX P w) 1 f fd ["first", "second"] (spII (fun a b => ((Int.gcd a b : Nat) : Int))) := by
  refine F.ok (CX := L2.CX P w) sc_gcd_of (fun vs H Q E h => ?_) (fun cdv A outer s H vs Q E hr h => ?_)
  · obtain ⟨a, b, rfl, _⟩ := h; rfl
  · obtain ⟨a, b, rfl, ha, hb, k⟩ := h
    refine ⟨_, (pss_one (ps_ret (pe_callBfun cr_gcd (by rfl) TB.g_gcd (pa_cons (pv 0) (pa_cons (pv 1) pa_nil))))), ?_⟩
    wtm_at "of_rd"
    exact k
abbrev s_lcm_of : Stmt := (top 18)
theorem sc_lcm_of : FnScope ["first", "second"] ["first", "second"] (defScope s_lcm_of) := ⟨rfl, rfl, rfl, by decide +kernel, rfl, by decide +kernel, by decide +kernel⟩
theorem ok_lcm_of {f : Addr} {fd : FuncData} (F : FunD K "lcm_of" "lcm_of" (defArgs s_lcm_of) (defBody s_lcm_of) (defScope s_lcm_of) [] [] f fd) (TB : TBl mg) (TR : RT K mg C_Ratio) : FnOk P w K mg base (L2.CX P w) 1 f fd ["first", "second"] (spII (fun a b => ((Int.lcm a b : Nat) : Int))) := by
  refine F.ok (CX := L2.CX P w) sc_lcm_of (fun vs H Q E h => ?_) (fun cdv A outer s H vs Q E hr h => ?_)
  · obtain ⟨a, b, rfl, _⟩ := h; rfl
  · obtain ⟨a, b, rfl, ha, hb, k⟩ := h
    refine ⟨_, (pss_one (ps_ret (pe_callBfun cr_lcm (by rfl) TB.g_lcm (pa_cons (pv 0) (pa_cons (pv 1) pa_nil))))), ?_⟩
    wtm_at "of_rd"
    exact ⟨a, b, rfl, ha, hb, k⟩
abbrev s_bezout : Stmt := (top 19)
theorem sc_bezout : FnScope ["first", "second", "t", "upper", "lower", "s", "following", "many"] ["first", "second"] (defScope s_bezout) := ⟨rfl, rfl, rfl, by decide +kernel, rfl, by decide +kernel, by decide +kernel⟩
theorem ok_bezout {f : Addr} {fd : FuncData} (F : FunD K "bezout" "bezout" (defArgs s_bezout) (defBody s_bezout) (defScope s_bezout) [] [] f fd) (TR : RT K mg C_Ratio) : FnOk P w K mg base (L2.CX P w) 1 f fd ["first", "second"] (spBez) := by
  refine F.ok (CX := L2.CX P w) sc_bezout (fun vs H Q E h => ?_) (fun cdv A outer s H vs Q E hr h => ?_)
  · obtain ⟨a, b, rfl, _⟩ := h; rfl
  · obtain ⟨a, b, rfl, ha, hb, k⟩ := h
    refine ⟨_, (pss_cons (ps_par (i := 3) (j := 4) rfl sc_bezout.nd rfl rfl (by decide) rfl rfl (pa_cons (pv 0) (pa_cons (pv 1) pa_nil)) (by rfl)) (pss_cons (ps_asg (pe_tup (pa_cons pe_int (pa_cons pe_int pa_nil))) (kpg_tup (K := K) 2 rfl rfl (pgs_cons (pg_name (i := 5) sc_bezout.nd rfl (Or.inl rfl)) (pgs_cons (pg_name (i := 6) sc_bezout.nd rfl (Or.inl rfl)) pgs_nil)))) (pss_cons (ps_while (passes_of rfl) (pt_cmpR op_ne (pv 4) pe_int (nomark _)) (pss_cons (ps_set (i := 7) sc_bezout.nd rfl (Or.inl rfl) (pe_op op_fdivZ (pv 3) (pv 4))) (pss_cons (ps_par (i := 3) (j := 4) rfl sc_bezout.nd rfl rfl (by decide) rfl rfl (pa_cons (pv 4) (pa_cons (pe_op op_sub (pv 3) (pe_op op_mulA (pv 7) (pv 4))) pa_nil)) (by rfl)) (pss_one (ps_par (i := 5) (j := 6) rfl sc_bezout.nd rfl rfl (by decide) rfl rfl (pa_cons (pv 6) (pa_cons (pe_op op_sub (pv 5) (pe_op op_mulA (pv 7) (pv 6))) pa_nil)) (by rfl)))))) (pss_cons (ps_if (pt_cmpR op_lt (pv 3) pe_int (nomark _)) (pss_one (ps_par (i := 3) (j := 5) rfl sc_bezout.nd rfl rfl (by decide) rfl rfl (pa_cons (pe_un un_neg (pv 3)) (pa_cons (pe_un un_neg (pv 5)) pa_nil)) (by rfl))) pss_nil) (pss_cons (ps_set (i := 2) sc_bezout.nd rfl (Or.inl rfl) (pe_ifExp (pt_cmpR op_ne (pv 1) pe_int (nomark _)) (pe_op op_fdivZ (pe_op op_sub (pv 3) (pe_op op_mulA (pv 5) (pv 0))) (pv 1)) pe_int)) (pss_one (ps_ret (pe_tup (pa_cons (pv 3) (pa_cons (pv 5) (pa_cons (pv 2) pa_nil))))))))))), ?_⟩
    wtm_at "of_rd"
    refine r_laidT (by decide) ?_
    intro p0 H0 e0 n0 h0
    refine r_gTup h0 rfl ?_
    wtm_at "of_rd"
    refine r_while (fun σ H' => ∃ (u l s f : Int) (v2 v7 : Option V), σ = [some (.int a), some (.int b), v2, some (.int u), some (.int l), some (.int s), some (.int f), v7] ∧ Ex H H' ∧ Bez a b u l s f) (fun σ _ => absAt 4 σ) ⟨a, b, 1, 0, none, none, rfl, e0, .start a b⟩ ?_
    rintro σ H1 ⟨u, l, s, f, v2, v7, rfl, e1, B⟩
    wtm_at "of_rd"
    refine ite2n (fun h => ?_) (fun h => ?_)
    · obtain ⟨d1, d2, d3⟩ := B.small h rfl ha hb
      obtain ⟨B', lt⟩ := B.step h rfl
      refine tn ?_
      wtm_at "of_rd"
      refine r_I d1 ?_
      wtm_at "of_rd"
      refine r_I d2 ?_
      wtm_at "of_rd"
      refine r_I d3 ?_
      wtm_at "of_rd"
      exact ⟨⟨_, _, _, _, _, _, rfl, e1, B'⟩, lt⟩
    · subst h
      obtain ⟨g1, x, g2⟩ := B.fin
      have bu := B.bu
      have bs := B.bs
      have a4 : a.natAbs < 2 ^ 4000 := ha
      have b4 : b.natAbs < 2 ^ 4000 := hb
      have p1 := Nat.two_pow_pos 4000
      have e4 : (2 : Nat) ^ 4002 = 4 * 2 ^ 4000 := by rw [show (4002 : Nat) = 4000 + 2 from rfl, Nat.pow_add, Nat.mul_comm]
      wtm_at "of_rd"
      refine ite2 (fun hu => ?_) (fun hu => ?_)
      all_goals
        wtm_at "of_rd"
        refine ite2n (fun hbz => ?_) (fun hbz => ?_)
        all_goals wtm_at "of_rd"
      · refine r_I (cmA_w (n := 4002) (m := 4000) (by rw [Int.natAbs_neg]; omega) a4 (by decide)) ?_
        wtm_at "of_rd"
        refine r_I ⟨hbz, pow_mono b4 (by decide)⟩ ?_
        wtm_at "of_rd"
        refine r_laidT (by show 3 ≤ 1000; decide) ?_
        intro p H2 e2 n2 h2
        have ge : -u = ((Int.gcd a b : Nat) : Int) := by omega
        have te : (-u - -s * a).fdiv b = -x := by
          rw [show -u - -s * a = -x * b from by rw [g2]; grind, Int.mul_fdiv_cancel _ hbz]
        have hq : -s * a + -x * b = ((Int.gcd a b : Nat) : Int) := by rw [← ge, g2]; grind
        exact k H2 p (-s) (-x) (e1.trans e2) (none_of e1 n2) (by rw [h2, te, ge]) hq (by rw [Int.natAbs_neg]; omega) (bez_t hq hbz (by rw [Int.natAbs_neg]; omega) ha hb)
      · refine r_laidT (by show 3 ≤ 1000; decide) ?_
        intro p H2 e2 n2 h2
        have ge : -u = ((Int.gcd a b : Nat) : Int) := by omega
        exact k H2 p (-s) 0 (e1.trans e2) (none_of e1 n2) (by rw [h2, ge]) (by rw [← ge, g2, hbz]; grind) (by rw [Int.natAbs_neg]; omega) (Nat.two_pow_pos _)
      · refine r_I (cmA_w (n := 4002) (m := 4000) (by omega) a4 (by decide)) ?_
        wtm_at "of_rd"
        refine r_I ⟨hbz, pow_mono b4 (by decide)⟩ ?_
        wtm_at "of_rd"
        refine r_laidT (by show 3 ≤ 1000; decide) ?_
        intro p H2 e2 n2 h2
        have ge : u = ((Int.gcd a b : Nat) : Int) := by omega
        have te : (u - s * a).fdiv b = x := by
          rw [show u - s * a = x * b from by rw [g2]; grind, Int.mul_fdiv_cancel _ hbz]
        have hq : s * a + x * b = ((Int.gcd a b : Nat) : Int) := by rw [← ge, g2]
        exact k H2 p s x (e1.trans e2) (none_of e1 n2) (by rw [h2, te, ge]) hq (by omega) (bez_t hq hbz (by omega) ha hb)
      · refine r_laidT (by show 3 ≤ 1000; decide) ?_
        intro p H2 e2 n2 h2
        have ge : u = ((Int.gcd a b : Nat) : Int) := by omega
        exact k H2 p s 0 (e1.trans e2) (none_of e1 n2) (by rw [h2, ge]) (by rw [← ge, g2, hbz]; grind) (by omega) (Nat.two_pow_pos _)
end
end
section
open PySem PySem.Spec PyProof.Rows L2
def reps (x : Str) (n : Int) : Str := if n < 1 then Str.empty else if (n == 1 || x.length == 0) = true then x else ⟨(List.replicate n.toNat x.cps).foldl (· ++ ·) #[]⟩
def tenText (f : Nat) : Str := ("1" : Str) ++ reps ("0" : Str) (f : Int)
theorem foldl_toList {a : Array Nat} : ∀ (n : Nat) (acc : Array Nat), ((List.replicate n a).foldl (· ++ ·) acc).toList = acc.toList ++ (List.replicate n a.toList).flatten
  | 0, acc => by simp
  | n + 1, acc => by
    rw [List.replicate_succ, List.replicate_succ, List.foldl_cons, foldl_toList n, Array.toList_append, List.flatten_cons, List.append_assoc]
theorem flat_one (n x : Nat) : (List.replicate n [x]).flatten = List.replicate n x := by
  induction n with
  | zero => rfl
  | succ n ih => rw [List.replicate_succ, List.replicate_succ, List.flatten_cons, ih]; rfl
theorem zero_cps : ("0" : Str).cps.toList = [48] := by decide +kernel
theorem one_cps : ("1" : Str).cps.toList = [49] := by decide +kernel
theorem reps_cps (f : Nat) : (reps ("0" : Str) (f : Int)).cps.toList = List.replicate f 48 := by
  unfold reps
  match f with
  | 0 => rw [if_pos (by omega)]; rfl
  | 1 => rw [if_neg (by omega), if_pos (by rfl)]; exact zero_cps
  | f + 2 =>
    rw [if_neg (by omega), if_neg (by
      rw [show ((((f + 2 : Nat) : Int)) == 1) = false from by rw [beq_eq_false_iff_ne]; omega]
      rw [show ((("0" : Str).length == 0)) = false from by decide +kernel]
      decide)]
    show ((List.replicate ((f + 2 : Nat) : Int).toNat ("0" : Str).cps).foldl (· ++ ·) #[]).toList = _
    rw [foldl_toList, zero_cps, Int.toNat_natCast, flat_one]; rfl
theorem ten_cps (f : Nat) : (tenText f).cps.toList = 49 :: List.replicate f 48 := by
  show (("1" : Str).cps ++ (reps ("0" : Str) (f : Int)).cps).toList = _
  rw [Array.toList_append, one_cps, reps_cps]; rfl
theorem ten_len (f : Nat) : (tenText f).length = f + 1 := by
  show (tenText f).cps.size = _
  rw [← Array.length_toList, ten_cps, List.length_cons, List.length_replicate]
theorem reps_len (f : Nat) : (reps ("0" : Str) (f : Int)).length = f := by
  show (reps ("0" : Str) (f : Int)).cps.size = _
  rw [← Array.length_toList, reps_cps, List.length_replicate]
theorem val_zeros : ∀ (f acc : Nat), (List.replicate f 48).foldl (fun acc c => acc * 10 + (c - 48)) acc = acc * 10 ^ f
  | 0, acc => by simp
  | f + 1, acc => by
    rw [List.replicate_succ, List.foldl_cons, val_zeros f, Nat.pow_succ]
    show (acc * 10 + 0) * 10 ^ f = _
    rw [Nat.add_zero, Nat.mul_assoc, Nat.mul_comm 10]
theorem ten_ok {f : Nat} (h : f ≤ 600) : PySem.intText? (tenText f) = some (((10 ^ f : Nat) : Int)) ∧ (tenText f).length ≤ 640 := by
  refine ⟨?_, by rw [ten_len]; omega⟩
  rw [intText_digits (x := tenText f)]
  · congr 2
    rw [ten_cps]
    show (List.replicate f 48).foldl (fun acc c => acc * 10 + (c - 48)) (0 * 10 + (49 - 48)) = _
    rw [val_zeros]; omega
  · rw [ten_cps]
    intro c hc
    rcases List.mem_cons.mp hc with e | e
    · omega
    · have := List.eq_of_mem_replicate e; omega
  · rw [ten_cps]; exact List.cons_ne_nil _ _
  · rw [ten_len]; omega
theorem flat_len_const {l a : List Nat} {n : Nat} : (a ++ (List.replicate n l).flatten).length = a.length + n * l.length := by
  rw [List.length_append]
  congr 1
  induction n with
  | zero => simp
  | succ n ih => rw [List.replicate_succ, List.flatten_cons, List.length_append, ih, Nat.succ_mul]; omega
def rMulS : R2 := fun x y H Q => ∃ (z : Str) (n : Nat), x = .str z ∧ y = .int n ∧ n ≤ 1000 ∧ z.length ≤ 1000 ∧ Q (.str (reps z (n : Int))) H
theorem op_mul_str {X : Cx} : OpR X (binaryOp .Mult) rMulS := by
  intro pins s σ H x y v u Q I rx ry h
  obtain ⟨z, n, rfl, rfl, hn, hz, q⟩ := h
  obtain ⟨t, rfl⟩ := rx
  obtain ⟨t', rfl⟩ := ry
  have hlen : z.length * n ≤ 1000 * 1000 := Nat.mul_le_mul hz hn
  refine P.mul_str (by
    rw [decide_eq_false (show ¬ (n : Int) < -(2 ^ 63) by omega), decide_eq_false (show ¬ (n : Int) ≥ 2 ^ 63 by
      have e : (2 : Int) ^ 63 = 9223372036854775808 := by decide
      omega)]; rfl) (fun h1 _ => ?_) (fun h1 _ => ?_) ?_
  · have hn0 : 0 < (n : Int) := by omega
    have e : (2 : Int) ^ 63 - 1 = 9223372036854775807 := by decide
    rw [e]
    have : (z.length : Int) ≤ 9223372036854775807 / (n : Int) := by
      rw [Int.le_ediv_iff_mul_le hn0]
      have : (z.length : Int) * (n : Int) ≤ 1000 * 1000 := by exact_mod_cast hlen
      omega
    omega
  · show decide (z.length * ((n : Nat) : Int).toNat > sizeLine) = false
    rw [decide_eq_false_iff_not, sizeLine_eq, Int.toNat_natCast]; omega
  · unfold reps at q
    split
    · rename_i h1
      rw [if_pos h1] at q
      exact ⟨by decide, .str Str.empty, H, I.tok _, ⟨_, rfl⟩, q⟩
    · rename_i h1
      rw [if_neg h1] at q
      split
      · rename_i h2
        rw [if_pos h2] at q
        exact ⟨.str z, H, I, ⟨_, rfl⟩, q⟩
      · rename_i h2
        rw [if_neg h2] at q
        refine ⟨?_, .str _, H, I.tok _, ⟨_, rfl⟩, q⟩
        show ((List.replicate ((n : Nat) : Int).toNat z.cps).foldl (· ++ ·) #[]).size ≤ sizeLine
        rw [← Array.length_toList, foldl_toList, Int.toNat_natCast, flat_len_const, sizeLine_eq]
        show 0 + n * z.cps.toList.length ≤ _
        have e : z.cps.toList.length = z.length := Array.length_toList
        rw [e, Nat.mul_comm]; omega
def DAt (x y : V) (H : Hp) (Q : VK) : Prop := ∃ a v, x = .ref a ∧ DGet H a y (some v) ∧ Q v H
def DPutAt (x y v : V) (H : Hp) (N : Hp → Prop) : Prop := ∃ a H', x = .ref a ∧ DPut H a y v H' ∧ N H'
section
variable {σ : L2.St} {H : Hp} {Q : VK} {D : Ends} {td ty tv : TE} {a c : Addr} {kvs : List (Key × V)} {s : Str} {v x y : V} {N : Hp → Prop} {QS : L2.St → Hp → Prop}
theorem r_dget (k : td σ H fun x H1 => ty σ H1 fun y H2 => DAt x y H2 Q) : tDGet td ty σ H Q := k
theorem dAt (h : H a = some (.dK kvs)) (e : valV kvs (Sum.inr s) = some v) (k : Q v H) : DAt (.ref a) (.str s) H Q := ⟨a, v, rfl, by
  have := DGet.k (k := (Sum.inr s : Key)) h
  rw [e] at this; exact this, k⟩
theorem r_dput (k : tv σ H fun v H1 => td σ H1 fun x H2 => ty σ H2 fun y H3 => DPutAt x y v H3 (fun H4 => D.nx σ H4)) : sDPut td ty tv D σ H := k
theorem dPut {kvs' : List (Key × V)} (h : H a = some (.dK kvs)) (hn : kvs.length ≤ 1000) (e : putK kvs (Sum.inr s) v = kvs') (k : N (upd H a (.dK kvs'))) : DPutAt (.ref a) (.str s) v H N :=
  ⟨a, _, rfl, DPut.k (k := (Sum.inr s : Key)) h (small1000 hn), by rw [e]; exact k⟩
theorem r_gsub {v : V} (k : td σ H fun x H1 => ty σ H1 fun y H2 => DPutAt x y v H2 (fun H3 => QS σ H3)) : gSub td ty rSetD v σ H QS := k
end
def rInt1 : List V → Hp → VK → Prop := fun xs H Q => (∃ i, xs = [.int i] ∧ Q (.int i) H) ∨ ∃ k, xs = [.bl k] ∧ Q (.int (if k then 1 else 0)) H
def rIntS : List V → Hp → VK → Prop := fun xs H Q => ∃ a n, xs = [.str a] ∧ PySem.intText? a = some n ∧ a.length ≤ 640 ∧ Q (.int n) H
def rAddS : R2 := fun x y H Q => ∃ i j, x = .str i ∧ y = .str j ∧ i.length + j.length ≤ sizeLine ∧ Q (.str (i ++ j)) H
def rMax2 : List V → Hp → VK → Prop := fun xs H Q => ∃ i j, xs = [.int i, .int j] ∧ Q (.int (if j > i then j else i)) H
def rAbs1 : List V → Hp → VK → Prop := fun xs H Q => ∃ i, xs = [.int i] ∧ Q (.int (if i < 0 then -i else i)) H
section
variable {X : Cx} {H : Hp} {Q : VK} {a b : Int} {k : Bool} {x y : Str}
theorem kc_int1 : CallR X (.type "int") rInt1 := call_int1
theorem kc_intS : CallR X (.type "int") rIntS := call_int_str
theorem kop_addS : OpR X (binaryOp .Add) rAddS := op_add_str
theorem kc_max (hc : X.calm = true) : CallR X (.builtin "max") rMax2 := call_max2 hc
theorem kc_abs : CallR X (.builtin "abs") rAbs1 := call_abs
theorem q_intI (h : Q (.int a) H) : rInt1 [.int a] H Q := .inl ⟨a, rfl, h⟩
theorem q_intB (h : Q (.int (if k then 1 else 0)) H) : rInt1 [.bl k] H Q := .inr ⟨k, rfl, h⟩
theorem q_intS {n : Int} (e : PySem.intText? x = some n) (l : x.length ≤ 640) (h : Q (.int n) H) : rIntS [.str x] H Q := ⟨x, n, rfl, e, l, h⟩
theorem q_addS (l : x.length + y.length ≤ sizeLine) (h : Q (.str (x ++ y)) H) : rAddS (.str x) (.str y) H Q := ⟨x, y, rfl, rfl, l, h⟩
theorem q_max (h : Q (.int (max a b)) H) : rMax2 [.int a, .int b] H Q := ⟨a, b, rfl, by
  have e : (if b > a then b else a) = max a b := by
    rw [Int.max_def]; split <;> split <;> omega
  rw [e]; exact h⟩
theorem q_abs (h : Q (.int (a.natAbs : Int)) H) : rAbs1 [.int a] H Q := ⟨a, rfl, by
  have e : (if a < 0 then -a else a) = (a.natAbs : Int) := by split <;> omega
  rw [e]; exact h⟩
end
theorem at_mod {ns : List Int} {a : Int} (h : 0 < ns.length) : ∃ z, atI (ns.map V.int) (a % (((ns.map V.int).length : Nat) : Int)) = some (V.int z) := by
  have hl : (ns.map V.int).length = ns.length := List.length_map _
  rw [hl]
  have h0 : 0 ≤ a % (ns.length : Int) := Int.emod_nonneg _ (by omega)
  have h1 : a % (ns.length : Int) < ns.length := Int.emod_lt_of_pos _ (by omega)
  obtain ⟨j, hj⟩ : ∃ j : Nat, a % (ns.length : Int) = j := ⟨(a % (ns.length : Int)).toNat, by omega⟩
  rw [hj]
  refine ⟨ns[j]'(by omega), atI_nat ?_⟩
  rw [List.getElem?_map, List.getElem?_eq_getElem (by omega)]; rfl
end
open PySem PySem.Spec PyProof.Rows L2
local macro_rules | `(tactic| wtm_at "of_rd1") => `(tactic| with_reducible first
  | refine r_dget ?_ | refine r_dput ?_ | refine r_gsub ?_ | refine q_intI ?_ | refine q_intB ?_
  | refine r_par ?_ | refine r_par3 ?_ | refine r_parP ?_ | refine r_parP3 ?_ | refine r_part ?_ | refine r_nopart ?_ | refine r_intP ?_ | refine r_for ?_ | refine r_iL ?_ | refine r_iT ?_ | refine r_iR1 ?_ | refine r_iR2 ?_ | refine r_iR3 ?_ | refine r_iZ ?_ | refine r_lc ?_ | refine r_sl ?_ | refine r_bm ?_ | refine r_turn1 ?_ | refine r_lturn ?_ | refine r_yes ?_
  | refine r_seq ?_ | refine r_asg ?_ | refine r_ret ?_ | refine r_sfld ?_ | refine r_ifS ?_ | refine r_drop ?_ | refine r_next ?_ | refine r_retN ?_ | refine r_gcd ?_
  | refine r_op ?_ | refine r_un ?_ | refine r_fld ?_ | refine r_cons ?_ | refine r_nil ?_ | refine r_c ?_ | refine r_c1 ?_ | refine r_cb ?_ | refine r_ck ?_ | refine r_cm ?_
  | refine r_test ?_ | refine r_B ?_ | refine r_and ?_ | refine r_or ?_ | refine r_not ?_ | refine r_andV ?_ | refine r_orV ?_ | refine r_notV ?_ | refine r_ifE ?_
  | refine r_tr ?_ | refine r_name ?_ | refine r_blP ?_ | refine r_tup ?_ | refine r_lst ?_ | refine r_gCons ?_ | refine r_gNil ?_ | refine r_rz ?_
  | refine r_var (by with_unfolding_all rfl) ?_
  | refine iteT ?_ | refine iteF ?_ | refine iteNT ?_ | refine iteNF ?_
  | refine r_I0 ?_ | refine r_I (cmA_bt (by wtm_at "of_btl") (by wtm_at "of_btl")) ?_ | refine r_I (cmA_r (by decide)) ?_ | refine r_I (cmA_l (by decide)) ?_ | refine r_U ?_ | refine r_eqI ?_ | refine r_neI ?_
  | refine r_top (by assumption) (by with_unfolding_all rfl) (by wtm_at "of_up") ?_ | refine r_bot (by assumption) (by with_unfolding_all rfl) (by wtm_at "of_up") ?_)
section
open PySem PySem.Spec PyProof.Rows L2
section
variable {σ : L2.St} {H : Hp} {tk tv : TE} {r : List (TE × TE)} {QP : List (V × V) → Hp → Prop} {Q : VK} {trs : List (TE × TE)} {K : PySem.W.Frag} {a : Addr} {xs : List V}
theorem r_pairs (k : tk σ H fun x H1 => tv σ H1 fun y H2 => tPairs r σ H2 fun ps H3 => QP ((x, y) :: ps) H3) : tPairs ((tk, tv) :: r) σ H QP := k
theorem r_pairs0 (k : QP [] H) : tPairs [] σ H QP := k
def DispEnd (p : Addr) (Q : VK) (ps : List (V × V)) (H2 : Hp) : Prop := H2 p = some (.dK []) ∧ ∃ kvs : List (Key × V), ps = kvs.map (fun kv => (kV kv.1, kv.2)) ∧ kvs.length ≤ 15 ∧ Q (.ref p) (upd H2 p (.dK (mergeK [] kvs)))
theorem r_disp (k : ∀ p H', Ex H H' → H p = none → H' p = some (.dK []) → tPairs trs σ H' (DispEnd p Q)) : tDisp trs σ H Q := fun p hp => k p _ (Ex.new hp) hp upd_same
theorem disp_end {p : Addr} {kvs kvs' : List (Key × V)} (h : H p = some (.dK [])) (hl : kvs.length ≤ 15) (e : mergeK [] kvs = kvs') (k : Q (.ref p) (upd H p (.dK kvs'))) {ps : List (V × V)} (ep : ps = kvs.map (fun kv => (kV kv.1, kv.2))) : DispEnd p Q ps H := ⟨h, kvs, ep, hl, by rw [e]; exact k⟩
theorem r_slS {K' : PySem.W.Frag} {lo hi : Option Int} (e : K' = K) (h : SqL K H a xs) (k : ∀ p H', Ex H H' → H p = none → H' p = some (.lst (cutV xs lo hi)) → Q (.ref p) H') : rSlL K' (.ref a) lo hi H Q := by subst e; exact ⟨a, xs, rfl, h, fun p hp => k p _ (Ex.new hp) hp upd_same⟩
theorem q_lenS {K' : PySem.W.Frag} (e : K' = K) (h : SqL K H a xs) (k : Q (.int (xs.length : Int)) H) : rLen K' [.ref a] H Q := by subst e; exact ⟨a, xs, rfl, .inl h, k⟩
theorem r_rep {n : Int} (h : H a = some (.lst xs)) (h0 : 0 ≤ n) (h1 : n ≤ 1000) (hx : xs.length ≤ 1000) (k : ∀ p H', Ex H H' → H p = none → H' p = some (.lst (List.replicate n.toNat xs).flatten) → Q (.ref p) H') : rRep (.ref a) (.int n) H Q := by
  have e : (2 : Int) ^ 63 = 9223372036854775808 := by decide
  have hm : xs.length * n.toNat ≤ 1000 * 1000 := Nat.mul_le_mul hx (by omega)
  exact ⟨a, n, xs, rfl, rfl, h, by omega, by omega, by rw [sizeLine_eq]; omega, fun p hp => k p _ (Ex.new hp) hp upd_same⟩
theorem cutV_upto {n : Nat} (h : xs.length ≤ n) : cutV xs none (some (n : Int)) = xs := by
  unfold cutV
  have e1 : HT.sIx xs.length 0 none = 0 := rfl
  have e2 : HT.sIx xs.length xs.length (some (n : Int)) = xs.length := by
    unfold HT.sIx
    show (if (n : Int) < 0 then ((n : Int) + xs.length).toNat else min (n : Int).toNat xs.length) = _
    rw [if_neg (by omega)]; omega
  rw [e1, e2, Nat.sub_zero, List.drop_zero, List.take_length]
end
theorem Ex.seq {K : PySem.W.Frag} {H H' : Hp} {a : Addr} {xs : List V} (e : Ex H H') (h : SqL K H a xs) : SqL K H' a xs := Same.seq e h
def tpK (c : Addr) (a r : Int) : List (Key × V) := [(Sum.inr "cells", .ref c), (Sum.inr "at", .int a), (Sum.inr "rest", .int r)]
section
variable {c : Addr} {a r z : Int}
theorem tp_cells : valV (tpK c a r) (Sum.inr "cells") = some (.ref c) := by kernel_rfl
theorem tp_at : valV (tpK c a r) (Sum.inr "at") = some (.int a) := by kernel_rfl
theorem tp_rest : valV (tpK c a r) (Sum.inr "rest") = some (.int r) := by kernel_rfl
theorem tp_putAt : putK (tpK c a r) (Sum.inr "at") (.int z) = tpK c z r := by kernel_rfl
theorem tp_putRest : putK (tpK c a r) (Sum.inr "rest") (.int z) = tpK c a z := by kernel_rfl
end
theorem tp_new {c : Addr} : mergeK [] (tpK c 0 0) = tpK c 0 0 := by kernel_rfl
/-- the tape at p, of at most n cells read -/
def Tape (H : Hp) (p c : Addr) (n : Nat) : Prop := ∃ (a r : Int) (ns : List Int), H p = some (.dK (tpK c a r)) ∧ H c = some (.lst (ns.map V.int)) ∧ 0 < ns.length ∧ ns.length ≤ 63 ∧ 0 ≤ a ∧ a ≤ (n : Int)
theorem Tape.mono {H : Hp} {p c : Addr} {n m : Nat} (h : Tape H p c n) (hm : n ≤ m) : Tape H p c m := by
  obtain ⟨a, r, ns, h1, h2, h3, h4, h5, h6⟩ := h
  exact ⟨a, r, ns, h1, h2, h3, h4, h5, by omega⟩
theorem Tape.ex {H H' : Hp} {p c : Addr} {n : Nat} (e : Ex H H') (h : Tape H p c n) : Tape H' p c n := by
  obtain ⟨a, r, ns, h1, h2, h3⟩ := h
  exact ⟨a, r, ns, e _ _ h1, e _ _ h2, h3⟩
theorem Tape.put {H : Hp} {p c L : Addr} {n : Nat} {xs : List V} {o : HO} (h : Tape H p c n) (hl : H L = some (.lst xs)) (hc : c ≠ L) : Tape (upd H L o) p c n := by
  obtain ⟨a, r, ns, h1, h2, h3⟩ := h
  exact ⟨a, r, ns, by rw [upd_ne (ne_of h1 hl (by intro z; cases z))]; exact h1, by rw [upd_ne hc]; exact h2, h3⟩
theorem Le.lst {H H' : Hp} {p : Addr} {xs : List V} (e : Le H H') (h : H p = some (.lst xs)) : H' p = some (.lst xs) := e _ _ h trivial
theorem Le.tup {H H' : Hp} {p : Addr} {xs : List V} (e : Le H H') (h : H p = some (.tup xs)) : H' p = some (.tup xs) := e _ _ h trivial
/-- a draw: below the limit -/
def spDraw : Sp := fun vs H Q _ => ∃ (p : Addr) (m : Int) (n : Nat), vs = [.ref p, .int m] ∧ ∃ c, Tape H p c n ∧ n < 1000000 ∧ 0 < m ∧ m.natAbs < 2 ^ 4000 ∧ ∀ (H' : Hp) (d : Int), Le H H' → Tape H' p c (n + 1) → 0 ≤ d → d < m → Q (.int d) H'
def spBegin (K : PySem.W.Frag) : Sp := fun vs H Q _ => ∃ (a : Addr) (ns : List Int), vs = [.ref a] ∧ SqL K H a (ns.map V.int) ∧ ns.length ≤ 63 ∧ ∀ (H' : Hp) (p c : Addr), Ex H H' → H p = none → H c = none → Tape H' p c 0 → Q (.ref p) H'
def spPick : Sp := fun vs H Q _ => ∃ (p k : Addr) (xs : List V) (n : Nat), vs = [.ref p, .ref k] ∧ ∃ c, Tape H p c n ∧ n < 1000000 ∧ H k = some (.lst xs) ∧ 0 < xs.length ∧ xs.length ≤ 1000000 ∧ ∀ (H' : Hp) (i : Nat) (v : V), Le H H' → Tape H' p c (n + 1) → xs[i]? = some v → Q v H'
def spTen : Sp := fun vs H Q _ => ∃ f : Nat, vs = [.int f] ∧ f ≤ 600 ∧ Q (.int ((10 ^ f : Nat) : Int)) H
/-- a number of so many figures -/
def spNum (c lo : Nat) (neg : Bool) : Sp := fun vs H Q _ => ∃ (p : Addr) (f n : Nat), vs = [.ref p, .int f] ∧ ∃ c', Tape H p c' n ∧ n + c < 900000 ∧ lo ≤ f ∧ f ≤ 500 ∧
  ∀ (H' : Hp) (d : Int), Le H H' → Tape H' p c' (n + c) → (neg = false → 0 ≤ d) → d.natAbs < 10 ^ f → Q (.int d) H'
/-- Euclid's walk, counted -/
structure Euc (A B i u l : Nat) : Prop where
  g : Nat.gcd u l = Nat.gcd A B
  c : (i = 0 ∧ u = A ∧ l = B) ∨ (0 < i ∧ l < u ∧ u * l * 2 ^ (i - 1) ≤ A * B)
theorem Euc.step {A B i u l : Nat} (e : Euc A B i u l) (h : l ≠ 0) : Euc A B (i + 1) l (u % l) := by
  have hlt : u % l < l := Nat.mod_lt _ (by omega)
  refine ⟨by rw [← e.g, Nat.gcd_comm u l, Nat.gcd_comm l (u % l)]; exact (Nat.gcd_rec l u).symm, .inr ⟨by omega, hlt, ?_⟩⟩
  rcases e.c with ⟨rfl, rfl, rfl⟩ | ⟨h0, h1, h2⟩
  · show l * (u % l) * 2 ^ 0 ≤ u * l
    rw [Nat.pow_zero, Nat.mul_one, Nat.mul_comm]
    exact Nat.mul_le_mul_right _ (Nat.mod_le _ _)
  · have key : 2 * (u % l) ≤ u := by
      have hd := Nat.div_add_mod u l
      have h3 : 1 ≤ u / l := (Nat.one_le_div_iff (by omega)).mpr (by omega)
      have h4 : l * 1 ≤ l * (u / l) := Nat.mul_le_mul_left l h3
      omega
    refine Nat.le_trans ?_ h2
    obtain ⟨j, rfl⟩ : ∃ j, i = j + 1 := ⟨i - 1, by omega⟩
    rw [Nat.add_sub_cancel, Nat.add_sub_cancel, Nat.pow_succ]
    have : l * (u % l) * (2 ^ j * 2) = (2 * (u % l)) * l * 2 ^ j := by
      generalize 2 ^ j = y
      generalize u % l = x
      grind
    rw [this]
    exact Nat.mul_le_mul_right _ (Nat.mul_le_mul_right _ key)
theorem Euc.done {A B u l : Nat} (e : Euc A B 1000000 u l) (hA : A < 2 ^ 4000) (hB : B < 2 ^ 4000) : l = 0 := by
  rcases e.c with ⟨h, _, _⟩ | ⟨_, h1, h2⟩
  · omega
  · rcases Nat.eq_zero_or_pos l with z | z
    · exact z
    · exfalso
      have h3 : A * B < 2 ^ (4000 + 4000) := pow_mul_lt hA hB
      have h4 : 1 ≤ u * l := Nat.mul_pos (by omega) z
      have h5 : 2 ^ (1000000 - 1) ≤ A * B := Nat.le_trans (Nat.le_mul_of_pos_left _ h4) h2
      have h6 : 2 ^ (1000000 - 1) < 2 ^ (4000 + 4000) := Nat.lt_of_le_of_lt h5 h3
      have := (Nat.pow_lt_pow_iff_right (a := 2) (by decide)).mp h6
      omega
def spWhole (K : PySem.W.Frag) : Sp := fun vs H Q _ => ∃ a b : Int, vs = [.int a, .int b] ∧ Q (.bl (decide (a = b))) H
def spRatioIs (C : Addr) : Sp := fun vs H Q _ => ∃ (p : Addr) (q : Rat) (t b : Int), vs = [.ref p, .int t, .int b] ∧ IsR C H p q ∧ Bq q ∧ Bt t ∧ Bt b ∧ Q (.bl (decide (q.num * b = t * (q.den : Int)))) H
end
section
open PySem PySem.Spec PyProof.Rows L2
abbrev Pr : Type := Int × Int
def pairD (r : Pr) : PyData := .tuple [.int r.1, .int r.2]
def pairV (r : Pr) : List V := [.int r.1, .int r.2]
/-- the items are tuples of these pairs -/
inductive RowsX (H : Hp) : List V → List Pr → Prop where
  | nil : RowsX H [] []
  | cons {p : Addr} {r : Pr} {xs : List V} {rs : List Pr} : H p = some (.tup (pairV r)) → RowsX H xs rs → RowsX H (V.ref p :: xs) (r :: rs)
def Rows (H : Hp) (l : Addr) (rs : List Pr) : Prop := ∃ xs, H l = some (.lst xs) ∧ RowsX H xs rs
section
variable {H H' : Hp} {xs ys : List V} {rs qs : List Pr} {l p L : Addr} {r : Pr} {o : HO}
theorem RowsX.length (h : RowsX H xs rs) : xs.length = rs.length := by
  induction h with
  | nil => rfl
  | cons _ _ ih => rw [List.length_cons, List.length_cons, ih]
theorem RowsX.le (e : Le H H') (h : RowsX H xs rs) : RowsX H' xs rs := by
  induction h with
  | nil => exact .nil
  | cons h1 _ ih => exact .cons (e.tup h1) ih
theorem RowsX.put (hl : H L = some (.lst ys)) (h : RowsX H xs rs) : RowsX (upd H L o) xs rs := by
  induction h with
  | nil => exact .nil
  | cons h1 _ ih => exact .cons (by rw [upd_ne (ne_of h1 hl (by intro z; cases z))]; exact h1) ih
theorem RowsX.snoc (h : RowsX H xs rs) (hp : H p = some (.tup (pairV r))) : RowsX H (xs ++ [V.ref p]) (rs ++ [r]) := by
  induction h with
  | nil => exact .cons hp .nil
  | cons h1 _ ih => exact .cons h1 ih
theorem RowsX.at_ (h : RowsX H xs rs) : ∀ {i : Nat} {v : V}, xs[i]? = some v → ∃ p r, v = .ref p ∧ rs[i]? = some r ∧ H p = some (.tup (pairV r)) := by
  induction h with
  | nil => intro i v h; simp at h
  | cons h1 _ ih =>
    intro i v hv
    match i, hv with
    | 0, hv => cases hv; exact ⟨_, _, rfl, rfl, h1⟩
    | i + 1, hv => exact ih hv
theorem RowsX.get (h : RowsX H xs rs) : ∀ {i : Nat} {r : Pr}, rs[i]? = some r → ∃ p, xs[i]? = some (.ref p) ∧ H p = some (.tup (pairV r)) := by
  induction h with
  | nil => intro i v h; simp at h
  | cons h1 _ ih =>
    intro i v hv
    match i, hv with
    | 0, hv => cases hv; exact ⟨_, rfl, h1⟩
    | i + 1, hv => exact ih hv
theorem RowsX.erase (h : RowsX H xs rs) : ∀ i : Nat, RowsX H (xs.eraseIdx i) (rs.eraseIdx i) := by
  induction h with
  | nil => intro i; exact .nil
  | cons h1 h2 ih =>
    intro i
    match i with
    | 0 => exact h2
    | i + 1 => exact .cons h1 (ih i)
variable {K : PySem.W.Frag}
theorem dp_pair (h : H p = some (.tup (pairV r))) : Dp K H (.ref p) (pairD r) := .tup (SqT.of h) (.cons (.int _) (.cons (.int _) .nil))
theorem RowsX.dp (h : RowsX H xs rs) : DpAll K H xs (rs.map pairD) := by
  induction h with
  | nil => exact .nil
  | cons h1 _ ih => exact .cons (dp_pair h1) ih
theorem rows_dp (hl : H l = some (.lst xs)) (h : RowsX H xs rs) : Dp K H (.ref l) (.list (rs.map pairD)) := .lst (SqL.of hl) h.dp
theorem nil_dp (hl : H l = some (.lst [])) : Dp K H (.ref l) (.list []) := .lst (SqL.of hl) .nil
theorem pair_lay (r : Pr) : (pairD r).canLay0 = true := rfl
theorem rows_lay : ∀ rs : List Pr, PyData.canLayAll0 (rs.map pairD) = true
  | [] => rfl
  | r :: rs => by
    show (PyData.canLay0 (pairD r) && PyData.canLayAll0 (rs.map pairD)) = true
    rw [pair_lay, rows_lay rs]; rfl
theorem rows_depth : ∀ rs : List Pr, PyData.depthAll (rs.map pairD) ≤ 1
  | [] => Nat.zero_le _
  | r :: rs => by
    show max (PyData.depth (pairD r)) (PyData.depthAll (rs.map pairD)) ≤ 1
    have h1 : PyData.depth (pairD r) = 1 := rfl
    have := rows_depth rs
    omega
theorem rows_shaped (rs : List Pr) : SeqAt.shaped (.list (rs.map pairD)) = true := by
  unfold SeqAt.shaped
  have h1 : PyData.canLay0 (.list (rs.map pairD)) = true := rows_lay rs
  have h2 : PyData.depth (.list (rs.map pairD)) ≤ 64 := by
    show PyData.depthAll (rs.map pairD) + 1 ≤ 64
    have := rows_depth rs
    omega
  rw [h1, decide_eq_true h2]; rfl
theorem nil_shaped : SeqAt.shaped (.list []) = true := by decide +kernel
theorem rows_eqv_nil (rs : List Pr) : PyData.eqv (.list (rs.map pairD)) (.list []) = decide (rs = []) := by
  cases rs with
  | nil => rfl
  | cons r rs => rfl
theorem pair_eqv (r q : Pr) : PyData.eqv (pairD r) (pairD q) = decide (r = q) := by
  show (r.1 == q.1 && (r.2 == q.2 && true)) = decide (r = q)
  rw [Bool.and_true, Bool.eq_iff_iff, Bool.and_eq_true, beq_iff_eq, beq_iff_eq, decide_eq_true_iff, Prod.ext_iff]
/-- rows != [], rows == [] -/
theorem r_neNil {Q : VK} {e : Addr} (hl : H l = some (.lst xs)) (h : RowsX H xs rs) (he : H e = some (.lst [])) (k : Q (.bl (!decide (rs = []))) H) : rNeD K (.ref l) (.ref e) H Q := ⟨_, _, rows_dp hl h, nil_dp he, rows_shaped rs, nil_shaped, by rw [rows_eqv_nil]; exact k⟩
theorem r_eqNil {Q : VK} {e : Addr} (hl : H l = some (.lst xs)) (h : RowsX H xs rs) (he : H e = some (.lst [])) (k : Q (.bl (decide (rs = []))) H) : rEqD K (.ref l) (.ref e) H Q := ⟨_, _, rows_dp hl h, nil_dp he, rows_shaped rs, nil_shaped, by rw [rows_eqv_nil]; exact k⟩
/-- l.remove(x), data in data: the first equal item goes -/
def rRemD (K : PySem.W.Frag) : V → List V → Hp → VK → Prop := fun x vs H Q => ∃ (l : Addr) (xs : List V) (y : V) (ds : List PyData) (d : PyData) (j : Nat), x = .ref l ∧ vs = [y] ∧ H l = some (.lst xs) ∧ DpAll K H xs ds ∧ Dp K H y d ∧ PyData.canLayAll0 ds = true ∧ d.canLay0 = true ∧ PyData.depthAll ds ≤ 60 ∧
  SeqAt.dataPlace ds d = some j ∧ Q .non (upd H l (.lst (xs.eraseIdx j)))
theorem erase_len (xs : List V) (j : Nat) : (xs.eraseIdx j).length ≤ xs.length := by
  rw [List.length_eraseIdx]; split <;> omega
theorem mt_removeD {X : Cx} (h : X.K = K) (hu : X.A.units + 64 < cLine) : MtM X "list.remove" (rRemD K) := by
  subst h
  intro pins s σ H x vs v us Q I rx rxs h
  obtain ⟨l, xs, y, ds, d, j, rfl, rfl, hH, hds, hd, c1, c2, hdep, hj, q⟩ := h
  cases rx
  obtain ⟨u, rfl, ru⟩ := rxs.one
  obtain ⟨z, its, n, r, hl, e⟩ := I.lstM hH
  obtain ⟨as, q1⟩ := Dp.readsAll I ds _ _ hds r
  obtain ⟨bs, q2⟩ := Dp.reads I d _ _ hd ru
  refine SeqAt.remove_list_data (vs := its.toArray) (xs := ds) (d := d) (as := as) (bs := bs) ⟨_, e, rfl, n, rfl⟩ (by simpa using q1) q2 (PyData.plainAll_of_canLay0 _ c1) (PyData.plain_of_canLay0 _ c2) (by omega) hj (by rw [List.size_toArray]; omega) ?_
  have rr := r.eraseIdx j
  refine ⟨.non, _, I.lset (its' := its.eraseIdx j) (t' := s.toks) hH e ?_ rr ?_, rfl, q⟩
  · show its.toArray.eraseIdxIfInBounds j = (its.eraseIdx j).toArray
    rw [List.eraseIdxIfInBounds_toArray]
  · have := erase_len xs j
    omega
end
def spDiv : Sp := fun vs H Q _ => ∃ a b : Int, vs = [.int a, .int b] ∧ Bt a ∧ Bt b ∧ NewV Q H (.bl true)
def PrOk (N : Nat) (r : Pr) : Prop := r.1.natAbs < 2 ^ N ∧ r.2.natAbs < 2 ^ N ∧ 0 < r.2
def spNear : Sp := fun vs H Q _ => ∃ (p l : Addr) (rs : List Pr) (n N : Nat), vs = [.ref p, .ref l] ∧ ∃ c, Tape H p c n ∧ n + 500 < 900000 ∧ Rows H l rs ∧ rs.length ≤ 1000 ∧ 240 ≤ N ∧ N ≤ 3000 ∧ (∀ r ∈ rs, PrOk N r) ∧
  ∀ (H' : Hp) (q : Addr) (r : Pr), Le H H' → Tape H' p c (n + 500) → H' q = some (.tup (pairV r)) → PrOk (N + 5) r → Q (.ref q) H'
theorem p5 (N : Nat) : 2 ^ (N + 5) = 32 * 2 ^ N := by rw [Nat.pow_add, Nat.mul_comm]
theorem near_ok {N : Nat} {r : Pr} {f d : Int} (h : PrOk N r) (f0 : 1 ≤ f) (f1 : f ≤ 9) (d0 : -1 ≤ d) (d1 : d ≤ 1) : PrOk (N + 5) (r.1 * f + d, r.2 * f) := by
  obtain ⟨h1, h2, h3⟩ := h
  have e := p5 N
  have p : 0 < 2 ^ N := Nat.two_pow_pos N
  have m1 : (r.1 * f).natAbs ≤ r.1.natAbs * 9 := by rw [Int.natAbs_mul]; exact Nat.mul_le_mul_left _ (by omega)
  have m2 : (r.2 * f).natAbs ≤ r.2.natAbs * 9 := by rw [Int.natAbs_mul]; exact Nat.mul_le_mul_left _ (by omega)
  have m3 : 0 < r.2 * f := Int.mul_pos h3 (by omega)
  exact ⟨by show (r.1 * f + d).natAbs < _; rw [e]; omega, by show (r.2 * f).natAbs < _; rw [e]; omega, m3⟩
def toQ (r : Pr) : Rat := Rat.divInt r.1 r.2
/-- the numbers handed in are those of the rows -/
def Handed (C : Addr) (H : Hp) (k : Addr) (rs : List Pr) : Prop := ∃ ys, SeqAt1 H k ys ∧ ys.length = rs.length ∧ ∀ (i : Nat) (r : Pr), rs[i]? = some r → ∃ v, ys[i]? = some v ∧ NumV C H v (toQ r)
def spOrder (C : Addr) : Sp := fun vs H Q _ => ∃ (l k : Addr) (rs : List Pr), vs = [.ref l, .ref k] ∧ Rows H l rs ∧ Handed C H k rs ∧ 0 < rs.length ∧ rs.length ≤ 1000 ∧ (∀ r ∈ rs, PrOk 3000 r) ∧ NewV Q H (.bl true)
theorem PrOk.bq {N : Nat} {r : Pr} (h : PrOk N r) (hN : N ≤ 4000) : Bq (toQ r) := by
  obtain ⟨h1, h2, h3⟩ := h
  rcases Nat.eq_zero_or_pos N with z | z
  · subst z
    have : r.2.natAbs < 1 := h2
    omega
  · exact (Sz.divInt h1 h2 z).bq hN
theorem dec_ratio {q : Rat} {r : Pr} (h : 0 < r.2) : decide (q.num * r.2 = r.1 * (q.den : Int)) = decide (q = toQ r) := by
  rw [decide_eq_decide]
  unfold toQ
  conv => rhs; rw [← Rat.num_divInt_den q]
  rw [Rat.divInt_eq_divInt_iff (den_ne q) (by omega)]
theorem dec_same {q r : Rat} (h : q = r) : decide (q.num * (r.den : Int) = r.num * (q.den : Int)) = true := by
  subst h; exact decide_eq_true rfl
theorem place_of {r : Pr} {rs : List Pr} (h : r ∈ rs) : ∃ j, SeqAt.dataPlace (rs.map pairD) (pairD r) = some j ∧ rs[j]? = some r := by
  unfold SeqAt.dataPlace
  cases e : (rs.map pairD).findIdx? (fun y => PyData.eqv y (pairD r)) with
  | none =>
    have := List.findIdx?_eq_none_iff.mp e (pairD r) (List.mem_map.mpr ⟨r, h, rfl⟩)
    rw [pair_eqv] at this
    simp at this
  | some j =>
    obtain ⟨h1, h2, _⟩ := List.findIdx?_eq_some_iff_getElem.mp e
    refine ⟨j, rfl, ?_⟩
    rw [List.length_map] at h1
    rw [List.getElem_map, pair_eqv, decide_eq_true_iff] at h2
    rw [List.getElem?_eq_getElem h1, h2]
theorem erase_perm {r : Pr} : ∀ {rs : List Pr} {j : Nat}, rs[j]? = some r → (r :: rs.eraseIdx j).Perm rs
  | [], j, h => by simp at h
  | q :: rs, 0, h => by cases h; exact .refl _
  | q :: rs, j + 1, h => (List.Perm.swap q r _).trans ((erase_perm (rs := rs) (j := j) h).cons q)
theorem filter_step {t : Pr → Bool} {rs : List Pr} {r : Pr} {i : Nat} (h : rs[i]? = some r) : (rs.take (i + 1)).filter t = (rs.take i).filter t ++ (if t r = true then [r] else []) := by
  rw [List.take_add_one, h, List.filter_append]
  congr 1
  show List.filter t [r] = _
  rw [List.filter_cons, List.filter_nil]
theorem sorted_unique {a b : List Rat} (h : a.Perm b) (ha : a.Pairwise (· ≤ ·)) (hb : b.Pairwise (· ≤ ·)) : a = b :=
  List.Perm.eq_of_pairwise (fun x y _ _ h1 h2 => Rat.le_antisymm h1 h2) ha hb h
def rTupOf (K : PySem.W.Frag) : List V → Hp → VK → Prop := fun xs H Q => ∃ p ys, xs = [.ref p] ∧ ((SqL K H p ys ∧ ∀ l, H l = none → Q (.ref l) (upd H l (.tup ys))) ∨ (SqT K H p ys ∧ Q (.ref p) H))
theorem kc_tupof {X : Cx} {K : PySem.W.Frag} (h : X.K = K) : CallR X (.type "tuple") (rTupOf K) := by subst h; exact call_tuple_of
theorem kc_all {X : Cx} {K : PySem.W.Frag} (h : X.K = K) (hc : X.calm = true) : CallR X (.builtin "all") (rAll K) := by subst h; exact cr_all hc
theorem q_tupL {K : PySem.W.Frag} {H : Hp} {Q : VK} {a : Addr} {xs : List V} (h : H a = some (.lst xs)) (k : ∀ p H', Ex H H' → H p = none → H' p = some (.tup xs) → Q (.ref p) H') : rTupOf K [.ref a] H Q :=
  ⟨a, xs, rfl, .inl ⟨SqL.of h, fun l hl => k l _ (Ex.new hl) hl upd_same⟩⟩
theorem q_allB {K : PySem.W.Frag} {H : Hp} {Q : VK} {a : Addr} {bs : List Bool} (h : H a = some (.lst (bs.map V.bl))) (k : Q (.bl (bs.all id)) H) : rAll K [.ref a] H Q := ⟨a, bs, rfl, SqL.of h, k⟩
theorem PrOk.mono {N M : Nat} {r : Pr} (h : PrOk N r) (hm : N ≤ M) : PrOk M r := ⟨pow_mono h.1 hm, pow_mono h.2.1 hm, h.2.2⟩
theorem toQ_one {r : Pr} (h : r.2 = 1) : toQ r = (r.1 : Rat) := by unfold toQ; rw [h, divInt_one]
def negP (r : Pr) : Pr := (-r.1, r.2)
theorem PrOk.neg {N : Nat} {r : Pr} (h : PrOk N r) : PrOk N (negP r) := ⟨by show (-r.1).natAbs < _; rw [Int.natAbs_neg]; exact h.1, h.2.1, h.2.2⟩
end
section
open PySem PySem.Spec PyProof.Rows L2 PySem.W PySem.Calls
section
variable {prog : Program} {w : World} {A : Around} {E : Value → Shared → Prop} {s : Shared} {K : Frag} {x D : Addr} {ox : Obj} {od : Option Obj}
theorem kit_exc (C : ExcC K D) : KitX K (.ref x) (.ref D) (fun h => InstAt h x ox D od) :=
  kitx_exc (by obtain ⟨_, hc, _⟩ := any_some C.hd; rw [hc]; rfl) C.hg C.hk C.hs C.ha C.hn C.ht C.hm
end
/-- isinstance(e, c) in the suite, e with a dict -/
theorem call_isEd {X : Cx} {a D : Addr} {oe : Obj} {pn : List (Addr × Obj)} {dd : Addr} {K : Frag} (hK : X.K = K) (C : ExcC K D) (hz : Zc (.ref D) (some dd) oe) (hf : ∃ vs, oe.data = .fields vs) :
    CallR (X.suite a ((a, oe) :: pn)) (.builtin "isinstance") (fun xs H Q => (∃ fs, H dd = some (.xd fs)) ∧ rIsE K D a xs H Q) := by
  subst hK
  intro pins s σ H xs us Q I r h
  obtain ⟨⟨fs, hdd⟩, c, cv, b, rfl, hcv, e, q⟩ := h
  cases r with
  | cons rx rr =>
    cases rr with
    | cons rt rr =>
      cases rr; cases rx
      obtain rfl := hcv _ rt
      obtain ⟨hget, _⟩ := I.pin (a, oe) (List.mem_append.mpr (.inl List.mem_cons_self))
      obtain ⟨vs, hv⟩ := hf
      obtain ⟨mA, hns, hr⟩ := (show ObjOk X.prog X.w H s.heap dd (.xd fs) from I.hok dd _ hdd)
      obtain ⟨od, ho, hl⟩ := lookIn_ns hns
      have J : InstAt s.heap a oe D (some od) := ⟨hget, hz.1, by unfold notCls; rw [hv] <;> rfl, by rw [hz.2]; exact ho⟩
      exact kia_one (kit_exc C) I.kIn J e (fun z => nomatch z) fun tk => ⟨.bl b, H, I.kept (t' := tk) fun _ _ z => z, rfl, q⟩
theorem call_isEx {X : Cx} {a D : Addr} {oe : Obj} {pn : List (Addr × Obj)} {cls : Value} {d : Option Addr} {K : Frag} (hK : X.K = K) (C : ExcC K D) (hz : Zc cls d oe) (hf : ∃ vs, oe.data = .fields vs) :
    CallR (X.suite a ((a, oe) :: pn)) (.builtin "isinstance") (fun xs H Q => cls = .ref D ∧ (∃ dd fs, d = some dd ∧ H dd = some (.xd fs)) ∧ rIsE K D a xs H Q) := by
  intro pins s σ H xs us Q I r h
  obtain ⟨rfl, ⟨dd, fs, rfl, hdd⟩, q⟩ := h
  exact call_isEd hK C hz hf pins s σ H xs us Q I r ⟨⟨fs, hdd⟩, q⟩
theorem takes_len {X : Cx} {W : WX} (tk : Takes X W) : Takes X (fun cls d σ H => σ.length = X.N.length → W cls d σ H) := fun u s' h => by
  obtain ⟨a, B, sI, pins, σ, H, cls, d, e, I, nb, up, sky, na, os, ag, w⟩ := h
  exact tk u s' ⟨a, B, sI, pins, σ, H, cls, d, e, I, nb, up, sky, na, os, ag, w I.len⟩
/-- what a refused call leaves: NoSuch's number -/
def TEmpty (CN : Addr) : (XK → Hp → VK → Prop) → Hp → VK → Prop := fun tl H Q => tl (fun cls d H' => cls = .ref CN ∧ ∃ dd v, d = some dd ∧ H' dd = some (.xd [("number", v)]) ∧ Q v H') H (fun _ H' => ∃ v : V, some (some (V.str "fine")) = some (some v) ∧ Q v H')
end
section
open PySem PySem.Spec PyProof.Rows L2
def spLaw (K : PySem.W.Frag) (T : List (Addr × Str)) : Sp := fun vs H Q _ => ∃ (a : Addr) (ns : List Int), vs = [.ref a] ∧ SqL K H a (ns.map V.int) ∧ ns.length ≤ 63 ∧ LamX.Tabs T H ∧ ∀ H', Q (.bl true) H'
theorem tabs_le {T : List (Addr × Str)} {H H' : Hp} (t : LamX.Tabs T H) (e : Le H H') : LamX.Tabs T H' := fun p hp => by
  obtain ⟨ps, h1, h2, h3⟩ := t p hp
  refine ⟨ps, e _ _ h1 trivial, h2, fun pos cv hc => ?_⟩
  obtain ⟨c, e1, e2⟩ := h3 pos cv hc
  exact ⟨c, e1, e _ _ e2 trivial⟩
end
section
open PySem PySem.Spec PyProof.Rows L2
abbrev qL : Str := (("law" : Str) ++ ".<locals>.") ++ "<lambda>"
theorem psL {X : Cx} {A : Around} {outer : List Env} {s : Shared} {H : Hp} {E : XK} {scope : Scope} {f c' : Addr} : Passes (L2.CX X.prog X.w) (LamX.lamCx X A outer s H E scope f c') E :=
  passes_call (X := LamX.lamCx X A outer s H E scope f c') (W := fun cls d _ H => E cls d H) (takes_of rfl rfl rfl rfl) (fun _ _ _ _ h => h)
theorem r_lam {T : List (Addr × Str)} {TT : (XK → Hp → VK → Prop) → Hp → VK → Prop} {t : XK → TE} {σ : L2.St} {H : Hp} {Q : VK} (h : LamX.Tabs T H) (k : ∀ H1, LamX.ExtN H H1 → LamX.Tabs T H1 → TT (fun E H' Q' => t E σ H' Q') H1 Q) : LamX.tLam T TT t σ H Q := ⟨h, k⟩
end
section
open PySem PySem.Spec PyProof.Rows L2
theorem lam_mem {q : Str} {PT : Addr} (e : q ++ ("<lambda>" : Str) = qL) : (PT, q ++ ("<lambda>" : Str)) ∈ [(PT, qL)] := by rw [e]; exact List.mem_singleton.mpr rfl
theorem lam_uni {q : Str} {PT : Addr} (e : q ++ ("<lambda>" : Str) = qL) : ∀ p ∈ [(PT, qL)], p.1 = PT → p.2 = q ++ ("<lambda>" : Str) := by
  rw [e]
  intro p hp _
  rw [List.mem_singleton.mp hp]
end
section
open PySem PySem.Spec PyProof.Rows L2
theorem lamGl {X : Cx} {A : Around} {outer : List Env} {s : Shared} {H : Hp} {E : XK} {scope : Scope} {f c' : Addr} {x : Str} (h : scope.names.lookup x = some .globalImplicit) : Gl (LamX.lamCx X A outer s H E scope f c') x := h
end
section
open PySem PySem.Spec PyProof.Rows L2 He
section
variable {P : Program} {w : World} {K : PySem.W.Frag} {mg : Str → Option Value} {base : Heap} {C_Ratio C_BadNumber C_NoSuch f_Ratio_eq f_Ratio_lt : Addr} {T_ : List (Addr × Str)}
abbrev s__law_begin : Stmt := (top 24)
theorem sc__law_begin : FnScope ["_law_script"] ["_law_script"] (defScope s__law_begin) := ⟨rfl, rfl, rfl, by decide +kernel, rfl, by decide +kernel, by decide +kernel⟩
theorem ok__law_begin {f : Addr} {fd : FuncData} (F : FunD K "_law_begin" "_law_begin" (defArgs s__law_begin) (defBody s__law_begin) (defScope s__law_begin) [] [] f fd) (TB : TBl mg) (TR : RT K mg C_Ratio) : FnOk P w K mg base (L2.CX P w) 1 f fd ["_law_script"] (spBegin K) := by
  refine F.ok (CX := L2.CX P w) sc__law_begin (fun vs H Q E h => ?_) (fun cdv A outer s H vs Q E hr h => ?_)
  · obtain ⟨a, ns, rfl, _⟩ := h; rfl
  · obtain ⟨a, ns, rfl, ha, hn, k⟩ := h
    refine ⟨_, (pss_one (ps_ret (pe_disp (pps_cons pe_str (pe_op op_cat (pe_callTy (kc_listof (K := K) rfl) (by rfl) TB.b_list (by decide +kernel) (pa_cons (pe_slice (ksl_l (K := K) rfl) (pv 0) po_none (po_some pe_int)) pa_nil)) (pe_op op_rep (pe_lst (pa_cons pe_int pa_nil)) (pe_callTy kc_int1 (by rfl) TB.b_int (by decide +kernel) (pa_cons (pe_cmpR op_eq (pe_callB (kc_len (K := K) rfl) (by rfl) TB.b_len PySem.boot_len (pa_cons (pv 0) pa_nil)) pe_int (nomark _)) pa_nil)))) (pps_cons pe_str pe_int (pps_cons pe_str pe_int pps_nil))) (by rfl) (by rfl) (fun z => by cases z) (by decide)))), ?_⟩
    have hl : (ns.map V.int).length = ns.length := List.length_map _
    wtm_at "of_rd"
    refine r_disp ?_
    intro p H1 e1 n1 h1
    refine r_pairs ?_
    wtm_at "of_rd"
    refine r_slS (by with_unfolding_all rfl) (e1.seq ha) ?_
    intro p2 H2 e2 n2 h2
    have cu : cutV (ns.map V.int) none (some (63 : Int)) = ns.map V.int := cutV_upto (n := 63) (by rw [hl]; exact hn)
    rw [cu] at h2
    wtm_at "of_rd"
    refine q_listL h2 ?_
    intro p3 H3 e3 n3 h3
    wtm_at "of_rd"
    refine r_laidL (by show 1 ≤ 1000; decide) ?_
    intro p4 H4 e4 n4 h4
    wtm_at "of_rd"
    refine q_lenS (by with_unfolding_all rfl) ((((e1.trans e2).trans e3).trans e4).seq ha) ?_
    wtm_at "of_rd"
    refine r_rep h4 (by split <;> decide) (by split <;> decide) (by show 1 ≤ 1000; decide) ?_
    intro p5 H5 e5 n5 h5
    obtain ⟨ms, hm, hm1, hm2⟩ : ∃ ms : List Int, (List.replicate (if decide ((((ns.map V.int).length : Nat) : Int) = 0) = true then (1 : Int) else 0).toNat [V.int 0]).flatten = ms.map V.int ∧ 0 < ns.length + ms.length ∧ ns.length + ms.length ≤ 63 := by
      by_cases hz : ns = []
      · subst hz; exact ⟨[0], rfl, by decide, by decide⟩
      · have h0 : 0 < ns.length := List.length_pos_iff.mpr hz
        refine ⟨[], ?_, by simpa using h0, by simpa using hn⟩
        rw [decide_eq_false (by rw [hl]; omega)]; rfl
    rw [hm] at h5
    refine r_cat ((e4.trans e5) _ _ h3) h5 (by rw [hl, List.length_map]; omega) ?_
    intro p6 H6 e6 n6 h6
    have hp5 := (((e2.trans e3).trans e4).trans e5) _ _ h1
    have np : p6 ≠ p := fun z => by subst z; rw [hp5] at n6; cases n6
    refine r_pairs ?_
    wtm_at "of_rd"
    refine r_pairs ?_
    wtm_at "of_rd"
    refine r_pairs0 ?_
    refine disp_end (kvs := tpK p6 0 0) (e6 _ _ hp5) (by show 3 ≤ 15; decide) tp_new ?_ rfl
    exact k _ p p6 ((((((e1.trans e2).trans e3).trans e4).trans e5).trans e6).put n1) n1 (none_of ((((e1.trans e2).trans e3).trans e4).trans e5) n6) ⟨0, 0, ns ++ ms, upd_same, by rw [upd_ne np, h6, List.map_append], by rw [List.length_append]; exact hm1, by rw [List.length_append]; exact hm2, Int.le_refl _, Int.le_refl _⟩
abbrev s__law_draw : Stmt := (top 25)
theorem sc__law_draw : FnScope ["_law_tape", "_law_limit", "_law_mixed", "_law_found", "_law_at", "_law_span", "_law_cell"] ["_law_tape", "_law_limit"] (defScope s__law_draw) := ⟨rfl, rfl, rfl, by decide +kernel, rfl, by decide +kernel, by decide +kernel⟩
theorem ok__law_draw {f : Addr} {fd : FuncData} (F : FunD K "_law_draw" "_law_draw" (defArgs s__law_draw) (defBody s__law_draw) (defScope s__law_draw) [] [] f fd) (TB : TBl mg) (TR : RT K mg C_Ratio) : FnOk P w K mg base (L2.CX P w) 1 f fd ["_law_tape", "_law_limit"] (spDraw) := by
  refine F.ok (CX := L2.CX P w) sc__law_draw (fun vs H Q E h => ?_) (fun cdv A outer s H vs Q E hr h => ?_)
  · obtain ⟨p, m, n, rfl, _⟩ := h; rfl
  · obtain ⟨p, m, n, rfl, c, ⟨a, r, ns, h1, h2, h3, h4, h5, h6⟩, hn, hm, hm4, k⟩ := h
    refine ⟨_, (pss_cons (ps_if (pt_cmpR op_lt (pe_dget (hu_of hr) (pv 0) pe_str (fun _ _ => rfl)) (pv 1) (nomark _)) (pss_cons (ps_par (i := 4) (j := 5) rfl sc__law_draw.nd rfl rfl (by decide) rfl rfl (pa_cons (pe_dget (hu_of hr) (pv 0) pe_str (fun _ _ => rfl)) (pa_cons (pe_callB (kc_len (K := K) rfl) (by rfl) TB.b_len PySem.boot_len (pa_cons (pe_dget (hu_of hr) (pv 0) pe_str (fun _ _ => rfl)) pa_nil)) pa_nil)) (by rfl)) (pss_cons (ps_asg (pe_tup (pa_cons (pe_ix (kix_l (K := K) rfl) (pe_dget (hu_of hr) (pv 0) pe_str (fun _ _ => rfl)) (pe_op op_mod (pe_callTy kc_int1 (by rfl) TB.b_int (by decide +kernel) (pa_cons (pv 4) pa_nil)) (pv 5)) (fun _ _ => rfl)) (pa_cons (pe_op op_add (pv 4) pe_int) pa_nil))) (kpg_tup (K := K) 2 rfl rfl (pgs_cons (pg_name (i := 6) sc__law_draw.nd rfl (Or.inl rfl)) (pgs_cons (pg_sub (pv 0) pe_str (set_dict (hu_of hr))) pgs_nil)))) (pss_cons (ps_set (i := 2) sc__law_draw.nd rfl (Or.inl rfl) (pe_op op_add (pe_op op_add (pe_op op_mulA (pe_callTy kc_int1 (by rfl) TB.b_int (by decide +kernel) (pa_cons (pv 6) pa_nil)) pe_int) (pe_op op_mulA (pe_op op_mulA pe_int (pv 4)) (pv 4))) pe_int)) (pss_cons (ps_set (i := 2) sc__law_draw.nd rfl (Or.inl rfl) (pe_op op_mod (pe_callTy kc_int1 (by rfl) TB.b_int (by decide +kernel) (pa_cons (pv 2) pa_nil)) pe_int)) (pss_cons (ps_dput (hu_of hr) (pv 0) pe_str (pe_op op_mod (pe_callTy kc_int1 (by rfl) TB.b_int (by decide +kernel) (pa_cons (pe_op op_add (pe_op op_pow (pv 2) pe_int) (pe_op op_mulA (pe_op op_mulA (pe_op op_mulA pe_int (pv 4)) (pv 2)) (pv 2))) pa_nil)) (pe_op op_add (pe_op op_pow pe_int pe_int) pe_int)) rfl) (pss_one (ps_if (pw_and (pt_cmpR op_ge (pv 6) (pe_op op_pow pe_int pe_int) (nomark _)) (pw_and1 (pt_cmpR op_lt (pv 4) (pv 5) (nomark _)))).pt (pss_one (ps_dput (hu_of hr) (pv 0) pe_str (pe_op op_sub (pv 6) (pe_op op_pow pe_int pe_int)) rfl)) pss_nil))))))) pss_nil) (pss_cons (ps_asg (pe_tup (pa_cons (pe_op op_mod (pe_callTy kc_int1 (by rfl) TB.b_int (by decide +kernel) (pa_cons (pe_dget (hu_of hr) (pv 0) pe_str (fun _ _ => rfl)) pa_nil)) (pv 1)) (pa_cons (pe_op op_fdivW (pe_dget (hu_of hr) (pv 0) pe_str (fun _ _ => rfl)) (pv 1)) pa_nil))) (kpg_tup (K := K) 2 rfl rfl (pgs_cons (pg_name (i := 3) sc__law_draw.nd rfl (Or.inl rfl)) (pgs_cons (pg_sub (pv 0) pe_str (set_dict (hu_of hr))) pgs_nil)))) (pss_one (ps_ret (pv 3))))), ?_⟩
    wtm_at "of_rd"
    refine dAt h1 tp_rest ?_
    wtm_at "of_rd"
    have hc : c ≠ p := ne_of h2 h1 (by intro z; cases z)
    refine ite2 (fun hlt => ?_) (fun hge => ?_)
    · wtm_at "of_rd"
      refine dAt h1 tp_at ?_
      wtm_at "of_rd"
      refine dAt h1 tp_cells ?_
      wtm_at "of_rd"
      refine q_lenL h2 ?_
      wtm_at "of_rd"
      refine dAt h1 tp_cells ?_
      wtm_at "of_rd"
      refine r_I (by rw [List.length_map]; omega) ?_
      obtain ⟨z, hz⟩ := at_mod (a := a) h3
      refine r_iL1 h2 hz ?_
      wtm_at "of_rd"
      refine r_laidT (by show 2 ≤ 1000; decide) ?_
      intro t H1 e1 n1 g1
      have h1' := e1 _ _ h1
      refine r_gTup g1 rfl ?_
      wtm_at "of_rd"
      refine dPut h1' (by show 3 ≤ 1000; decide) tp_putAt ?_
      have L1 : Le H (upd H1 p (.dK (tpK c (a + 1) r))) := e1.le.trans (Le.dict h1')
      have g2 := L1.lst h2
      have a64 : a.natAbs < 2 ^ 64 := by
        have e : (2 : Nat) ^ 64 = 18446744073709551616 := by decide
        omega
      wtm_at "of_rd"
      refine r_I (cmA_r a64) ?_
      wtm_at "of_rd"
      refine r_I (by decide) ?_
      generalize hM : (_ % (2305843009213693907 : Int)) = M
      have M0 : 0 ≤ M := by rw [← hM]; exact Int.emod_nonneg _ (by decide)
      have M1 : M < 2305843009213693907 := by rw [← hM]; exact Int.emod_lt_of_pos _ (by decide)
      have M2 : M.natAbs < 2 ^ 64 := by
        have e : (2 : Nat) ^ 64 = 18446744073709551616 := by decide
        omega
      wtm_at "of_rd"
      refine r_I ⟨by decide, by decide, M2⟩ ?_
      wtm_at "of_rd"
      refine r_I (cmA_r M2) ?_
      wtm_at "of_rd"
      refine r_I (cmA_r M2) ?_
      wtm_at "of_rd"
      refine r_I ⟨by decide, by decide, by decide⟩ ?_
      wtm_at "of_rd"
      refine r_I (by decide) ?_
      generalize (_ % ((10 : Int) ^ (47 : Int).toNat + 9)) = R0
      wtm_at "of_rd"
      refine dPut upd_same (by show 3 ≤ 1000; decide) tp_putRest ?_
      have L2 := L1.trans (Le.dict (o := .dK (tpK c (a + 1) R0)) upd_same)
      wtm_at "of_rd"
      refine r_I ⟨by decide, by decide, by decide⟩ ?_
      wtm_at "of_rd"
      refine ite2 (fun hz => ?_) (fun hz => ?_)
      · wtm_at "of_rd"
        refine ite2 (fun hs => ?_) (fun hs => ?_)
        · wtm_at "of_rd"
          refine r_I ⟨by decide, by decide, by decide⟩ ?_
          wtm_at "of_rd"
          refine dPut upd_same (by show 3 ≤ 1000; decide) tp_putRest ?_
          have L3 := L2.trans (Le.dict (o := .dK (tpK c (a + 1) (z - 10 ^ (18 : Int).toNat))) upd_same)
          wtm_at "of_rd"
          refine dAt upd_same tp_rest ?_
          wtm_at "of_rd"
          refine r_I hm ?_
          wtm_at "of_rd"
          refine dAt upd_same tp_rest ?_
          wtm_at "of_rd"
          refine r_I ⟨hm, PySem.Flt.log2_lt_of (by decide) (pow_mono hm4 (by decide))⟩ ?_
          wtm_at "of_rd"
          refine r_laidT (by show 2 ≤ 1000; decide) ?_
          intro t2 H2 e2 n2 g3
          refine r_gTup g3 rfl ?_
          wtm_at "of_rd"
          refine dPut (e2 _ _ upd_same) (by show 3 ≤ 1000; decide) tp_putRest ?_
          have L9 : ∀ o, Le H (upd H2 p o) := fun o => (L3.trans e2.le).trans (Le.dict (e2 _ _ upd_same))
          wtm_at "of_rd"
          exact k _ _ (L9 _) ⟨a + 1, _, ns, upd_same, (L9 _).lst h2, h3, h4, by omega, by omega⟩ (Int.emod_nonneg _ (by omega)) (Int.emod_lt_of_pos _ hm)
        · wtm_at "of_rd"
          refine dAt upd_same tp_rest ?_
          wtm_at "of_rd"
          refine r_I hm ?_
          wtm_at "of_rd"
          refine dAt upd_same tp_rest ?_
          wtm_at "of_rd"
          refine r_I ⟨hm, PySem.Flt.log2_lt_of (by decide) (pow_mono hm4 (by decide))⟩ ?_
          wtm_at "of_rd"
          refine r_laidT (by show 2 ≤ 1000; decide) ?_
          intro t2 H2 e2 n2 g3
          refine r_gTup g3 rfl ?_
          wtm_at "of_rd"
          refine dPut (e2 _ _ upd_same) (by show 3 ≤ 1000; decide) tp_putRest ?_
          have L9 : ∀ o, Le H (upd H2 p o) := fun o => (L2.trans e2.le).trans (Le.dict (e2 _ _ upd_same))
          wtm_at "of_rd"
          exact k _ _ (L9 _) ⟨a + 1, _, ns, upd_same, (L9 _).lst h2, h3, h4, by omega, by omega⟩ (Int.emod_nonneg _ (by omega)) (Int.emod_lt_of_pos _ hm)
      · wtm_at "of_rd"
        refine dAt upd_same tp_rest ?_
        wtm_at "of_rd"
        refine r_I hm ?_
        wtm_at "of_rd"
        refine dAt upd_same tp_rest ?_
        wtm_at "of_rd"
        refine r_I ⟨hm, PySem.Flt.log2_lt_of (by decide) (pow_mono hm4 (by decide))⟩ ?_
        wtm_at "of_rd"
        refine r_laidT (by show 2 ≤ 1000; decide) ?_
        intro t2 H2 e2 n2 g3
        refine r_gTup g3 rfl ?_
        wtm_at "of_rd"
        refine dPut (e2 _ _ upd_same) (by show 3 ≤ 1000; decide) tp_putRest ?_
        have L9 : ∀ o, Le H (upd H2 p o) := fun o => (L2.trans e2.le).trans (Le.dict (e2 _ _ upd_same))
        wtm_at "of_rd"
        exact k _ _ (L9 _) ⟨a + 1, _, ns, upd_same, (L9 _).lst h2, h3, h4, by omega, by omega⟩ (Int.emod_nonneg _ (by omega)) (Int.emod_lt_of_pos _ hm)
    · wtm_at "of_rd"
      refine dAt h1 tp_rest ?_
      wtm_at "of_rd"
      refine r_I hm ?_
      wtm_at "of_rd"
      refine dAt h1 tp_rest ?_
      wtm_at "of_rd"
      refine r_I ⟨hm, PySem.Flt.log2_lt_of (by decide) (pow_mono hm4 (by decide))⟩ ?_
      wtm_at "of_rd"
      refine r_laidT (by show 2 ≤ 1000; decide) ?_
      intro t H1 e1 n1 g1
      have h1' := e1 _ _ h1
      refine r_gTup g1 rfl ?_
      wtm_at "of_rd"
      refine dPut h1' (by show 3 ≤ 1000; decide) tp_putRest ?_
      have L1 : Le H (upd H1 p (.dK (tpK c a (r / m)))) := e1.le.trans (Le.dict h1')
      wtm_at "of_rd"
      exact k _ _ L1 ⟨a, _, ns, upd_same, L1.lst h2, h3, h4, h5, by omega⟩ (Int.emod_nonneg _ (by omega)) (Int.emod_lt_of_pos _ hm)
abbrev s__law_pick : Stmt := (top 26)
theorem sc__law_pick : FnScope ["_law_tape", "_law_some"] ["_law_tape", "_law_some"] (defScope s__law_pick) := ⟨rfl, rfl, rfl, by decide +kernel, rfl, by decide +kernel, by decide +kernel⟩
theorem ok__law_pick {f : Addr} {fd : FuncData} (F : FunD K "_law_pick" "_law_pick" (defArgs s__law_pick) (defBody s__law_pick) (defScope s__law_pick) [] [] f fd) (TB : TBl mg) (TR : RT K mg C_Ratio) (c__law_draw : Cl P w K mg base 1 "_law_draw" (spDraw)) : FnOk P w K mg base (L2.CX P w) 2 f fd ["_law_tape", "_law_some"] (spPick) := by
  refine F.ok (CX := L2.CX P w) sc__law_pick (fun vs H Q E h => ?_) (fun cdv A outer s H vs Q E hr h => ?_)
  · obtain ⟨p, k, xs, n, rfl, _⟩ := h; rfl
  · obtain ⟨p, k, xs, n, rfl, c, hT, hn, hk, h0, h1, kont⟩ := h
    refine ⟨_, (pss_one (ps_ret (pe_ix (kix_l (K := K) rfl) (pv 1) (pe_cl c__law_draw hr (by decide) (by rfl) psE (pa_cons (pv 0) (pa_cons (pe_callB (kc_len (K := K) rfl) (by rfl) TB.b_len PySem.boot_len (pa_cons (pv 1) pa_nil)) pa_nil))) (fun _ _ => rfl)))), ?_⟩
    wtm_at "of_rd"
    refine q_lenL hk ?_
    wtm_at "of_rd"
    refine ⟨p, _, n, rfl, _, hT, hn, by omega, ?_, ?_⟩
    · rw [Int.natAbs_natCast]
      exact pow_mono (n := 30) (Nat.lt_of_le_of_lt h1 (by decide)) (by decide)
    intro H1 d L1 T1 d0 d1
    obtain ⟨j, rfl⟩ : ∃ j : Nat, d = j := ⟨d.toNat, by omega⟩
    have hj : j < xs.length := by omega
    refine r_iL1 (L1.lst hk) (atI_nat (List.getElem?_eq_getElem hj)) ?_
    exact kont H1 j _ L1 T1 (List.getElem?_eq_getElem hj)
abbrev s__law_ten : Stmt := (top 27)
theorem sc__law_ten : FnScope ["_law_figures"] ["_law_figures"] (defScope s__law_ten) := ⟨rfl, rfl, rfl, by decide +kernel, rfl, by decide +kernel, by decide +kernel⟩
theorem ok__law_ten {f : Addr} {fd : FuncData} (F : FunD K "_law_ten" "_law_ten" (defArgs s__law_ten) (defBody s__law_ten) (defScope s__law_ten) [] [] f fd) (TB : TBl mg) (TR : RT K mg C_Ratio) : FnOk P w K mg base (L2.CX P w) 1 f fd ["_law_figures"] (spTen) := by
  refine F.ok (CX := L2.CX P w) sc__law_ten (fun vs H Q E h => ?_) (fun cdv A outer s H vs Q E hr h => ?_)
  · obtain ⟨f, rfl, _⟩ := h; rfl
  · obtain ⟨f, rfl, hf, k⟩ := h
    refine ⟨_, (pss_one (ps_ret (pe_callTy kc_intS (by rfl) TB.b_int (by decide +kernel) (pa_cons (pe_op kop_addS pe_str (pe_op op_mul_str pe_str (pv 0))) pa_nil)))), ?_⟩
    wtm_at "of_rd"
    refine ⟨_, f, rfl, rfl, by omega, by decide +kernel, ?_⟩
    refine q_addS (by rw [reps_len, show ("1" : Str).length = 1 from by decide +kernel, sizeLine_eq]; omega) ?_
    wtm_at "of_rd"
    exact q_intS (ten_ok hf).1 (ten_ok hf).2 k
end
end
section
open PySem PySem.Spec PyProof.Rows L2 He
section
variable {P : Program} {w : World} {K : PySem.W.Frag} {mg : Str → Option Value} {base : Heap} {C_Ratio C_BadNumber C_NoSuch f_Ratio_eq f_Ratio_lt : Addr} {T_ : List (Addr × Str)}
abbrev s__law_long : Stmt := (top 28)
theorem sc__law_long : FnScope ["_law_tape", "_law_figures", "_law_found", "_law_k"] ["_law_tape", "_law_figures"] (defScope s__law_long) := ⟨rfl, rfl, rfl, by decide +kernel, rfl, by decide +kernel, by decide +kernel⟩
theorem ok__law_long {f : Addr} {fd : FuncData} (F : FunD K "_law_long" "_law_long" (defArgs s__law_long) (defBody s__law_long) (defScope s__law_long) [] [] f fd) (TB : TBl mg) (TR : RT K mg C_Ratio) (c__law_draw : Cl P w K mg base 1 "_law_draw" (spDraw)) (c__law_ten : Cl P w K mg base 1 "_law_ten" (spTen)) : FnOk P w K mg base (L2.CX P w) 2 f fd ["_law_tape", "_law_figures"] (spNum 40 0 false) := by
  refine F.ok (CX := L2.CX P w) sc__law_long (fun vs H Q E h => ?_) (fun cdv A outer s H vs Q E hr h => ?_)
  · obtain ⟨p, f, n, rfl, _⟩ := h; rfl
  · obtain ⟨p, f, n, rfl, c, hT, hn, hlo, hf, k⟩ := h
    refine ⟨_, (pss_cons (ps_set (i := 2) sc__law_long.nd rfl (Or.inl rfl) pe_int) (pss_cons (ps_for (passes_of rfl) rfl (pi_range1 (by rfl) TB.b_range (pa_cons (pe_op op_fdivW (pe_op op_add (pv 1) pe_int) pe_int) pa_nil)) (pg_name (i := 3) sc__law_long.nd rfl (Or.inl rfl)) (pss_one (ps_set (i := 2) sc__law_long.nd rfl (Or.inl rfl) (pe_op op_add (pe_op op_mulA (pv 2) (pe_op op_pow pe_int pe_int)) (pe_cl c__law_draw hr (by decide) (by rfl) psE (pa_cons (pv 0) (pa_cons (pe_op op_pow pe_int pe_int) pa_nil))))))) (pss_one (ps_ret (pe_op op_mod (pe_callTy kc_int1 (by rfl) TB.b_int (by decide +kernel) (pa_cons (pv 2) pa_nil)) (pe_cl c__law_ten hr (by decide) (by rfl) psE (pa_cons (pv 1) pa_nil))))))), ?_⟩
    wtm_at "of_rd"
    refine r_I ⟨by decide, by decide⟩ ?_
    wtm_at "of_rd"
    refine i_R (n := (f + 14) / 15) (by omega) (by omega) ?_
    refine fR' (fun i σ H' => ∃ (x : Int) (v : Option V), σ = [some (.ref p), some (.int f), some (.int x), v] ∧ Le H H' ∧ Tape H' p c (n + i)) ⟨0, none, rfl, Le.refl H, hT⟩ ?_ ?_
    · rintro i σ H1 hi ⟨x, v, rfl, L1, T1⟩
      wtm_at "of_rd"
      refine r_I ⟨by decide, by decide, by decide⟩ ?_
      wtm_at "of_rd"
      refine r_I ⟨by decide, by decide, by decide⟩ ?_
      wtm_at "of_rd"
      refine ⟨p, _, n + i, rfl, _, T1, by omega, by decide, pow_mono (n := 64) (by decide) (by decide), ?_⟩
      intro H2 d L2 T2 d0 d1
      wtm_at "of_rd"
      exact ⟨_, _, rfl, L1.trans L2, T2⟩
    · rintro σ H1 ⟨x, v, rfl, L1, T1⟩
      wtm_at "of_rd"
      refine ⟨f, rfl, by omega, ?_⟩
      have hp : (0 : Int) < ((10 ^ f : Nat) : Int) := by
        have := Nat.pow_pos (n := f) (show 0 < 10 by decide)
        omega
      refine r_I hp ?_
      have m0 := Int.emod_nonneg x (show ((10 ^ f : Nat) : Int) ≠ 0 by omega)
      have m1 := Int.emod_lt_of_pos x hp
      exact k H1 _ L1 (T1.mono (by omega)) (fun _ => m0) (by omega)
abbrev s__law_size : Stmt := (top 29)
theorem sc__law_size : FnScope ["_law_tape", "_law_figures", "_law_sort"] ["_law_tape", "_law_figures"] (defScope s__law_size) := ⟨rfl, rfl, rfl, by decide +kernel, rfl, by decide +kernel, by decide +kernel⟩
theorem ok__law_size {f : Addr} {fd : FuncData} (F : FunD K "_law_size" "_law_size" (defArgs s__law_size) (defBody s__law_size) (defScope s__law_size) [] [] f fd) (TB : TBl mg) (TR : RT K mg C_Ratio) (c__law_draw : Cl P w K mg base 1 "_law_draw" (spDraw)) (c__law_ten : Cl P w K mg base 1 "_law_ten" (spTen)) (c__law_long : Cl P w K mg base 2 "_law_long" (spNum 40 0 false)) : FnOk P w K mg base (L2.CX P w) 3 f fd ["_law_tape", "_law_figures"] (spNum 50 2 false) := by
  refine F.ok (CX := L2.CX P w) sc__law_size (fun vs H Q E h => ?_) (fun cdv A outer s H vs Q E hr h => ?_)
  · obtain ⟨p, f, n, rfl, _⟩ := h; rfl
  · obtain ⟨p, f, n, rfl, c, hT, hn, hlo, hf, k⟩ := h
    refine ⟨_, (pss_cons (ps_set (i := 2) sc__law_size.nd rfl (Or.inl rfl) (pe_cl c__law_draw hr (by decide) (by rfl) psE (pa_cons (pv 0) (pa_cons pe_int pa_nil)))) (pss_cons (ps_if (pt_cmpR op_lt (pv 2) pe_int (nomark _)) (pss_one (ps_ret (pe_cl c__law_draw hr (by decide) (by rfl) psE (pa_cons (pv 0) (pa_cons (pe_ix (kix_l (K := K) rfl) (pe_lst (pa_cons pe_int (pa_cons pe_int (pa_cons pe_int pa_nil)))) (pv 2) (fun _ _ => rfl)) pa_nil))))) pss_nil) (pss_cons (ps_if (pt_cmpR op_eq (pv 2) pe_int (nomark _)) (pss_one (ps_ret (pe_cl c__law_long hr (by decide) (by rfl) psE (pa_cons (pv 0) (pa_cons (pe_op op_add pe_int (pe_cl c__law_draw hr (by decide) (by rfl) psE (pa_cons (pv 0) (pa_cons (pv 1) pa_nil)))) pa_nil))))) pss_nil) (pss_cons (ps_if (pt_cmpR op_eq (pv 2) pe_int (nomark _)) (pss_one (ps_ret (pe_cl c__law_long hr (by decide) (by rfl) psE (pa_cons (pv 0) (pa_cons (pv 1) pa_nil))))) pss_nil) (pss_one (ps_ret (pe_callB (kc_max rfl) (by rfl) TB.b_max (by decide +kernel) (pa_cons pe_int (pa_cons (pe_op op_sub (pe_op op_sub (pe_cl c__law_ten hr (by decide) (by rfl) psE (pa_cons (pe_op op_add pe_int (pe_cl c__law_draw hr (by decide) (by rfl) psE (pa_cons (pv 0) (pa_cons (pv 1) pa_nil)))) pa_nil)) (pe_cl c__law_draw hr (by decide) (by rfl) psE (pa_cons (pv 0) (pa_cons pe_int pa_nil)))) pe_int) pa_nil))))))))), ?_⟩
    have p90 : 90 < 10 ^ f := Nat.lt_of_lt_of_le (by decide : 90 < 10 ^ 2) (Nat.pow_le_pow_right (by decide) hlo)
    have sm : ∀ m : Int, m.natAbs < 2 ^ 64 → m.natAbs < 2 ^ 4000 := fun m h => pow_mono h (by decide)
    have e64 : (2 : Nat) ^ 64 = 18446744073709551616 := by decide
    wtm_at "of_rd"
    refine ⟨p, 6, n, rfl, _, hT, by omega, by decide, sm _ (by decide), ?_⟩
    intro H1 d L1 T1 d0 d1
    wtm_at "of_rd"
    refine ite2 (fun h3 => ?_) (fun h3 => ?_)
    · wtm_at "of_rd"
      refine r_laidL (by show 3 ≤ 1000; decide) ?_
      intro l H2 e2 n2 h2
      wtm_at "of_rd"
      obtain ⟨j, rfl⟩ : ∃ j : Nat, d = j := ⟨d.toNat, by omega⟩
      obtain ⟨z, hz, z0, z1⟩ : ∃ z : Int, ([V.int 5, V.int 13, V.int 90])[j]? = some (V.int z) ∧ 0 < z ∧ z ≤ 90 := by
        match j, h3 with
        | 0, _ => exact ⟨5, rfl, by decide, by decide⟩
        | 1, _ => exact ⟨13, rfl, by decide, by decide⟩
        | 2, _ => exact ⟨90, rfl, by decide, by decide⟩
        | j + 3, h => omega
      refine r_iL1 h2 (atI_nat hz) ?_
      wtm_at "of_rd"
      refine ⟨p, z, n + 1, rfl, _, T1.ex e2, by omega, z0, sm _ (by omega), ?_⟩
      intro H3 d' L3 T3 c0 c1
      exact k H3 d' ((L1.trans e2.le).trans L3) (T3.mono (by omega)) (fun _ => c0) (by omega)
    · wtm_at "of_rd"
      refine ite2 (fun h4 => ?_) (fun h4 => ?_)
      · wtm_at "of_rd"
        refine ⟨p, f, n + 1, rfl, _, T1, by omega, by omega, sm _ (by omega), ?_⟩
        intro H2 d2 L2 T2 c0 c1
        wtm_at "of_rd"
        obtain ⟨j, rfl⟩ : ∃ j : Nat, d2 = j := ⟨d2.toNat, by omega⟩
        refine ⟨p, 1 + j, n + 2, by rw [show (1 : Int) + (j : Int) = ((1 + j : Nat) : Int) from by omega], _, T2, by omega, by omega, by omega, ?_⟩
        intro H3 d3 L3 T3 b0 b1
        exact k H3 d3 ((L1.trans L2).trans L3) (T3.mono (by omega)) b0 (Nat.lt_of_lt_of_le b1 (Nat.pow_le_pow_right (by decide) (by omega)))
      · wtm_at "of_rd"
        refine ite2 (fun h5 => ?_) (fun h5 => ?_)
        · wtm_at "of_rd"
          refine ⟨p, f, n + 1, rfl, _, T1, by omega, by omega, hf, ?_⟩
          intro H3 d3 L3 T3 b0 b1
          exact k H3 d3 (L1.trans L3) (T3.mono (by omega)) b0 b1
        · wtm_at "of_rd"
          refine ⟨p, f, n + 1, rfl, _, T1, by omega, by omega, sm _ (by omega), ?_⟩
          intro H2 d2 L2 T2 c0 c1
          wtm_at "of_rd"
          obtain ⟨j, rfl⟩ : ∃ j : Nat, d2 = j := ⟨d2.toNat, by omega⟩
          refine ⟨1 + j, by rw [show (1 : Int) + (j : Int) = ((1 + j : Nat) : Int) from by omega], by omega, ?_⟩
          wtm_at "of_rd"
          refine ⟨p, 4, n + 2, rfl, _, T2, by omega, by decide, sm _ (by decide), ?_⟩
          intro H3 d3 L3 T3 b0 b1
          wtm_at "of_rd"
          refine q_max ?_
          have pj : 10 ^ (1 + j) ≤ 10 ^ f := Nat.pow_le_pow_right (by decide) (by omega)
          have pp : 0 < 10 ^ (1 + j) := Nat.pow_pos (by decide)
          exact k H3 _ ((L1.trans L2).trans L3) (T3.mono (by omega)) (fun _ => by omega) (by omega)
abbrev s__law_number : Stmt := (top 30)
theorem sc__law_number : FnScope ["_law_tape", "_law_figures", "_law_found"] ["_law_tape", "_law_figures"] (defScope s__law_number) := ⟨rfl, rfl, rfl, by decide +kernel, rfl, by decide +kernel, by decide +kernel⟩
theorem ok__law_number {f : Addr} {fd : FuncData} (F : FunD K "_law_number" "_law_number" (defArgs s__law_number) (defBody s__law_number) (defScope s__law_number) [] [] f fd) (TR : RT K mg C_Ratio) (c__law_draw : Cl P w K mg base 1 "_law_draw" (spDraw)) (c__law_size : Cl P w K mg base 3 "_law_size" (spNum 50 2 false)) : FnOk P w K mg base (L2.CX P w) 4 f fd ["_law_tape", "_law_figures"] (spNum 51 2 true) := by
  refine F.ok (CX := L2.CX P w) sc__law_number (fun vs H Q E h => ?_) (fun cdv A outer s H vs Q E hr h => ?_)
  · obtain ⟨p, f, n, rfl, _⟩ := h; rfl
  · obtain ⟨p, f, n, rfl, c, hT, hn, hlo, hf, k⟩ := h
    refine ⟨_, (pss_cons (ps_set (i := 2) sc__law_number.nd rfl (Or.inl rfl) (pe_cl c__law_size hr (by decide) (by rfl) psE (pa_cons (pv 0) (pa_cons (pv 1) pa_nil)))) (pss_one (ps_ret (pe_ifExp (pt_tr (pe_cl c__law_draw hr (by decide) (by rfl) psE (pa_cons (pv 0) (pa_cons pe_int pa_nil))) (ktru (K := K) rfl) (fun _ => rfl)) (pe_un un_neg (pv 2)) (pv 2))))), ?_⟩
    wtm_at "of_rd"
    refine ⟨p, f, n, rfl, _, hT, by omega, hlo, hf, ?_⟩
    intro H1 d L1 T1 d0 d1
    wtm_at "of_rd"
    refine ⟨p, 2, n + 50, rfl, _, T1, by omega, by decide, pow_mono (n := 64) (by decide) (by decide), ?_⟩
    intro H2 e L2 T2 c0 c1
    refine q_truI ?_
    refine ite2 (fun h => ?_) (fun h => ?_)
    · wtm_at "of_rd"
      exact k H2 _ (L1.trans L2) (T2.mono (by omega)) (fun z => by cases z) (by omega)
    · wtm_at "of_rd"
      exact k H2 _ (L1.trans L2) (T2.mono (by omega)) (fun z => by cases z) d1
abbrev s__law_gcd : Stmt := (top 31)
theorem sc__law_gcd : FnScope ["_law_one", "_law_other", "_law_k"] ["_law_one", "_law_other"] (defScope s__law_gcd) := ⟨rfl, rfl, rfl, by decide +kernel, rfl, by decide +kernel, by decide +kernel⟩
theorem ok__law_gcd {f : Addr} {fd : FuncData} (F : FunD K "_law_gcd" "_law_gcd" (defArgs s__law_gcd) (defBody s__law_gcd) (defScope s__law_gcd) [] [] f fd) (TB : TBl mg) (TR : RT K mg C_Ratio) : FnOk P w K mg base (L2.CX P w) 1 f fd ["_law_one", "_law_other"] (spII (fun a b => ((Int.gcd a b : Nat) : Int))) := by
  refine F.ok (CX := L2.CX P w) sc__law_gcd (fun vs H Q E h => ?_) (fun cdv A outer s H vs Q E hr h => ?_)
  · obtain ⟨a, b, rfl, _⟩ := h; rfl
  · obtain ⟨a, b, rfl, ha, hb, k⟩ := h
    refine ⟨_, (pss_cons (ps_par (i := 0) (j := 1) rfl sc__law_gcd.nd rfl rfl (by decide) rfl rfl (pa_cons (pe_callB kc_abs (by rfl) TB.b_abs (by decide +kernel) (pa_cons (pv 0) pa_nil)) (pa_cons (pe_callB kc_abs (by rfl) TB.b_abs (by decide +kernel) (pa_cons (pv 1) pa_nil)) pa_nil)) (by rfl)) (pss_cons (ps_for (passes_of rfl) rfl (pi_range1 (by rfl) TB.b_range (pa_cons (pe_op op_pow pe_int pe_int) pa_nil)) (pg_name (i := 2) sc__law_gcd.nd rfl (Or.inl rfl)) (pss_cons (ps_if (pt_cmpR op_eq (pv 1) pe_int (nomark _)) (pss_one ps_break) pss_nil) (pss_one (ps_par (i := 0) (j := 1) rfl sc__law_gcd.nd rfl rfl (by decide) rfl rfl (pa_cons (pv 1) (pa_cons (pe_op op_mod (pe_callTy kc_int1 (by rfl) TB.b_int (by decide +kernel) (pa_cons (pv 0) pa_nil)) (pv 1)) pa_nil)) (by rfl))))) (pss_one (ps_ret (pv 0))))), ?_⟩
    wtm_at "of_rd"
    refine q_abs ?_
    wtm_at "of_rd"
    refine q_abs ?_
    wtm_at "of_rd"
    refine r_I ⟨by decide, by decide, by decide⟩ ?_
    wtm_at "of_rd"
    refine i_R (n := 1000000) (by decide) (by decide) ?_
    refine fR' (fun i σ H' => ∃ (u l : Nat) (v : Option V), σ = [some (nat u), some (nat l), v] ∧ H' = H ∧ Euc a.natAbs b.natAbs i u l) ⟨_, _, none, rfl, rfl, rfl, .inl ⟨rfl, rfl, rfl⟩⟩ ?_ ?_
    · rintro i σ H1 hi ⟨u, l, v, rfl, rfl, e⟩
      wtm_at "of_rd"
      refine ite2 (fun h => ?_) (fun h => ?_)
      · have hl : l = 0 := by omega
        subst hl
        have := e.g
        rw [Nat.gcd_zero_right] at this
        refine r_break ?_
        wtm_at "of_rd"
        rw [this]; exact k
      · wtm_at "of_rd"
        refine r_I (by omega) ?_
        wtm_at "of_rd"
        rw [show ((u : Int) % (l : Int)) = ((u % l : Nat) : Int) from (Int.natCast_emod u l).symm]
        exact ⟨l, u % l, _, rfl, rfl, e.step (by omega)⟩
    · rintro σ H1 ⟨u, l, v, rfl, rfl, e⟩
      have hl := e.done ha hb
      subst hl
      have := e.g
      rw [Nat.gcd_zero_right] at this
      wtm_at "of_rd"
      rw [this]; exact k
abbrev s__law_whole_is : Stmt := (top 32)
theorem sc__law_whole_is : FnScope ["_law_value", "_law_due"] ["_law_value", "_law_due"] (defScope s__law_whole_is) := ⟨rfl, rfl, rfl, by decide +kernel, rfl, by decide +kernel, by decide +kernel⟩
theorem ok__law_whole_is {f : Addr} {fd : FuncData} (F : FunD K "_law_whole_is" "_law_whole_is" (defArgs s__law_whole_is) (defBody s__law_whole_is) (defScope s__law_whole_is) [] [] f fd) (TB : TBl mg) (TR : RT K mg C_Ratio) : FnOk P w K mg base (L2.CX P w) 1 f fd ["_law_value", "_law_due"] (spWhole K) := by
  refine F.ok (CX := L2.CX P w) sc__law_whole_is (fun vs H Q E h => ?_) (fun cdv A outer s H vs Q E hr h => ?_)
  · obtain ⟨a, b, rfl, _⟩ := h; rfl
  · obtain ⟨a, b, rfl, k⟩ := h
    refine ⟨_, (pss_one (ps_ret (pe_and (pe_callB (kc_isi (K := K) rfl) (by rfl) TB.b_isinstance (by decide +kernel) (pa_cons (pv 0) (pa_cons (pe_bltn (v := .ty "int") (u := .type "int") (by rfl) TB.b_int (by decide +kernel) rfl) pa_nil))) (pe_and (pe_not (pe_callB (kc_isi (K := K) rfl) (by rfl) TB.b_isinstance (by decide +kernel) (pa_cons (pv 0) (pa_cons (pe_bltn (v := .ty "bool") (u := .type "bool") (by rfl) TB.b_bool (by decide +kernel) rfl) pa_nil)))) (pe_one (pe_cmpR op_eq (pv 0) (pv 1) (nomark _))))))), ?_⟩
    wtm_at "of_rd"
    refine r_isi (.ty _) tyI ki_ii ?_
    wtm_at "of_rd"
    refine r_isi (.ty _) tyI ki_ib ?_
    wtm_at "of_rd"
    exact k
abbrev s__law_ratio_is : Stmt := (top 33)
theorem sc__law_ratio_is : FnScope ["_law_value", "_law_top", "_law_bottom"] ["_law_value", "_law_top", "_law_bottom"] (defScope s__law_ratio_is) := ⟨rfl, rfl, rfl, by decide +kernel, rfl, by decide +kernel, by decide +kernel⟩
theorem ok__law_ratio_is {f : Addr} {fd : FuncData} (F : FunD K "_law_ratio_is" "_law_ratio_is" (defArgs s__law_ratio_is) (defBody s__law_ratio_is) (defScope s__law_ratio_is) [] [] f fd) (g_Ratio : mg "Ratio" = some (.ref C_Ratio)) (TB : TBl mg) (TR : RT K mg C_Ratio) (c__law_gcd : Cl P w K mg base 1 "_law_gcd" (spII (fun a b => ((Int.gcd a b : Nat) : Int)))) (c__law_whole_is : Cl P w K mg base 1 "_law_whole_is" (spWhole K)) : FnOk P w K mg base (L2.CX P w) 2 f fd ["_law_value", "_law_top", "_law_bottom"] (spRatioIs C_Ratio) := by
  refine F.ok (CX := L2.CX P w) sc__law_ratio_is (fun vs H Q E h => ?_) (fun cdv A outer s H vs Q E hr h => ?_)
  · obtain ⟨p, q, t, b, rfl, _⟩ := h; rfl
  · obtain ⟨p, q, t, b, rfl, hp, hq, ht, hb, k⟩ := h
    refine ⟨_, (pss_cons (ps_if (pw_or (pt_not (pt_val (pe_callB (kc_isi (K := K) rfl) (by rfl) TB.b_isinstance (by decide +kernel) (pa_cons (pv 0) (pa_cons (pe_glob (v := .ref C_Ratio) (by rfl) g_Ratio rfl) pa_nil))))) (pw_or (pt_not (pt_val (pe_cl c__law_whole_is hr (by decide) (by rfl) psE (pa_cons (kfld (K := K) rfl (pv 0) rfl) (pa_cons (kfld (K := K) rfl (pv 0) rfl) pa_nil))))) (pw_or1 (pt_cmpR op_lt (kfld (K := K) rfl (pv 0) rfl) pe_int (nomark _))))).pt (pss_one (ps_ret pe_bl)) pss_nil) (pss_cons (ps_if (pw_or (pt_not (pt_val (pe_cl c__law_whole_is hr (by decide) (by rfl) psE (pa_cons (kfld (K := K) rfl (pv 0) rfl) (pa_cons (kfld (K := K) rfl (pv 0) rfl) pa_nil))))) (pw_or1 (pt_cmpR op_ne (pe_cl c__law_gcd hr (by decide) (by rfl) psE (pa_cons (kfld (K := K) rfl (pv 0) rfl) (pa_cons (kfld (K := K) rfl (pv 0) rfl) pa_nil))) pe_int (nomark _)))).pt (pss_one (ps_ret pe_bl)) pss_nil) (pss_one (ps_ret (pe_cmpR op_eq (pe_op op_mulA (kfld (K := K) rfl (pv 0) rfl) (pv 2)) (pe_op op_mulA (pv 1) (kfld (K := K) rfl (pv 0) rfl)) (nomark _)))))), ?_⟩
    wtm_at "of_rd"
    refine r_isi (.own _) (hp.tyx TR) kit_self ?_
    wtm_at "of_rd"
    refine ⟨_, _, rfl, ?_⟩
    rw [decide_eq_true rfl]
    wtm_at "of_rd"
    rw [decide_eq_false (by have := den_pos q; omega)]
    wtm_at "of_rd"
    refine ⟨_, _, rfl, ?_⟩
    rw [decide_eq_true rfl]
    wtm_at "of_rd"
    refine ⟨_, _, rfl, hq.n, hq.d, ?_⟩
    wtm_at "of_rd"
    have hg : ((Int.gcd q.num (q.den : Int) : Nat) : Int) = 1 := by
      have := q.reduced
      show ((Nat.gcd q.num.natAbs ((q.den : Int)).natAbs : Nat) : Int) = 1
      rw [Int.natAbs_natCast]; exact_mod_cast this
    refine iteN hg ?_
    wtm_at "of_rd"
    exact k
end
end
section
open PySem PySem.Spec PyProof.Rows L2 He
section
variable {P : Program} {w : World} {K : PySem.W.Frag} {mg : Str → Option Value} {base : Heap} {C_Ratio C_BadNumber C_NoSuch f_Ratio_eq f_Ratio_lt : Addr} {T_ : List (Addr × Str)}
abbrev s__law_divisors_right : Stmt := (top 34)
theorem sc__law_divisors_right : FnScope ["_law_one", "_law_other", "_law_common", "_law_made"] ["_law_one", "_law_other"] (defScope s__law_divisors_right) := ⟨rfl, rfl, rfl, by decide +kernel, rfl, by decide +kernel, by decide +kernel⟩
theorem ok__law_divisors_right {f : Addr} {fd : FuncData} (F : FunD K "_law_divisors_right" "_law_divisors_right" (defArgs s__law_divisors_right) (defBody s__law_divisors_right) (defScope s__law_divisors_right) [] [] f fd) (TB : TBl mg) (TR : RT K mg C_Ratio) (c_gcd_of : Cl P w K mg base 1 "gcd_of" (spII (fun a b => ((Int.gcd a b : Nat) : Int)))) (c_lcm_of : Cl P w K mg base 1 "lcm_of" (spII (fun a b => ((Int.lcm a b : Nat) : Int)))) (c_bezout : Cl P w K mg base 1 "bezout" (spBez)) (c__law_gcd : Cl P w K mg base 1 "_law_gcd" (spII (fun a b => ((Int.gcd a b : Nat) : Int)))) (c__law_whole_is : Cl P w K mg base 1 "_law_whole_is" (spWhole K)) : FnOk P w K mg base (L2.CX P w) 2 f fd ["_law_one", "_law_other"] (spDiv) := by
  refine F.ok (CX := L2.CX P w) sc__law_divisors_right (fun vs H Q E h => ?_) (fun cdv A outer s H vs Q E hr h => ?_)
  · obtain ⟨a, b, rfl, _⟩ := h; rfl
  · obtain ⟨a, b, rfl, ha, hb, k⟩ := h
    refine ⟨_, (pss_cons (ps_par (i := 2) (j := 3) rfl sc__law_divisors_right.nd rfl rfl (by decide) rfl rfl (pa_cons (pe_cl c__law_gcd hr (by decide) (by rfl) psE (pa_cons (pv 0) (pa_cons (pv 1) pa_nil))) (pa_cons (pe_cl c_bezout hr (by decide) (by rfl) psE (pa_cons (pv 0) (pa_cons (pv 1) pa_nil))) pa_nil)) (by rfl)) (pss_cons (ps_if (pw_or (pt_not (pt_val (pe_cl c__law_whole_is hr (by decide) (by rfl) psE (pa_cons (pe_cl c_gcd_of hr (by decide) (by rfl) psE (pa_cons (pv 0) (pa_cons (pv 1) pa_nil))) (pa_cons (pv 2) pa_nil))))) (pw_or (pt_not (pt_val (pe_callB (kc_isi (K := K) rfl) (by rfl) TB.b_isinstance (by decide +kernel) (pa_cons (pv 3) (pa_cons (pe_bltn (v := .ty "tuple") (u := .type "tuple") (by rfl) TB.b_tuple (by decide +kernel) rfl) pa_nil))))) (pw_or1 (pt_cmpR op_ne (pe_callB (kc_len (K := K) rfl) (by rfl) TB.b_len PySem.boot_len (pa_cons (pv 3) pa_nil)) pe_int (nomark _))))).pt (pss_one (ps_ret pe_bl)) pss_nil) (pss_cons (ps_if (pw_or (pt_not (pt_val (pe_cl c__law_whole_is hr (by decide) (by rfl) psE (pa_cons (pe_ix (kix_t (K := K) rfl) (pv 3) pe_int (fun _ _ => rfl)) (pa_cons (pv 2) pa_nil))))) (pw_or1 (pt_cmpR op_ne (pe_op op_add (pe_op op_mulA (pe_ix (kix_t (K := K) rfl) (pv 3) pe_int (fun _ _ => rfl)) (pv 0)) (pe_op op_mulA (pe_ix (kix_t (K := K) rfl) (pv 3) pe_int (fun _ _ => rfl)) (pv 1))) (pv 2) (nomark _)))).pt (pss_one (ps_ret pe_bl)) pss_nil) (pss_cons (ps_if (pw_or (pt_not (pt_val (pe_cl c__law_whole_is hr (by decide) (by rfl) psE (pa_cons (pe_ix (kix_t (K := K) rfl) (pv 3) pe_int (fun _ _ => rfl)) (pa_cons (pe_ix (kix_t (K := K) rfl) (pv 3) pe_int (fun _ _ => rfl)) pa_nil))))) (pw_or1 (pt_not (pt_val (pe_cl c__law_whole_is hr (by decide) (by rfl) psE (pa_cons (pe_ix (kix_t (K := K) rfl) (pv 3) pe_int (fun _ _ => rfl)) (pa_cons (pe_ix (kix_t (K := K) rfl) (pv 3) pe_int (fun _ _ => rfl)) pa_nil))))))).pt (pss_one (ps_ret pe_bl)) pss_nil) (pss_cons (ps_if (pw_or (pt_cmpR op_eq (pv 0) pe_int (nomark _)) (pw_or1 (pt_cmpR op_eq (pv 1) pe_int (nomark _)))).pt (pss_one (ps_ret (pe_cl c__law_whole_is hr (by decide) (by rfl) psE (pa_cons (pe_cl c_lcm_of hr (by decide) (by rfl) psE (pa_cons (pv 0) (pa_cons (pv 1) pa_nil))) (pa_cons pe_int pa_nil))))) pss_nil) (pss_one (ps_ret (pe_cl c__law_whole_is hr (by decide) (by rfl) psE (pa_cons (pe_cl c_lcm_of hr (by decide) (by rfl) psE (pa_cons (pv 0) (pa_cons (pv 1) pa_nil))) (pa_cons (pe_op op_mulA (pe_op op_fdivZ (pe_callB kc_abs (by rfl) TB.b_abs (by decide +kernel) (pa_cons (pv 0) pa_nil)) (pv 2)) (pe_callB kc_abs (by rfl) TB.b_abs (by decide +kernel) (pa_cons (pv 1) pa_nil))) pa_nil)))))))))), ?_⟩
    have p0 : (0 : Nat) < 2 ^ 4000 := Nat.two_pow_pos _
    wtm_at "of_rd"
    refine ⟨a, b, rfl, ha, hb, ?_⟩
    wtm_at "of_rd"
    refine ⟨a, b, rfl, ha, hb, ?_⟩
    intro H1 p s t e1 n1 h1 heq bs bt
    wtm_at "of_rd"
    refine ⟨a, b, rfl, ha, hb, ?_⟩
    wtm_at "of_rd"
    refine ⟨_, _, rfl, ?_⟩
    wtm_at "of_rd"
    refine iteN rfl ?_
    wtm_at "of_rd"
    refine r_isi (.ty _) (tyT h1) kit_self ?_
    wtm_at "of_rd"
    refine q_lenT h1 ?_
    wtm_at "of_rd"
    refine iteN rfl ?_
    wtm_at "of_rd"
    refine r_iT1 h1 (atI_nat (j := 0) rfl) ?_
    wtm_at "of_rd"
    refine ⟨_, _, rfl, ?_⟩
    wtm_at "of_rd"
    refine iteN rfl ?_
    wtm_at "of_rd"
    refine r_iT1 h1 (atI_nat (j := 1) rfl) ?_
    wtm_at "of_rd"
    refine r_I (cmA_w bs ha (by decide)) ?_
    wtm_at "of_rd"
    refine r_iT1 h1 (atI_nat (j := 2) rfl) ?_
    wtm_at "of_rd"
    refine r_I (cmA_w bt hb (by decide)) ?_
    wtm_at "of_rd"
    refine iteN heq ?_
    wtm_at "of_rd"
    refine r_iT1 h1 (atI_nat (j := 1) rfl) ?_
    wtm_at "of_rd"
    refine r_iT1 h1 (atI_nat (j := 1) rfl) ?_
    wtm_at "of_rd"
    refine ⟨_, _, rfl, ?_⟩
    wtm_at "of_rd"
    refine iteN rfl ?_
    wtm_at "of_rd"
    refine r_iT1 h1 (atI_nat (j := 2) rfl) ?_
    wtm_at "of_rd"
    refine r_iT1 h1 (atI_nat (j := 2) rfl) ?_
    wtm_at "of_rd"
    refine ⟨_, _, rfl, ?_⟩
    wtm_at "of_rd"
    refine iteN rfl ?_
    wtm_at "of_rd"
    have fin : ∀ c d : Int, c = d → Q (.bl (decide (c = d))) H1 := fun c d e => by rw [decide_eq_true e]; exact k H1 e1
    refine ite2 (fun h0 => ?_) (fun h0 => ?_)
    · wtm_at "of_rd"
      refine ⟨a, b, rfl, ha, hb, ?_⟩
      refine ⟨_, _, rfl, ?_⟩
      refine fin _ _ ?_
      subst h0
      show ((Int.lcm 0 b : Nat) : Int) = 0
      rw [Int.lcm_zero_left]; rfl
    · wtm_at "of_rd"
      refine ite2 (fun h0 => ?_) (fun h0 => ?_)
      · wtm_at "of_rd"
        refine ⟨a, b, rfl, ha, hb, ?_⟩
        refine ⟨_, _, rfl, ?_⟩
        refine fin _ _ ?_
        subst h0
        show ((Int.lcm a 0 : Nat) : Int) = 0
        rw [Int.lcm_zero_right]; rfl
      · wtm_at "of_rd"
        refine ⟨a, b, rfl, ha, hb, ?_⟩
        wtm_at "of_rd"
        refine q_abs ?_
        have gp : Int.gcd a b ≠ 0 := Int.gcd_ne_zero_right h0
        wtm_at "of_rd"
        refine r_I (C := CDivZ) ⟨?_, ?_⟩ ?_
        · show ((Int.gcd a b : Nat) : Int) ≠ 0
          omega
        · show ((Int.gcd a b : Nat) : Int).natAbs < _
          rw [Int.natAbs_natCast]; exact Nat.lt_of_le_of_lt (gcd_le h0) (pow_mono hb (by decide))
        wtm_at "of_rd"
        refine q_abs ?_
        refine r_I (cmA_w (n := 4000) (m := 4000) ?_ ?_ (by decide)) ?_
        · show ((a.natAbs : Int).fdiv ((Int.gcd a b : Nat) : Int)).natAbs < _
          rw [Int.fdiv_eq_ediv_of_nonneg _ (by omega), ← Int.natCast_ediv, Int.natAbs_natCast]
          exact Nat.lt_of_le_of_lt (Nat.div_le_self _ _) ha
        · rw [Int.natAbs_natCast]; exact hb
        wtm_at "of_rd"
        refine ⟨_, _, rfl, ?_⟩
        exact fin _ _ lcm_eq
abbrev s__law_near : Stmt := (top 35)
theorem sc__law_near : FnScope ["_law_tape", "_law_known", "_law_factor", "_law_top", "_law_bottom"] ["_law_tape", "_law_known"] (defScope s__law_near) := ⟨rfl, rfl, rfl, by decide +kernel, rfl, by decide +kernel, by decide +kernel⟩
theorem ok__law_near {f : Addr} {fd : FuncData} (F : FunD K "_law_near" "_law_near" (defArgs s__law_near) (defBody s__law_near) (defScope s__law_near) [] [] f fd) (TR : RT K mg C_Ratio) (c__law_draw : Cl P w K mg base 1 "_law_draw" (spDraw)) (c__law_pick : Cl P w K mg base 2 "_law_pick" (spPick)) (c__law_size : Cl P w K mg base 3 "_law_size" (spNum 50 2 false)) (c__law_number : Cl P w K mg base 4 "_law_number" (spNum 51 2 true)) : FnOk P w K mg base (L2.CX P w) 5 f fd ["_law_tape", "_law_known"] (spNear) := by
  refine F.ok (CX := L2.CX P w) sc__law_near (fun vs H Q E h => ?_) (fun cdv A outer s H vs Q E hr h => ?_)
  · obtain ⟨p, l, rs, n, N, rfl, _⟩ := h; rfl
  · obtain ⟨p, l, rs, n, N, rfl, c, hT, hn, ⟨xs, hl, hx⟩, hlen, hN1, hN2, hb, k⟩ := h
    refine ⟨_, (pss_cons (ps_if (pw_and (pt_cmpR (kop_neD (K := K) rfl (hu_of64 hr)) (pv 1) (pe_lst pa_nil) (nomark _)) (pw_and1 (pt_cmpR op_eq (pe_cl c__law_draw hr (by decide) (by rfl) psE (pa_cons (pv 0) (pa_cons pe_int pa_nil))) pe_int (nomark _)))).pt (pss_cons (ps_asg (pe_cl c__law_pick hr (by decide) (by rfl) psE (pa_cons (pv 0) (pa_cons (pv 1) pa_nil))) (kpg_tup (K := K) 2 rfl rfl (pgs_cons (pg_name (i := 3) sc__law_near.nd rfl (Or.inl rfl)) (pgs_cons (pg_name (i := 4) sc__law_near.nd rfl (Or.inl rfl)) pgs_nil)))) (pss_cons (ps_set (i := 2) sc__law_near.nd rfl (Or.inl rfl) (pe_op op_add pe_int (pe_cl c__law_draw hr (by decide) (by rfl) psE (pa_cons (pv 0) (pa_cons pe_int pa_nil))))) (pss_one (ps_ret (pe_tup (pa_cons (pe_op op_sub (pe_op op_add (pe_op op_mulA (pv 3) (pv 2)) (pe_cl c__law_draw hr (by decide) (by rfl) psE (pa_cons (pv 0) (pa_cons pe_int pa_nil)))) pe_int) (pa_cons (pe_op op_mulA (pv 4) (pv 2)) pa_nil))))))) pss_nil) (pss_cons (ps_if (pw_and (pt_cmpR (kop_neD (K := K) rfl (hu_of64 hr)) (pv 1) (pe_lst pa_nil) (nomark _)) (pw_and1 (pt_cmpR op_eq (pe_cl c__law_draw hr (by decide) (by rfl) psE (pa_cons (pv 0) (pa_cons pe_int pa_nil))) pe_int (nomark _)))).pt (pss_cons (ps_asg (pe_cl c__law_pick hr (by decide) (by rfl) psE (pa_cons (pv 0) (pa_cons (pv 1) pa_nil))) (kpg_tup (K := K) 2 rfl rfl (pgs_cons (pg_name (i := 3) sc__law_near.nd rfl (Or.inl rfl)) (pgs_cons (pg_name (i := 4) sc__law_near.nd rfl (Or.inl rfl)) pgs_nil)))) (pss_one (ps_ret (pe_tup (pa_cons (pe_un un_neg (pv 3)) (pa_cons (pv 4) pa_nil)))))) pss_nil) (pss_one (ps_ret (pe_tup (pa_cons (pe_cl c__law_number hr (by decide) (by rfl) psE (pa_cons (pv 0) (pa_cons pe_int pa_nil))) (pa_cons (pe_cl c__law_pick hr (by decide) (by rfl) psE (pa_cons (pv 0) (pa_cons (pe_lst (pa_cons pe_int (pa_cons (pe_op op_add pe_int (pe_cl c__law_draw hr (by decide) (by rfl) psE (pa_cons (pv 0) (pa_cons pe_int pa_nil)))) (pa_cons (pe_op op_add pe_int (pe_cl c__law_size hr (by decide) (by rfl) psE (pa_cons (pv 0) (pa_cons pe_int pa_nil)))) pa_nil)))) pa_nil))) pa_nil))))))), ?_⟩
    have e64 : (2 : Nat) ^ 64 = 18446744073709551616 := by decide
    have sm : ∀ m : Int, m.natAbs < 2 ^ 64 → m.natAbs < 2 ^ 4000 := fun m h => pow_mono h (by decide)
    have xl := hx.length
    wtm_at "of_rd"
    refine r_laidL (by decide) ?_
    intro z1 H1 e1 n1 h1
    refine r_neNil (e1 _ _ hl) (hx.le e1.le) h1 ?_
    wtm_at "of_rd"
    have T1 := hT.ex e1
    have L1 := e1.le
    refine ite2n (fun hne => ?_) (fun hnil => ?_)
    · have hpos : 0 < xs.length := by
        rw [xl]; exact List.length_pos_iff.mpr hne
      wtm_at "of_rd"
      refine ⟨p, 3, n, rfl, _, T1, by omega, by decide, sm _ (by decide), ?_⟩
      intro H2 d L2 T2 d0 d1
      wtm_at "of_rd"
      have L12 := L1.trans L2
      refine ite2 (fun hd => ?_) (fun hd => ?_)
      · wtm_at "of_rd"
        refine ⟨p, l, xs, _, rfl, _, T2, by omega, L12.lst hl, hpos, by omega, ?_⟩
        intro H4 i v L4 T4 hv
        obtain ⟨q0, r, rfl, hr, hq⟩ := (hx.le (L12.trans L4)).at_ hv
        have ok := hb r (List.mem_of_getElem? hr)
        refine r_gTup hq rfl ?_
        unfold pairV
        wtm_at "of_rd"
        refine ⟨p, 9, _, rfl, _, T4, by omega, by decide, sm _ (by decide), ?_⟩
        intro H5 f L5 T5 f0 f1
        wtm_at "of_rd"
        have fs : ((1 : Int) + f).natAbs < 2 ^ 64 := by omega
        refine r_I (cmA_r fs) ?_
        wtm_at "of_rd"
        refine ⟨p, 3, _, rfl, _, T5, by omega, by decide, sm _ (by decide), ?_⟩
        intro H6 g L6 T6 g0 g1
        wtm_at "of_rd"
        refine r_I (cmA_r fs) ?_
        wtm_at "of_rd"
        refine r_laidT (by show 2 ≤ 1000; decide) ?_
        intro q7 H7 e7 n7 h7
        have ok' := near_ok ok (f := 1 + f) (d := g - 1) (by omega) (by omega) (by omega) (by omega)
        refine k H7 q7 _ ((((L12.trans L4).trans L5).trans L6).trans e7.le) ((T6.ex e7).mono (by omega)) ?_ ok'
        rw [h7]
        show some (HO.tup [V.int (r.1 * (1 + f) + g - 1), V.int (r.2 * (1 + f))]) = some (HO.tup [V.int (r.1 * (1 + f) + (g - 1)), V.int (r.2 * (1 + f))])
        rw [Int.add_sub_assoc]
      · wtm_at "of_rd"
        refine r_laidL (by decide) ?_
        intro z3 H3 e3 n3 h3
        refine r_neNil ((L12.trans e3.le).lst hl) (hx.le (L12.trans e3.le)) h3 ?_
        wtm_at "of_rd"
        have T3 := T2.ex e3
        have L13 := L12.trans e3.le
        rw [decide_eq_false hne]
        wtm_at "of_rd"
        refine ⟨p, 4, _, rfl, _, T3, by omega, by decide, sm _ (by decide), ?_⟩
        intro H4 d4 L4 T4 c0 c1
        wtm_at "of_rd"
        have L14 := L13.trans L4
        refine ite2 (fun hd4 => ?_) (fun hd4 => ?_)
        · wtm_at "of_rd"
          refine ⟨p, l, xs, _, rfl, _, T4, by omega, L14.lst hl, hpos, by omega, ?_⟩
          intro H5 i v L5 T5 hv
          obtain ⟨q0, r, rfl, hr, hq⟩ := (hx.le (L14.trans L5)).at_ hv
          obtain ⟨o1, o2, o3⟩ := hb r (List.mem_of_getElem? hr)
          refine r_gTup hq rfl ?_
          unfold pairV
          wtm_at "of_rd"
          refine r_laidT (by show 2 ≤ 1000; decide) ?_
          intro q7 H7 e7 n7 h7
          exact k H7 q7 (-r.1, r.2) ((L14.trans L5).trans e7.le) ((T5.ex e7).mono (by omega)) h7 ⟨by show (-r.1).natAbs < _; rw [Int.natAbs_neg]; exact pow_mono o1 (by omega), pow_mono o2 (by omega), o3⟩
        · have TT := T4
          have LL := L14
          wtm_at "of_rd"
          refine ⟨p, 60, _, rfl, _, TT, by omega, by decide, by decide, ?_⟩
          intro H3 d3 L3 T3 b0 b1
          wtm_at "of_rd"
          refine ⟨p, 9, _, rfl, _, T3, by omega, by decide, sm _ (by decide), ?_⟩
          intro H4 d4 L4 T4 c0 c1
          wtm_at "of_rd"
          refine ⟨p, 39, _, rfl, _, T4, by omega, by decide, by decide, ?_⟩
          intro H5 d5 L5 T5 a0 a1
          wtm_at "of_rd"
          refine r_laidL (by show 3 ≤ 1000; decide) ?_
          intro z6 H6 e6 n6 h6
          wtm_at "of_rd"
          refine ⟨p, z6, _, _, rfl, _, T5.ex e6, by omega, h6, by show 0 < 3; decide, by show 3 ≤ 1000000; decide, ?_⟩
          intro H7 i v L7 T7 hv
          obtain ⟨z, rfl, z0, zb⟩ : ∃ z : Int, v = .int z ∧ 0 < z ∧ z.natAbs < 2 ^ 240 := by
            have a0 := a0 rfl
            have t39 : (10 : Nat) ^ 39 + 1 < 2 ^ 240 := by decide
            have t9 : 100 < 2 ^ 240 := by decide
            match i, hv with
            | 0, hv => cases hv; exact ⟨1, rfl, by decide, by decide⟩
            | 1, hv => cases hv; exact ⟨_, rfl, by omega, by omega⟩
            | 2, hv => cases hv; exact ⟨_, rfl, by omega, by omega⟩
            | i + 3, hv => simp at hv
          wtm_at "of_rd"
          refine r_laidT (by show 2 ≤ 1000; decide) ?_
          intro q8 H8 e8 n8 h8
          have b2 : d3.natAbs < 2 ^ 240 := Nat.lt_trans b1 (by decide)
          exact k H8 q8 (d3, z) ((((((LL.trans L3).trans L4).trans L5).trans e6.le).trans L7).trans e8.le) ((T7.ex e8).mono (by omega)) h8 ⟨pow_mono b2 (by omega), pow_mono zb (by omega), z0⟩
    · subst hnil
      wtm_at "of_rd"
      refine r_laidL (by decide) ?_
      intro z2 H2 e2 n2 h2
      refine r_neNil ((L1.trans e2.le).lst hl) (hx.le (L1.trans e2.le)) h2 ?_
      wtm_at "of_rd"
      rw [decide_eq_true rfl]
      have TT := T1.ex e2
      have LL := L1.trans e2.le
      wtm_at "of_rd"
      wtm_at "of_rd"
      refine ⟨p, 60, _, rfl, _, TT, by omega, by decide, by decide, ?_⟩
      intro H3 d3 L3 T3 b0 b1
      wtm_at "of_rd"
      refine ⟨p, 9, _, rfl, _, T3, by omega, by decide, sm _ (by decide), ?_⟩
      intro H4 d4 L4 T4 c0 c1
      wtm_at "of_rd"
      refine ⟨p, 39, _, rfl, _, T4, by omega, by decide, by decide, ?_⟩
      intro H5 d5 L5 T5 a0 a1
      wtm_at "of_rd"
      refine r_laidL (by show 3 ≤ 1000; decide) ?_
      intro z6 H6 e6 n6 h6
      wtm_at "of_rd"
      refine ⟨p, z6, _, _, rfl, _, T5.ex e6, by omega, h6, by show 0 < 3; decide, by show 3 ≤ 1000000; decide, ?_⟩
      intro H7 i v L7 T7 hv
      obtain ⟨z, rfl, z0, zb⟩ : ∃ z : Int, v = .int z ∧ 0 < z ∧ z.natAbs < 2 ^ 240 := by
        have a0 := a0 rfl
        have t39 : (10 : Nat) ^ 39 + 1 < 2 ^ 240 := by decide
        have t9 : 100 < 2 ^ 240 := by decide
        match i, hv with
        | 0, hv => cases hv; exact ⟨1, rfl, by decide, by decide⟩
        | 1, hv => cases hv; exact ⟨_, rfl, by omega, by omega⟩
        | 2, hv => cases hv; exact ⟨_, rfl, by omega, by omega⟩
        | i + 3, hv => simp at hv
      wtm_at "of_rd"
      refine r_laidT (by show 2 ≤ 1000; decide) ?_
      intro q8 H8 e8 n8 h8
      have b2 : d3.natAbs < 2 ^ 240 := Nat.lt_trans b1 (by decide)
      exact k H8 q8 (d3, z) ((((((LL.trans L3).trans L4).trans L5).trans e6.le).trans L7).trans e8.le) ((T7.ex e8).mono (by omega)) h8 ⟨pow_mono b2 (by omega), pow_mono zb (by omega), z0⟩
end
end
section
open PySem PySem.Spec PyProof.Rows L2 He
section
variable {P : Program} {w : World} {K : PySem.W.Frag} {mg : Str → Option Value} {base : Heap} {C_Ratio C_BadNumber C_NoSuch f_Ratio_eq f_Ratio_lt : Addr} {T_ : List (Addr × Str)}
abbrev s__law_order_right : Stmt := (top 36)
theorem sc__law_order_right : FnScope ["_law_rows", "_law_handed", "_law_found", "_law_left", "_law_k", "_law_same", "_law_before", "_law_low", "_law_high", "_law_one"] ["_law_rows", "_law_handed"] (defScope s__law_order_right) := ⟨rfl, rfl, rfl, by decide +kernel, rfl, by decide +kernel, by decide +kernel⟩
theorem ok__law_order_right {f : Addr} {fd : FuncData} (F : FunD K "_law_order_right" "_law_order_right" (defArgs s__law_order_right) (defBody s__law_order_right) (defScope s__law_order_right) [] [] f fd) (TB : TBl mg) (TR : RT K mg C_Ratio) (c_ascending : Cl P w K mg base 10 "ascending" (spAscending C_Ratio)) (c_least : Cl P w K mg base 11 "least" (spLeast C_Ratio C_NoSuch 0)) (c_greatest : Cl P w K mg base 11 "greatest" (spLeast C_Ratio C_NoSuch 1)) (c__law_ratio_is : Cl P w K mg base 2 "_law_ratio_is" (spRatioIs C_Ratio)) : FnOk P w K mg base (L2.CX P w) 12 f fd ["_law_rows", "_law_handed"] (spOrder C_Ratio) := by
  refine F.ok (CX := L2.CX P w) sc__law_order_right (fun vs H Q E h => ?_) (fun cdv A outer s H vs Q E hr h => ?_)
  · obtain ⟨l, k, rs, rfl, _⟩ := h; rfl
  · obtain ⟨l, hk, rs, rfl, ⟨xs, hl, hx⟩, ⟨ys, hy, hyl, hya⟩, hpos, hlen, hok, kont⟩ := h
    refine ⟨_, (pss_cons (ps_set (i := 2) sc__law_order_right.nd rfl (Or.inr rfl) (pe_cl c_ascending hr (by decide) (by rfl) psE (pa_cons (pv 1) pa_nil))) (pss_cons (ps_if (pw_or (pt_not (pt_val (pe_callB (kc_isi (K := K) rfl) (by rfl) TB.b_isinstance (by decide +kernel) (pa_cons (pv 2) (pa_cons (pe_bltn (v := .ty "list") (u := .type "list") (by rfl) TB.b_list (by decide +kernel) rfl) pa_nil))))) (pw_or1 (pt_cmpR op_ne (pe_callB (kc_len (K := K) rfl) (by rfl) TB.b_len PySem.boot_len (pa_cons (pv 2) pa_nil)) (pe_callB (kc_len (K := K) rfl) (by rfl) TB.b_len PySem.boot_len (pa_cons (pv 0) pa_nil)) (nomark _)))).pt (pss_one (ps_ret pe_bl)) pss_nil) (pss_cons (ps_set (i := 3) sc__law_order_right.nd rfl (Or.inl rfl) (pe_callTy (kc_listof (K := K) rfl) (by rfl) TB.b_list (by decide +kernel) (pa_cons (pv 0) pa_nil))) (pss_cons (ps_for (passes_of rfl) rfl (pi_range1 (by rfl) TB.b_range (pa_cons (pe_callB (kc_len (K := K) rfl) (by rfl) TB.b_len PySem.boot_len (pa_cons (pv 2) pa_nil)) pa_nil)) (pg_name (i := 4) sc__law_order_right.nd rfl (Or.inr rfl)) (pss_cons (ps_setLc (i := 5) (own := [("_law_one", 9)]) (by rfl) sc__law_order_right.nd rfl rfl (sw_true rfl rfl rfl (by decide +kernel)) (kpi_l (K := K) rfl (pv 3)) (blkOk_by (own := [("_law_one", 9)]) (N := ["_law_rows", "_law_handed", "_law_found", "_law_left", "_law_k", "_law_same", "_law_before", "_law_low", "_law_high", "_law_one"]) (sc := defScope s__law_order_right) (by decide +kernel)) (fun _ _ _ _ _ => (pg_name (i := 9) sc__law_order_right.nd rfl (Or.inl rfl))) (fun _ _ _ _ _ => (pts_one (pt_val (pe_cl c__law_ratio_is hr (by decide) (by rfl) passL (pa_cons (pe_ix (kix_l (K := K) rfl) (pv 2) (pv 4) (fun _ _ => rfl)) (pa_cons (pe_ix (kix_t (K := K) rfl) (pv 9) pe_int (fun _ _ => rfl)) (pa_cons (pe_ix (kix_t (K := K) rfl) (pv 9) pe_int (fun _ _ => rfl)) pa_nil))))))) (fun _ _ _ _ _ => (pv 9))) (pss_cons (ps_if (pt_cmpR (kop_eqD (K := K) rfl (hu_of64 hr)) (pv 5) (pe_lst pa_nil) (nomark _)) (pss_one (ps_ret pe_bl)) pss_nil) (pss_cons (ps_expr (kapp (K := K) rfl PySem.F.plainAttrs_list PySem.F.slot_list_remove PySem.F.type_list_remove (mt_removeD (K := K) rfl (hu_of64 hr)) (pv 3) (pa_cons (pe_ix (kix_l (K := K) rfl) (pv 5) pe_int (fun _ _ => rfl)) pa_nil))) (pss_cons (ps_set (i := 6) sc__law_order_right.nd rfl (Or.inl rfl) (pe_ix (kix_l (K := K) rfl) (pv 2) (pe_callB (kc_max rfl) (by rfl) TB.b_max (by decide +kernel) (pa_cons pe_int (pa_cons (pe_op op_sub (pv 4) pe_int) pa_nil))) (fun _ _ => rfl))) (pss_one (ps_if (pt_cmpR op_gt (pe_op op_mulA (kfld (K := K) rfl (pv 6) rfl) (kfld (K := K) rfl (pe_ix (kix_l (K := K) rfl) (pv 2) (pv 4) (fun _ _ => rfl)) rfl)) (pe_op op_mulA (kfld (K := K) rfl (pe_ix (kix_l (K := K) rfl) (pv 2) (pv 4) (fun _ _ => rfl)) rfl) (kfld (K := K) rfl (pv 6) rfl)) (nomark _)) (pss_one (ps_ret pe_bl)) pss_nil))))))) (pss_cons (ps_par (i := 7) (j := 8) rfl sc__law_order_right.nd rfl rfl (by decide) rfl rfl (pa_cons (pe_cl c_least hr (by decide) (by rfl) psE (pa_cons (pv 1) pa_nil)) (pa_cons (pe_cl c_greatest hr (by decide) (by rfl) psE (pa_cons (pv 1) pa_nil)) pa_nil)) (by rfl)) (pss_cons (ps_if (pt_not (pt_val (pe_cl c__law_ratio_is hr (by decide) (by rfl) psE (pa_cons (pv 7) (pa_cons (kfld (K := K) rfl (pe_ix (kix_l (K := K) rfl) (pv 2) pe_int (fun _ _ => rfl)) rfl) (pa_cons (kfld (K := K) rfl (pe_ix (kix_l (K := K) rfl) (pv 2) pe_int (fun _ _ => rfl)) rfl) pa_nil)))))) (pss_one (ps_ret pe_bl)) pss_nil) (pss_one (ps_ret (pe_cl c__law_ratio_is hr (by decide) (by rfl) psE (pa_cons (pv 8) (pa_cons (kfld (K := K) rfl (pe_ix (kix_l (K := K) rfl) (pv 2) (pe_un un_neg pe_int) (fun _ _ => rfl)) rfl) (pa_cons (kfld (K := K) rfl (pe_ix (kix_l (K := K) rfl) (pv 2) (pe_un un_neg pe_int) (fun _ _ => rfl)) rfl) pa_nil)))))))))))), ?_⟩
    have hq : ∀ q ∈ rs.map toQ, Bq q := fun q h => by
      obtain ⟨r, hr, rfl⟩ := List.mem_map.mp h
      exact (hok r hr).bq (by decide)
    have hat : ∀ (i : Nat) (q : Rat), (rs.map toQ)[i]? = some q → ∃ v, ys[i]? = some v ∧ NumV C_Ratio H v q := fun i q h => by
      rw [List.getElem?_map] at h
      cases e : rs[i]? with
      | none => rw [e] at h; cases h
      | some r => rw [e] at h; cases h; exact hya i r e
    have ql : (rs.map toQ).length = rs.length := List.length_map _
    wtm_at "of_rd"
    refine ⟨hk, ys, rs.map toQ, rfl, hy, by rw [ql, hyl], hat, hq, by rw [ql]; exact hlen, ?_⟩
    intro H1 p zs ss e1 n1 h1 hz hperm hsort
    have sl : ss.length = rs.length := by rw [hperm.length_eq, ql]
    have zl : zs.length = rs.length := by rw [hz.1, sl]
    have hqs : ∀ q ∈ ss, Bq q := fun q h => hq q (hperm.mem_iff.mp h)
    wtm_at "of_rd"
    refine r_isi (.ty _) (tyL h1) kit_self ?_
    wtm_at "of_rd"
    refine q_lenL h1 ?_
    wtm_at "of_rd"
    refine q_lenL (e1 _ _ hl) ?_
    wtm_at "of_rd"
    refine iteN (by rw [zl, hx.length]) ?_
    wtm_at "of_rd"
    refine q_listL (e1 _ _ hl) ?_
    intro L H2 e2 n2 h2
    wtm_at "of_rd"
    refine q_lenL (e2 _ _ h1) ?_
    wtm_at "of_rd"
    refine i_R (n := rs.length) (by rw [zl]) (by omega) ?_
    refine fR' (fun i σ H' => ∃ (xs' : List V) (rs' : List Pr) (v4 v5 v6 v7 v8 v9 : Option V), σ = [some (.ref l), some (.ref hk), some (.ref p), some (.ref L), v4, v5, v6, v7, v8, v9] ∧ Ex H1 H' ∧ H' L = some (.lst xs') ∧ RowsX H' xs' rs' ∧ (rs'.map toQ).Perm (ss.drop i) ∧ ∀ r ∈ rs', PrOk 3000 r)
      ⟨xs, rs, _, _, _, _, _, _, rfl, e2, h2, hx.le (e1.trans e2).le, hperm.symm, hok⟩ ?_ ?_
    · rintro i σ H3 hi ⟨xs', rs', v4, v5, v6, v7, v8, v9, rfl, e3, h3, hx3, hp3, hok3⟩
      have his : i < ss.length := by omega
      obtain ⟨q, hqe⟩ : ∃ q, ss[i]? = some q := ⟨_, List.getElem?_eq_getElem his⟩
      obtain ⟨a, za, ra⟩ := hz.2 i q hqe
      have bq := hqs q (List.mem_of_getElem? hqe)
      have i0 : (0 : Int) + (i : Int) = ((i : Nat) : Int) := by omega
      wtm_at "of_rd"
      refine i_L h3 ?_
      refine lL (fun L' j acc H' => Ex H3 H' ∧ RowsX H' acc ((rs'.take j).filter fun r => decide (q = toQ r))) (fun L' hL' H' e h => ⟨e, .nil⟩) (fun L' j acc H' hL' hj ⟨e, _⟩ => e _ _ h3) ?_ ?_
      · intro L' j x acc H' hL' hxj ⟨e, ac⟩ hacc
        obtain ⟨b, r, rfl, hr, hb⟩ := hx3.at_ hxj
        have okr := hok3 r (List.mem_of_getElem? hr)
        have lt1 : (rs'.take j).length ≤ j := List.length_take_le _ _
        have acl : acc.length ≤ 1000000 := by
          rw [ac.length]
          refine Nat.le_trans (List.length_filter_le _ _) (Nat.le_trans lt1 ?_)
          have : j < rs'.length := (List.getElem?_eq_some_iff.mp hr).1
          have l2 := hp3.length_eq
          rw [List.length_map, List.length_drop] at l2
          omega
        wtm_at "of_rd"
        refine ⟨rfl, ?_⟩
        rw [i0]
        wtm_at "of_rd"
        refine r_iL1 ((e3.trans e) _ _ h1) (atI_nat za) ?_
        wtm_at "of_rd"
        refine r_iT1 (e _ _ hb) (atI_nat (j := 0) rfl) ?_
        wtm_at "of_rd"
        refine r_iT1 (e _ _ hb) (atI_nat (j := 1) rfl) ?_
        wtm_at "of_rd"
        refine ⟨a, q, r.1, r.2, rfl, ra.ex (e3.trans e), bq, pow_mono okr.1 (by decide), pow_mono okr.2.1 (by decide), ?_⟩
        wtm_at "of_rd"
        rw [dec_ratio okr.2.2]
        refine ite2 (fun ht => ?_) (fun ht => ?_)
        · wtm_at "of_rd"
          refine lput hacc acl ⟨e.put hL', ?_⟩
          rw [filter_step hr, if_pos (decide_eq_true ht)]
          exact (ac.put hacc).snoc (by rw [upd_ne (ne_of (e _ _ hb) hacc (by intro z; cases z))]; exact e _ _ hb)
        · refine ⟨acc, hacc, e, ?_⟩
          rw [filter_step hr, if_neg (by rw [decide_eq_true_iff]; exact ht), List.append_nil]
          exact ac
      intro L' acc H4 hL' h4 ⟨e4, ac⟩
      rw [hx3.length, List.take_length] at ac
      have hmem : q ∈ rs'.map toQ := by
        rw [hp3.mem_iff, List.drop_eq_getElem_cons his, (List.getElem?_eq_some_iff.mp hqe).2]
        exact List.mem_cons_self ..
      obtain ⟨r1, hr1, hrq⟩ := List.mem_map.mp hmem
      have hne : (rs'.filter fun r => decide (q = toQ r)) ≠ [] := fun z => by
        have : r1 ∈ rs'.filter fun r => decide (q = toQ r) := List.mem_filter.mpr ⟨hr1, decide_eq_true hrq.symm⟩
        rw [z] at this; cases this
      wtm_at "of_rd"
      refine r_laidL (by decide) ?_
      intro z5 H5 e5 n5 h5
      refine r_eqNil (e5 _ _ h4) (ac.le e5.le) h5 ?_
      wtm_at "of_rd"
      refine iteDn hne ?_
      obtain ⟨r0, fs, hf⟩ := List.exists_cons_of_ne_nil hne
      have hr0 : r0 ∈ rs'.filter fun r => decide (q = toQ r) := by rw [hf]; exact List.mem_cons_self ..
      obtain ⟨hr0m, hr0q⟩ := List.mem_filter.mp hr0
      have hr0q : q = toQ r0 := of_decide_eq_true hr0q
      obtain ⟨b0, zb, hb0⟩ := ac.get (i := 0) (r := r0) (by rw [hf]; rfl)
      obtain ⟨j, hj, hjr⟩ := place_of hr0m
      have e45 := e4.trans e5
      wtm_at "of_rd"
      refine ⟨ty_l (e45 _ _ h3), ?_⟩
      wtm_at "of_rd"
      refine r_iL1 (e5 _ _ h4) (atI_nat (j := 0) zb) ?_
      wtm_at "of_rd"
      refine ⟨L, xs', .ref b0, _, _, j, rfl, rfl, e45 _ _ h3, (hx3.le e45.le).dp, dp_pair (e5 _ _ hb0), rows_lay _, pair_lay _, Nat.le_trans (rows_depth _) (by decide), hj, ?_⟩
      have e6 : Ex H1 (upd H5 L (.lst (xs'.eraseIdx j))) := (e3.trans e45).put n2
      have hnp : (rs'.eraseIdx j).map toQ |>.Perm (ss.drop (i + 1)) := by
        have z1 := ((erase_perm hjr).map toQ).trans hp3
        rw [List.map_cons, List.drop_eq_getElem_cons his, (List.getElem?_eq_some_iff.mp hqe).2, ← hr0q] at z1
        exact z1.cons_inv
      wtm_at "of_rd"
      refine q_max ?_
      have hm : ∃ j0 : Nat, max (0 : Int) (0 + (i : Int) - 1) = (j0 : Int) ∧ j0 ≤ i := ⟨i - 1, by omega, by omega⟩
      obtain ⟨j0, hj0, hji⟩ := hm
      rw [hj0]
      obtain ⟨q0, hq0⟩ : ∃ q0, ss[j0]? = some q0 := ⟨_, List.getElem?_eq_getElem (by omega)⟩
      obtain ⟨a0, za0, ra0⟩ := hz.2 j0 q0 hq0
      have bq0 := hqs q0 (List.mem_of_getElem? hq0)
      have hle : q0 ≤ q := by
        rcases Nat.lt_or_eq_of_le hji with z | z
        · have := List.pairwise_iff_getElem.mp hsort j0 i (by omega) his z
          rw [(List.getElem?_eq_some_iff.mp hq0).2, (List.getElem?_eq_some_iff.mp hqe).2] at this
          exact this
        · subst z
          rw [hq0] at hqe; cases hqe; exact Rat.le_refl
      refine r_iL1 (e6 _ _ h1) (atI_nat za0) ?_
      have R0 := ra0.ex e6
      have R1 := ra.ex e6
      rw [i0]
      wtm_at "of_rd"
      refine r_iL1 (e6 _ _ h1) (atI_nat za) ?_
      wtm_at "of_rd"
      refine r_iL1 (e6 _ _ h1) (atI_nat za) ?_
      wtm_at "of_rd"
      refine iteDn (by have := (Rat.le_iff q0 q).mp hle; omega) ?_
      wtm_at "of_rd"
      exact ⟨_, _, _, _, _, _, _, _, rfl, e6, upd_same, ((hx3.le e45.le).put (e45 _ _ h3)).erase j, hnp, fun r hr => hok3 r (List.mem_of_mem_eraseIdx hr)⟩
    · rintro σ H3 ⟨xs', rs', v4, v5, v6, v7, v8, v9, rfl, e3, h3, hx3, hp3, hok3⟩
      have e13 := e1.trans e3
      have hy3 : SeqAt1 H3 hk ys := hy.elim (fun z => .inl (e13 _ _ z)) (fun z => .inr (e13 _ _ z))
      have hat3 : ∀ (i : Nat) (q : Rat), (rs.map toQ)[i]? = some q → ∃ v, ys[i]? = some v ∧ NumV C_Ratio H3 v q := fun i q h => by
        obtain ⟨v, a, b⟩ := hat i q h
        exact ⟨v, a, b.ex e13⟩
      wtm_at "of_rd"
      refine ⟨hk, ys, rfl, hy3, .inr ⟨rs.map toQ, by rw [ql, hyl], hat3, hq, by rw [ql]; exact hlen, by rw [ql]; exact hpos, ?_⟩⟩
      intro H4 p4 s4 q4 e4 perm4 sort4 at4 R4
      have u4 := sorted_unique (perm4.trans hperm.symm) sort4 hsort
      subst u4
      wtm_at "of_rd"
      have e14 := e13.trans e4
      refine ⟨hk, ys, rfl, hy.elim (fun z => .inl (e14 _ _ z)) (fun z => .inr (e14 _ _ z)), .inr ⟨rs.map toQ, by rw [ql, hyl], fun i q h => by
        obtain ⟨v, a, b⟩ := hat i q h
        exact ⟨v, a, b.ex e14⟩, hq, by rw [ql]; exact hlen, by rw [ql]; exact hpos, ?_⟩⟩
      intro H5 p5 s5 q5 e5 perm5 sort5 at5 R5
      have u5 := sorted_unique (perm5.trans perm4.symm) sort5 sort4
      subst u5
      have at4 : s5[0]? = some q4 := at4.elim (fun z => z.2) (fun z => absurd z.1 (by decide))
      have at5 : s5[s5.length - 1]? = some q5 := at5.elim (fun z => absurd z.1 (by decide)) (fun z => z.2)
      obtain ⟨a4, za4, ra4⟩ := hz.2 _ q4 at4
      obtain ⟨a5, za5, ra5⟩ := hz.2 _ q5 at5
      have b4 := hqs q4 (List.mem_of_getElem? at4)
      have b5 := hqs q5 (List.mem_of_getElem? at5)
      have e35 := (e3.trans e4).trans e5
      have R4' := ra4.ex e35
      have R5' := ra5.ex e35
      wtm_at "of_rd"
      refine r_iL1 (e35 _ _ h1) (atI_nat (j := 0) za4) ?_
      wtm_at "of_rd"
      refine r_iL1 (e35 _ _ h1) (atI_nat (j := 0) za4) ?_
      wtm_at "of_rd"
      refine ⟨p4, q4, q4.num, (q4.den : Int), rfl, R4.ex e5, b4, b4.n, b4.d, ?_⟩
      wtm_at "of_rd"
      refine iteN rfl ?_
      wtm_at "of_rd"
      refine r_iL1 (e35 _ _ h1) (atI_last (by rw [zl]; exact hpos) (by rw [hz.1]; exact za5)) ?_
      wtm_at "of_rd"
      refine r_iL1 (e35 _ _ h1) (atI_last (by rw [zl]; exact hpos) (by rw [hz.1]; exact za5)) ?_
      wtm_at "of_rd"
      refine ⟨p5, q5, q5.num, (q5.den : Int), rfl, R5, b5, b5.n, b5.d, ?_⟩
      rw [decide_eq_true rfl]
      exact kont H5 (e1.trans e35)
end
end
section
open PySem PySem.Spec PyProof.Rows L2 He
abbrev s_empty : Stmt := top 37
theorem sc_empty : FnScope ["_law_call", "_law_found", "e"] ["_law_call"] (defScope s_empty) := ⟨rfl, rfl, rfl, by decide +kernel, rfl, by decide +kernel, by decide +kernel⟩
theorem empty_gives {X : Cx} {g CN : Addr} {cdg : Value} {q : Str} (EC : ExcC X.K CN) (XF : XfC X.K CN) (hno : PySem.W.findIn X.K (.ref CN) "number" = some none) (hme : X.mg "NoSuch" = some (.ref CN)) (bi : X.mg "isinstance" = none) (bv : X.mg "ValueError" = none)
    (hex : PySem.W.exmOne X.K (.ref CN) (.ref CN) = some true) (hve : PySem.W.kitOne X.K (.ref CN) (.type "ValueError") = some true) :
    LamX.GivesTo X ["_law_call", "_law_found", "e"] "_law_empty" (defScope s_empty) g cdg (defBody s_empty) "_law_call" q (TEmpty CN) := by
  intro f c' s H Q tl act hc h
  refine ⟨_, pss_cons (ps_set (i := 1) sc_empty.nd rfl (Or.inl rfl) pe_str) (pss_cons (ps_try_as (i := 2) (c := .ref CN)
      (tb := fun W D σ H => ∃ Ech : XK, (∀ cls d (σ' : L2.St) H', σ'.length = 3 → Ech cls d H' → W cls d σ' H') ∧ σ[0]? = some (some (.ref f)) ∧ H c' = some (LamX.CodeO c' q) ∧ tl Ech H (fun _ H' => D.nx σ H'))
      rfl rfl sc_empty.nd rfl rfl ⟨rfl, by decide, .inl hme⟩ LamX.takes0 (fun W pn xe tk _ => ?_)
      (fun a oe cls d pn hz hf => pss_one (ps_set (i := 1) sc_empty.nd rfl (Or.inl rfl) (pe_ifExp (pt_val (pe_callB (call_isEx (K := X.K) rfl EC hz hf) (by rfl) bi (by decide +kernel) (pa_cons (pv 2) (pa_cons (pe_bltn (v := .ty "ValueError") (u := .type "ValueError") (by rfl) bv (by decide +kernel) rfl) pa_nil)))) (pe_xf XF hno hz hf (pv 2)) pe_str))))
    (pss_one (ps_ret (pv 1)))), ?_⟩
  · refine ⟨fun pins s' σ H' D I h' => ?_⟩
    obtain ⟨Ech, hW, h1, h2, h3⟩ := h'
    have hp := fun p1 p2 => act _ pn xe Ech p1 p2 (takes_len tk) (fun cls d σ' H' he hl => hW cls d σ' H' hl he)
    exact (pss_one (ps_expr (hp _ _))).run pins s' σ H' D I ⟨h1, h2, h3⟩
  · wtm_at "of_rd"
    refine ⟨fun cls d H' => cls = .ref CN ∧ ∃ dd v, d = some dd ∧ H' dd = some (.xd [("number", v)]) ∧ Q v H', ?_, rfl, hc, ?_⟩
    · rintro cls d σ' H' hl ⟨rfl, dd, v, rfl, hd, hq⟩
      obtain ⟨x0, x1, x2, rfl⟩ : ∃ x0 x1 x2, σ' = [x0, x1, x2] := by
        match σ', hl with
        | [x0, x1, x2], _ => exact ⟨_, _, _, rfl⟩
      refine ⟨true, hex, fun _ a ha => ?_, fun z => by cases z⟩
      wtm_at "of_rd"
      refine ⟨rfl, ⟨dd, _, rfl, hd⟩, .ty "ValueError", .type "ValueError", true, rfl, fun u r => r, hve, ?_⟩
      wtm_at "of_rd"
      refine ⟨_, rfl, rfl, rfl, dd, _, v, rfl, hd, by rw [List.lookup_cons]; simp, ?_⟩
      wtm_at "of_rd"
      exact hq
    · exact h
end
section
open PySem PySem.Spec PyProof.Rows L2 He
abbrev noArgs : Arguments := { posonlyargs := [], args := [], vararg := none, kwonlyargs := [], kw_defaults := [], kwarg := none, defaults := [] }
abbrev lamSc (nm : Str) : Scope := { kind := .function, names := [(nm, .globalImplicit)], isGenerator := false, isCoroutine := false, more := [] }
theorem lamSc_gl (nm : Str) : (lamSc nm).names.lookup nm = some .globalImplicit := by show List.lookup nm [(nm, _)] = _; rw [List.lookup_cons]; simp
theorem lamS_g (sc : Scope) (nm : Str) : LamX.LamS sc (lamSc nm) := ⟨rfl, rfl, rfl, fun y hy => by rw [List.mem_singleton.mp hy]; exact ⟨(fun z => nomatch z), (fun z => nomatch z)⟩, fun y hy e => by rw [List.mem_singleton.mp hy] at e; cases e⟩
theorem def_no (env : Env) : defaultsOf noArgs env = ([], []) := rfl
theorem bind_no (q : Str) (body : Expr) (sc : Scope) (cl : List (Str × Addr)) (pm cv ctv : Value) : bindArgs (PySem.W.kla_fn "<lambda>" q noArgs body sc cl pm cv ctv) ⟨[], []⟩ = pure [] := rfl
theorem pe_lamE {X : Cx} {cL PT gE CN : Addr} {nm : Str} {sp : Sp} {k : Nat} {p p1 p2 p3 lpos pos : Pos} (hg : Gl X "_law_empty") (hm : X.mg "_law_empty" = some (.ref gE)) (kpE : PySem.W.keepIn X.K (.ref gE) = true)
    {oc2 od2 dV2 kV2 doc2 pm2 an2 cdv2 ct2 osl2} (lkE : X.K.lookup gE = some ⟨oc2, od2, .func (PySem.W.fnOf "_law_empty" "_law_empty" (defArgs s_empty) (defBody s_empty) (defScope s_empty) dV2 kV2 doc2 pm2 an2 cdv2 ct2), osl2⟩) (hcE : PySem.W.codeIn X.K cdv2 "_law_empty" = true)
    (bE : Binds X.K (PySem.W.fnOf "_law_empty" "_law_empty" (defArgs s_empty) (defBody s_empty) (defScope s_empty) dV2 kV2 doc2 pm2 an2 cdv2 ct2) ["_law_call"] [])
    (EC : ExcC X.K CN) (XF : XfC X.K CN) (hno : PySem.W.findIn X.K (.ref CN) "number" = some none) (hme : X.mg "NoSuch" = some (.ref CN)) (bi : X.mg "isinstance" = none) (bv : X.mg "ValueError" = none)
    (hex : PySem.W.exmOne X.K (.ref CN) (.ref CN) = some true) (hve : PySem.W.kitOne X.K (.ref CN) (.type "ValueError") = some true)
    (TBc : LamX.TabB X.base X.mg cL PT) (hcode : X.env.code = .ref cL) (hq : X.env.qual ++ ("<lambda>" : Str) = qL) (hr : Room (k + 2) X.A)
    (c : Cl X.prog X.w X.K X.mg X.base k nm sp) (hdb : (nm == ("__debug__" : Str)) = false) :
    PE X (.Call (.Name "_law_empty" p) [.Lambda noArgs (.Call (.Name nm p1) [.List [] p2] [] p3) (lamSc nm) lpos] [] pos) (LamX.tLam [(PT, qL)] (TEmpty CN) (fun E => tC1 sp E (tCons (tLst tNil) tNil))) :=
  LamX.pe_lamcall (T := [(PT, qL)]) (TT := TEmpty CN) (k := k) hg hm kpE lkE hcE bE sc_empty rfl (Or.inl rfl) (empty_gives EC XF hno hme bi bv hex hve) TBc hcode (lam_mem hq) (lam_uni hq) hr (lamS_g _ nm) (def_no _) (fun q cl pm cv ctv => bind_no q _ _ cl pm cv ctv)
    (fun A outer s H E f c' hr2 => pe_cl c hr2 (Nat.le_refl _) (lamGl (lamSc_gl nm)) (psL (X := X) (A := A) (outer := outer) (s := s) (H := H) (scope := lamSc nm) (f := f) (c' := c')) (pa_cons (pe_lst pa_nil) pa_nil) hdb)
end
section
open PySem PySem.Spec PyProof.Rows L2 He
section
variable {P : Program} {w : World} {K : PySem.W.Frag} {mg : Str → Option Value} {base : Heap} {C_Ratio C_BadNumber C_NoSuch f_Ratio_eq f_Ratio_lt : Addr} {T_ : List (Addr × Str)}
abbrev s_law : Stmt := (top 38)
theorem sc_law : FnScope ["_law_script", "_law_tape", "_law_shared", "_law_rows", "_law_k", "_law_handed", "_law_one", "_law_kept", "_law_turned", "_law_other"] ["_law_script"] (defScope s_law) := ⟨rfl, rfl, rfl, by decide +kernel, rfl, by decide +kernel, by decide +kernel⟩
theorem ok_law {f cL PT gE : Addr} {oc od dV kV doc pm an ct osl} (lk : K.lookup f = some ⟨oc, od, .func (PySem.W.fnOf "law" "law" (defArgs s_law) (defBody s_law) (defScope s_law) dV kV doc pm an (.ref cL) ct), osl⟩) (hcd : PySem.W.codeIn K (.ref cL) "law" = true) (TBc : LamX.TabB base mg cL PT)
    {oc2 od2 dV2 kV2 doc2 pm2 an2 cdv2 ct2 osl2} (lkE : K.lookup gE = some ⟨oc2, od2, .func (PySem.W.fnOf "_law_empty" "_law_empty" (defArgs s_empty) (defBody s_empty) (defScope s_empty) dV2 kV2 doc2 pm2 an2 cdv2 ct2), osl2⟩) (hcE : PySem.W.codeIn K cdv2 "_law_empty" = true) (kpE : PySem.W.keepIn K (.ref gE) = true) (g_empty : mg "_law_empty" = some (.ref gE))
    (bE : Binds K (PySem.W.fnOf "_law_empty" "_law_empty" (defArgs s_empty) (defBody s_empty) (defScope s_empty) dV2 kV2 doc2 pm2 an2 cdv2 ct2) ["_law_call"] []) (EC : ExcC K C_NoSuch) (XF : XfC K C_NoSuch) (n_NoSuch : PySem.W.findIn K (.ref C_NoSuch) "number" = some none) (g_NoSuch : mg "NoSuch" = some (.ref C_NoSuch)) (bv : mg "ValueError" = none)
    (exN : PySem.W.exmOne K (.ref C_NoSuch) (.ref C_NoSuch) = some true) (veN : PySem.W.kitOne K (.ref C_NoSuch) (.type "ValueError") = some true) (c_least : Cl P w K mg base 11 "least" (spLeast C_Ratio C_NoSuch 0)) (c_greatest : Cl P w K mg base 11 "greatest" (spLeast C_Ratio C_NoSuch 1))
    (TB : TBl mg) (TR : RT K mg C_Ratio) (k_Ratio : ClsP K C_Ratio) (c_Ratio_2 : Ck P w K mg base 3 "Ratio" C_Ratio [] (spRInit K C_Ratio C_BadNumber)) (c_Ratio_eq : Cm P w K mg base 2 C_Ratio "__eq__" f_Ratio_eq (spRB C_Ratio (fun q r => decide (q = r)))) (c_ascending : Cl P w K mg base 10 "ascending" (spAscending C_Ratio)) (c__law_begin : Cl P w K mg base 1 "_law_begin" (spBegin K)) (c__law_draw : Cl P w K mg base 1 "_law_draw" (spDraw)) (c__law_size : Cl P w K mg base 3 "_law_size" (spNum 50 2 false)) (c__law_number : Cl P w K mg base 4 "_law_number" (spNum 51 2 true)) (c__law_whole_is : Cl P w K mg base 1 "_law_whole_is" (spWhole K)) (c__law_divisors_right : Cl P w K mg base 2 "_law_divisors_right" (spDiv)) (c__law_near : Cl P w K mg base 5 "_law_near" (spNear)) (c__law_order_right : Cl P w K mg base 12 "_law_order_right" (spOrder C_Ratio)) : FnOk P w K mg base (L2.CX P w) 15 f (PySem.W.fnOf "law" "law" (defArgs s_law) (defBody s_law) (defScope s_law) dV kV doc pm an (.ref cL) ct) ["_law_script"] (spLaw K [(PT, qL)]) := by
  refine L2.fn_of lk hcd sc_law (fun vs H Q E h => ?_) (fun A outer s H vs Q E hr h => ?_)
  · obtain ⟨a, ns, rfl, _⟩ := h; rfl
  · obtain ⟨a, ns, rfl, ha, hn, hTab, k⟩ := h
    refine ⟨_, (pss_cons (ps_set (i := 1) sc_law.nd rfl (Or.inl rfl) (pe_cl c__law_begin hr (by decide) (by rfl) psE (pa_cons (pv 0) pa_nil))) (pss_cons (ps_set (i := 2) sc_law.nd rfl (Or.inl rfl) (pe_op op_add pe_int (pe_cl c__law_size hr (by decide) (by rfl) psE (pa_cons (pv 1) (pa_cons pe_int pa_nil))))) (pss_cons (ps_par (i := 6) (j := 9) rfl sc_law.nd rfl rfl (by decide) rfl rfl (pa_cons (pe_op op_mulA (pv 2) (pe_cl c__law_number hr (by decide) (by rfl) psE (pa_cons (pv 1) (pa_cons pe_int pa_nil)))) (pa_cons (pe_op op_mulA (pv 2) (pe_cl c__law_number hr (by decide) (by rfl) psE (pa_cons (pv 1) (pa_cons pe_int pa_nil)))) pa_nil)) (by rfl)) (pss_cons (ps_if (pw_or (pt_not (pt_val (pe_cl c__law_divisors_right hr (by decide) (by rfl) psE (pa_cons (pv 6) (pa_cons (pv 9) pa_nil))))) (pw_or (pt_not (pt_val (pe_cl c__law_divisors_right hr (by decide) (by rfl) psE (pa_cons (pv 9) (pa_cons (pv 6) pa_nil))))) (pw_or1 (pt_not (pt_val (pe_cl c__law_divisors_right hr (by decide) (by rfl) psE (pa_cons (pv 6) (pa_cons (pv 6) pa_nil)))))))).pt (pss_one (ps_ret pe_bl)) pss_nil) (pss_cons (ps_if (pw_or (pt_not (pt_val (pe_cl c__law_divisors_right hr (by decide) (by rfl) psE (pa_cons pe_int (pa_cons pe_int pa_nil))))) (pw_or (pt_not (pt_val (pe_cl c__law_divisors_right hr (by decide) (by rfl) psE (pa_cons (pv 6) (pa_cons pe_int pa_nil))))) (pw_or1 (pt_not (pt_val (pe_cl c__law_divisors_right hr (by decide) (by rfl) psE (pa_cons (pe_cl c__law_number hr (by decide) (by rfl) psE (pa_cons (pv 1) (pa_cons pe_int pa_nil))) (pa_cons pe_int pa_nil)))))))).pt (pss_one (ps_ret pe_bl)) pss_nil) (pss_cons (ps_set (i := 3) sc_law.nd rfl (Or.inl rfl) (pe_lst pa_nil)) (pss_cons (ps_for (passes_of rfl) rfl (pi_range1 (by rfl) TB.b_range (pa_cons (pe_op op_add pe_int (pe_cl c__law_draw hr (by decide) (by rfl) psE (pa_cons (pv 1) (pa_cons pe_int pa_nil)))) pa_nil)) (pg_name (i := 4) sc_law.nd rfl (Or.inl rfl)) (pss_one (ps_expr (kapp (K := K) rfl PySem.F.plainAttrs_list PySem.F.slot_list_append PySem.F.type_list_append mt_append (pv 3) (pa_cons (pe_cl c__law_near hr (by decide) (by rfl) psE (pa_cons (pv 1) (pa_cons (pv 3) pa_nil))) pa_nil))))) (pss_cons (ps_set (i := 5) sc_law.nd rfl (Or.inr rfl) (pe_lst pa_nil)) (pss_cons (ps_for (passes_of rfl) rfl (kpi_l (K := K) rfl (pv 3)) (pg_name (i := 6) sc_law.nd rfl (Or.inl rfl)) (pss_one (ps_expr (kapp (K := K) rfl PySem.F.plainAttrs_list PySem.F.slot_list_append PySem.F.type_list_append mt_append (pv 5) (pa_cons (pe_ifExp (pw_and (pt_cmpR op_eq (pe_ix (kix_t (K := K) rfl) (pv 6) pe_int (fun _ _ => rfl)) pe_int (nomark _)) (pw_and1 (pt_tr (pe_cl c__law_draw hr (by decide) (by rfl) psE (pa_cons (pv 1) (pa_cons pe_int pa_nil))) (ktru (K := K) rfl) (fun _ => rfl)))).pt (pe_ix (kix_t (K := K) rfl) (pv 6) pe_int (fun _ _ => rfl)) (pe_ck c_Ratio_2 hr (by decide) (by rfl) psE (pa_cons (pe_ix (kix_t (K := K) rfl) (pv 6) pe_int (fun _ _ => rfl)) (pa_cons (pe_ix (kix_t (K := K) rfl) (pv 6) pe_int (fun _ _ => rfl)) pa_nil)))) pa_nil))))) (pss_cons (ps_set (i := 7) sc_law.nd rfl (Or.inr rfl) (pe_callTy (kc_listof (K := K) rfl) (by rfl) TB.b_list (by decide +kernel) (pa_cons (pv 5) pa_nil))) (pss_cons (ps_if (pw_or (pt_not (pt_val (pe_cl c__law_order_right hr (by decide) (by rfl) psE (pa_cons (pv 3) (pa_cons (pv 5) pa_nil))))) (pw_or1 (pt_not (pt_val (pe_cl c__law_order_right hr (by decide) (by rfl) psE (pa_cons (pv 3) (pa_cons (pe_callTy (kc_tupof (K := K) rfl) (by rfl) TB.b_tuple (by decide +kernel) (pa_cons (pv 5) pa_nil)) pa_nil))))))).pt (pss_one (ps_ret pe_bl)) pss_nil) (pss_cons (ps_if (pw_or (pt_cmpR op_ne (pe_callB (kc_len (K := K) rfl) (by rfl) TB.b_len PySem.boot_len (pa_cons (pv 5) pa_nil)) (pe_callB (kc_len (K := K) rfl) (by rfl) TB.b_len PySem.boot_len (pa_cons (pv 7) pa_nil)) (nomark _)) (pw_or1 (pt_not (pt_val (pe_callB (kc_all (K := K) rfl rfl) (by rfl) TB.b_all (by decide +kernel) (pa_cons (pe_lc (own := [("_law_k", 4)]) (tt := tYes) (by rfl) sc_law.nd (pi_range1 (by rfl) TB.b_range (pa_cons (pe_callB (kc_len (K := K) rfl) (by rfl) TB.b_len PySem.boot_len (pa_cons (pv 7) pa_nil)) pa_nil)) (blkOk_by (own := [("_law_k", 4)]) (N := ["_law_script", "_law_tape", "_law_shared", "_law_rows", "_law_k", "_law_handed", "_law_one", "_law_kept", "_law_turned", "_law_other"]) (sc := defScope s_law) (by decide +kernel)) (fun _ _ _ _ _ => (pg_name (i := 4) sc_law.nd rfl (Or.inl rfl))) (fun _ _ _ _ _ => pts_nil) (fun _ _ _ _ _ => (pe_cmpR (op_or op_eq (op_or (opRC_eq k_Ratio.o c_Ratio_eq hr (by decide) passL) (op_or (kC_eq (K := K) rfl c_Ratio_eq hr (by decide) passL) (kC_eq (K := K) rfl c_Ratio_eq hr (by decide) passL)))) (pe_ix (kix_l (K := K) rfl) (pv 5) (pv 4) (fun _ _ => rfl)) (pe_ix (kix_l (K := K) rfl) (pv 7) (pv 4) (fun _ _ => rfl)) (nomark _)))) pa_nil)))))).pt (pss_one (ps_ret pe_bl)) pss_nil) (pss_cons (ps_setLc (i := 8) (own := [("_law_one", 6)]) (tt := tYes) (by rfl) sc_law.nd rfl rfl (sw_true rfl rfl rfl (by decide +kernel)) (kpi_l (K := K) rfl (pv 3)) (blkOk_by (own := [("_law_one", 6)]) (N := ["_law_script", "_law_tape", "_law_shared", "_law_rows", "_law_k", "_law_handed", "_law_one", "_law_kept", "_law_turned", "_law_other"]) (sc := defScope s_law) (by decide +kernel)) (fun _ _ _ _ _ => (pg_name (i := 6) sc_law.nd rfl (Or.inl rfl))) (fun _ _ _ _ _ => pts_nil) (fun _ _ _ _ _ => (pe_tup (pa_cons (pe_un un_neg (pe_ix (kix_t (K := K) rfl) (pv 6) pe_int (fun _ _ => rfl))) (pa_cons (pe_ix (kix_t (K := K) rfl) (pv 6) pe_int (fun _ _ => rfl)) pa_nil))))) (pss_cons (ps_if (pt_not (pt_val (pe_cl c__law_order_right hr (by decide) (by rfl) psE (pa_cons (pv 8) (pa_cons (pe_lc (own := [("_law_one", 6)]) (tt := tYes) (by rfl) sc_law.nd (kpi_l (K := K) rfl (pv 8)) (blkOk_by (own := [("_law_one", 6)]) (N := ["_law_script", "_law_tape", "_law_shared", "_law_rows", "_law_k", "_law_handed", "_law_one", "_law_kept", "_law_turned", "_law_other"]) (sc := defScope s_law) (by decide +kernel)) (fun _ _ _ _ _ => (pg_name (i := 6) sc_law.nd rfl (Or.inl rfl))) (fun _ _ _ _ _ => pts_nil) (fun _ _ _ _ _ => (pe_ck c_Ratio_2 hr (by decide) (by rfl) passL (pa_cons (pe_ix (kix_t (K := K) rfl) (pv 6) pe_int (fun _ _ => rfl)) (pa_cons (pe_ix (kix_t (K := K) rfl) (pv 6) pe_int (fun _ _ => rfl)) pa_nil))))) pa_nil))))) (pss_one (ps_ret pe_bl)) pss_nil) (pss_cons (ps_if (pw_or (pt_cmpR (kop_neD (K := K) rfl (hu_of64 hr)) (pe_cl c_ascending hr (by decide) (by rfl) psE (pa_cons (pe_lst pa_nil) pa_nil)) (pe_lst pa_nil) (nomark _)) (pw_or1 (pt_not (pt_val (pe_cl c__law_whole_is hr (by decide) (by rfl) psE (pa_cons (pe_lamE (cL := cL) (PT := PT) (gE := gE) (CN := C_NoSuch) (sp := spLeast C_Ratio C_NoSuch 0) (k := 11) (by rfl) g_empty kpE lkE hcE bE EC XF n_NoSuch g_NoSuch TB.b_isinstance bv exN veN TBc rfl rfl (hr.mono (by decide)) c_least (by decide)) (pa_cons pe_int pa_nil))))))).pt (pss_one (ps_ret pe_bl)) pss_nil) (pss_one (ps_ret (pe_cl c__law_whole_is hr (by decide) (by rfl) psE (pa_cons (pe_lamE (cL := cL) (PT := PT) (gE := gE) (CN := C_NoSuch) (sp := spLeast C_Ratio C_NoSuch 1) (k := 11) (by rfl) g_empty kpE lkE hcE bE EC XF n_NoSuch g_NoSuch TB.b_isinstance bv exN veN TBc rfl rfl (hr.mono (by decide)) c_greatest (by decide)) (pa_cons pe_int pa_nil)))))))))))))))))))), ?_⟩
    have bt0 : Bt 0 := Nat.two_pow_pos _
    have sm : ∀ m : Int, m.natAbs < 2 ^ 64 → m.natAbs < 2 ^ 4000 := fun m h => pow_mono h (by decide)
    have e64 : (2 : Nat) ^ 64 = 18446744073709551616 := by decide
    wtm_at "of_rd"
    refine ⟨a, ns, rfl, ha, hn, ?_⟩
    intro H1 tp c e1 np nc T1
    wtm_at "of_rd"
    refine ⟨tp, 40, 0, rfl, _, T1, by decide, by decide, by decide, ?_⟩
    intro H2 d2 L2 T2 a0 a1
    have a0 := a0 rfl
    wtm_at "of_rd"
    refine ⟨tp, 59, _, rfl, _, T2, by omega, by decide, by decide, ?_⟩
    intro H3 d3 L3 T3 b0 b1
    have B2 : ((1 : Int) + d2).natAbs < 2 ^ 140 := by
      have : (10 : Nat) ^ 40 + 1 < 2 ^ 140 := by decide
      omega
    have B3 : d3.natAbs < 2 ^ 200 := Nat.lt_trans b1 (by decide)
    refine r_I (cmA_w B2 B3 (by decide)) ?_
    wtm_at "of_rd"
    refine ⟨tp, 59, _, rfl, _, T3, by omega, by decide, by decide, ?_⟩
    intro H4 d4 L4 T4 c0 c1
    have B4 : d4.natAbs < 2 ^ 200 := Nat.lt_trans c1 (by decide)
    refine r_I (cmA_w B2 B4 (by decide)) ?_
    wtm_at "of_rd"
    have O1 : Bt ((1 + d2) * d3) := pow_mono (lt_mul B2 B3) (by decide)
    have O2 : Bt ((1 + d2) * d4) := pow_mono (lt_mul B2 B4) (by decide)
    generalize (1 + d2) * d3 = one at *
    generalize (1 + d2) * d4 = two at *
    refine ⟨one, two, rfl, O1, O2, ?_⟩
    intro H5 e5
    wtm_at "of_rd"
    refine ⟨two, one, rfl, O2, O1, ?_⟩
    intro H6 e6
    wtm_at "of_rd"
    refine ⟨one, one, rfl, O1, O1, ?_⟩
    intro H7 e7
    wtm_at "of_rd"
    refine ⟨0, 0, rfl, bt0, bt0, ?_⟩
    intro H8 e8
    wtm_at "of_rd"
    refine ⟨one, 0, rfl, O1, bt0, ?_⟩
    intro H9 e9
    wtm_at "of_rd"
    have e49 := (((e5.trans e6).trans e7).trans e8).trans e9
    refine ⟨tp, 9, _, rfl, _, T4.ex e49, by omega, by decide, by decide, ?_⟩
    intro H10 d10 L10 T10 f0 f1
    wtm_at "of_rd"
    refine ⟨d10, 1, rfl, pow_mono (n := 30) (Nat.lt_trans f1 (by decide)) (by decide), sm _ (by decide), ?_⟩
    intro H11 e11
    wtm_at "of_rd"
    have L11 : Le H H11 := (((((e1.le.trans L2).trans L3).trans L4).trans e49.le).trans L10).trans e11.le
    have T11 := T10.ex e11
    refine r_laidL (by decide) ?_
    intro R H12 e12 n12 h12
    wtm_at "of_rd"
    refine ⟨tp, 40, _, rfl, _, T11.ex e12, by omega, by decide, sm _ (by decide), ?_⟩
    intro H13 d L13 T13 g0 g1
    wtm_at "of_rd"
    have cR : c ≠ R := fun z => by
      obtain ⟨_, _, _, _, z2, _⟩ := T11
      rw [z, n12] at z2; cases z2
    obtain ⟨m, hm⟩ : ∃ m : Nat, 1 + d = (m : Int) := ⟨(1 + d).toNat, by omega⟩
    rw [hm]
    refine i_R (n := m) rfl (by omega) ?_
    refine fR' (fun i σ H' => ∃ (xs : List V) (rs : List Pr) (v2 v4 v5 v6 v7 v8 v9 : Option V), σ = [some (.ref a), some (.ref tp), v2, some (.ref R), v4, v5, v6, v7, v8, v9] ∧ Le H11 H' ∧ H' R = some (.lst xs) ∧ RowsX H' xs rs ∧ rs.length = i ∧ (∀ r ∈ rs, PrOk (240 + 5 * i) r) ∧ Tape H' tp c (300 + 500 * i))
      ⟨[], [], _, _, _, _, _, _, _, rfl, e12.le.trans L13, L13.lst h12, .nil, rfl, (fun r h => by cases h), T13.mono (by omega)⟩ ?_ ?_
    · rintro i σ H14 hi ⟨xs, rs, v2, v4, v5, v6, v7, v8, v9, rfl, L14, hR, hx, hl, ok, T14⟩
      wtm_at "of_rd"
      refine ⟨ty_l hR, ?_⟩
      wtm_at "of_rd"
      refine ⟨tp, R, rs, _, 240 + 5 * i, rfl, c, T14, by omega, ⟨xs, hR, hx⟩, by omega, by omega, by omega, ok, ?_⟩
      intro H15 q r L15 T15 hq okr
      wtm_at "of_rd"
      refine r_app (L15.lst hR) (by rw [hx.length]; omega) ?_
      wtm_at "of_rd"
      refine ⟨xs ++ [.ref q], rs ++ [r], _, _, _, _, _, _, _, rfl, (L14.trans L15).put n12, upd_same, ((hx.le L15).put (L15.lst hR)).snoc (by rw [upd_ne (ne_of hq (L15.lst hR) (by intro z; cases z))]; exact hq), by rw [List.length_append, hl]; rfl, fun r' h' => ?_, ((T15.put (L15.lst hR) cR).mono (by omega))⟩
      rcases List.mem_append.mp h' with z | z
      · exact (ok r' z).mono (by omega)
      · rw [List.mem_singleton.mp z]; exact okr.mono (by omega)
    rintro σ H14 ⟨xs, rs, v2, v4, v5, v6, v7, v8, v9, rfl, L14, hR, hx, hl, ok0, T14⟩
    have ok : ∀ r ∈ rs, PrOk 3000 r := fun r h => (ok0 r h).mono (by omega)
    wtm_at "of_rd"
    refine r_laidL (by decide) ?_
    intro D H15 e15 n15 h15
    wtm_at "of_rd"
    have cD : c ≠ D := fun z => by
      obtain ⟨_, _, _, _, z2, _⟩ := T14
      rw [z, n15] at z2; cases z2
    have xl := hx.length
    refine i_L (e15 _ _ hR) ?_
    refine fL (xs := xs) (fun i σ H' => ∃ (ys : List V) (v2 v4 v6 v7 v8 v9 : Option V), σ = [some (.ref a), some (.ref tp), v2, some (.ref R), v4, some (.ref D), v6, v7, v8, v9] ∧ Le H14 H' ∧ H' D = some (.lst ys) ∧ ys.length = i ∧ (∀ (j : Nat) (r : Pr), j < i → rs[j]? = some r → ∃ v, ys[j]? = some v ∧ NumV C_Ratio H' v (toQ r)) ∧ Tape H' tp c (30000 + i))
      ⟨[], _, _, _, _, _, _, rfl, e15.le, h15, rfl, fun j r h => absurd h (Nat.not_lt_zero _), (T14.ex e15).mono (by omega)⟩ (fun i σ H' _ ⟨_, _, _, _, _, _, _, _, L, _⟩ => L.lst hR) ?_ ?_
    · rintro i x σ H16 hxi ⟨ys, v2, v4, v6, v7, v8, v9, rfl, L16, hD, hyl, hya, T16⟩
      have hi : i < xs.length := (List.getElem?_eq_some_iff.mp hxi).1
      obtain ⟨q, r, rfl, hr, hq⟩ := (hx.le L16).at_ hxi
      obtain ⟨o1, o2, o3⟩ := ok r (List.mem_of_getElem? hr)
      have fin : ∀ (H' : Hp) (v : V), Le H16 H' → Tape H' tp c (30000 + i + 1) → NumV C_Ratio H' v (toQ r) → ∀ (v2 v4 v6 v7 v8 v9 : Option V), ∃ (ys' : List V) (w2 w4 w6 w7 w8 w9 : Option V), [some (V.ref a), some (.ref tp), v2, some (.ref R), v4, some (.ref D), v6, v7, v8, v9] = [some (.ref a), some (.ref tp), w2, some (.ref R), w4, some (.ref D), w6, w7, w8, w9] ∧ Le H14 (upd H' D (.lst (ys ++ [v]))) ∧ upd H' D (.lst (ys ++ [v])) D = some (.lst ys') ∧ ys'.length = i + 1 ∧ (∀ (j : Nat) (r : Pr), j < i + 1 → rs[j]? = some r → ∃ v', ys'[j]? = some v' ∧ NumV C_Ratio (upd H' D (.lst (ys ++ [v]))) v' (toQ r)) ∧ Tape (upd H' D (.lst (ys ++ [v]))) tp c (30000 + (i + 1)) := by
        intro H' v L T nv v2 v4 v6 v7 v8 v9
        have hD' := L.lst hD
        have np : ∀ {v' : V} {q : Rat}, NumV C_Ratio H' v' q → NumV C_Ratio (upd H' D (.lst (ys ++ [v]))) v' q := fun h => by
          rcases h with h | ⟨p, e, h⟩
          · exact .inl h
          · exact .inr ⟨p, e, h.put hD'⟩
        refine ⟨ys ++ [v], v2, v4, v6, v7, v8, v9, rfl, (L16.trans L).put n15, upd_same, by rw [List.length_append, hyl]; rfl, fun j r' hj hr' => ?_, T.put hD' cD⟩
        by_cases z : j < i
        · obtain ⟨v', h1, h2⟩ := hya j r' z hr'
          exact ⟨v', by rw [List.getElem?_append_left (by omega)]; exact h1, np (h2.le L)⟩
        · have : j = i := by omega
          subst this
          rw [hr] at hr'; cases hr'
          exact ⟨v, by rw [List.getElem?_append_right (by omega), hyl]; simp, np nv⟩
      wtm_at "of_rd"
      refine ⟨ty_l hD, ?_⟩
      wtm_at "of_rd"
      refine r_iT1 hq (atI_nat (j := 1) rfl) ?_
      wtm_at "of_rd"
      refine ite2 (fun h1 => ?_) (fun h1 => ?_)
      · wtm_at "of_rd"
        refine ⟨tp, 2, _, rfl, _, T16, by omega, by decide, sm _ (by decide), ?_⟩
        intro H17 d17 L17 T17 z0 z1
        refine q_truI ?_
        refine ite2 (fun h2 => ?_) (fun h2 => ?_)
        · wtm_at "of_rd"
          refine r_iT1 (L17.tup hq) (atI_nat (j := 0) rfl) ?_
          wtm_at "of_rd"
          refine r_app (L17.lst hD) (by omega) ?_
          wtm_at "of_rd"
          exact fin H17 _ L17 T17 (.inl ⟨r.1, rfl, toQ_one h1⟩) _ _ _ _ _ _
        · wtm_at "of_rd"
          refine r_iT1 (L17.tup hq) (atI_nat (j := 0) rfl) ?_
          wtm_at "of_rd"
          refine r_iT1 (L17.tup hq) (atI_nat (j := 1) rfl) ?_
          wtm_at "of_rd"
          refine q_mk rfl (by omega) (pow_mono o2 (by decide)) ?_
          intro H18 p18 e18 h18
          wtm_at "of_rd"
          refine r_app ((L17.trans e18.le).lst hD) (by omega) ?_
          wtm_at "of_rd"
          exact fin H18 _ (L17.trans e18.le) (T17.ex e18) (num_r h18) _ _ _ _ _ _
      · wtm_at "of_rd"
        refine r_iT1 hq (atI_nat (j := 0) rfl) ?_
        wtm_at "of_rd"
        refine r_iT1 hq (atI_nat (j := 1) rfl) ?_
        wtm_at "of_rd"
        refine q_mk rfl (by omega) (pow_mono o2 (by decide)) ?_
        intro H18 p18 e18 h18
        wtm_at "of_rd"
        refine r_app (e18.le.lst hD) (by omega) ?_
        wtm_at "of_rd"
        exact fin H18 _ e18.le ((T16.ex e18).mono (by omega)) (num_r h18) _ _ _ _ _ _
    rintro σ H16 ⟨ys, v2, v4, v6, v7, v8, v9, rfl, L16, hD, hyl, hya, T16⟩
    have rpos : 0 < rs.length := by omega
    have rle : rs.length ≤ 1000 := by omega
    have hR16 := L16.lst hR
    have hx16 := hx.le L16
    have hand : ∀ {H' : Hp}, Le H16 H' → ∀ (i : Nat) (r : Pr), rs[i]? = some r → ∃ v, ys[i]? = some v ∧ NumV C_Ratio H' v (toQ r) := fun L i r h => by
      obtain ⟨v, z1, z2⟩ := hya i r (by rw [xl]; exact (List.getElem?_eq_some_iff.mp h).1) h
      exact ⟨v, z1, z2.le L⟩
    wtm_at "of_rd"
    refine q_listL hD ?_
    intro Kp H17 e17 n17 h17
    wtm_at "of_rd"
    refine ⟨R, D, rs, rfl, ⟨xs, e17 _ _ hR16, hx16.le e17.le⟩, ⟨ys, .inl (e17 _ _ hD), by omega, hand e17.le⟩, rpos, rle, ok, ?_⟩
    intro H18 e18
    wtm_at "of_rd"
    have e178 := e17.trans e18
    refine q_tupL (e178 _ _ hD) ?_
    intro Tt H19 e19 n19 h19
    have e179 := e178.trans e19
    wtm_at "of_rd"
    refine ⟨R, Tt, rs, rfl, ⟨xs, e179 _ _ hR16, hx16.le e179.le⟩, ⟨ys, .inr h19, by omega, hand e179.le⟩, rpos, rle, ok, ?_⟩
    intro H20 e20
    have e200 := e179.trans e20
    wtm_at "of_rd"
    refine q_lenL (e200 _ _ hD) ?_
    wtm_at "of_rd"
    refine q_lenL (((e18.trans e19).trans e20) _ _ h17) ?_
    wtm_at "of_rd"
    refine iteN rfl ?_
    wtm_at "of_rd"
    refine q_lenL (((e18.trans e19).trans e20) _ _ h17) ?_
    wtm_at "of_rd"
    refine i_R (n := ys.length) rfl (by omega) ?_
    refine lR (fun L i acc H' => Ex H20 H' ∧ acc = (List.replicate i true).map V.bl) (fun L hL H' e h => ⟨e, rfl⟩) ?_ ?_
    · rintro L i acc H' hL hi ⟨e, rfl⟩ hacc
      have hrs : i < rs.length := by omega
      obtain ⟨v, zv, nv⟩ := hand (H' := H') (e200.trans e).le i _ (List.getElem?_eq_getElem hrs)
      have i0 : (0 : Int) + (i : Int) = ((i : Nat) : Int) := by omega
      have al : ((List.replicate i true).map V.bl).length ≤ 1000000 := by rw [List.length_map, List.length_replicate]; omega
      have fin : ∀ H'' : Hp, Ex H' H'' → LPut L (fun acc H' => Ex H20 H' ∧ acc = (List.replicate (i + 1) true).map V.bl) (V.bl true) H'' := fun H'' e2 => by
        refine lput (e2 _ _ hacc) al ⟨(e.trans e2).put hL, ?_⟩
        rw [List.replicate_succ', List.map_append]; rfl
      wtm_at "of_rd"
      refine ⟨rfl, ?_⟩
      rw [i0]
      wtm_at "of_rd"
      refine r_iL1 ((e200.trans e) _ _ hD) (atI_nat zv) ?_
      wtm_at "of_rd"
      refine r_iL1 ((((e18.trans e19).trans e20).trans e) _ _ h17) (atI_nat zv) ?_
      rcases nv with ⟨z, rfl, _⟩ | ⟨p, rfl, hp⟩
      · refine .inl (r_eqI ?_)
        rw [decide_eq_true rfl]
        exact fin H' (Ex.refl _)
      · have okq := (ok _ (List.getElem_mem hrs)).bq (by decide)
        refine .inr (.inr (.inr (o_O hp (o_anyR TR hp) (q_RB hp (num_r hp) okq okq ?_))))
        intro H'' e2
        rw [decide_eq_true rfl]
        exact fin H'' e2
    rintro L acc H21 hL h21 ⟨e21, rfl⟩
    wtm_at "of_rd"
    refine q_allB h21 ?_
    rw [show (List.replicate ys.length true).all id = true from by simp]
    wtm_at "of_rd"
    have e210 := e200.trans e21
    refine i_L (e210 _ _ hR16) ?_
    refine lL (xs := xs) (fun L i acc H' => Ex H21 H' ∧ RowsX H' acc ((rs.take i).map negP)) (fun L hL H' e h => ⟨e, .nil⟩) (fun L i acc H' hL hi ⟨e, _⟩ => (e210.trans e) _ _ hR16) ?_ ?_
    · intro L i x acc H' hL hxi ⟨e, ac⟩ hacc
      have E := e210.trans e
      obtain ⟨q, r, rfl, hr, hq⟩ := (hx16.le E.le).at_ hxi
      wtm_at "of_rd"
      refine ⟨rfl, ?_⟩
      wtm_at "of_rd"
      refine r_iT1 hq (atI_nat (j := 0) rfl) ?_
      wtm_at "of_rd"
      refine r_iT1 hq (atI_nat (j := 1) rfl) ?_
      wtm_at "of_rd"
      refine r_laidT (by show 2 ≤ 1000; decide) ?_
      intro p H'' e2 n2 h2
      have hacc2 := e2 _ _ hacc
      refine lput hacc2 (by rw [ac.length, List.length_map]; exact Nat.le_trans (List.length_take_le _ _) (by have := (List.getElem?_eq_some_iff.mp hxi).1; omega)) ⟨(e.trans e2).put hL, ?_⟩
      rw [List.take_add_one, hr, List.map_append]
      exact ((ac.le e2.le).put hacc2).snoc (by rw [upd_ne (ne_of h2 hacc2 (by intro z; cases z))]; exact h2)
    intro U acc H22 hU h22 ⟨e22, ac⟩
    rw [xl, List.take_length] at ac
    have e220 := e210.trans e22
    have okn : ∀ r ∈ rs.map negP, PrOk 3000 r := fun r h => by
      obtain ⟨r', h1, rfl⟩ := List.mem_map.mp h
      exact (ok r' h1).neg
    have acl : acc.length = rs.length := by rw [ac.length, List.length_map]
    wtm_at "of_rd"
    refine i_L h22 ?_
    refine lL (xs := acc) (fun L i acc9 H' => Ex H22 H' ∧ Acc (fun j p H => ∃ r, (rs.map negP)[j]? = some r ∧ IsR C_Ratio H p (toQ r)) acc9 i H') (fun L hL H' e h => ⟨e, .nil⟩) (fun L i acc H' hL hi ⟨e, _⟩ => e _ _ h22) ?_ ?_
    · intro L i x acc9 H' hL hxi ⟨e, ac9⟩ hacc
      obtain ⟨q, r, rfl, hr, hq⟩ := (ac.le e.le).at_ hxi
      obtain ⟨o1, o2, o3⟩ := okn r (List.mem_of_getElem? hr)
      have hil := (List.getElem?_eq_some_iff.mp hxi).1
      wtm_at "of_rd"
      refine ⟨rfl, ?_⟩
      wtm_at "of_rd"
      refine r_iT1 hq (atI_nat (j := 0) rfl) ?_
      wtm_at "of_rd"
      refine r_iT1 hq (atI_nat (j := 1) rfl) ?_
      wtm_at "of_rd"
      refine q_mk rfl (by omega) (pow_mono o2 (by decide)) ?_
      intro H'' p e2 h2
      have hacc2 := e2 _ _ hacc
      exact lput hacc2 (by rw [ac9.len]; omega) ⟨(e.trans e2).put hL, ac9.snoc (fun j q ⟨r, z1, z2⟩ => ⟨r, z1, (z2.ex e2).put hacc2⟩) ⟨r, hr, h2.put hacc2⟩⟩
    intro W acc9 H23 hW h23 ⟨e23, ac9⟩
    rw [acl] at ac9
    wtm_at "of_rd"
    refine ⟨U, W, rs.map negP, rfl, ⟨acc, e23 _ _ h22, ac.le e23.le⟩, ⟨acc9, .inl h23, by rw [List.length_map]; exact ac9.len, fun i r h => ?_⟩, by rw [List.length_map]; exact rpos, by rw [List.length_map]; exact rle, okn, ?_⟩
    · have hi := (List.getElem?_eq_some_iff.mp h).1
      rw [List.length_map] at hi
      obtain ⟨p, z1, r', z2, z3⟩ := ac9.at_ i hi
      rw [h] at z2; cases z2
      exact ⟨_, z1, num_r z3⟩
    intro H24 e24
    wtm_at "of_rd"
    refine r_laidL (by decide) ?_
    intro Z H25 e25 n25 h25
    wtm_at "of_rd"
    refine ⟨Z, [], [], rfl, .inl h25, rfl, (fun i q h => by simp at h), (fun q h => by cases h), by decide, ?_⟩
    intro H26 p26 y26 r26 e26 n26 h26 g26 perm26 _
    have z26 : r26 = [] := perm26.eq_nil
    subst z26
    have y0 : y26 = [] := List.length_eq_zero_iff.mp g26.1
    subst y0
    wtm_at "of_rd"
    refine r_laidL (by decide) ?_
    intro Z2 H27 e27 n27 h27
    refine r_neNil (rs := []) (e27 _ _ h26) .nil h27 ?_
    wtm_at "of_rd"
    rw [decide_eq_true rfl]
    wtm_at "of_rd"
    have TB27 : LamX.Tabs [(PT, qL)] H27 := tabs_le hTab ((((L11.trans L14).trans L16)).trans (e17.trans (e18.trans (e19.trans (e20.trans (e21.trans (e22.trans (e23.trans (e24.trans (e25.trans (e26.trans e27)))))))))).le)
    refine r_lam TB27 ?_
    intro H28 x28 t28
    try unfold TEmpty
    wtm_at "of_rd"
    refine r_laidL (by decide) ?_
    intro Z3 H29 e29 n29 h29
    refine ⟨Z3, [], rfl, .inl h29, .inl ⟨rfl, fun d H30 e30 hd30 hn30 => ⟨rfl, d, _, rfl, hd30, ?_⟩⟩⟩
    have t30 : LamX.Tabs [(PT, qL)] H30 := tabs_le t28 (e29.trans e30).le
    wtm_at "of_rd"
    refine ⟨0, 0, rfl, ?_⟩
    rw [decide_eq_true rfl]
    wtm_at "of_rd"
    refine r_lam t30 ?_
    intro H31 x31 t31
    try unfold TEmpty
    wtm_at "of_rd"
    refine r_laidL (by decide) ?_
    intro Z4 H32 e32 n32 h32
    refine ⟨Z4, [], rfl, .inl h32, .inl ⟨rfl, fun d5 H33 e33 hd33 hn33 => ⟨rfl, d5, _, rfl, hd33, ?_⟩⟩⟩
    wtm_at "of_rd"
    refine ⟨0, 0, rfl, ?_⟩
    rw [decide_eq_true rfl]
    wtm_at "of_rd"
    exact k _
end
end
section
open PySem PySem.Spec PyProof.Rows L2 He
abbrev R : PySem.W.OpenRow := PySem.W.OpenLaw.row PySem.Challenge.rw_overfloors_k09_whole_numbers_in_order
def excCB (K : PySem.W.Frag) (D : Addr) : Bool := eqO (PySem.W.findIn K (.ref D) "__getattribute__") (some (some (.builtin "BaseException.__getattribute__"))) && (eqO (PySem.W.findIn K (.ref D) "__getattr__") (some none) && (decide (PySem.W.subIn K (.ref D) (.type "BaseException") = some true) && (PySem.W.hasDictIn K D && (eqO (PySem.W.findIn K (.ref D) "__class__") (some (some (.builtin "object.__class__"))) && (decide (PySem.W.specialIn K (.builtin "object.__class__") "__get__" = some (some (.builtin "getset_descriptor.__get__"))) && (decide (PySem.W.takesIn K (.builtin "object.__class__") = some true) && decide (PySem.W.mroIn K D (.type "object") = some true)))))))
theorem excCB_ok {K : PySem.W.Frag} {D : Addr} (h : excCB K D = true) : ExcC K D := by
  obtain ⟨h1, h⟩ := ba h
  obtain ⟨h2, h⟩ := ba h
  obtain ⟨h3, h⟩ := ba h
  obtain ⟨h4, h⟩ := ba h
  obtain ⟨h5, h⟩ := ba h
  obtain ⟨h6, h⟩ := ba h
  obtain ⟨h7, h8⟩ := ba h
  exact ⟨eqO_ok h1, eqO_ok h2, of_decide_eq_true h3, h4, eqO_ok h5, of_decide_eq_true h6, of_decide_eq_true h7, of_decide_eq_true h8⟩
def fn : List DefD := [
  ⟨("comes_before", none), "comes_before", "comes_before", defArgs (top 7), defBody (top 7), defScope (top 7), [], []⟩,
  ⟨("merged", none), "merged", "merged", defArgs (top 8), defBody (top 8), defScope (top 8), [], []⟩,
  ⟨("ranked", none), "ranked", "ranked", defArgs (top 9), defBody (top 9), defScope (top 9), [], []⟩,
  ⟨("is_int", none), "is_int", "is_int", defArgs (top 11), defBody (top 11), defScope (top 11), [], []⟩,
  ⟨("is_number", none), "is_number", "is_number", defArgs (top 12), defBody (top 12), defScope (top 12), [], []⟩,
  ⟨("ratio_of", none), "ratio_of", "ratio_of", defArgs (top 13), defBody (top 13), defScope (top 13), [], []⟩,
  ⟨("floor_quotient", none), "floor_quotient", "floor_quotient", defArgs (top 14), defBody (top 14), defScope (top 14), [], []⟩,
  ⟨("power_of", none), "power_of", "power_of", defArgs (top 15), defBody (top 15), defScope (top 15), [], []⟩,
  ⟨("gcd_of", none), "gcd_of", "gcd_of", defArgs (top 17), defBody (top 17), defScope (top 17), [], []⟩,
  ⟨("lcm_of", none), "lcm_of", "lcm_of", defArgs (top 18), defBody (top 18), defScope (top 18), [], []⟩,
  ⟨("bezout", none), "bezout", "bezout", defArgs (top 19), defBody (top 19), defScope (top 19), [], []⟩,
  ⟨("ascending", none), "ascending", "ascending", defArgs (top 20), defBody (top 20), defScope (top 20), [], []⟩,
  ⟨("least", none), "least", "least", defArgs (top 21), defBody (top 21), defScope (top 21), [], []⟩,
  ⟨("greatest", none), "greatest", "greatest", defArgs (top 22), defBody (top 22), defScope (top 22), [], []⟩,
  ⟨("_law_begin", none), "_law_begin", "_law_begin", defArgs (top 24), defBody (top 24), defScope (top 24), [], []⟩,
  ⟨("_law_draw", none), "_law_draw", "_law_draw", defArgs (top 25), defBody (top 25), defScope (top 25), [], []⟩,
  ⟨("_law_pick", none), "_law_pick", "_law_pick", defArgs (top 26), defBody (top 26), defScope (top 26), [], []⟩,
  ⟨("_law_ten", none), "_law_ten", "_law_ten", defArgs (top 27), defBody (top 27), defScope (top 27), [], []⟩,
  ⟨("_law_long", none), "_law_long", "_law_long", defArgs (top 28), defBody (top 28), defScope (top 28), [], []⟩,
  ⟨("_law_size", none), "_law_size", "_law_size", defArgs (top 29), defBody (top 29), defScope (top 29), [], []⟩,
  ⟨("_law_number", none), "_law_number", "_law_number", defArgs (top 30), defBody (top 30), defScope (top 30), [], []⟩,
  ⟨("_law_gcd", none), "_law_gcd", "_law_gcd", defArgs (top 31), defBody (top 31), defScope (top 31), [], []⟩,
  ⟨("_law_whole_is", none), "_law_whole_is", "_law_whole_is", defArgs (top 32), defBody (top 32), defScope (top 32), [], []⟩,
  ⟨("_law_ratio_is", none), "_law_ratio_is", "_law_ratio_is", defArgs (top 33), defBody (top 33), defScope (top 33), [], []⟩,
  ⟨("_law_divisors_right", none), "_law_divisors_right", "_law_divisors_right", defArgs (top 34), defBody (top 34), defScope (top 34), [], []⟩,
  ⟨("_law_near", none), "_law_near", "_law_near", defArgs (top 35), defBody (top 35), defScope (top 35), [], []⟩,
  ⟨("_law_order_right", none), "_law_order_right", "_law_order_right", defArgs (top 36), defBody (top 36), defScope (top 36), [], []⟩,
  ⟨("_law_empty", none), "_law_empty", "_law_empty", defArgs (top 37), defBody (top 37), defScope (top 37), [], []⟩,
  ⟨("law", none), "law", "law", defArgs (top 38), defBody (top 38), defScope (top 38), [], []⟩,
  ⟨("BadNumber", some "__init__"), "__init__", "BadNumber.__init__", defArgs (inClass (top 4) 0), defBody (inClass (top 4) 0), defScope (inClass (top 4) 0), [], []⟩,
  ⟨("NoSuch", some "__init__"), "__init__", "NoSuch.__init__", defArgs (inClass (top 5) 0), defBody (inClass (top 5) 0), defScope (inClass (top 5) 0), [], []⟩,
  ⟨("Ratio", some "__init__"), "__init__", "Ratio.__init__", defArgs (inClass (top 16) 0), defBody (inClass (top 16) 0), defScope (inClass (top 16) 0), [.int 1], []⟩,
  ⟨("Ratio", some "over"), "over", "Ratio.over", defArgs (inClass (top 16) 1), defBody (inClass (top 16) 1), defScope (inClass (top 16) 1), [], []⟩,
  ⟨("Ratio", some "floor"), "floor", "Ratio.floor", defArgs (inClass (top 16) 2), defBody (inClass (top 16) 2), defScope (inClass (top 16) 2), [], []⟩,
  ⟨("Ratio", some "ceiling"), "ceiling", "Ratio.ceiling", defArgs (inClass (top 16) 3), defBody (inClass (top 16) 3), defScope (inClass (top 16) 3), [], []⟩,
  ⟨("Ratio", some "whole"), "whole", "Ratio.whole", defArgs (inClass (top 16) 4), defBody (inClass (top 16) 4), defScope (inClass (top 16) 4), [], []⟩,
  ⟨("Ratio", some "sign"), "sign", "Ratio.sign", defArgs (inClass (top 16) 5), defBody (inClass (top 16) 5), defScope (inClass (top 16) 5), [], []⟩,
  ⟨("Ratio", some "__str__"), "__str__", "Ratio.__str__", defArgs (inClass (top 16) 6), defBody (inClass (top 16) 6), defScope (inClass (top 16) 6), [], []⟩,
  ⟨("Ratio", some "__bool__"), "__bool__", "Ratio.__bool__", defArgs (inClass (top 16) 7), defBody (inClass (top 16) 7), defScope (inClass (top 16) 7), [], []⟩,
  ⟨("Ratio", some "__neg__"), "__neg__", "Ratio.__neg__", defArgs (inClass (top 16) 8), defBody (inClass (top 16) 8), defScope (inClass (top 16) 8), [], []⟩,
  ⟨("Ratio", some "__abs__"), "__abs__", "Ratio.__abs__", defArgs (inClass (top 16) 9), defBody (inClass (top 16) 9), defScope (inClass (top 16) 9), [], []⟩,
  ⟨("Ratio", some "__eq__"), "__eq__", "Ratio.__eq__", defArgs (inClass (top 16) 10), defBody (inClass (top 16) 10), defScope (inClass (top 16) 10), [], []⟩,
  ⟨("Ratio", some "__lt__"), "__lt__", "Ratio.__lt__", defArgs (inClass (top 16) 11), defBody (inClass (top 16) 11), defScope (inClass (top 16) 11), [], []⟩,
  ⟨("Ratio", some "__le__"), "__le__", "Ratio.__le__", defArgs (inClass (top 16) 12), defBody (inClass (top 16) 12), defScope (inClass (top 16) 12), [], []⟩,
  ⟨("Ratio", some "__gt__"), "__gt__", "Ratio.__gt__", defArgs (inClass (top 16) 13), defBody (inClass (top 16) 13), defScope (inClass (top 16) 13), [], []⟩,
  ⟨("Ratio", some "__ge__"), "__ge__", "Ratio.__ge__", defArgs (inClass (top 16) 14), defBody (inClass (top 16) 14), defScope (inClass (top 16) 14), [], []⟩,
  ⟨("Ratio", some "__add__"), "__add__", "Ratio.__add__", defArgs (inClass (top 16) 15), defBody (inClass (top 16) 15), defScope (inClass (top 16) 15), [], []⟩,
  ⟨("Ratio", some "__radd__"), "__radd__", "Ratio.__radd__", defArgs (inClass (top 16) 16), defBody (inClass (top 16) 16), defScope (inClass (top 16) 16), [], []⟩,
  ⟨("Ratio", some "__sub__"), "__sub__", "Ratio.__sub__", defArgs (inClass (top 16) 17), defBody (inClass (top 16) 17), defScope (inClass (top 16) 17), [], []⟩,
  ⟨("Ratio", some "__rsub__"), "__rsub__", "Ratio.__rsub__", defArgs (inClass (top 16) 18), defBody (inClass (top 16) 18), defScope (inClass (top 16) 18), [], []⟩,
  ⟨("Ratio", some "__mul__"), "__mul__", "Ratio.__mul__", defArgs (inClass (top 16) 19), defBody (inClass (top 16) 19), defScope (inClass (top 16) 19), [], []⟩,
  ⟨("Ratio", some "__rmul__"), "__rmul__", "Ratio.__rmul__", defArgs (inClass (top 16) 20), defBody (inClass (top 16) 20), defScope (inClass (top 16) 20), [], []⟩,
  ⟨("Ratio", some "__floordiv__"), "__floordiv__", "Ratio.__floordiv__", defArgs (inClass (top 16) 21), defBody (inClass (top 16) 21), defScope (inClass (top 16) 21), [], []⟩,
  ⟨("Ratio", some "__rfloordiv__"), "__rfloordiv__", "Ratio.__rfloordiv__", defArgs (inClass (top 16) 22), defBody (inClass (top 16) 22), defScope (inClass (top 16) 22), [], []⟩,
  ⟨("Ratio", some "__mod__"), "__mod__", "Ratio.__mod__", defArgs (inClass (top 16) 23), defBody (inClass (top 16) 23), defScope (inClass (top 16) 23), [], []⟩,
  ⟨("Ratio", some "__rmod__"), "__rmod__", "Ratio.__rmod__", defArgs (inClass (top 16) 24), defBody (inClass (top 16) 24), defScope (inClass (top 16) 24), [], []⟩,
  ⟨("Ratio", some "__pow__"), "__pow__", "Ratio.__pow__", defArgs (inClass (top 16) 25), defBody (inClass (top 16) 25), defScope (inClass (top 16) 25), [], []⟩]
def fa : List Fa := [
  .free "isinstance",
  .free "int",
  .free "bool",
  .free "len",
  .free "range",
  .free "zip",
  .free "list",
  .free "tuple",
  .free "max",
  .free "abs",
  .free "all",
  .free "ValueError",
  .glo "comes_before",
  .glo "merged",
  .glo "ranked",
  .glo "is_int",
  .glo "is_number",
  .glo "ratio_of",
  .glo "floor_quotient",
  .glo "power_of",
  .glo "gcd_of",
  .glo "lcm_of",
  .glo "bezout",
  .glo "ascending",
  .glo "least",
  .glo "greatest",
  .glo "_law_begin",
  .glo "_law_draw",
  .glo "_law_pick",
  .glo "_law_ten",
  .glo "_law_long",
  .glo "_law_size",
  .glo "_law_number",
  .glo "_law_gcd",
  .glo "_law_whole_is",
  .glo "_law_ratio_is",
  .glo "_law_divisors_right",
  .glo "_law_near",
  .glo "_law_order_right",
  .glo "_law_empty",
  .glo "law",
  .glo "FloorError",
  .glo "BadNumber",
  .glo "NoSuch",
  .glo "Ratio",
  .meth "BadNumber" "__init__",
  .noat "BadNumber" "value",
  .meth "NoSuch" "__init__",
  .noat "NoSuch" "number",
  .cls "Ratio",
  .noat "Ratio" "top",
  .noat "Ratio" "bottom",
  .mkr "Ratio",
  .meth "Ratio" "over",
  .meth "Ratio" "floor",
  .meth "Ratio" "ceiling",
  .meth "Ratio" "whole",
  .meth "Ratio" "sign",
  .meth "Ratio" "__str__",
  .meth "Ratio" "__bool__",
  .meth "Ratio" "__neg__",
  .meth "Ratio" "__abs__",
  .meth "Ratio" "__eq__",
  .meth "Ratio" "__lt__",
  .meth "Ratio" "__le__",
  .meth "Ratio" "__gt__",
  .meth "Ratio" "__ge__",
  .meth "Ratio" "__add__",
  .meth "Ratio" "__radd__",
  .meth "Ratio" "__sub__",
  .meth "Ratio" "__rsub__",
  .meth "Ratio" "__mul__",
  .meth "Ratio" "__rmul__",
  .meth "Ratio" "__floordiv__",
  .meth "Ratio" "__rfloordiv__",
  .meth "Ratio" "__mod__",
  .meth "Ratio" "__rmod__",
  .meth "Ratio" "__pow__",
  .exm "NoSuch" "NoSuch" true]
def ex (K : PySem.W.Frag) : Bool := clsPB K (ga K "Ratio") && (oexB K (ga K "BadNumber") && (oexB K (ga K "NoSuch") && (excCB K (ga K "NoSuch") && (xfB K (ga K "NoSuch") && (decide (PySem.W.kitOne K (.ref (ga K "NoSuch")) (.type "ValueError") = some true) && (eqO (PySem.W.nsIn K mainGlobals "gcd") (some (some (.builtin "math.gcd"))) && (eqO (PySem.W.nsIn K mainGlobals "lcm") (some (some (.builtin "math.lcm"))))))))))
def tfs : List Defn := [("law", none)]
abbrev hk : PySem.W.Hook := hookX 4 fa fn [] tfs ex
def ob (s : PySem.W.SharedT) : AlX := obsX 4 fa fn [] tfs ex (HandSHeadRun.getT s)
theorem ob_eq (s : PySem.W.SharedT) : ob s = hk.obs s.abs := obsX_eq (HandSHeadRun.getT_eq s)
def loose : List PySem.Str := [("gcd" : PySem.Str), ("lcm" : PySem.Str), ("_wall" : PySem.Str), ("FloorError" : PySem.Str), ("BadNumber" : PySem.Str), ("NoSuch" : PySem.Str), ("comes_before" : PySem.Str), ("merged" : PySem.Str), ("ranked" : PySem.Str), ("is_int" : PySem.Str), ("is_number" : PySem.Str), ("ratio_of" : PySem.Str), ("floor_quotient" : PySem.Str), ("power_of" : PySem.Str), ("Ratio" : PySem.Str), ("gcd_of" : PySem.Str), ("lcm_of" : PySem.Str), ("bezout" : PySem.Str), ("ascending" : PySem.Str), ("least" : PySem.Str), ("greatest" : PySem.Str), ("_law_begin" : PySem.Str), ("_law_draw" : PySem.Str), ("_law_pick" : PySem.Str), ("_law_ten" : PySem.Str), ("_law_long" : PySem.Str), ("_law_size" : PySem.Str), ("_law_number" : PySem.Str), ("_law_gcd" : PySem.Str), ("_law_whole_is" : PySem.Str)] ++ ([("_law_ratio_is" : PySem.Str), ("_law_divisors_right" : PySem.Str), ("_law_near" : PySem.Str), ("_law_order_right" : PySem.Str), ("_law_empty" : PySem.Str)] : List PySem.Str)
theorem run (w : PySem.World) : HandSHeadRun.RunEqI R (PySem.W.view R.prog [0, 38]) hk ob 6600 loose w := by
  unfold HandSHeadRun.RunEqI
  kernel_rfl
end
section
open PySem PySem.Spec PyProof.Rows L2 He
theorem bindsR {K : PySem.W.Frag} {f : Addr} {fd : FuncData} (F : FunD K "__init__" "Ratio.__init__" (defArgs (inClass (top 16) 0)) (defBody (inClass (top 16) 0)) (defScope (inClass (top 16) 0)) [.int 1] [] f fd) (n j : Nat) (hn : n = 2 ∧ j = 0 ∨ n = 3 ∧ j = 1) : ∃ ds, Vals ([V.int 1].drop j) ds ∧ Binds K fd ["self", "top", "bottom"] ds := by
  rcases hn with ⟨rfl, rfl⟩ | ⟨rfl, rfl⟩
  · exact F.binds1 2 0 (by simp) rfl fun _ _ _ _ _ _ _ us its h1 h2 => match us, h1, its, h2 with | [_, _], _, [_], _ => ⟨_, rfl, rfl⟩
  · exact F.binds1 3 1 (by simp) rfl fun _ _ _ _ _ _ _ us its h1 h2 => match us, h1, its, h2 with | [_, _, _], _, [_], _ => ⟨_, rfl, rfl⟩
theorem law_at {w : World} {K : PySem.W.Frag} {mg : Str → Option Value} {h : Heap} {fl : Addr} (X : K.In h) (G : h.Ns mainGlobals mg) (hfa : mg ("law" : Str) = some (.ref fl)) (c : SaysX fa fn [] tfs ex w h K) : LamX.LawAtS PySem.Challenge.rw_overfloors_k09_whole_numbers_in_order w K (L2.CX (PySem.Challenge.rw_overfloors_k09_whole_numbers_in_order).prog w) 15 63 "_law_script" mg fl h := by
  have d : SaysD fa fn K := c.t.d
  have hx : fl = ga K "law" := Value.ref.inj (Option.some.inj (hfa.symm.trans (glo_ok X G (d.fact 40 (f := .glo "law") rfl))))
  subst hx
  have TB : TBl mg := ⟨(free_ok X G (d.fact 0 (f := .free "isinstance") rfl)), (free_ok X G (d.fact 1 (f := .free "int") rfl)), (free_ok X G (d.fact 2 (f := .free "bool") rfl)), (free_ok X G (d.fact 3 (f := .free "len") rfl)), (free_ok X G (d.fact 4 (f := .free "range") rfl)), (free_ok X G (d.fact 5 (f := .free "zip") rfl)), (free_ok X G (d.fact 6 (f := .free "list") rfl)), (free_ok X G (d.fact 7 (f := .free "tuple") rfl)), (free_ok X G (d.fact 8 (f := .free "max") rfl)), (free_ok X G (d.fact 9 (f := .free "abs") rfl)), (free_ok X G (d.fact 10 (f := .free "all") rfl)), PySem.W.mg_of X G (eqO_ok (ba (ba (ba (ba (ba (ba (ba c.more).2).2).2).2).2).2).1), PySem.W.mg_of X G (eqO_ok (ba (ba (ba (ba (ba (ba (ba c.more).2).2).2).2).2).2).2)⟩
  have k_Ratio : ClsP K (ga K "Ratio") := clsPB_ok (cls_ok (d.fact 49 (f := .cls "Ratio") rfl)) (ba c.more).1
  have g_Ratio : mg "Ratio" = some (.ref (ga K "Ratio")) := (glo_ok X G (d.fact 44 (f := .glo "Ratio") rfl))
  have TR : RT K mg (ga K "Ratio") := ⟨k_Ratio, noat_ok (d.fact 50 (f := .noat "Ratio" "top") rfl), noat_ok (d.fact 51 (f := .noat "Ratio" "bottom") rfl), g_Ratio⟩
  have o_BadNumber : OexC K (ga K "BadNumber") := oexB_ok (ba (ba c.more).2).1
  have o_NoSuch : OexC K (ga K "NoSuch") := oexB_ok (ba (ba (ba c.more).2).2).1
  have n_BadNumber : PySem.W.findIn K (.ref (ga K "BadNumber")) "value" = some none := noat_ok (d.fact 46 (f := .noat "BadNumber" "value") rfl)
  have n_NoSuch : PySem.W.findIn K (.ref (ga K "NoSuch")) "number" = some none := noat_ok (d.fact 48 (f := .noat "NoSuch" "number") rfl)
  have EC : ExcC K (ga K "NoSuch") := excCB_ok (ba (ba (ba (ba c.more).2).2).2).1
  have XF : XfC K (ga K "NoSuch") := xfB_ok (ba (ba (ba (ba (ba c.more).2).2).2).2).1
  have veN : PySem.W.kitOne K (.ref (ga K "NoSuch")) (.type "ValueError") = some true := of_decide_eq_true (ba (ba (ba (ba (ba (ba c.more).2).2).2).2).2).1
  have exN := exm_ok (d.fact 78 (f := .exm "NoSuch" "NoSuch" true) rfl)
  have g_NoSuch : mg "NoSuch" = some (.ref (ga K "NoSuch")) := (glo_ok X G (d.fact 43 (f := .glo "NoSuch") rfl))
  have bv : mg "ValueError" = none := (free_ok X G (d.fact 11 (f := .free "ValueError") rfl))
  obtain ⟨fd_is_int, F_is_int⟩ := d.def_ 3 (d := ⟨("is_int", none), "is_int", "is_int", defArgs (top 11), defBody (top 11), defScope (top 11), [], []⟩) rfl
  obtain ⟨fd_BadNumber_init, F_BadNumber_init⟩ := d.def_ 29 (d := ⟨("BadNumber", some "__init__"), "__init__", "BadNumber.__init__", defArgs (inClass (top 4) 0), defBody (inClass (top 4) 0), defScope (inClass (top 4) 0), [], []⟩) rfl
  obtain ⟨fd_NoSuch_init, F_NoSuch_init⟩ := d.def_ 30 (d := ⟨("NoSuch", some "__init__"), "__init__", "NoSuch.__init__", defArgs (inClass (top 5) 0), defBody (inClass (top 5) 0), defScope (inClass (top 5) 0), [], []⟩) rfl
  obtain ⟨fd_Ratio_init, F_Ratio_init⟩ := d.def_ 31 (d := ⟨("Ratio", some "__init__"), "__init__", "Ratio.__init__", defArgs (inClass (top 16) 0), defBody (inClass (top 16) 0), defScope (inClass (top 16) 0), [.int 1], []⟩) rfl
  obtain ⟨fd_is_number, F_is_number⟩ := d.def_ 4 (d := ⟨("is_number", none), "is_number", "is_number", defArgs (top 12), defBody (top 12), defScope (top 12), [], []⟩) rfl
  obtain ⟨fd_ratio_of, F_ratio_of⟩ := d.def_ 5 (d := ⟨("ratio_of", none), "ratio_of", "ratio_of", defArgs (top 13), defBody (top 13), defScope (top 13), [], []⟩) rfl
  obtain ⟨fd_Ratio_eq, F_Ratio_eq⟩ := d.def_ 41 (d := ⟨("Ratio", some "__eq__"), "__eq__", "Ratio.__eq__", defArgs (inClass (top 16) 10), defBody (inClass (top 16) 10), defScope (inClass (top 16) 10), [], []⟩) rfl
  obtain ⟨fd_Ratio_lt, F_Ratio_lt⟩ := d.def_ 42 (d := ⟨("Ratio", some "__lt__"), "__lt__", "Ratio.__lt__", defArgs (inClass (top 16) 11), defBody (inClass (top 16) 11), defScope (inClass (top 16) 11), [], []⟩) rfl
  obtain ⟨fd_comes_before, F_comes_before⟩ := d.def_ 0 (d := ⟨("comes_before", none), "comes_before", "comes_before", defArgs (top 7), defBody (top 7), defScope (top 7), [], []⟩) rfl
  obtain ⟨fd_merged, F_merged⟩ := d.def_ 1 (d := ⟨("merged", none), "merged", "merged", defArgs (top 8), defBody (top 8), defScope (top 8), [], []⟩) rfl
  obtain ⟨fd_ranked, F_ranked⟩ := d.def_ 2 (d := ⟨("ranked", none), "ranked", "ranked", defArgs (top 9), defBody (top 9), defScope (top 9), [], []⟩) rfl
  obtain ⟨fd_ascending, F_ascending⟩ := d.def_ 11 (d := ⟨("ascending", none), "ascending", "ascending", defArgs (top 20), defBody (top 20), defScope (top 20), [], []⟩) rfl
  obtain ⟨fd_least, F_least⟩ := d.def_ 12 (d := ⟨("least", none), "least", "least", defArgs (top 21), defBody (top 21), defScope (top 21), [], []⟩) rfl
  obtain ⟨fd_greatest, F_greatest⟩ := d.def_ 13 (d := ⟨("greatest", none), "greatest", "greatest", defArgs (top 22), defBody (top 22), defScope (top 22), [], []⟩) rfl
  obtain ⟨fd_gcd_of, F_gcd_of⟩ := d.def_ 8 (d := ⟨("gcd_of", none), "gcd_of", "gcd_of", defArgs (top 17), defBody (top 17), defScope (top 17), [], []⟩) rfl
  obtain ⟨fd_lcm_of, F_lcm_of⟩ := d.def_ 9 (d := ⟨("lcm_of", none), "lcm_of", "lcm_of", defArgs (top 18), defBody (top 18), defScope (top 18), [], []⟩) rfl
  obtain ⟨fd_bezout, F_bezout⟩ := d.def_ 10 (d := ⟨("bezout", none), "bezout", "bezout", defArgs (top 19), defBody (top 19), defScope (top 19), [], []⟩) rfl
  obtain ⟨fd__law_begin, F__law_begin⟩ := d.def_ 14 (d := ⟨("_law_begin", none), "_law_begin", "_law_begin", defArgs (top 24), defBody (top 24), defScope (top 24), [], []⟩) rfl
  obtain ⟨fd__law_draw, F__law_draw⟩ := d.def_ 15 (d := ⟨("_law_draw", none), "_law_draw", "_law_draw", defArgs (top 25), defBody (top 25), defScope (top 25), [], []⟩) rfl
  obtain ⟨fd__law_pick, F__law_pick⟩ := d.def_ 16 (d := ⟨("_law_pick", none), "_law_pick", "_law_pick", defArgs (top 26), defBody (top 26), defScope (top 26), [], []⟩) rfl
  obtain ⟨fd__law_ten, F__law_ten⟩ := d.def_ 17 (d := ⟨("_law_ten", none), "_law_ten", "_law_ten", defArgs (top 27), defBody (top 27), defScope (top 27), [], []⟩) rfl
  obtain ⟨fd__law_long, F__law_long⟩ := d.def_ 18 (d := ⟨("_law_long", none), "_law_long", "_law_long", defArgs (top 28), defBody (top 28), defScope (top 28), [], []⟩) rfl
  obtain ⟨fd__law_size, F__law_size⟩ := d.def_ 19 (d := ⟨("_law_size", none), "_law_size", "_law_size", defArgs (top 29), defBody (top 29), defScope (top 29), [], []⟩) rfl
  obtain ⟨fd__law_number, F__law_number⟩ := d.def_ 20 (d := ⟨("_law_number", none), "_law_number", "_law_number", defArgs (top 30), defBody (top 30), defScope (top 30), [], []⟩) rfl
  obtain ⟨fd__law_gcd, F__law_gcd⟩ := d.def_ 21 (d := ⟨("_law_gcd", none), "_law_gcd", "_law_gcd", defArgs (top 31), defBody (top 31), defScope (top 31), [], []⟩) rfl
  obtain ⟨fd__law_whole_is, F__law_whole_is⟩ := d.def_ 22 (d := ⟨("_law_whole_is", none), "_law_whole_is", "_law_whole_is", defArgs (top 32), defBody (top 32), defScope (top 32), [], []⟩) rfl
  obtain ⟨fd__law_ratio_is, F__law_ratio_is⟩ := d.def_ 23 (d := ⟨("_law_ratio_is", none), "_law_ratio_is", "_law_ratio_is", defArgs (top 33), defBody (top 33), defScope (top 33), [], []⟩) rfl
  obtain ⟨fd__law_divisors_right, F__law_divisors_right⟩ := d.def_ 24 (d := ⟨("_law_divisors_right", none), "_law_divisors_right", "_law_divisors_right", defArgs (top 34), defBody (top 34), defScope (top 34), [], []⟩) rfl
  obtain ⟨fd__law_near, F__law_near⟩ := d.def_ 25 (d := ⟨("_law_near", none), "_law_near", "_law_near", defArgs (top 35), defBody (top 35), defScope (top 35), [], []⟩) rfl
  obtain ⟨fd__law_order_right, F__law_order_right⟩ := d.def_ 26 (d := ⟨("_law_order_right", none), "_law_order_right", "_law_order_right", defArgs (top 36), defBody (top 36), defScope (top 36), [], []⟩) rfl
  obtain ⟨fd__law_empty, F__law_empty⟩ := d.def_ 27 (d := ⟨("_law_empty", none), "_law_empty", "_law_empty", defArgs (top 37), defBody (top 37), defScope (top 37), [], []⟩) rfl
  obtain ⟨fd_law, F_law⟩ := d.def_ 28 (d := ⟨("law", none), "law", "law", defArgs (top 38), defBody (top 38), defScope (top 38), [], []⟩) rfl
  obtain ⟨oc1, od1, dV1, kV1, doc1, pm1, an1, cd1, ct1, osl1, rfl, lk1, hcd1, _, _⟩ := F_law.ex
  obtain ⟨cL, rfl⟩ := codeIn_ref hcd1
  have eL : codeOf K ("law", none) = cL := codeOf_eq lk1 rfl
  have eT : cT K ("law", none) = (cL, tabOf K cL) := by unfold cT; rw [eL]
  obtain ⟨oc2, od2, dV2, kV2, doc2, pm2, an2, cd2, ct2, osl2, rfl, lk2, hcd2, _, _⟩ := F__law_empty.ex
  have mt : (("law", none) : Defn) ∈ tfs := List.mem_singleton.mpr rfl
  refine ⟨PySem.W.fnOf "law" "law" (defArgs (top 38)) (defBody (top 38)) (defScope (top 38)) dV1 kV1 doc1 pm1 an1 (.ref cL) ct1, [(cL, tabOf K cL)], spLaw K [(tabOf K cL, qL)], fun p hp => ?_, fun p hp => ?_, fun p hp => ?_, fun s u => ?_, fun H a ns hl _ hT hS => ?_, fun base KB GB TT => ?_⟩
  · rw [List.mem_singleton.mp hp, ← eT]; exact c.empty _ mt
  · rw [List.mem_singleton.mp hp, ← eT]; exact c.out _ mt
  · rw [List.mem_singleton.mp hp, ← eT]; exact PySem.W.codeHd_of_K X (c.hd _ mt)
  · exact F_law.bindsA (ps := ["_law_script"]) (fun _ _ _ _ _ _ us hl => match us, hl with | [_], _ => rfl) s [u] rfl
  · exact ⟨a, ns, rfl, hS, hl, fun p hp => by rw [List.mem_singleton.mp hp]; exact LamX.TabS.nil (hT _ (List.mem_singleton.mpr rfl)), fun _ => rfl⟩
  have c_is_int : Cl (PySem.Challenge.rw_overfloors_k09_whole_numbers_in_order).prog w K mg base 1 "is_int" (spIsInt K) := mkCl F_is_int (glo_ok X G (d.fact 15 (f := .glo "is_int") rfl)) (ok_is_int F_is_int TB TR) (F_is_int.bindsN (ps := ["value"]) fun _ _ _ _ _ _ us hl => match us, hl with | [_], _ => rfl)
  have m_BadNumber := meth_ok (d.fact 45 (f := .meth "BadNumber" "__init__") rfl)
  have c_BadNumber : Cox (PySem.Challenge.rw_overfloors_k09_whole_numbers_in_order).prog w K mg base 1 "BadNumber" (ga K "BadNumber") "value" := mkCox o_BadNumber (glo_ok X G (d.fact 42 (f := .glo "BadNumber") rfl)) m_BadNumber (by have e := m_BadNumber.fn; unfold PySem.W.isFn at e; exact beq_iff_eq.mp e) (ok_BadNumber_init F_BadNumber_init TR o_BadNumber n_BadNumber) (F_BadNumber_init.bindsN (ps := ["self", "value"]) fun _ _ _ _ _ _ us hl => match us, hl with | [_, _], _ => rfl)
  have m_NoSuch := meth_ok (d.fact 47 (f := .meth "NoSuch" "__init__") rfl)
  have c_NoSuch : Cox (PySem.Challenge.rw_overfloors_k09_whole_numbers_in_order).prog w K mg base 1 "NoSuch" (ga K "NoSuch") "number" := mkCox o_NoSuch (glo_ok X G (d.fact 43 (f := .glo "NoSuch") rfl)) m_NoSuch (by have e := m_NoSuch.fn; unfold PySem.W.isFn at e; exact beq_iff_eq.mp e) (ok_NoSuch_init F_NoSuch_init TR o_NoSuch n_NoSuch) (F_NoSuch_init.bindsN (ps := ["self", "number"]) fun _ _ _ _ _ _ us hl => match us, hl with | [_, _], _ => rfl)
  have ok_R : FnOk (PySem.Challenge.rw_overfloors_k09_whole_numbers_in_order).prog w K mg base (L2.CX (PySem.Challenge.rw_overfloors_k09_whole_numbers_in_order).prog w) 3 (ma K (ga K "Ratio") "__init__") fd_Ratio_init ["self", "top", "bottom"] (spRInit K (ga K "Ratio") (ga K "BadNumber")) := (ok_Ratio_init F_Ratio_init TB TR c_is_int c_BadNumber)
  have M_R := mkr_ok (d.fact 52 (f := .mkr "Ratio") rfl)
  have c_Ratio_1 : Ck (PySem.Challenge.rw_overfloors_k09_whole_numbers_in_order).prog w K mg base 3 "Ratio" (ga K "Ratio") [.int 1] (spRInit K (ga K "Ratio") (ga K "BadNumber")) := by
    obtain ⟨ds, hv, b⟩ := bindsR F_Ratio_init 2 0 (.inl ⟨rfl, rfl⟩)
    exact mkCk M_R g_Ratio ok_R b hv
  have c_Ratio_2 : Ck (PySem.Challenge.rw_overfloors_k09_whole_numbers_in_order).prog w K mg base 3 "Ratio" (ga K "Ratio") [] (spRInit K (ga K "Ratio") (ga K "BadNumber")) := by
    obtain ⟨ds, hv, b⟩ := bindsR F_Ratio_init 3 1 (.inr ⟨rfl, rfl⟩)
    exact mkCk M_R g_Ratio ok_R b hv
  have c_is_number : Cl (PySem.Challenge.rw_overfloors_k09_whole_numbers_in_order).prog w K mg base 2 "is_number" (spIsNum K (ga K "Ratio")) := mkCl F_is_number (glo_ok X G (d.fact 16 (f := .glo "is_number") rfl)) (ok_is_number F_is_number g_Ratio TB TR c_is_int) (F_is_number.bindsN (ps := ["value"]) fun _ _ _ _ _ _ us hl => match us, hl with | [_], _ => rfl)
  have c_ratio_of : Cl (PySem.Challenge.rw_overfloors_k09_whole_numbers_in_order).prog w K mg base 5 "ratio_of" (spRatioOf K (ga K "Ratio") (ga K "BadNumber")) := mkCl F_ratio_of (glo_ok X G (d.fact 17 (f := .glo "ratio_of") rfl)) (ok_ratio_of F_ratio_of g_Ratio TB TR c_is_int c_BadNumber c_Ratio_1) (F_ratio_of.bindsN (ps := ["number"]) fun _ _ _ _ _ _ us hl => match us, hl with | [_], _ => rfl)
  have c_Ratio_eq : Cm (PySem.Challenge.rw_overfloors_k09_whole_numbers_in_order).prog w K mg base 2 (ga K "Ratio") "__eq__" (ma K (ga K "Ratio") "__eq__") (spRB (ga K "Ratio") (fun q r => decide (q = r))) := mkCm (meth_ok (d.fact 62 (f := .meth "Ratio" "__eq__") rfl)) (ok_Ratio_eq F_Ratio_eq g_Ratio TB TR c_is_int) (F_Ratio_eq.bindsN (ps := ["self", "other"]) fun _ _ _ _ _ _ us hl => match us, hl with | [_, _], _ => rfl)
  have c_Ratio_lt : Cm (PySem.Challenge.rw_overfloors_k09_whole_numbers_in_order).prog w K mg base 6 (ga K "Ratio") "__lt__" (ma K (ga K "Ratio") "__lt__") (spRB (ga K "Ratio") (fun q r => decide (q < r))) := mkCm (meth_ok (d.fact 63 (f := .meth "Ratio" "__lt__") rfl)) (ok_Ratio_lt F_Ratio_lt TR c_is_number c_ratio_of) (F_Ratio_lt.bindsN (ps := ["self", "other"]) fun _ _ _ _ _ _ us hl => match us, hl with | [_, _], _ => rfl)
  have c_comes_before : Cl (PySem.Challenge.rw_overfloors_k09_whole_numbers_in_order).prog w K mg base 7 "comes_before" (spBefore (ga K "Ratio")) := mkCl F_comes_before (glo_ok X G (d.fact 12 (f := .glo "comes_before") rfl)) (ok_comes_before F_comes_before TB TR k_Ratio c_Ratio_eq c_Ratio_lt) (F_comes_before.bindsN (ps := ["one", "other"]) fun _ _ _ _ _ _ us hl => match us, hl with | [_, _], _ => rfl)
  have c_merged : Cl (PySem.Challenge.rw_overfloors_k09_whole_numbers_in_order).prog w K mg base 8 "merged" (spMerged (ga K "Ratio")) := mkCl F_merged (glo_ok X G (d.fact 13 (f := .glo "merged") rfl)) (ok_merged F_merged TB TR c_comes_before) (F_merged.bindsN (ps := ["left", "right", "keys"]) fun _ _ _ _ _ _ us hl => match us, hl with | [_, _, _], _ => rfl)
  have c_ranked : Cl (PySem.Challenge.rw_overfloors_k09_whole_numbers_in_order).prog w K mg base 9 "ranked" (spRanked (ga K "Ratio")) := mkCl F_ranked (glo_ok X G (d.fact 14 (f := .glo "ranked") rfl)) (ok_ranked F_ranked TB TR c_merged) (F_ranked.bindsN (ps := ["keys"]) fun _ _ _ _ _ _ us hl => match us, hl with | [_], _ => rfl)
  have c_ascending : Cl (PySem.Challenge.rw_overfloors_k09_whole_numbers_in_order).prog w K mg base 10 "ascending" (spAscending (ga K "Ratio")) := mkCl F_ascending (glo_ok X G (d.fact 23 (f := .glo "ascending") rfl)) (ok_ascending F_ascending TR c_ratio_of c_ranked) (F_ascending.bindsN (ps := ["numbers"]) fun _ _ _ _ _ _ us hl => match us, hl with | [_], _ => rfl)
  have c_least : Cl (PySem.Challenge.rw_overfloors_k09_whole_numbers_in_order).prog w K mg base 11 "least" (spLeast (ga K "Ratio") (ga K "NoSuch") 0) := mkCl F_least (glo_ok X G (d.fact 24 (f := .glo "least") rfl)) (ok_least F_least TB TR c_NoSuch c_ascending) (F_least.bindsN (ps := ["numbers"]) fun _ _ _ _ _ _ us hl => match us, hl with | [_], _ => rfl)
  have c_greatest : Cl (PySem.Challenge.rw_overfloors_k09_whole_numbers_in_order).prog w K mg base 11 "greatest" (spLeast (ga K "Ratio") (ga K "NoSuch") 1) := mkCl F_greatest (glo_ok X G (d.fact 25 (f := .glo "greatest") rfl)) (ok_greatest F_greatest TB TR c_NoSuch c_ascending) (F_greatest.bindsN (ps := ["numbers"]) fun _ _ _ _ _ _ us hl => match us, hl with | [_], _ => rfl)
  have c_gcd_of : Cl (PySem.Challenge.rw_overfloors_k09_whole_numbers_in_order).prog w K mg base 1 "gcd_of" (spII (fun a b => ((Int.gcd a b : Nat) : Int))) := mkCl F_gcd_of (glo_ok X G (d.fact 20 (f := .glo "gcd_of") rfl)) (ok_gcd_of F_gcd_of TB TR) (F_gcd_of.bindsN (ps := ["first", "second"]) fun _ _ _ _ _ _ us hl => match us, hl with | [_, _], _ => rfl)
  have c_lcm_of : Cl (PySem.Challenge.rw_overfloors_k09_whole_numbers_in_order).prog w K mg base 1 "lcm_of" (spII (fun a b => ((Int.lcm a b : Nat) : Int))) := mkCl F_lcm_of (glo_ok X G (d.fact 21 (f := .glo "lcm_of") rfl)) (ok_lcm_of F_lcm_of TB TR) (F_lcm_of.bindsN (ps := ["first", "second"]) fun _ _ _ _ _ _ us hl => match us, hl with | [_, _], _ => rfl)
  have c_bezout : Cl (PySem.Challenge.rw_overfloors_k09_whole_numbers_in_order).prog w K mg base 1 "bezout" (spBez) := mkCl F_bezout (glo_ok X G (d.fact 22 (f := .glo "bezout") rfl)) (ok_bezout F_bezout TR) (F_bezout.bindsN (ps := ["first", "second"]) fun _ _ _ _ _ _ us hl => match us, hl with | [_, _], _ => rfl)
  have c__law_begin : Cl (PySem.Challenge.rw_overfloors_k09_whole_numbers_in_order).prog w K mg base 1 "_law_begin" (spBegin K) := mkCl F__law_begin (glo_ok X G (d.fact 26 (f := .glo "_law_begin") rfl)) (ok__law_begin F__law_begin TB TR) (F__law_begin.bindsN (ps := ["_law_script"]) fun _ _ _ _ _ _ us hl => match us, hl with | [_], _ => rfl)
  have c__law_draw : Cl (PySem.Challenge.rw_overfloors_k09_whole_numbers_in_order).prog w K mg base 1 "_law_draw" (spDraw) := mkCl F__law_draw (glo_ok X G (d.fact 27 (f := .glo "_law_draw") rfl)) (ok__law_draw F__law_draw TB TR) (F__law_draw.bindsN (ps := ["_law_tape", "_law_limit"]) fun _ _ _ _ _ _ us hl => match us, hl with | [_, _], _ => rfl)
  have c__law_pick : Cl (PySem.Challenge.rw_overfloors_k09_whole_numbers_in_order).prog w K mg base 2 "_law_pick" (spPick) := mkCl F__law_pick (glo_ok X G (d.fact 28 (f := .glo "_law_pick") rfl)) (ok__law_pick F__law_pick TB TR c__law_draw) (F__law_pick.bindsN (ps := ["_law_tape", "_law_some"]) fun _ _ _ _ _ _ us hl => match us, hl with | [_, _], _ => rfl)
  have c__law_ten : Cl (PySem.Challenge.rw_overfloors_k09_whole_numbers_in_order).prog w K mg base 1 "_law_ten" (spTen) := mkCl F__law_ten (glo_ok X G (d.fact 29 (f := .glo "_law_ten") rfl)) (ok__law_ten F__law_ten TB TR) (F__law_ten.bindsN (ps := ["_law_figures"]) fun _ _ _ _ _ _ us hl => match us, hl with | [_], _ => rfl)
  have c__law_long : Cl (PySem.Challenge.rw_overfloors_k09_whole_numbers_in_order).prog w K mg base 2 "_law_long" (spNum 40 0 false) := mkCl F__law_long (glo_ok X G (d.fact 30 (f := .glo "_law_long") rfl)) (ok__law_long F__law_long TB TR c__law_draw c__law_ten) (F__law_long.bindsN (ps := ["_law_tape", "_law_figures"]) fun _ _ _ _ _ _ us hl => match us, hl with | [_, _], _ => rfl)
  have c__law_size : Cl (PySem.Challenge.rw_overfloors_k09_whole_numbers_in_order).prog w K mg base 3 "_law_size" (spNum 50 2 false) := mkCl F__law_size (glo_ok X G (d.fact 31 (f := .glo "_law_size") rfl)) (ok__law_size F__law_size TB TR c__law_draw c__law_ten c__law_long) (F__law_size.bindsN (ps := ["_law_tape", "_law_figures"]) fun _ _ _ _ _ _ us hl => match us, hl with | [_, _], _ => rfl)
  have c__law_number : Cl (PySem.Challenge.rw_overfloors_k09_whole_numbers_in_order).prog w K mg base 4 "_law_number" (spNum 51 2 true) := mkCl F__law_number (glo_ok X G (d.fact 32 (f := .glo "_law_number") rfl)) (ok__law_number F__law_number TR c__law_draw c__law_size) (F__law_number.bindsN (ps := ["_law_tape", "_law_figures"]) fun _ _ _ _ _ _ us hl => match us, hl with | [_, _], _ => rfl)
  have c__law_gcd : Cl (PySem.Challenge.rw_overfloors_k09_whole_numbers_in_order).prog w K mg base 1 "_law_gcd" (spII (fun a b => ((Int.gcd a b : Nat) : Int))) := mkCl F__law_gcd (glo_ok X G (d.fact 33 (f := .glo "_law_gcd") rfl)) (ok__law_gcd F__law_gcd TB TR) (F__law_gcd.bindsN (ps := ["_law_one", "_law_other"]) fun _ _ _ _ _ _ us hl => match us, hl with | [_, _], _ => rfl)
  have c__law_whole_is : Cl (PySem.Challenge.rw_overfloors_k09_whole_numbers_in_order).prog w K mg base 1 "_law_whole_is" (spWhole K) := mkCl F__law_whole_is (glo_ok X G (d.fact 34 (f := .glo "_law_whole_is") rfl)) (ok__law_whole_is F__law_whole_is TB TR) (F__law_whole_is.bindsN (ps := ["_law_value", "_law_due"]) fun _ _ _ _ _ _ us hl => match us, hl with | [_, _], _ => rfl)
  have c__law_ratio_is : Cl (PySem.Challenge.rw_overfloors_k09_whole_numbers_in_order).prog w K mg base 2 "_law_ratio_is" (spRatioIs (ga K "Ratio")) := mkCl F__law_ratio_is (glo_ok X G (d.fact 35 (f := .glo "_law_ratio_is") rfl)) (ok__law_ratio_is F__law_ratio_is g_Ratio TB TR c__law_gcd c__law_whole_is) (F__law_ratio_is.bindsN (ps := ["_law_value", "_law_top", "_law_bottom"]) fun _ _ _ _ _ _ us hl => match us, hl with | [_, _, _], _ => rfl)
  have c__law_divisors_right : Cl (PySem.Challenge.rw_overfloors_k09_whole_numbers_in_order).prog w K mg base 2 "_law_divisors_right" (spDiv) := mkCl F__law_divisors_right (glo_ok X G (d.fact 36 (f := .glo "_law_divisors_right") rfl)) (ok__law_divisors_right F__law_divisors_right TB TR c_gcd_of c_lcm_of c_bezout c__law_gcd c__law_whole_is) (F__law_divisors_right.bindsN (ps := ["_law_one", "_law_other"]) fun _ _ _ _ _ _ us hl => match us, hl with | [_, _], _ => rfl)
  have c__law_near : Cl (PySem.Challenge.rw_overfloors_k09_whole_numbers_in_order).prog w K mg base 5 "_law_near" (spNear) := mkCl F__law_near (glo_ok X G (d.fact 37 (f := .glo "_law_near") rfl)) (ok__law_near F__law_near TR c__law_draw c__law_pick c__law_size c__law_number) (F__law_near.bindsN (ps := ["_law_tape", "_law_known"]) fun _ _ _ _ _ _ us hl => match us, hl with | [_, _], _ => rfl)
  have c__law_order_right : Cl (PySem.Challenge.rw_overfloors_k09_whole_numbers_in_order).prog w K mg base 12 "_law_order_right" (spOrder (ga K "Ratio")) := mkCl F__law_order_right (glo_ok X G (d.fact 38 (f := .glo "_law_order_right") rfl)) (ok__law_order_right F__law_order_right TB TR c_ascending c_least c_greatest c__law_ratio_is) (F__law_order_right.bindsN (ps := ["_law_rows", "_law_handed"]) fun _ _ _ _ _ _ us hl => match us, hl with | [_, _], _ => rfl)
  have bE : Binds K (PySem.W.fnOf "_law_empty" "_law_empty" (defArgs s_empty) (defBody s_empty) (defScope s_empty) dV2 kV2 doc2 pm2 an2 cd2 ct2) ["_law_call"] [] := F__law_empty.bindsN fun _ _ _ _ _ _ us hl => match us, hl with | [_], _ => rfl
  exact ok_law lk1 hcd1 (TT _ (List.mem_singleton.mpr rfl)) lk2 hcd2 F__law_empty.kp (glo_ok X G (d.fact 39 (f := .glo "_law_empty") rfl)) bE EC XF n_NoSuch g_NoSuch bv exN veN c_least c_greatest TB TR k_Ratio c_Ratio_2 c_Ratio_eq c_ascending c__law_begin c__law_draw c__law_size c__law_number c__law_whole_is c__law_divisors_right c__law_near c__law_order_right
end
end Of
open PySem PySem.W PySem.Calls PyProof.Rows
theorem PySem.Challenge.cw_overfloors_k09_whole_numbers_in_order_holds : PySem.Challenge.rw_overfloors_k09_whole_numbers_in_order.Holds := by
  w_on; o_law
  refine HandSHeadRun.head_imp (r := OpenLaw.row PySem.Challenge.rw_overfloors_k09_whole_numbers_in_order) (q := view (OpenLaw.row PySem.Challenge.rw_overfloors_k09_whole_numbers_in_order).prog [0, 38]) (H := Of.hk) (ob := Of.ob) (M := 6600) (loose := Of.loose) (d := HandSHeadRun.topDef (OpenLaw.row PySem.Challenge.rw_overfloors_k09_whole_numbers_in_order).prog 38) (kwd := []) Of.ob_eq Of.run
    (by kernel_rfl) (by kernel_rfl) (by kernel_rfl) (by rfl) (by first | assumption | decide +kernel) (by decide +kernel) ⟨rfl, rfl, rfl, rfl, rfl, by decide +kernel⟩ ?hw ?hc
  case hw => w_witness2
  case hc =>
    refine LamX.walk_ofTsE (l := PySem.Challenge.rw_overfloors_k09_whole_numbers_in_order) (n := 63) (k := 15) (x := "_law_script") (CX := fun w => L2.CX (PySem.Challenge.rw_overfloors_k09_whole_numbers_in_order).prog w) rfl (by decide) (by kernel_rfl) ⟨rfl, by decide, by decide⟩ ?F (fun _ _ _ _ _ z => by obtain ⟨_, _, _, _, _, _, _, _, _, _, _, _, z⟩ := z; exact z)
    intro w mg fa h Y G hmg0
    obtain ⟨K, KX, c⟩ := Y
    have hmg : mg ("law" : PySem.Str) = some (.ref fa) := by
      have e : (HandSHeadRun.topDef (OpenLaw.row PySem.Challenge.rw_overfloors_k09_whole_numbers_in_order).prog 38).name = ("law" : PySem.Str) := by kernel_rfl
      rw [← e]
      exact hmg0
    exact ⟨K, KX, Of.law_at KX G hmg c⟩
