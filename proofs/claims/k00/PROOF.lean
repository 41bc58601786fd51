import PyProof.Rows.All
import Wide.All
import OpenK.AllK
import Wide.FinOn
import PyProof.ListMulRight
import KE.KOpsOwn
import KE.KCallOwn
import HandS.ForMost
import HandS.ForExc
import HandS.SlotsOwn
import HandS.Flow
import HandS.IsInst
import PyProof.Rows.StrBool
import HandS.More
import HandS.Small
import HandS.FStr
import HandS.Wide
import HandS.WideMore
import HandS.Gcd
import HandS.ExcInit
import HandS.ExcField
import HandS.Style
import HandS.Evl
import HandS.RaiseMore
import HandS.WideBits
import HandS.Zip
import HandS.Head0
import HandS.Head1
import HandS.Head2
import HandS.HeadEnd
import HandS.HeadHook1
import HandS.HeadHook2
import HandS.HeadHook3
import HandS.HeadHook4
import HandS.Text
import KE.IntTextLaws
import KE.DataFind
import HandS.ExcIs
import KE.KExcIs
import HandS.Lambda
import HandS.ExcValue
import HandS.MakeKwOnly
import KE.DataEq
import HandS.DictComp
import HandS.HeadWalk
import HandS.Head3
import PySem.Challenge.RW_overfloors_k00_errors_made_by_hand
set_option Elab.async false
set_option linter.all false
set_option exponentiation.threshold 20000
set_option maxRecDepth 100000
set_option maxHeartbeats 0
namespace Of
section
open PySem PySem.Spec PyProof.Rows
section
open Builtin
theorem int_add_inst (a : Int) (t : Tok) (x C dx : Addr) :
    Meets (Builtin.«int.__add__» ⟨[.int a t, .ref x], []⟩) (fun _ R s => s.heap.get? x = some (PySem.W.instObj C dx) ∧ R (.ok (.ret Value.notImplemented)) s) :=
  .of_wp fun prog w A R s h => by obtain ⟨hp, g, d, tk, os⟩ := s; obtain ⟨hl, h⟩ := h; wp_walk; exact ⟨_, rfl, h⟩
theorem int_sub_inst (a : Int) (t : Tok) (x C dx : Addr) :
    Meets (Builtin.«int.__sub__» ⟨[.int a t, .ref x], []⟩) (fun _ R s => s.heap.get? x = some (PySem.W.instObj C dx) ∧ R (.ok (.ret Value.notImplemented)) s) :=
  .of_wp fun prog w A R s h => by obtain ⟨hp, g, d, tk, os⟩ := s; obtain ⟨hl, h⟩ := h; wp_walk; exact ⟨_, rfl, h⟩
theorem int_mul_inst (a : Int) (t : Tok) (x C dx : Addr) :
    Meets (Builtin.«int.__mul__» ⟨[.int a t, .ref x], []⟩) (fun _ R s => s.heap.get? x = some (PySem.W.instObj C dx) ∧ R (.ok (.ret Value.notImplemented)) s) :=
  .of_wp fun prog w A R s h => by obtain ⟨hp, g, d, tk, os⟩ := s; obtain ⟨hl, h⟩ := h; wp_walk; exact ⟨_, rfl, h⟩
theorem int_mod_inst (a : Int) (t : Tok) (x C dx : Addr) :
    Meets (Builtin.«int.__mod__» ⟨[.int a t, .ref x], []⟩) (fun _ R s => s.heap.get? x = some (PySem.W.instObj C dx) ∧ R (.ok (.ret Value.notImplemented)) s) :=
  .of_wp fun prog w A R s h => by obtain ⟨hp, g, d, tk, os⟩ := s; obtain ⟨hl, h⟩ := h; wp_walk; exact ⟨_, rfl, h⟩
theorem int_floordiv_inst (a : Int) (t : Tok) (x C dx : Addr) :
    Meets (Builtin.«int.__floordiv__» ⟨[.int a t, .ref x], []⟩) (fun _ R s => s.heap.get? x = some (PySem.W.instObj C dx) ∧ R (.ok (.ret Value.notImplemented)) s) :=
  .of_wp fun prog w A R s h => by obtain ⟨hp, g, d, tk, os⟩ := s; obtain ⟨hl, h⟩ := h; wp_walk; exact ⟨_, rfl, h⟩
theorem int_eq_inst (a : Int) (t : Tok) (x C dx : Addr) :
    Meets (Builtin.«int.__eq__» ⟨[.int a t, .ref x], []⟩) (fun _ R s => s.heap.get? x = some (PySem.W.instObj C dx) ∧ R (.ok (.ret Value.notImplemented)) s) :=
  .of_wp fun prog w A R s h => by obtain ⟨hp, g, d, tk, os⟩ := s; obtain ⟨hl, h⟩ := h; wp_walk; exact ⟨_, rfl, h⟩
theorem int_lt_inst (a : Int) (t : Tok) (x C dx : Addr) :
    Meets (Builtin.«int.__lt__» ⟨[.int a t, .ref x], []⟩) (fun _ R s => s.heap.get? x = some (PySem.W.instObj C dx) ∧ R (.ok (.ret Value.notImplemented)) s) :=
  .of_wp fun prog w A R s h => by obtain ⟨hp, g, d, tk, os⟩ := s; obtain ⟨hl, h⟩ := h; wp_walk; exact ⟨_, rfl, h⟩
theorem int_le_inst (a : Int) (t : Tok) (x C dx : Addr) :
    Meets (Builtin.«int.__le__» ⟨[.int a t, .ref x], []⟩) (fun _ R s => s.heap.get? x = some (PySem.W.instObj C dx) ∧ R (.ok (.ret Value.notImplemented)) s) :=
  .of_wp fun prog w A R s h => by obtain ⟨hp, g, d, tk, os⟩ := s; obtain ⟨hl, h⟩ := h; wp_walk; exact ⟨_, rfl, h⟩
theorem int_gt_inst (a : Int) (t : Tok) (x C dx : Addr) :
    Meets (Builtin.«int.__gt__» ⟨[.int a t, .ref x], []⟩) (fun _ R s => s.heap.get? x = some (PySem.W.instObj C dx) ∧ R (.ok (.ret Value.notImplemented)) s) :=
  .of_wp fun prog w A R s h => by obtain ⟨hp, g, d, tk, os⟩ := s; obtain ⟨hl, h⟩ := h; wp_walk; exact ⟨_, rfl, h⟩
theorem int_ge_inst (a : Int) (t : Tok) (x C dx : Addr) :
    Meets (Builtin.«int.__ge__» ⟨[.int a t, .ref x], []⟩) (fun _ R s => s.heap.get? x = some (PySem.W.instObj C dx) ∧ R (.ok (.ret Value.notImplemented)) s) :=
  .of_wp fun prog w A R s h => by obtain ⟨hp, g, d, tk, os⟩ := s; obtain ⟨hl, h⟩ := h; wp_walk; exact ⟨_, rfl, h⟩
end
section
variable {prog : Program} {w : World} {A : Around} {E : Value → Shared → Prop} {s : Shared} {K : PySem.W.Frag} {x C f g : Addr} {dx : Addr} {od : Option Obj}
theorem rbin_K {op : Operator} {i : Int} {t : Tok} {id : String} {B : Builtin} {Q : Value → Shared → Prop} (X : K.In s.heap) (I : PySem.W.InstAt s.heap x (PySem.W.instObj C dx) C od) (hc : PySem.W.selfFirst K C = true)
    (hs : PySem.W.findIn K (.ref C) (PySem.dunder op.info.2) = some (some (.ref g))) (hr : PySem.W.findIn K (.ref C) (dunderR op.info.2) = some (some (.ref f))) (hf : PySem.W.isFn K (.ref f) = true) (hsub : PySem.W.subIn K (.ref C) (.type "int") = some false)
    (fills : fillsNumberSlot (.type "int") op.info.2 = pure true) (slot : Slot "int" (PySem.dunder op.info.2) id) (entry : entryFor table id = some B) (args : argsOk id ⟨[.int i t, .ref x], []⟩)
    (g0 : Meets (B ⟨[.int i t, .ref x], []⟩) (fun _ R s => s.heap.get? x = some (PySem.W.instObj C dx) ∧ R (.ok (.ret Value.notImplemented)) s))
    (h : wpAny (model prog w) A (call (.ref f) [.ref x, .int i t]) (PySem.W.CmpBack Q) E s) : wpAny (model prog w) A (binaryOp op (.int i t) (.ref x)) Q E s := by
  obtain ⟨cd, rest, hcd, hm⟩ := PySem.W.ksp_first hc
  rcases hi : op.info with ⟨sym, nm'⟩
  rw [hi] at hs hr fills slot
  dsimp only at hs hr fills slot
  have one := PySem.W.ksp_try X I hr hf h
  have dec : ∀ {Q' : Option Value → Shared → Prop}, Q' none s → wpAny (model prog w) A (tryMethod (.int i t) (PySem.dunder nm') (.ref x)) Q' E s := fun {Q'} q =>
    wpAny_tryMethod_declines (typeIs_int s i t) slot (call_meets slot (typeIs_int s i t) entry args g0 ⟨I.at_, rfl, q⟩)
  obtain ⟨hh, gg, d, tt, os⟩ := s
  have L1 : PySem.W.Looks (model prog w) hh (typeOf (.ref x)) (.ref C) := I.type
  have L2 : PySem.W.Looks (model prog w) hh (typeOf (.int i t)) (.type "int") := PySem.W.Looks.of_pure rfl
  have L3 : PySem.W.Looks (model prog w) hh (fillsNumberSlot (.ref C) nm') true := PySem.W.fills_K X hcd hm hs
  have L4 : PySem.W.Looks (model prog w) hh (fillsNumberSlot (.type "int") nm') true := PySem.W.Looks.of_pure fills
  have L5 : PySem.W.Looks (model prog w) hh (isSubtype (.ref C) (.type "int")) false := PySem.W.looks_subIn X hsub
  have L7 : PySem.W.Looks (model prog w) hh (numberSlotInPython (.type "int") nm') false := PySem.W.Looks.of_pure rfl
  have hne : (Value.type "int" == Value.ref C) = false := Bool.eq_false_iff.mpr fun q => by cases beq_iff_eq.mp q
  simp only [binaryOp, hi]
  refine wpAny_holding (wpAny_bind ?_)
  unfold binaryOp1
  refine wpAny_bind (L2.at (wpAny_bind (L1.at (wpAny_bind (L4.at ?_)))))
  simp only [hne, Bool.false_eq_true, if_false]
  ksp_lk
  refine dec ?_
  ksp_lk
  refine wpAny_mono one (fun r s' hr' => ?_) fun _ _ e => e
  obtain ⟨v, rfl, hq⟩ := hr'
  ksp_lk
  exact hq
end
end
section
open PySem PySem.Spec PyProof.Rows
section
variable {prog : Program} {w : World} {A : Around} {E : Value → Shared → Prop} {s : Shared} {K : PySem.W.Frag} {x C f g : Addr} {dx : Addr} {od : Option Obj}
theorem typeOf_int_ne {i : Int} {t : Tok} : (Value.type "int" != Value.ref C) = true := by
  rw [bne_iff_ne]; exact fun z => by cases z
/-- i op x with the reflected comparison of x's class -/
theorem rcmp_K {op : CmpOp} {i : Int} {t : Tok} {id : String} {B : Builtin} {Q : Value → Shared → Prop} (hu : A.units < cLine) (X : K.In s.heap) (I : PySem.W.InstAt s.heap x (PySem.W.instObj C dx) C od)
    (hr : PySem.W.findIn K (.ref C) (cmpInfo op).2.2 = some (some (.ref f))) (hf : PySem.W.isFn K (.ref f) = true) (hsub : PySem.W.subIn K (.ref C) (.type "int") = some false)
    (slot : Slot "int" (cmpInfo op).2.1 id) (entry : entryFor table id = some B) (args : argsOk id ⟨[.int i t, .ref x], []⟩)
    (g0 : Meets (B ⟨[.int i t, .ref x], []⟩) (fun _ R s => s.heap.get? x = some (PySem.W.instObj C dx) ∧ R (.ok (.ret Value.notImplemented)) s))
    (h : wpAny (model prog w) A (call (.ref f) [.ref x, .int i t]) (PySem.W.CmpBack Q) E s) : wpAny (model prog w) A (richCompare op (.int i t) (.ref x)) Q E s := by
  have one : wpAny (model prog w) A (tryCompare (.ref x) (cmpInfo op).2.2 (.int i t)) (fun r s' => ∃ v, r = some v ∧ Q v s') E s := by
    unfold tryCompare
    refine wpAny_bind (PySem.W.ifBound_K X I hr hf (wpAny_mono h (fun v s' hv => ?_) fun _ _ e => e))
    cases v <;> first | exact hv.elim | exact wpAny_pure ⟨_, rfl, hv⟩
  have dec : ∀ {Q' : Option Value → Shared → Prop}, Q' none s → wpAny (model prog w) A (tryCompare (.int i t) (cmpInfo op).2.1 (.ref x)) Q' E s := fun {Q'} q =>
    wpAny_tryCompare_declines (typeIs_int s i t) slot (call_meets slot (typeIs_int s i t) entry args g0 ⟨I.at_, rfl, q⟩)
  have L2 : PySem.W.Looks (model prog w) s.heap (typeOf (.int i t)) (.type "int") := PySem.W.Looks.of_pure rfl
  unfold richCompare
  have e1 : oneThing? op (.int i t) (.ref x) = none := by cases op <;> rfl
  simp only [e1]
  refine wpAny_holding (wpAny_bind (wpAny_cRoomFor hu ?_))
  refine wpAny_bind (L2.here (wpAny_bind (I.type.here ?_)))
  rw [if_pos (typeOf_int_ne (i := i) (t := t))]
  refine wpAny_bind ((PySem.W.looks_subIn X hsub).here ?_)
  simp only [Bool.false_eq_true, if_false]
  refine wpAny_bind (dec ?_)
  simp only [Bool.not_false, if_true]
  refine wpAny_bind (wpAny_mono one (fun r s' z => ?_) fun _ _ e => e)
  obtain ⟨v, rfl, hq⟩ := z
  exact wpAny_pure hq
/-- object.__ne__ by the own == -/
theorem ne_try {b : Value} {Q : Value → Shared → Prop} (hu : A.units + 1 < cLine) (X : K.In s.heap) (I : PySem.W.InstAt s.heap x (PySem.W.instObj C dx) C od)
    (hn : PySem.W.findIn K (.ref C) "__ne__" = some (some (.builtin "object.__ne__"))) (he : PySem.W.findIn K (.ref C) "__eq__" = some (some (.ref f))) (hf : PySem.W.isFn K (.ref f) = true) (hm : PySem.W.mroIn K C (.type "object") = some true)
    (h : wpAny (model prog w) A.in1 (call (.ref f) [.ref x, b]) (fun v s' => ∃ k, v = .bool k ∧ Q (.bool (!k)) s') E s) :
    wpAny (model prog w) A (tryCompare (.ref x) "__ne__" b) (fun r s' => ∃ v, r = some v ∧ Q v s') E s := by
  have NE := F.cmp_object.ne
  have sub : PySem.W.Looks (model prog w) s.heap (isInstance (.ref x) (.type "object")) true := I.type.andThen (PySem.W.looks_mroIn X hm)
  have body : wpAny (model prog w) A.in1 (Builtin.«object.__ne__» ⟨[.ref x, b], []⟩) (fun fin s' => match fin with | .done f => wants (fun v s' => ∃ k, v = .bool k ∧ Q (.bool k) s') E (.ok f) s' | .again c' => c'.quiet = true ∧ codeAny (model prog w) A c' (wants (fun v s' => ∃ k, v = .bool k ∧ Q (.bool k) s') E) s') (fun e s' => wants (fun v s' => ∃ k, v = .bool k ∧ Q (.bool k) s') E (.error e) s') s := by
    unfold Builtin.«object.__ne__»
    refine wpAny_bind (m := slotArgs "__ne__" 1 _) (wpAny_pure ?_)
    refine wpAny_bind (wpAny_cRoomFor hu ?_)
    refine wpAny_bind (m := callSpecialIfBound? (.ref x) (Str.ofString "__eq__") [b]) (PySem.W.ifBound_K X I he hf (wpAny_mono h (fun v s' hv => ?_) fun _ _ e => e))
    obtain ⟨k, rfl, hq⟩ := hv
    refine wpAny_bind (m := truthy (.bool k)) (wpAny_truthy_bool ?_)
    exact wpAny_pure ⟨!k, rfl, hq⟩
  have cal : wpAny (model prog w) A (call (.builtin "object.__ne__") [.ref x, b]) (fun v s' => ∃ k, v = .bool k ∧ Q (.bool k) s') E s :=
    wpAny_call (codeAny_call_builtin NE.plain F.cmpEntry_ne (PySem.W.check_slot F.cmpKind_ne F.cmpSplit_ne sub (F.cmpArgs_ne _ _) body))
  unfold tryCompare
  simp only [callSpecialIfBound?, bindSpecialIfBound?]
  refine wpAny_bind (wpAny_holding (wpAny_bind (wpAny_bind (wpAny_bind (I.type.here ((PySem.W.looks_findIn X hn).here ?_))))))
  have fin : wpAny (model prog w) A (call (.builtin "object.__ne__") ([.ref x] ++ [b]) >>= fun v => pure (some v)) (fun r s' => wpAny (model prog w) A (match r with
    | some .notImplemented | none => pure none
    | some v => pure (some v)) (fun r s' => ∃ v, r = some v ∧ Q v s') E s') E s := wpAny_bind (wpAny_mono cal (fun v s' hv => by
      obtain ⟨k, rfl, hq⟩ := hv
      exact wpAny_pure (wpAny_pure ⟨_, rfl, hq⟩)) fun _ _ e => e)
  simp only [NE.bind]
  refine wpAny_bind (wpAny_askSetting (wpAny_ite ?_))
  split
  · exact wpAny_bind (wpAny_pure (wpAny_pure fin))
  · exact wpAny_tryCatch (wpAny_bind (wpAny_pure (wpAny_pure fin)))
/-- x != b by the own == -/
theorem ne_K {b tb : Value} {Q : Value → Shared → Prop} (hu : A.units + 1 < cLine) (X : K.In s.heap) (I : PySem.W.InstAt s.heap x (PySem.W.instObj C dx) C od) (hb : PySem.W.Looks (model prog w) s.heap (typeOf b) tb) (hnf : PySem.W.notFirst K C tb = true)
    (hn : PySem.W.findIn K (.ref C) "__ne__" = some (some (.builtin "object.__ne__"))) (he : PySem.W.findIn K (.ref C) "__eq__" = some (some (.ref f))) (hf : PySem.W.isFn K (.ref f) = true) (hm : PySem.W.mroIn K C (.type "object") = some true)
    (h : wpAny (model prog w) A.in1 (call (.ref f) [.ref x, b]) (fun v s' => ∃ k, v = .bool k ∧ Q (.bool (!k)) s') E s) :
    wpAny (model prog w) A (richCompare .NotEq (.ref x) b) Q E s := by
  have one := ne_try (K := K) hu X I hn he hf hm h
  unfold richCompare
  simp only [oneThing_ref]
  refine wpAny_holding (wpAny_bind (wpAny_cRoomFor (Nat.lt_of_succ_lt hu) ?_))
  refine wpAny_bind (I.type.here (wpAny_bind (hb.here ?_)))
  rw [cmpInfo_NotEq]
  dsimp only
  split
  · rename_i q
    have e : PySem.W.subIn K tb (.ref C) = some false := by
      rcases Bool.or_eq_true_iff.mp hnf with e | e
      · rw [beq_iff_eq.mp e] at q; simp at q
      · exact beq_iff_eq.mp e
    refine wpAny_bind ((PySem.W.looks_subIn X e).here ?_)
    simp only [Bool.false_eq_true, if_false]
    refine wpAny_bind (wpAny_mono one (fun r s' z => ?_) fun _ _ e => e)
    obtain ⟨v, rfl, hq⟩ := z
    exact wpAny_pure hq
  · refine wpAny_bind (wpAny_pure ?_)
    simp only [Bool.false_eq_true, if_false]
    refine wpAny_bind (wpAny_mono one (fun r s' z => ?_) fun _ _ e => e)
    obtain ⟨v, rfl, hq⟩ := z
    exact wpAny_pure hq
/-- abs(x) by the own __abs__ -/
theorem abs_K {Q : Value → Shared → Prop} (X : K.In s.heap) (I : PySem.W.InstAt s.heap x (PySem.W.instObj C dx) C od) (hs : PySem.W.findIn K (.ref C) "__abs__" = some (some (.ref f))) (hf : PySem.W.isFn K (.ref f) = true)
    (h : wpAny (model prog w) A.in1 (call (.ref f) [.ref x]) Q E s) : wpAny (model prog w) A (call (.builtin "abs") [.ref x]) Q E s := by
  refine PySem.Calls.call_function_entry kind_abs plain_abs entry_abs (args_abs _) ?_
  unfold Builtin.«abs»
  refine wpAny_bind (m := oneArg "abs" _) (wpAny_pure ?_)
  refine wpAny_bind (m := callSpecial? (.ref x) (Str.ofString "__abs__")) (PySem.W.special_fn X I hs (beq_iff_eq.mp hf) (wpAny_mono h (fun v s' hv => ?_) fun _ _ e => e))
  exact wpAny_pure ⟨_, rfl, hv⟩
end
end
section
open PySem PySem.Spec PyProof.Rows L2
section
variable {prog : Program} {w : World} {A : Around} {E : Value → Shared → Prop} {s : Shared} {K : PySem.W.Frag} {x C f g : Addr} {dx : Addr} {od : Option Obj}
theorem boolnew_K {Q : Value → Shared → Prop} (X : K.In s.heap) (I : PySem.W.InstAt s.heap x (PySem.W.instObj C dx) C od) (hs : PySem.W.findIn K (.ref C) "__bool__" = some (some (.ref f))) (hf : PySem.W.isFn K (.ref f) = true)
    (h : wpAny (model prog w) A.in1.in1 (call (.ref f) [.ref x]) (PySem.W.BoolBack fun b s' => Q (.bool b) s') E s) : wpAny (model prog w) A (call (.type "bool") [.ref x]) Q E s := by
  refine callType_codes (T := "bool") (Bi := Builtin.«object.__init__») (Q₁ := fun r s₁ => ∃ b, r = .bool b ∧ Q r s₁) PySem.F.called_bool (PySem.F.typeCall_bool_1 _) PySem.F.entry_object_init ?_ ?_
  · refine codeAny_of_tree ?_
    show wpAny _ A.in1.in1 (do checkBuiltinCall "bool.__new__" ⟨[.type "bool", .ref x], []⟩; again (.builtin "bool.__new__" ⟨[.type "bool", .ref x], []⟩)) _ _ s
    refine wpAny_bind (wpAny_of_eq (PySem.F.newCall_bool_1 _) (wpAny_pure ⟨plainId_quiet (by decide +kernel) _, codeAny_builtin PySem.F.entry_bool_new ?_⟩))
    rw [Around.under_plainId (by decide +kernel) _]
    unfold Builtin.«bool.__new__»
    have f1 := F.conv_sub_bool
    have tr : ∀ {Q' : Bool → Shared → Prop}, (∀ b s', Q (.bool b) s' → Q' b s') → wpAny (model prog w) A.in1.in1 (truthy (.ref x)) Q' E s := fun {Q'} k => by
      unfold truthy
      refine wpAny_bind (m := callSpecial? (.ref x) (Str.ofString "__bool__")) (PySem.W.special_fn X I hs (beq_iff_eq.mp hf) (wpAny_mono h (fun r s' hr => ?_) fun _ _ y => y))
      cases r <;> first | exact hr.elim | skip
      exact wpAny_pure (k _ _ hr)
    repeat (any_goals (first | assumption | (with_reducible refine tr ?_; intro b s' q) | wp_step))
    all_goals first | exact ⟨_, rfl, q⟩ | exact ⟨_, rfl, _, rfl, q⟩ | skip
  · rintro obj s₁ ⟨b, rfl, hq⟩
    exact ⟨rfl, PySem.F.args_object_init_2 _ _, object_init_meets PySem.F.called_bool.init.lookup PySem.F.called_bool.made (by decide) prog w A.in1 _ s₁ ⟨rfl, rfl, hq⟩⟩
end
section
variable {X : Cx} {CX : CXT} {pins : List (Addr × Obj)} {σ : L2.St} {H : Hp} {s : Shared} {C C' f g : Addr} {n : Nat} {sp : Sp} {E : XK}
theorem ins_inst (I : Inv X pins σ H s) {a dx : Addr} {fs : List (Str × V)} (h : H a = some (.ins C dx fs)) : ∃ od, PySem.W.InstAt s.heap a (PySem.W.instObj C dx) C (some od) := by
  obtain ⟨mA, O, _⟩ := ins_get I.hok h
  obtain ⟨od, J, _⟩ := O.look
  exact ⟨od, J⟩
theorem cb_of {Q : VK} {v : Value} {s' : Shared} (h : EP X pins σ Q v s') : PySem.W.CmpBack (EP X pins σ Q) v s' := by
  obtain ⟨z, H', I', rz, q⟩ := h
  exact SlX.cmpback rz ⟨z, H', I', rz, q⟩
/-- what an operator asks: the promise of the class's def, of the instance and the other value -/
def rO (C : Addr) (sp : Sp) (E : XK) (ok : V → Hp → Prop) : R2 := fun x y H Q => ∃ a dx fs, x = .ref a ∧ H a = some (.ins C dx fs) ∧ ok y H ∧ sp [.ref a, y] H Q E
/-- reflected: the instance on the right -/
def rOr (C : Addr) (sp : Sp) (E : XK) : R2 := fun x y H Q => ∃ a dx fs i, x = .int i ∧ y = .ref a ∧ H a = some (.ins C dx fs) ∧ sp [.ref a, .int i] H Q E
def isIns (C : Addr) : V → Hp → Prop := fun y H => ∃ b dy gs, y = .ref b ∧ H b = some (.ins C dy gs)
def isInt : V → Hp → Prop := fun y _ => ∃ i, y = .int i
theorem op_bin2 {op : Operator} (hc : PySem.W.selfFirst X.K C = true) (hs : PySem.W.findIn X.K (.ref C) (PySem.dunder op.info.2) = some (some (.ref f))) (hf : PySem.W.isFn X.K (.ref f) = true) (F : FnR X.prog X.w X.K X.mg X.base CX n f sp) (hr : Room n X.A)
    (hx : Passes CX X E) : OpR X (binaryOp op) (rO C sp E (isIns C)) := by
  intro pins s σ H x y v u Q I rx ry h
  obtain ⟨a, dx, fs, rfl, ha, ⟨b, dy, gs, rfl, hb⟩, q⟩ := h
  cases (show v = Value.ref a from rx)
  cases (show u = Value.ref b from ry)
  obtain ⟨od, J⟩ := ins_inst I ha
  obtain ⟨od', J'⟩ := ins_inst I hb
  obtain ⟨m, hF⟩ := I.fr
  exact PySem.W.binop_K hF I.ok.mod.kin J J'.type hc hs hf (thn (wpAny_call (run_fnR (us := [.ref a, .ref b]) (vs := [.ref a, .ref b]) F hr hx I (.cons rfl (.cons rfl .nil)) q)) fun _ _ z => cb_of z)
theorem op_binI {op : Operator} {fo ro rc : Option Value} (hc : PySem.W.selfFirst X.K C = true) (hs : PySem.W.findIn X.K (.ref C) (PySem.dunder op.info.2) = some (some (.ref f))) (hf : PySem.W.isFn X.K (.ref f) = true)
    (hrc : PySem.W.findIn X.K (.ref C) (dunderR op.info.2) = some rc) (hp : rc = none ∨ ∃ g : Addr, rc = some (.ref g)) (h1 : PySem.W.findIn X.K (.type "int") (PySem.dunder op.info.2) = some fo) (h2 : PySem.W.findIn X.K (.type "int") (dunderR op.info.2) = some ro)
    (hsub : PySem.W.subIn X.K (.type "int") (.ref C) = some false) (F : FnR X.prog X.w X.K X.mg X.base CX n f sp) (hr : Room n X.A) (hx : Passes CX X E) : OpR X (binaryOp op) (rO C sp E isInt) := by
  intro pins s σ H x y v u Q I rx ry h
  obtain ⟨a, dx, fs, rfl, ha, ⟨i, rfl⟩, q⟩ := h
  cases (show v = Value.ref a from rx)
  obtain ⟨t, rfl⟩ := ry
  obtain ⟨od, J⟩ := ins_inst I ha
  obtain ⟨m, hF⟩ := I.fr
  exact PySem.W.ksp_binT (T := "int") hF I.ok.mod.kin J rfl hc hs hf hrc hp h1 h2 hsub (thn (wpAny_call (run_fnR (us := [.ref a, .int i t]) (vs := [.ref a, .int i]) F hr hx I (.cons rfl (.cons ⟨t, rfl⟩ .nil)) q)) fun _ _ z => cb_of z)
theorem op_rbin {op : Operator} {id : String} {B : Builtin} (hc : PySem.W.selfFirst X.K C = true) (hs : PySem.W.findIn X.K (.ref C) (PySem.dunder op.info.2) = some (some (.ref g))) (hrf : PySem.W.findIn X.K (.ref C) (dunderR op.info.2) = some (some (.ref f)))
    (hf : PySem.W.isFn X.K (.ref f) = true) (hsub : PySem.W.subIn X.K (.ref C) (.type "int") = some false)
    (fills : fillsNumberSlot (.type "int") op.info.2 = pure true) (slot : Slot "int" (PySem.dunder op.info.2) id) (entry : entryFor table id = some B) (args : ∀ a b : Value, argsOk id ⟨[a, b], []⟩)
    (g0 : ∀ i t x C dx, Meets (B ⟨[.int i t, .ref x], []⟩) (fun _ R s => s.heap.get? x = some (PySem.W.instObj C dx) ∧ R (.ok (.ret Value.notImplemented)) s))
    (F : FnR X.prog X.w X.K X.mg X.base CX n f sp) (hr : Room n X.A) (hx : Passes CX X E) : OpR X (binaryOp op) (rOr C sp E) := by
  intro pins s σ H x y v u Q I rx ry h
  obtain ⟨a, dx, fs, i, rfl, rfl, ha, q⟩ := h
  cases (show u = Value.ref a from ry)
  obtain ⟨t, rfl⟩ := rx
  obtain ⟨od, J⟩ := ins_inst I ha
  exact rbin_K I.kIn J hc hs hrf hf hsub fills slot entry (args _ _) (g0 i t a C dx) (thn (wpAny_call (run_fnR (us := [.ref a, .int i t]) (vs := [.ref a, .int i]) F hr hx I (.cons rfl (.cons ⟨t, rfl⟩ .nil)) q)) fun _ _ z => cb_of z)
/-- the type of the other value of a comparison, told by the abstract heap -/
inductive TyC (X : Cx) (H : Hp) : V → Value → Prop where
  | of {y : V} {t : Value} (h : TyX X.K H y t) : TyC X H y t
theorem ty_look {y : V} {t u : Value} (I : Inv X pins σ H s) (ry : RelV y u) (h : TyX X.K H y t) : PySem.W.Looks (model X.prog X.w) s.heap (typeOf u) t := by
  have ld : ∀ {a : Addr} {o : Obj} {c : Value}, s.heap.get? a = some o → o.cls = c → PySem.W.Looks (model X.prog X.w) s.heap (typeOf (.ref a)) c := fun {a o c} e z => by
    subst z
    exact (PySem.W.Looks.ld (part := none) e).andThen .now
  cases h with
  | base b =>
    cases b with
    | non => cases (show u = Value.none from ry); exact PySem.W.Looks.of_pure rfl
    | bl y => cases (show u = Value.bool y from ry); exact PySem.W.Looks.of_pure rfl
    | int i => obtain ⟨t, q⟩ := (show ∃ t, u = Value.int i t from ry); cases q; exact PySem.W.Looks.of_pure rfl
    | str y => obtain ⟨t, q⟩ := (show ∃ t, u = Value.str y t from ry); cases q; exact PySem.W.Looks.of_pure rfl
    | flt y => obtain ⟨t, q⟩ := (show ∃ t, u = Value.float y t from ry); cases q; exact PySem.W.Looks.of_pure rfl
    | @lst a xs ea =>
      cases (show u = Value.ref a from ry)
      obtain ⟨_, _, n, _, h1⟩ := (show ObjOk X.prog X.w H s.heap a (.lst xs) from I.hok a _ ea)
      exact ld h1 rfl
    | @frz a ob xs ea =>
      cases (show u = Value.ref a from ry)
      obtain ⟨_, _, _, n, _, h1⟩ := (show ObjOk X.prog X.w H s.heap a (.frz ob (.lst xs)) from I.hok a _ ea)
      exact ld h1 rfl
    | @tup a xs ea =>
      cases (show u = Value.ref a from ry)
      obtain ⟨_, _, _, o, h1, h2, _⟩ := (show ObjOk X.prog X.w H s.heap a (.tup xs) from I.hok a _ ea)
      exact ld h1 h2
    | @dK a kvs ea =>
      cases (show u = Value.ref a from ry)
      obtain ⟨_, _, vs, _, o, es, ep, h1, h2, _⟩ := (show ObjOk X.prog X.w H s.heap a (.dK kvs) from I.hok a _ ea)
      exact ld h1 h2.1
    | @dT a kvs ea =>
      cases (show u = Value.ref a from ry)
      obtain ⟨_, _, xs, _, o, es, ep, h1, h2, _⟩ := (show ObjOk X.prog X.w H s.heap a (.dT kvs) from I.hok a _ ea)
      exact ld h1 h2.1
    | @ins a C dx fs ea cl ha hn htk hm =>
      cases (show u = Value.ref a from ry)
      obtain ⟨od, J⟩ := ins_inst I ea
      exact J.type
  | byt y => obtain ⟨t, q⟩ := (show ∃ t, u = Value.bytes y t from ry); cases q; exact PySem.W.Looks.of_pure rfl
  | @set a S n ea =>
    cases (show u = Value.ref a from ry)
    obtain ⟨o, _, _, _, e, ex, _⟩ := I.hok a _ ea
    exact ld e ex.1
  | @kList a o e c => cases (show u = Value.ref a from ry); exact ld (I.kIn a o e) c
  | @kTuple a o e c => cases (show u = Value.ref a from ry); exact ld (I.kIn a o e) c
  | @kDict a o e c => cases (show u = Value.ref a from ry); exact ld (I.kIn a o e) c
  | @fTuple a ob xs ea =>
    cases (show u = Value.ref a from ry)
    obtain ⟨_, _, _, _, o, h1, h2, _⟩ := (show ObjOk X.prog X.w H s.heap a (.frz ob (.tup xs)) from I.hok a _ ea)
    exact ld h1 h2
  | @fDict a ob kvs ea =>
    cases (show u = Value.ref a from ry)
    obtain ⟨_, _, _, vs, _, o, es, ep, h1, h2, _⟩ := (show ObjOk X.prog X.w H s.heap a (.frz ob (.dK kvs)) from I.hok a _ ea)
    exact ld h1 h2.1
/-- the other value of a comparison: of a type that does not come first -/
def isAny (K : PySem.W.Frag) (C : Addr) : V → Hp → Prop := fun y H => ∃ t, TyX K H y t ∧ PySem.W.notFirst K C t = true
theorem op_cmp {op : CmpOp} (hop : ∀ a b, compareOp op a b = richCompare op a b) (hs : PySem.W.findIn X.K (.ref C) (cmpInfo op).2.1 = some (some (.ref f))) (hf : PySem.W.isFn X.K (.ref f) = true) (F : FnR X.prog X.w X.K X.mg X.base CX n f sp)
    (hr : Room n X.A) (hx : Passes CX X E) : OpR X (compareOp op) (rO C sp E (isAny X.K C)) := by
  intro pins s σ H x y v u Q I rx ry h
  obtain ⟨a, dx, fs, rfl, ha, ⟨t, ht, hn⟩, q⟩ := h
  cases (show v = Value.ref a from rx)
  obtain ⟨od, J⟩ := ins_inst I ha
  obtain ⟨m, hF⟩ := I.fr
  rw [hop]
  exact PySem.W.cmp_K hr.units0 hF I.ok.mod.kin J (ty_look I ry ht) hn hs hf (thn (wpAny_call (run_fnR (us := [.ref a, u]) (vs := [.ref a, y]) F hr hx I (.cons rfl (.cons ry .nil)) q)) fun _ _ z => cb_of z)
theorem op_rcmp {op : CmpOp} {id : String} {B : Builtin} (hop : ∀ a b, compareOp op a b = richCompare op a b) (hs : PySem.W.findIn X.K (.ref C) (cmpInfo op).2.2 = some (some (.ref f))) (hf : PySem.W.isFn X.K (.ref f) = true)
    (hsub : PySem.W.subIn X.K (.ref C) (.type "int") = some false) (slot : Slot "int" (cmpInfo op).2.1 id) (entry : entryFor table id = some B) (args : ∀ a b : Value, argsOk id ⟨[a, b], []⟩)
    (g0 : ∀ i t x C dx, Meets (B ⟨[.int i t, .ref x], []⟩) (fun _ R s => s.heap.get? x = some (PySem.W.instObj C dx) ∧ R (.ok (.ret Value.notImplemented)) s))
    (F : FnR X.prog X.w X.K X.mg X.base CX n f sp) (hr : Room n X.A) (hx : Passes CX X E) : OpR X (compareOp op) (rOr C sp E) := by
  intro pins s σ H x y v u Q I rx ry h
  obtain ⟨a, dx, fs, i, rfl, rfl, ha, q⟩ := h
  cases (show u = Value.ref a from ry)
  obtain ⟨t, rfl⟩ := rx
  obtain ⟨od, J⟩ := ins_inst I ha
  rw [hop]
  exact rcmp_K hr.units0 I.kIn J hs hf hsub slot entry (args _ _) (g0 i t a C dx) (thn (wpAny_call (run_fnR (us := [.ref a, .int i t]) (vs := [.ref a, .int i]) F hr hx I (.cons rfl (.cons ⟨t, rfl⟩ .nil)) q)) fun _ _ z => cb_of z)
/-- the callee runs one C level deeper -/
theorem run_fnR1 {Q : VK} {us : List Value} {vs : List V} {A : Around} (F : FnR X.prog X.w X.K X.mg X.base CX n f sp) (hr : Room n A) (e0 : Env0 X.prog X.w X.K X.mg X.base A X.stack s H) (hx : Passes CX X E) (I : Inv X pins σ H s) (r : Vals vs us) (h : sp vs H Q E) :
    wpAny (model X.prog X.w) A (call (.ref f) us) (EP X pins σ Q) X.xe s := wpAny_call (SlX.run_at F hr e0 hx I r h)
/-- what comes back is a bool -/
def kB (Q : VK) : VK := fun v H => ∃ b, v = .bl b ∧ Q (.bl b) H
def kNB (Q : VK) : VK := fun v H => ∃ b, v = .bl b ∧ Q (.bl (!b)) H
def rNO (C : Addr) (sp : Sp) (E : XK) (ok : V → Hp → Prop) : R2 := fun x y H Q => ∃ a dx fs, x = .ref a ∧ H a = some (.ins C dx fs) ∧ ok y H ∧ sp [.ref a, y] H (kNB Q) E
theorem op_ne1 (hn : PySem.W.findIn X.K (.ref C) "__ne__" = some (some (.builtin "object.__ne__"))) (hm : PySem.W.mroIn X.K C (.type "object") = some true) (hs : PySem.W.findIn X.K (.ref C) "__eq__" = some (some (.ref f))) (hf : PySem.W.isFn X.K (.ref f) = true)
    (F : FnR X.prog X.w X.K X.mg X.base CX n f sp) (hr : Room (n + 1) X.A) (hx : Passes CX X E) : OpR X (compareOp .NotEq) (rNO C sp E (isAny X.K C)) := by
  intro pins s σ H x y v u Q I rx ry h
  obtain ⟨a, dx, fs, rfl, ha, ⟨t, ht, hnf⟩, q⟩ := h
  cases (show v = Value.ref a from rx)
  obtain ⟨od, J⟩ := ins_inst I ha
  show wpAny _ _ (richCompare .NotEq _ _) _ _ _
  refine ne_K (by have := hr.units; omega) I.kIn J (ty_look I ry ht) hnf hn hs hf hm (thn (run_fnR1 (us := [.ref a, u]) (vs := [.ref a, y]) F hr.in1 I.env0.in1 hx I (.cons rfl (.cons ry .nil)) q) fun v s' z => ?_)
  obtain ⟨z, H', I', rz, b, ez, q'⟩ := z
  subst ez
  cases rz
  exact ⟨b, rfl, .bl (!b), H', I', rfl, q'⟩
def rU1 (C : Addr) (sp : Sp) (E : XK) : V → Hp → VK → Prop := fun x H Q => ∃ a dx fs, x = .ref a ∧ H a = some (.ins C dx fs) ∧ sp [.ref a] H Q E
theorem un_negO (hs : PySem.W.findIn X.K (.ref C) "__neg__" = some (some (.ref f))) (hf : PySem.W.isFn X.K (.ref f) = true) (F : FnR X.prog X.w X.K X.mg X.base CX n f sp) (hr : Room n X.A) (hx : Passes CX X E) : UnR X (unaryOp .USub) (rU1 C sp E) := by
  intro pins s σ H x v Q I rx h
  obtain ⟨a, dx, fs, rfl, ha, q⟩ := h
  cases (show v = Value.ref a from rx)
  obtain ⟨od, J⟩ := ins_inst I ha
  obtain ⟨m, hF⟩ := I.fr
  exact PySem.W.ksp_neg hF I.ok.mod.kin J hs hf (wpAny_call (run_fnR (us := [.ref a]) (vs := [.ref a]) F hr hx I (.cons rfl .nil) q))
theorem un_invO (hs : PySem.W.findIn X.K (.ref C) "__invert__" = some (some (.ref f))) (hf : PySem.W.isFn X.K (.ref f) = true) (F : FnR X.prog X.w X.K X.mg X.base CX n f sp) (hr : Room n X.A) (hx : Passes CX X E) : UnR X (unaryOp .Invert) (rU1 C sp E) := by
  intro pins s σ H x v Q I rx h
  obtain ⟨a, dx, fs, rfl, ha, q⟩ := h
  cases (show v = Value.ref a from rx)
  obtain ⟨od, J⟩ := ins_inst I ha
  obtain ⟨m, hF⟩ := I.fr
  exact PySem.W.ksp_inv hF I.ok.mod.kin J hs hf (wpAny_call (run_fnR (us := [.ref a]) (vs := [.ref a]) F hr hx I (.cons rfl .nil) q))
/-- a call of a built-in with one instance -/
def rC1 (C : Addr) (sp : Sp) (E : XK) (k : VK → VK) : List V → Hp → VK → Prop := fun xs H Q => ∃ a dx fs, xs = [.ref a] ∧ H a = some (.ins C dx fs) ∧ sp [.ref a] H (k Q) E
def kS (Q : VK) : VK := fun v H => ∃ z, v = .str z ∧ Q (.str z) H
theorem call_absO (hs : PySem.W.findIn X.K (.ref C) "__abs__" = some (some (.ref f))) (hf : PySem.W.isFn X.K (.ref f) = true) (F : FnR X.prog X.w X.K X.mg X.base CX n f sp) (hr : Room (n + 1) X.A) (hx : Passes CX X E) : CallR X (.builtin "abs") (rC1 C sp E id) := by
  intro pins s σ H xs us Q I r h
  obtain ⟨a, dx, fs, rfl, ha, q⟩ := h
  obtain ⟨u, rfl, ru⟩ := vals1 r
  cases (show u = Value.ref a from ru)
  obtain ⟨od, J⟩ := ins_inst I ha
  exact abs_K I.kIn J hs hf (run_fnR1 (us := [.ref a]) (vs := [.ref a]) F hr.in1 I.env0.in1 hx I (.cons rfl .nil) q)
theorem call_boolO (hs : PySem.W.findIn X.K (.ref C) "__bool__" = some (some (.ref f))) (hf : PySem.W.isFn X.K (.ref f) = true) (F : FnR X.prog X.w X.K X.mg X.base CX n f sp) (hr : Room (n + 2) X.A) (hx : Passes CX X E) : CallR X (.type "bool") (rC1 C sp E kB) := by
  intro pins s σ H xs us Q I r h
  obtain ⟨a, dx, fs, rfl, ha, q⟩ := h
  obtain ⟨u, rfl, ru⟩ := vals1 r
  cases (show u = Value.ref a from ru)
  obtain ⟨od, J⟩ := ins_inst I ha
  refine boolnew_K I.kIn J hs hf (thn (run_fnR1 (us := [.ref a]) (vs := [.ref a]) F (show Room n X.A.in1.in1 from (Room.in1 (k := n + 1) hr).in1) I.env0.in1.in1 hx I (.cons rfl .nil) q) fun v s' z => ?_)
  obtain ⟨z, H', I', rz, b, ez, q'⟩ := z
  subst ez
  cases rz
  exact ⟨.bl b, H', I', rfl, q'⟩
theorem call_strO (hs : PySem.W.findIn X.K (.ref C) "__str__" = some (some (.ref f))) (hf : PySem.W.isFn X.K (.ref f) = true) (F : FnR X.prog X.w X.K X.mg X.base CX n f sp) (hr : Room (n + 2) X.A) (hx : Passes CX X E) : CallR X (.type "str") (rC1 C sp E kS) := by
  intro pins s σ H xs us Q I r h
  obtain ⟨a, dx, fs, rfl, ha, q⟩ := h
  obtain ⟨u, rfl, ru⟩ := vals1 r
  cases (show u = Value.ref a from ru)
  obtain ⟨od, J⟩ := ins_inst I ha
  have hr2 : Room n X.A.in1.in1 := (Room.in1 (k := n + 1) hr).in1
  refine PySem.W.kso_call hr2.units0 I.kIn J hs hf (thn (run_fnR1 (us := [.ref a]) (vs := [.ref a]) F hr2 I.env0.in1.in1 hx I (.cons rfl .nil) q) fun v s' z => ?_)
  obtain ⟨z, H', I', rz, b, ez, q'⟩ := z
  subst ez
  obtain ⟨t, rfl⟩ := (show ∃ t, v = Value.str b t from rz)
  exact ⟨.str b, H', I', ⟨t, rfl⟩, q'⟩
/-- truth by the own __bool__ -/
theorem tru_O (hs : PySem.W.findIn X.K (.ref C) "__bool__" = some (some (.ref f))) (hf : PySem.W.isFn X.K (.ref f) = true) (F : FnR X.prog X.w X.K X.mg X.base CX n f sp) (hr : Room n X.A) (hx : Passes CX X E) :
    TruR X (fun x H Q => ∃ a dx fs, x = .ref a ∧ H a = some (.ins C dx fs) ∧ sp [.ref a] H (fun v H' => ∃ b, v = .bl b ∧ Q b H') E) := by
  intro pins s σ H x v Q I rx h
  obtain ⟨a, dx, fs, rfl, ha, q⟩ := h
  cases (show v = Value.ref a from rx)
  obtain ⟨od, J⟩ := ins_inst I ha
  obtain ⟨m, hF⟩ := I.fr
  refine PySem.W.truthy_K hF I.ok.mod.kin J hs hf (thn (wpAny_call (run_fnR (us := [.ref a]) (vs := [.ref a]) F hr hx I (.cons rfl .nil) q)) fun v s' z => ?_)
  obtain ⟨z, H', I', rz, b, ez, q'⟩ := z
  subst ez
  cases rz
  exact ⟨H', I', q'⟩
end
end
section
open PySem PySem.Spec PyProof.Rows L2
def Ex (H H' : Hp) : Prop := ∀ a o, H a = some o → H' a = some o
def Stab : HO → Prop
  | .dK _ => False
  | _ => True
/-- all but dicts stands as it was -/
def Le (H H' : Hp) : Prop := ∀ a o, H a = some o → Stab o → H' a = some o
theorem Ex.refl (H : Hp) : Ex H H := fun _ _ h => h
theorem Ex.trans {H H1 H2 : Hp} (a : Ex H H1) (b : Ex H1 H2) : Ex H H2 := fun x o h => b x o (a x o h)
theorem Ex.le {H H' : Hp} (e : Ex H H') : Le H H' := fun a o h _ => e a o h
theorem Le.refl (H : Hp) : Le H H := fun _ _ h _ => h
theorem Le.trans {H H1 H2 : Hp} (a : Le H H1) (b : Le H1 H2) : Le H H2 := fun x o h s => b x o (a x o h s) s
theorem Ex.new {H : Hp} {p : Addr} {o : HO} (h : H p = none) : Ex H (upd H p o) := fun a u e => by
  rw [upd_ne (ne_of_none e h)]
  exact e
theorem Ex.new2 {H : Hp} {p q : Addr} {o u : HO} (h : H p = none) (h' : H q = none) : Ex H (upd (upd H p o) q u) := fun a v e => by
  rw [upd_ne (ne_of_none e h'), upd_ne (ne_of_none e h)]
  exact e
theorem Le.dict {H : Hp} {p : Addr} {kvs : List (Key × V)} {o : HO} (h : H p = some (.dK kvs)) : Le H (upd H p o) := fun a u e s => by
  have : a ≠ p := fun z => by subst z; rw [h] at e; cases e; exact s
  rw [upd_ne this]
  exact e
structure Cl (P : Program) (w : World) (K : PySem.W.Frag) (mg : Str → Option Value) (base : Heap) (k : Nat) (x : Str) (sp : Sp) : Prop where
  ex : ∃ (f : Addr) (fd : FuncData) (ps : List Str), FnOk P w K mg base (L2.CX P w) k f fd ps sp ∧ mg x = some (.ref f) ∧ PySem.W.keepIn K (.ref f) = true ∧ Binds K fd ps []
structure Cm (P : Program) (w : World) (K : PySem.W.Frag) (mg : Str → Option Value) (base : Heap) (k : Nat) (C : Addr) (m : Str) (f : Addr) (sp : Sp) : Prop where
  ex : ∃ (fd : FuncData) (ps : List Str), FnOk P w K mg base (L2.CX P w) k f fd ps sp ∧ Binds K fd ps []
  me : Meth K C m f
section
variable {P : Program} {w : World} {K : PySem.W.Frag} {mg : Str → Option Value} {base : Heap} {k j : Nat} {x m : Str} {C f : Addr} {sp sp' : Sp}
theorem Cm.fnr (c : Cm P w K mg base k C m f sp) : FnR P w K mg base (L2.CX P w) k f sp := by
  obtain ⟨fd, ps, F, b⟩ := c.ex
  have q := F.raw (dvs := []) b .nil
  intro A outer s H us vs Q E hr e0 r hs
  exact q A outer s H us vs Q E hr e0 r (by show sp (vs ++ []) H Q E; rw [List.append_nil]; exact hs)
theorem Cm.fn (c : Cm P w K mg base k C m f sp) : PySem.W.isFn K (.ref f) = true := c.me.fn
theorem Cm.at_ (c : Cm P w K mg base k C m f sp) : PySem.W.findIn K (.ref C) m = some (some (.ref f)) := c.me.at_
theorem Cl.imp (c : Cl P w K mg base k x sp) (h : ∀ vs H Q E, sp' vs H Q E → sp vs H Q E) : Cl P w K mg base k x sp' := by
  obtain ⟨f, fd, ps, F, r⟩ := c.ex
  exact ⟨f, fd, ps, F.imp h, r⟩
theorem Cm.imp (c : Cm P w K mg base k C m f sp) (h : ∀ vs H Q E, sp' vs H Q E → sp vs H Q E) : Cm P w K mg base k C m f sp' := by
  obtain ⟨fd, ps, F, r⟩ := c.ex
  exact ⟨⟨fd, ps, F.imp h, r⟩, c.me⟩
end
section
variable {X : Cx} {k j : Nat} {x m : Str} {C f : Addr} {sp : Sp} {E : XK} {e o : Expr} {es : List Expr} {t : TA} {ta : TE} {p pos apos : Pos}
def tC1 (sp : Sp) (E : XK) (t : TA) : TE := fun σ H Q => t σ H fun vs H1 => sp vs H1 Q E
def tM1 (C : Addr) (m : Str) (sp : Sp) (E : XK) (ta : TE) (t : TA) : TE := fun σ H Q => ta σ H fun x H1 => ∃ a dx fs, x = .ref a ∧ H1 a = some (.ins C dx fs) ∧ fs.lookup m = none ∧ t σ H1 fun vs H2 => sp (.ref a :: vs) H2 Q E
theorem pe_cl (c : Cl X.prog X.w X.K X.mg X.base k x sp) (hr : Room j X.A) (hk : k ≤ j) (hg : Gl X x) (hx : Passes (L2.CX X.prog X.w) X E) (ha : PA X (e :: es) t) (hdb : (x == ("__debug__" : Str)) = false := by decide)
    (he : starEach (e :: es) X.env = (false, eval e X.env) :: starEach es X.env := by rfl) (hpl : (backTo pos (starEach es X.env)).any (·.1) = false := by rfl) : PE X (.Call (.Name x p) (e :: es) [] pos) (tC1 sp E t) := by
  obtain ⟨f, fd, ps, F, hm, hkp, hb⟩ := c.ex
  have q := pe_call (p := p) (pos := pos) F (hr.mono hk) hg hm hkp hb .nil hx ha hdb he hpl
  refine ⟨fun pins s σ H Q I h => q.run pins s σ H Q I ?_⟩
  show t σ H fun vs H1 => sp (vs ++ []) H1 Q E
  simp only [List.append_nil]
  exact h
theorem pe_cm {pl : Sem Bool} (cl : Cls X.K C) (c : Cm X.prog X.w X.K X.mg X.base k C m f sp) (hr : Room j X.A) (hk : k ≤ j) (hx : Passes (L2.CX X.prog X.w) X E) (he : PE X o ta) (ha : PA X (e :: es) t)
    (hst : starEach (e :: es) X.env = (false, eval e X.env) :: starEach es X.env := by rfl) (hpl : (backTo pos (starEach es X.env)).any (·.1) = false := by rfl)
    (ht : eval (.Call (.Attribute o m apos) (e :: es) [] pos) X.env = (do
      let ov ← eval o X.env
      standAt apos.atName
      let (f, first) ← holding [ov] (getMethod ov m pl)
      callWith pos f first (backTo pos (starEach (e :: es) X.env)) (backToKw pos (keywordEach [] X.env))) := by rfl) :
    PE X (.Call (.Attribute o m apos) (e :: es) [] pos) (tM1 C m sp E ta t) := by
  obtain ⟨fd, ps, F, b⟩ := c.ex
  have q := pe_meth (pos := pos) (apos := apos) he cl c.me F (hr.mono hk) b .nil hx ha hst hpl ht
  refine ⟨fun pins s σ H Q I h => q.run pins s σ H Q I ?_⟩
  show ta σ H fun x H1 => ∃ a dx fs, x = .ref a ∧ H1 a = some (.ins C dx fs) ∧ fs.lookup m = none ∧ t σ H1 fun vs H2 => sp (x :: (vs ++ [])) H2 Q E
  simp only [List.append_nil]
  have e : (fun (x : V) (H1 : Hp) => ∃ a dx fs, x = .ref a ∧ H1 a = some (.ins C dx fs) ∧ fs.lookup m = none ∧ t σ H1 fun vs H2 => sp (x :: vs) H2 Q E) = (fun (x : V) (H1 : Hp) => ∃ a dx fs, x = .ref a ∧ H1 a = some (.ins C dx fs) ∧ fs.lookup m = none ∧ t σ H1 fun vs H2 => sp (.ref a :: vs) H2 Q E) := by
    funext x H1
    apply propext
    constructor
    · rintro ⟨a, dx, fs, rfl, r⟩; exact ⟨a, dx, fs, rfl, r⟩
    · rintro ⟨a, dx, fs, rfl, r⟩; exact ⟨a, dx, fs, rfl, r⟩
  rw [e]
  exact h
theorem pe_cm0 {pl : Sem Bool} (cl : Cls X.K C) (c : Cm X.prog X.w X.K X.mg X.base k C m f sp) (hr : Room j X.A) (hk : k ≤ j) (hx : Passes (L2.CX X.prog X.w) X E) (he : PE X o ta)
    (ht : eval (.Call (.Attribute o m apos) [] [] pos) X.env = (do
      let ov ← eval o X.env
      standAt apos.atName
      let (f, first) ← holding [ov] (getMethod ov m pl)
      callWith pos f first (backTo pos (starEach [] X.env)) (backToKw pos (keywordEach [] X.env))) := by rfl) :
    PE X (.Call (.Attribute o m apos) [] [] pos) (tM1 C m sp E ta tNil) := by
  obtain ⟨fd, ps, F, b⟩ := c.ex
  have q := pe_meth0 (pos := pos) (apos := apos) he cl c.me F (hr.mono hk) b .nil hx ht
  refine ⟨fun pins s σ H Q I h => q.run pins s σ H Q I ?_⟩
  show ta σ H fun x H1 => ∃ a dx fs, x = .ref a ∧ H1 a = some (.ins C dx fs) ∧ fs.lookup m = none ∧ sp (x :: ([] ++ [])) H1 Q E
  have e : (fun (x : V) (H1 : Hp) => ∃ a dx fs, x = .ref a ∧ H1 a = some (.ins C dx fs) ∧ fs.lookup m = none ∧ sp (x :: ([] ++ [])) H1 Q E) = (fun (x : V) (H1 : Hp) => ∃ a dx fs, x = .ref a ∧ H1 a = some (.ins C dx fs) ∧ fs.lookup m = none ∧ sp (.ref a :: []) H1 Q E) := by
    funext x H1
    apply propext
    constructor
    · rintro ⟨a, dx, fs, rfl, r⟩; exact ⟨a, dx, fs, rfl, r⟩
    · rintro ⟨a, dx, fs, rfl, r⟩; exact ⟨a, dx, fs, rfl, r⟩
  rw [e]
  exact h
/-- C(e, ..), __init__'s promise given the fresh instance; dvs fill up the defaults -/
structure Ck (P : Program) (w : World) (K : PySem.W.Frag) (mg : Str → Option Value) (base : Heap) (k : Nat) (x : Str) (C : Addr) (dvs : List V) (sp : Sp) : Prop where
  ex : ∃ (f : Addr) (fd : FuncData) (ps : List Str) (ds : List Value), FnOk P w K mg base (L2.CX P w) k f fd ps sp ∧ Mk K C f ∧ mg x = some (.ref C) ∧ Binds K fd ps ds ∧ Vals dvs ds
def tK1 (C : Addr) (sp : Sp) (dvs : List V) (E : XK) (t : TA) : TE := tMake C sp dvs E t
theorem pe_ck {dvs : List V} (c : Ck X.prog X.w X.K X.mg X.base k x C dvs sp) (hr : Room j X.A) (hk : k + 1 ≤ j) (hg : Gl X x) (hx : Passes (L2.CX X.prog X.w) X E) (ha : PA X (e :: es) t) (hdb : (x == ("__debug__" : Str)) = false := by decide)
    (he : starEach (e :: es) X.env = (false, eval e X.env) :: starEach es X.env := by rfl) (hpl : (backTo pos (starEach es X.env)).any (·.1) = false := by rfl) : PE X (.Call (.Name x p) (e :: es) [] pos) (tK1 C sp dvs E t) := by
  obtain ⟨f, fd, ps, ds, F, M, hm, hb, hv⟩ := c.ex
  exact pe_make M F (hr.mono hk) hg hm hb hv hx ha hdb he hpl
end
/-- in a def's body what a callee raises goes on -/
theorem psE {P : Program} {w : World} {K : PySem.W.Frag} {mg : Str → Option Value} {base : Heap} {N : List Str} {q : Str} {sc : Scope} {f : Addr} {cdv : Value} {A : Around} {outer : List Env} {s : Shared} {H : Hp} {E : XK} :
    Passes (L2.CX P w) (cxOf (L2.CX P w) P w K mg base N q sc f cdv A outer s H E) E := passes_call (W := fun cls d _ H => E cls d H) (takes_of rfl rfl rfl rfl) fun _ _ _ _ h => h
theorem tkE {P : Program} {w : World} {K : PySem.W.Frag} {mg : Str → Option Value} {base : Heap} {N : List Str} {q : Str} {sc : Scope} {f : Addr} {cdv : Value} {A : Around} {outer : List Env} {s : Shared} {H : Hp} {E : XK} :
    Takes (cxOf (L2.CX P w) P w K mg base N q sc f cdv A outer s H E) (fun cls d _ H => E cls d H) := takes_of rfl rfl rfl rfl
section
variable {K : PySem.W.Frag} {σ : L2.St} {H : Hp} {Q : VK} {QT : Bool → Hp → Prop} {QA : List V → Hp → Prop} {D : Ends} {ta tb te : TE} {t u : TT} {tr : TA} {v x y : V} {i : Nat} {r : R2} {ts us ws : TS} {g : TG} {b : Bool}
theorem r_var (h : σ[i]? = some (some v)) (k : Q v H) : tVar i σ H Q := ⟨v, h, k⟩
theorem r_c (k : Q v H) : tC v σ H Q := k
theorem r_op (k : ta σ H fun x H1 => tb σ H1 fun y H2 => r x y H2 Q) : tOp r ta tb σ H Q := k
theorem r_un {ru : V → Hp → VK → Prop} (k : ta σ H fun x H1 => ru x H1 Q) : tUn ru ta σ H Q := k
theorem r_I0 {g : Int → Int → V} {a c : Int} (k : Q (g a c) H) : rI0 g (.int a) (.int c) H Q := ⟨a, c, rfl, rfl, k⟩
theorem r_I {C : Int → Int → Prop} {g : Int → Int → V} {a c : Int} (hc : C a c) (k : Q (g a c) H) : rI C g (.int a) (.int c) H Q := ⟨a, c, rfl, rfl, hc, k⟩
theorem r_U {g : Int → V} {a : Int} (k : Q (g a) H) : rU g (.int a) H Q := ⟨a, rfl, k⟩
theorem r_eqI {a c : Int} (k : Q (.bl (decide (a = c))) H) : rEq (.int a) (.int c) H Q := ⟨rfl, by rw [show decide (V.int a = V.int c) = decide (a = c) from by rw [Bool.eq_iff_iff]; simp]; exact k⟩
theorem r_neI {a c : Int} (k : Q (.bl (!decide (a = c))) H) : rNe (.int a) (.int c) H Q := ⟨rfl, by rw [show decide (V.int a = V.int c) = decide (a = c) from by rw [Bool.eq_iff_iff]; simp]; exact k⟩
theorem r_eqS {a c : Str} (k : Q (.bl (decide (a = c))) H) : rEq (.str a) (.str c) H Q := ⟨rfl, by rw [show decide (V.str a = V.str c) = decide (a = c) from by rw [Bool.eq_iff_iff]; simp]; exact k⟩
theorem r_neS {a c : Str} (k : Q (.bl (!decide (a = c))) H) : rNe (.str a) (.str c) H Q := ⟨rfl, by rw [show decide (V.str a = V.str c) = decide (a = c) from by rw [Bool.eq_iff_iff]; simp]; exact k⟩
theorem r_test (k : te σ H fun x H' => ∃ b, x = .bl b ∧ QT b H') : tTest te σ H QT := k
theorem r_B (k : te σ H fun x H' => ∃ b, x = .bl b ∧ QT b H') : tB te σ H QT := k
theorem r_bl (k : QT b H) : ∃ b', V.bl b = .bl b' ∧ QT b' H := ⟨b, rfl, k⟩
theorem r_and (k : t σ H fun c H1 => if c = true then u σ H1 QT else QT false H1) : tAnd t u σ H QT := k
theorem r_or (k : t σ H fun c H1 => if c = true then QT true H1 else u σ H1 QT) : tOr t u σ H QT := k
theorem r_not (k : t σ H fun c H1 => QT (!c) H1) : tNot t σ H QT := k
theorem r_andV (k : ta σ H fun x H1 => ∃ c, x = .bl c ∧ if c = true then tb σ H1 Q else Q (.bl false) H1) : tAndV ta tb σ H Q := k
theorem r_orV (k : ta σ H fun x H1 => ∃ c, x = .bl c ∧ if c = true then Q (.bl true) H1 else tb σ H1 Q) : tOrV ta tb σ H Q := k
theorem r_notV (k : ta σ H fun x H1 => ∃ c, x = .bl c ∧ Q (.bl (!c)) H1) : tNotV ta σ H Q := k
theorem r_ifE (k : t σ H fun c H1 => if c = true then ta σ H1 Q else tb σ H1 Q) : tIf t ta tb σ H Q := k
theorem r_seq (k : ts { D with nx := us D } σ H) : tSeq ts us D σ H := k
theorem r_next (k : D.nx σ H) : tNext D σ H := k
theorem r_break (k : D.bk σ H) : tBreak D σ H := k
theorem r_cont (k : D.ct σ H) : tCont D σ H := k
theorem r_asg (k : te σ H fun x H1 => g x σ H1 D.nx) : tAsg te g D σ H := k
theorem r_name {QS : L2.St → Hp → Prop} (k : QS (σ.set i (some v)) H) : gName i v σ H QS := k
theorem r_ifS (k : t σ H fun b H1 => if b = true then ts D σ H1 else us D σ H1) : tIfS t ts us D σ H := k
theorem r_ret (k : te σ H D.rt) : tRet te D σ H := k
theorem r_retN (k : D.rt .non H) : tRetN D σ H := k
theorem r_drop (k : te σ H fun _ H1 => D.nx σ H1) : tDrop te D σ H := k
theorem r_nil (k : QA [] H) : tNil σ H QA := k
theorem r_cons (k : ta σ H fun x H1 => tr σ H1 fun xs H2 => QA (x :: xs) H2) : tCons ta tr σ H QA := k
theorem r_c1 {sp : Sp} {E : XK} (k : tr σ H fun vs H1 => sp vs H1 Q E) : tC1 sp E tr σ H Q := k
theorem r_cb {rc : List V → Hp → VK → Prop} (k : tr σ H fun vs H1 => rc vs H1 Q) : tCB rc tr σ H Q := k
def LaidT (xs : List V) (H : Hp) (Q : VK) : Prop := xs.length ≤ sizeLine ∧ ∀ p, H p = none → Q (.ref p) (upd H p (.tup xs))
def LaidL (xs : List V) (H : Hp) (Q : VK) : Prop := xs.length ≤ sizeLine ∧ ∀ p, H p = none → Q (.ref p) (upd H p (.lst xs))
theorem r_tup (k : tr σ H fun xs H1 => LaidT xs H1 Q) : tTup tr σ H Q := k
theorem r_lst (k : tr σ H fun xs H1 => LaidL xs H1 Q) : tLst tr σ H Q := k
/-- an object laid: known from then on by what stands at it -/
theorem r_laidT {xs : List V} (hz : xs.length ≤ 1000) (k : ∀ p H', Ex H H' → H p = none → H' p = some (.tup xs) → Q (.ref p) H') : LaidT xs H Q :=
  ⟨Nat.le_trans hz (by decide), fun p hp => k p _ (Ex.new hp) hp upd_same⟩
theorem r_laidL {xs : List V} (hz : xs.length ≤ 1000) (k : ∀ p H', Ex H H' → H p = none → H' p = some (.lst xs) → Q (.ref p) H') : LaidL xs H Q :=
  ⟨Nat.le_trans hz (by decide), fun p hp => k p _ (Ex.new hp) hp upd_same⟩
theorem r_par {i j : Nat} (k : tr σ H fun vs H1 => ∃ v w, vs = [v, w] ∧ D.nx ((σ.set i (some v)).set j (some w)) H1) : tPar i j tr D σ H := k
theorem r_par2 {QS : L2.St → Hp → Prop} {i j : Nat} {v w : V} (k : QS ((σ.set i (some v)).set j (some w)) H) : ∃ v' w', [v, w] = [v', w'] ∧ QS ((σ.set i (some v')).set j (some w')) H := ⟨v, w, rfl, k⟩
theorem r_par3 {i j l : Nat} (k : tr σ H fun vs H1 => ∃ v w z, vs = [v, w, z] ∧ D.nx (((σ.set i (some v)).set j (some w)).set l (some z)) H1) : tPar3 i j l tr D σ H := k
theorem r_par33 {QS : L2.St → Hp → Prop} {i j l : Nat} {v w z : V} (k : QS (((σ.set i (some v)).set j (some w)).set l (some z)) H) : ∃ v' w' z', [v, w, z] = [v', w', z'] ∧ QS (((σ.set i (some v')).set j (some w')).set l (some z')) H := ⟨v, w, z, rfl, k⟩
theorem r_gTup {QS : L2.St → Hp → Prop} {K : PySem.W.Frag} {n : Nat} {gs : TGs} {a : Addr} {xs : List V} (h : H a = some (.tup xs)) (hn : xs.length = n) (k : gs xs σ H QS) : gTup K n gs (.ref a) σ H QS := ⟨a, xs, rfl, SqT.of h, hn, k⟩
theorem r_gCons {QS : L2.St → Hp → Prop} {g : TG} {gs : TGs} {v : V} {vs : List V} (k : g v σ H fun σ' H' => gs vs σ' H' QS) : gCons g gs (v :: vs) σ H QS := ⟨v, vs, rfl, k⟩
theorem r_gNil {QS : L2.St → Hp → Prop} (k : QS σ H) : gNil [] σ H QS := ⟨rfl, k⟩
theorem r_ix {ri : R2} (k : ta σ H fun x H1 => tb σ H1 fun y H2 => ri x y H2 Q) : tOp ri ta tb σ H Q := k
theorem r_ixT {p : Addr} {xs : List V} {i : Int} {v : V} (h : H p = some (.tup xs)) (e : atI xs i = some v) (k : Q v H) : rIxT K (.ref p) (.int i) H Q := ⟨p, xs, i, v, rfl, rfl, SqT.of h, e, k⟩
theorem r_ixL {p : Addr} {xs : List V} {i : Int} {v : V} (h : H p = some (.lst xs)) (e : atI xs i = some v) (k : Q v H) : rIxL K (.ref p) (.int i) H Q := ⟨p, xs, i, v, rfl, rfl, SqL.of h, e, k⟩
theorem iteT {A B : Prop} (h : A) : if true = true then A else B := by rw [if_pos rfl]; exact h
theorem iteF {A B : Prop} (h : B) : if false = true then A else B := by rw [if_neg Bool.false_ne_true]; exact h
theorem iteD {p A B : Prop} [Decidable p] (h : p) (k : A) : if decide p = true then A else B := by rw [decide_eq_true h]; exact iteT k
theorem iteDn {p A B : Prop} [Decidable p] (h : ¬ p) (k : B) : if decide p = true then A else B := by rw [decide_eq_false h]; exact iteF k
theorem iteN {p A B : Prop} [Decidable p] (h : p) (k : B) : if (!decide p) = true then A else B := by rw [decide_eq_true h]; exact iteF k
theorem iteNn {p A B : Prop} [Decidable p] (h : ¬ p) (k : A) : if (!decide p) = true then A else B := by rw [decide_eq_false h]; exact iteT k
theorem iteNT {A B : Prop} (h : B) : if (!true) = true then A else B := iteF h
theorem iteNF {A B : Prop} (h : A) : if (!false) = true then A else B := iteT h
theorem ite2 {p A B : Prop} [Decidable p] (h1 : p → A) (h2 : ¬ p → B) : if decide p = true then A else B := by
  by_cases h : p
  · exact iteD h (h1 h)
  · exact iteDn h (h2 h)
theorem ite2n {p A B : Prop} [Decidable p] (h1 : ¬ p → A) (h2 : p → B) : if (!decide p) = true then A else B := by
  by_cases h : p
  · exact iteN h (h2 h)
  · exact iteNn h (h1 h)
/-- int(i), int(b), max, abs, of ints -/
theorem r_int1 {a : Int} (k : Q (.int a) H) : (∃ i, [V.int a] = [.int i] ∧ Q (.int i) H) ∨ ∃ b, [V.int a] = [.bl b] ∧ Q (.int (if b then 1 else 0)) H := .inl ⟨a, rfl, k⟩
theorem r_intB {b : Bool} (k : Q (.int (if b then 1 else 0)) H) : (∃ i, [V.bl b] = [.int i] ∧ Q (.int i) H) ∨ ∃ b', [V.bl b] = [.bl b'] ∧ Q (.int (if b' then 1 else 0)) H := .inr ⟨b, rfl, k⟩
theorem r_bool1 {a : Int} (k : Q (.bl (a != 0)) H) : (∃ i, [V.int a] = [.int i] ∧ Q (.bl (i != 0)) H) ∨ ∃ b, [V.int a] = [.bl b] ∧ Q (.bl b) H := .inl ⟨a, rfl, k⟩
theorem r_boolB {b : Bool} (k : Q (.bl b) H) : (∃ i, [V.bl b] = [.int i] ∧ Q (.bl (i != 0)) H) ∨ ∃ b', [V.bl b] = [.bl b'] ∧ Q (.bl b') H := .inr ⟨b, rfl, k⟩
theorem r_abs1 {a : Int} (k : Q (.int (a.natAbs : Int)) H) : ∃ i, [V.int a] = [.int i] ∧ Q (.int (if i < 0 then -i else i)) H := ⟨a, rfl, by
  have e : (if a < 0 then -a else a) = (a.natAbs : Int) := by split <;> omega
  rw [e]; exact k⟩
theorem r_gcd {a c : Int} (k : Q (.int (Int.gcd a c : Int)) H) : rGcd [.int a, .int c] H Q := ⟨a, c, rfl, k⟩
theorem r_isi {x c : V} {t u : Value} {b : Bool} (hc : ClsV c u) (ht : TyX K H x t) (e : PySem.W.kitOne K t u = some b) (k : Q (.bl b) H) : rIsi K [x, c] H Q := ⟨x, c, t, u, b, rfl, hc, ht, e, k⟩
theorem r_truI {a : Int} (k : QT (decide (a ≠ 0)) H) : ∃ b, TruV K (.int a) H b ∧ QT b H := ⟨a != 0, rfl, by
  have e : (a != 0) = decide (a ≠ 0) := by rw [Bool.eq_iff_iff]; simp
  rw [e]; exact k⟩
theorem r_truB {b' : Bool} (k : QT b' H) : ∃ b, TruV K (.bl b') H b ∧ QT b H := ⟨b', rfl, k⟩
end
end
section
open PySem PySem.Spec PyProof.Rows L2
theorem d_add : PySem.dunder Operator.Add.info.2 = ("__add__" : Str) := by decide +kernel
theorem d_sub : PySem.dunder Operator.Sub.info.2 = ("__sub__" : Str) := by decide +kernel
theorem d_mul : PySem.dunder Operator.Mult.info.2 = ("__mul__" : Str) := by decide +kernel
theorem d_floordiv : PySem.dunder Operator.FloorDiv.info.2 = ("__floordiv__" : Str) := by decide +kernel
theorem d_mod : PySem.dunder Operator.Mod.info.2 = ("__mod__" : Str) := by decide +kernel
theorem d_pow : PySem.dunder Operator.Pow.info.2 = ("__pow__" : Str) := by decide +kernel
theorem d_and : PySem.dunder Operator.BitAnd.info.2 = ("__and__" : Str) := by decide +kernel
theorem dr_add : dunderR Operator.Add.info.2 = ("__radd__" : Str) := by decide +kernel
theorem dr_sub : dunderR Operator.Sub.info.2 = ("__rsub__" : Str) := by decide +kernel
theorem dr_mul : dunderR Operator.Mult.info.2 = ("__rmul__" : Str) := by decide +kernel
theorem dr_floordiv : dunderR Operator.FloorDiv.info.2 = ("__rfloordiv__" : Str) := by decide +kernel
theorem dr_mod : dunderR Operator.Mod.info.2 = ("__rmod__" : Str) := by decide +kernel
theorem dr_pow : dunderR Operator.Pow.info.2 = ("__rpow__" : Str) := by decide +kernel
section
variable {K : PySem.W.Frag}
theorem fi_add : PySem.W.findIn K (.type "int") "__add__" = some (some (.builtin "int.__add__")) := by show PySem.fastLookup "int" _ = _; kernel_rfl
theorem fi_sub : PySem.W.findIn K (.type "int") "__sub__" = some (some (.builtin "int.__sub__")) := by show PySem.fastLookup "int" _ = _; kernel_rfl
theorem fi_mul : PySem.W.findIn K (.type "int") "__mul__" = some (some (.builtin "int.__mul__")) := by show PySem.fastLookup "int" _ = _; kernel_rfl
theorem fi_floordiv : PySem.W.findIn K (.type "int") "__floordiv__" = some (some (.builtin "int.__floordiv__")) := by show PySem.fastLookup "int" _ = _; kernel_rfl
theorem fi_mod : PySem.W.findIn K (.type "int") "__mod__" = some (some (.builtin "int.__mod__")) := by show PySem.fastLookup "int" _ = _; kernel_rfl
theorem fi_pow : PySem.W.findIn K (.type "int") "__pow__" = some (some (.builtin "int.__pow__")) := by show PySem.fastLookup "int" _ = _; kernel_rfl
theorem fir_add : PySem.W.findIn K (.type "int") "__radd__" = some (some (.builtin "int.__radd__")) := by show PySem.fastLookup "int" _ = _; kernel_rfl
theorem fir_sub : PySem.W.findIn K (.type "int") "__rsub__" = some (some (.builtin "int.__rsub__")) := by show PySem.fastLookup "int" _ = _; kernel_rfl
theorem fir_mul : PySem.W.findIn K (.type "int") "__rmul__" = some (some (.builtin "int.__rmul__")) := by show PySem.fastLookup "int" _ = _; kernel_rfl
theorem fir_floordiv : PySem.W.findIn K (.type "int") "__rfloordiv__" = some (some (.builtin "int.__rfloordiv__")) := by show PySem.fastLookup "int" _ = _; kernel_rfl
theorem fir_mod : PySem.W.findIn K (.type "int") "__rmod__" = some (some (.builtin "int.__rmod__")) := by show PySem.fastLookup "int" _ = _; kernel_rfl
theorem fir_pow : PySem.W.findIn K (.type "int") "__rpow__" = some (some (.builtin "int.__rpow__")) := by show PySem.fastLookup "int" _ = _; kernel_rfl
end
/-- no built-in type has an own class above it -/
theorem sub_ty {K : PySem.W.Frag} {C : Addr} {T : String} {l : List Value} (e : PySem.fastBuiltinMro T = some l) (h : l.all (fun v => match v with | .type _ => true | _ => false) = true) : PySem.W.subIn K (.type T) (.ref C) = some false := by
  show (PySem.fastBuiltinMro T).map (·.contains (.ref C)) = some false
  rw [e]
  show some (l.contains (.ref C)) = some false
  congr 1
  rw [← Bool.not_eq_true, List.contains_iff_mem]
  intro hm
  have := List.all_eq_true.mp h _ hm
  cases this
theorem sub_int {K : PySem.W.Frag} {C : Addr} : PySem.W.subIn K (.type "int") (.ref C) = some false := sub_ty (l := [.type "int", .type "object"]) (by decide +kernel) rfl
theorem sub_str {K : PySem.W.Frag} {C : Addr} : PySem.W.subIn K (.type "str") (.ref C) = some false := sub_ty (l := [.type "str", .type "object"]) (by decide +kernel) rfl
theorem sub_bool {K : PySem.W.Frag} {C : Addr} : PySem.W.subIn K (.type "bool") (.ref C) = some false := sub_ty (l := [.type "bool", .type "int", .type "object"]) (by decide +kernel) rfl
theorem sub_none {K : PySem.W.Frag} {C : Addr} : PySem.W.subIn K (.type "NoneType") (.ref C) = some false := sub_ty (l := [.type "NoneType", .type "object"]) (by decide +kernel) rfl
theorem sub_tuple {K : PySem.W.Frag} {C : Addr} : PySem.W.subIn K (.type "tuple") (.ref C) = some false := sub_ty (l := [.type "tuple", .type "object"]) (by decide +kernel) rfl
theorem sub_list {K : PySem.W.Frag} {C : Addr} : PySem.W.subIn K (.type "list") (.ref C) = some false := sub_ty (l := [.type "list", .type "object"]) (by decide +kernel) rfl
theorem nf_of {K : PySem.W.Frag} {C : Addr} {t : Value} (h : PySem.W.subIn K t (.ref C) = some false) : PySem.W.notFirst K C t = true := by
  unfold PySem.W.notFirst
  rw [h]
  simp
theorem nf_self {K : PySem.W.Frag} {C : Addr} : PySem.W.notFirst K C (.ref C) = true := by
  unfold PySem.W.notFirst
  simp
/-- what the written part says of a plain own class -/
structure ClsO (K : PySem.W.Frag) (C : Addr) : Prop where
  cl : Cls K C
  sf : PySem.W.selfFirst K C = true
  ni : PySem.W.subIn K (.ref C) (.type "int") = some false
  ne : PySem.W.findIn K (.ref C) "__ne__" = some (some (.builtin "object.__ne__"))
  ca : PySem.W.findIn K (.ref C) "__class__" = some (some (.builtin "object.__class__"))
  cn : PySem.W.specialIn K (.builtin "object.__class__") "__get__" = some (some (.builtin "getset_descriptor.__get__"))
  ct : PySem.W.takesIn K (.builtin "object.__class__") = some true
  mo : PySem.W.mroIn K C (.type "object") = some true
  nrpow : PySem.W.findIn K (.ref C) "__rpow__" = some none
theorem ClsO.ty {K : PySem.W.Frag} {C a dx : Addr} {fs : List (Str × V)} {H : Hp} (k : ClsO K C) (h : H a = some (.ins C dx fs)) : TyX K H (.ref a) (.ref C) := .base (.ins h k.cl k.ca k.cn k.ct k.mo)
section
variable {X : Cx} {k j : Nat} {m m' : Str} {C f g : Addr} {sp sp' : Sp} {E : XK} {op : Operator}
theorem op2 (d : PySem.dunder op.info.2 = m) (kc : ClsO X.K C) (c : Cm X.prog X.w X.K X.mg X.base k C m f sp) (hr : Room j X.A) (hk : k ≤ j) (hx : Passes (L2.CX X.prog X.w) X E) : OpR X (binaryOp op) (rO C sp E (isIns C)) :=
  op_bin2 kc.sf (by rw [d]; exact c.at_) c.fn c.fnr (hr.mono hk) hx
theorem opI {rc fo ro : Option Value} (d : PySem.dunder op.info.2 = m) (dr : dunderR op.info.2 = m') (kc : ClsO X.K C) (c : Cm X.prog X.w X.K X.mg X.base k C m f sp) (hp : (∃ g : Addr, PySem.W.findIn X.K (.ref C) m' = some (some (.ref g))) ∨ PySem.W.findIn X.K (.ref C) m' = some none)
    (h1 : PySem.W.findIn X.K (.type "int") m = some fo) (h2 : PySem.W.findIn X.K (.type "int") m' = some ro) (hr : Room j X.A) (hk : k ≤ j) (hx : Passes (L2.CX X.prog X.w) X E) : OpR X (binaryOp op) (rO C sp E isInt) := by
  rcases hp with ⟨g, hp⟩ | hp
  · exact op_binI kc.sf (by rw [d]; exact c.at_) c.fn (rc := some (.ref g)) (by rw [dr]; exact hp) (.inr ⟨g, rfl⟩) (by rw [d]; exact h1) (by rw [dr]; exact h2) sub_int c.fnr (hr.mono hk) hx
  · exact op_binI kc.sf (by rw [d]; exact c.at_) c.fn (rc := none) (by rw [dr]; exact hp) (.inl rfl) (by rw [d]; exact h1) (by rw [dr]; exact h2) sub_int c.fnr (hr.mono hk) hx
theorem opR_add (kc : ClsO X.K C) (hs : PySem.W.findIn X.K (.ref C) "__add__" = some (some (.ref g))) (c : Cm X.prog X.w X.K X.mg X.base k C "__radd__" f sp) (hr : Room j X.A) (hk : k ≤ j) (hx : Passes (L2.CX X.prog X.w) X E) : OpR X (binaryOp .Add) (rOr C sp E) :=
  op_rbin kc.sf (by rw [d_add]; exact hs) (by rw [dr_add]; exact c.at_) c.fn kc.ni PySem.F.fills_int_add (by rw [d_add]; exact PySem.F.slot_int_add) PySem.F.entry_int_add (fun _ _ => PySem.F.args_int_add_2 _ _) int_add_inst c.fnr (hr.mono hk) hx
theorem opR_sub (kc : ClsO X.K C) (hs : PySem.W.findIn X.K (.ref C) "__sub__" = some (some (.ref g))) (c : Cm X.prog X.w X.K X.mg X.base k C "__rsub__" f sp) (hr : Room j X.A) (hk : k ≤ j) (hx : Passes (L2.CX X.prog X.w) X E) : OpR X (binaryOp .Sub) (rOr C sp E) :=
  op_rbin kc.sf (by rw [d_sub]; exact hs) (by rw [dr_sub]; exact c.at_) c.fn kc.ni PySem.F.fills_int_sub (by rw [d_sub]; exact PySem.F.slot_int_sub) PySem.F.entry_int_sub (fun _ _ => PySem.F.args_int_sub_2 _ _) int_sub_inst c.fnr (hr.mono hk) hx
theorem opR_mul (kc : ClsO X.K C) (hs : PySem.W.findIn X.K (.ref C) "__mul__" = some (some (.ref g))) (c : Cm X.prog X.w X.K X.mg X.base k C "__rmul__" f sp) (hr : Room j X.A) (hk : k ≤ j) (hx : Passes (L2.CX X.prog X.w) X E) : OpR X (binaryOp .Mult) (rOr C sp E) :=
  op_rbin kc.sf (by rw [d_mul]; exact hs) (by rw [dr_mul]; exact c.at_) c.fn kc.ni PySem.F.fills_int_mul (by rw [d_mul]; exact PySem.F.slot_int_mul) PySem.F.entry_int_mul (fun _ _ => PySem.F.args_int_mul_2 _ _) int_mul_inst c.fnr (hr.mono hk) hx
theorem opR_mod (kc : ClsO X.K C) (hs : PySem.W.findIn X.K (.ref C) "__mod__" = some (some (.ref g))) (c : Cm X.prog X.w X.K X.mg X.base k C "__rmod__" f sp) (hr : Room j X.A) (hk : k ≤ j) (hx : Passes (L2.CX X.prog X.w) X E) : OpR X (binaryOp .Mod) (rOr C sp E) :=
  op_rbin kc.sf (by rw [d_mod]; exact hs) (by rw [dr_mod]; exact c.at_) c.fn kc.ni PySem.F.fills_int_mod (by rw [d_mod]; exact PySem.F.slot_int_mod) PySem.F.entry_int_mod (fun _ _ => PySem.F.args_int_mod_2 _ _) int_mod_inst c.fnr (hr.mono hk) hx
theorem opR_floordiv (kc : ClsO X.K C) (hs : PySem.W.findIn X.K (.ref C) "__floordiv__" = some (some (.ref g))) (c : Cm X.prog X.w X.K X.mg X.base k C "__rfloordiv__" f sp) (hr : Room j X.A) (hk : k ≤ j) (hx : Passes (L2.CX X.prog X.w) X E) : OpR X (binaryOp .FloorDiv) (rOr C sp E) :=
  op_rbin kc.sf (by rw [d_floordiv]; exact hs) (by rw [dr_floordiv]; exact c.at_) c.fn kc.ni PySem.F.fills_int_floordiv (by rw [d_floordiv]; exact PySem.F.slot_int_floordiv) PySem.F.entry_int_floordiv (fun _ _ => PySem.F.args_int_floordiv_2 _ _) int_floordiv_inst c.fnr (hr.mono hk) hx
theorem opC_eq (c : Cm X.prog X.w X.K X.mg X.base k C "__eq__" f sp) (hr : Room j X.A) (hk : k ≤ j) (hx : Passes (L2.CX X.prog X.w) X E) : OpR X (compareOp .Eq) (rO C sp E (isAny X.K C)) := op_cmp (fun _ _ => rfl) c.at_ c.fn c.fnr (hr.mono hk) hx
theorem opC_lt (c : Cm X.prog X.w X.K X.mg X.base k C "__lt__" f sp) (hr : Room j X.A) (hk : k ≤ j) (hx : Passes (L2.CX X.prog X.w) X E) : OpR X (compareOp .Lt) (rO C sp E (isAny X.K C)) := op_cmp (fun _ _ => rfl) c.at_ c.fn c.fnr (hr.mono hk) hx
theorem opC_le (c : Cm X.prog X.w X.K X.mg X.base k C "__le__" f sp) (hr : Room j X.A) (hk : k ≤ j) (hx : Passes (L2.CX X.prog X.w) X E) : OpR X (compareOp .LtE) (rO C sp E (isAny X.K C)) := op_cmp (fun _ _ => rfl) c.at_ c.fn c.fnr (hr.mono hk) hx
theorem opC_gt (c : Cm X.prog X.w X.K X.mg X.base k C "__gt__" f sp) (hr : Room j X.A) (hk : k ≤ j) (hx : Passes (L2.CX X.prog X.w) X E) : OpR X (compareOp .Gt) (rO C sp E (isAny X.K C)) := op_cmp (fun _ _ => rfl) c.at_ c.fn c.fnr (hr.mono hk) hx
theorem opC_ge (c : Cm X.prog X.w X.K X.mg X.base k C "__ge__" f sp) (hr : Room j X.A) (hk : k ≤ j) (hx : Passes (L2.CX X.prog X.w) X E) : OpR X (compareOp .GtE) (rO C sp E (isAny X.K C)) := op_cmp (fun _ _ => rfl) c.at_ c.fn c.fnr (hr.mono hk) hx
theorem opNe (kc : ClsO X.K C) (c : Cm X.prog X.w X.K X.mg X.base k C "__eq__" f sp) (hr : Room j X.A) (hk : k + 1 ≤ j) (hx : Passes (L2.CX X.prog X.w) X E) : OpR X (compareOp .NotEq) (rNO C sp E (isAny X.K C)) := op_ne1 kc.ne kc.mo c.at_ c.fn c.fnr (hr.mono hk) hx
theorem opRC_eq (kc : ClsO X.K C) (c : Cm X.prog X.w X.K X.mg X.base k C "__eq__" f sp) (hr : Room j X.A) (hk : k ≤ j) (hx : Passes (L2.CX X.prog X.w) X E) : OpR X (compareOp .Eq) (rOr C sp E) := op_rcmp (fun _ _ => rfl) c.at_ c.fn kc.ni PySem.F.slot_int_eq PySem.F.entry_int_eq (fun _ _ => PySem.F.args_int_eq_2 _ _) int_eq_inst c.fnr (hr.mono hk) hx
theorem opRC_lt (kc : ClsO X.K C) (c : Cm X.prog X.w X.K X.mg X.base k C "__gt__" f sp) (hr : Room j X.A) (hk : k ≤ j) (hx : Passes (L2.CX X.prog X.w) X E) : OpR X (compareOp .Lt) (rOr C sp E) := op_rcmp (fun _ _ => rfl) c.at_ c.fn kc.ni PySem.F.slot_int_lt PySem.F.entry_int_lt (fun _ _ => PySem.F.args_int_lt_2 _ _) int_lt_inst c.fnr (hr.mono hk) hx
theorem opRC_le (kc : ClsO X.K C) (c : Cm X.prog X.w X.K X.mg X.base k C "__ge__" f sp) (hr : Room j X.A) (hk : k ≤ j) (hx : Passes (L2.CX X.prog X.w) X E) : OpR X (compareOp .LtE) (rOr C sp E) := op_rcmp (fun _ _ => rfl) c.at_ c.fn kc.ni PySem.F.slot_int_le PySem.F.entry_int_le (fun _ _ => PySem.F.args_int_le_2 _ _) int_le_inst c.fnr (hr.mono hk) hx
theorem opRC_gt (kc : ClsO X.K C) (c : Cm X.prog X.w X.K X.mg X.base k C "__lt__" f sp) (hr : Room j X.A) (hk : k ≤ j) (hx : Passes (L2.CX X.prog X.w) X E) : OpR X (compareOp .Gt) (rOr C sp E) := op_rcmp (fun _ _ => rfl) c.at_ c.fn kc.ni PySem.F.slot_int_gt PySem.F.entry_int_gt (fun _ _ => PySem.F.args_int_gt_2 _ _) int_gt_inst c.fnr (hr.mono hk) hx
theorem opRC_ge (kc : ClsO X.K C) (c : Cm X.prog X.w X.K X.mg X.base k C "__le__" f sp) (hr : Room j X.A) (hk : k ≤ j) (hx : Passes (L2.CX X.prog X.w) X E) : OpR X (compareOp .GtE) (rOr C sp E) := op_rcmp (fun _ _ => rfl) c.at_ c.fn kc.ni PySem.F.slot_int_ge PySem.F.entry_int_ge (fun _ _ => PySem.F.args_int_ge_2 _ _) int_ge_inst c.fnr (hr.mono hk) hx
/-- a test by a value's truth, told by a rule -/
def tTr (r : V → Hp → (Bool → Hp → Prop) → Prop) (ta : TE) : TT := fun σ H Q => ta σ H fun x H' => r x H' Q
theorem pt_tr {a : Expr} {ta : TE} {r : V → Hp → (Bool → Hp → Prop) → Prop} (ha : PE X a ta) (ht : TruR X r) (he : ∀ whole, isTrue a X.env whole = (do let v ← whole; standAt a.pos; holding [v] (truthy v))) : PT X a (tTr r ta) := by
  refine ⟨fun pins s σ H Q I h => ?_⟩
  exact isTrue_plain (thn (ha.run pins s σ H _ I h) fun v s1 ⟨x, H1, I1, r1, q1⟩ => ht pins s1 σ H1 x v Q I1 r1 q1) (he _)
theorem r_tr {r : V → Hp → (Bool → Hp → Prop) → Prop} {ta : TE} {σ : L2.St} {H : Hp} {Q : Bool → Hp → Prop} (h : ta σ H fun x H' => r x H' Q) : tTr r ta σ H Q := h
/-- // by any divisor but 0, below 2 ^ 9000 -/
def CDivZ (_ j : Int) : Prop := j ≠ 0 ∧ j.natAbs < 2 ^ 9000
theorem op_fdivZ : OpR X (binaryOp .FloorDiv) (rI CDivZ fun i j => .int (i.fdiv j)) := L2.opI fun i j _ _ _ _ _ hc q => by
  have h1 : j ≠ 0 := hc.1
  have h2 := PySem.Flt.log2_lt_of (by decide) hc.2
  exact floordiv_int h1 q (.inl (PyProof.noPylong_of_log2 h2))
theorem hu_of64 {A : Around} {k : Nat} (hr : Room k A) : A.units + 64 < cLine := hr.units
def tAMono (t : TA) : TA := fun σ H Q => ∃ Q0 : List V → Hp → Prop, t σ H Q0 ∧ ∀ vs H1, Q0 vs H1 → Q vs H1
theorem pa_mono {es : List Expr} {t : TA} (h : PA X es t) : PA X es (tAMono t) := by
  refine ⟨fun pos pins s σ H Q I q => ?_⟩
  obtain ⟨Q0, q0, w⟩ := q
  exact thn (h.run pos pins s σ H Q0 I q0) fun us s1 ⟨xs, H1, I1, r1, q1⟩ => ⟨xs, H1, I1, r1, w xs H1 q1⟩
def spEx (C : Addr) (fn : Str) : Sp := fun vs H Q _ => ∃ a v, vs = [.ref a, v] ∧ H a = some (exo a C none) ∧ ∀ dx, H dx = none → dx ≠ a → Q .non (upd (upd H dx (exd dx [(fn, v)])) a (exo a C (some dx)))
structure Cox (P : Program) (w : World) (K : PySem.W.Frag) (mg : Str → Option Value) (base : Heap) (k : Nat) (x : Str) (C : Addr) (fn : Str) : Prop where
  ox : OexC K C
  hm : mg x = some (.ref C)
  ex : ∃ (f : Addr) (fd : FuncData) (ps : List Str), PySem.W.findIn K (.ref C) "__init__" = some (some (.ref f)) ∧ PySem.W.typeIn K (.ref f) = some (.type "function") ∧ FnOk P w K mg base (L2.CX P w) k f fd ps (spEx C fn) ∧ Binds K fd ps []
def tRz (C : Addr) (fn : Str) (W : WX) (ta : TA) : TS := fun _ σ H => ta σ H fun vs H1 => ∃ v, vs = [v] ∧ ∀ d, H1 d = none → W (.ref C) (some d) σ (upd H1 d (.xd [(fn, v)]))
theorem ps_rz {x fn : Str} {W : WX} {e : Expr} {ta : TA} {p pos pos' : Pos} (c : Cox X.prog X.w X.K X.mg X.base k x C fn) (hr : Room j X.A) (hk : k + 1 ≤ j) (tk : Takes X W) (hg : Gl X x) (ha : PA X (e :: []) ta) (hc : X.calm = true := by rfl) (hdb : (x == ("__debug__" : Str)) = false := by decide)
    (he : starEach (e :: []) X.env = (false, eval e X.env) :: starEach [] X.env := by rfl) (hpl : (backTo pos (starEach [] X.env)).any (·.1) = false := by rfl) :
    PS X (.Raise (some (.Call (.Name x p) (e :: []) [] pos)) none pos') (tRz C fn W ta) := by
  obtain ⟨f, fd, ps, iC, tI, F, hb⟩ := c.ex
  have q := ps_raise (pos := pos') hc tk (pmk_oex (p := p) (pos := pos) c.ox iC tI F (hr.mono hk) hb .nil passL hg c.hm (pa_mono ha) hdb he hpl)
  refine ⟨fun pins s σ H D I h => q.run pins s σ H D I ?_⟩
  show tMkO C (spEx C fn) [] (tAMono ta) σ H fun cls d H' => W cls d σ H'
  unfold tMkO tAMono
  have key : ∀ (vs : List V) (H1 : Hp), (∃ v, vs = [v] ∧ ∀ d, H1 d = none → W (.ref C) (some d) σ (upd H1 d (.xd [(fn, v)]))) → (vs.length ≤ 1000 ∧ ∀ a, H1 a = none → spEx C fn (.ref a :: (vs ++ [])) (upd H1 a (exo a C none))
      (fun v H2 => v = .non ∧ ∃ (d : Addr) (fs : List (Str × V)), H2 a = some (exo a C (some d)) ∧ H2 d = some (exd d fs) ∧ H1 d = none ∧ W (.ref C) (some d) σ (upd (del H2 a) d (.xd fs))) (fun _ _ _ => False)) := by
    rintro vs H1 ⟨v, rfl, w⟩
    refine ⟨by show 1 ≤ 1000; decide, fun a ha => ⟨a, v, rfl, upd_same, fun dx hdx hne => ⟨rfl, dx, [(fn, v)], upd_same, ?_, ?_, ?_⟩⟩⟩
    · rw [upd_ne hne, upd_same]
    · rw [upd_ne hne] at hdx; exact hdx
    · have hd1 : H1 dx = none := by rw [upd_ne hne] at hdx; exact hdx
      have e : upd (del (upd (upd (upd H1 a (exo a C none)) dx (exd dx [(fn, v)])) a (exo a C (some dx))) a) dx (.xd [(fn, v)]) = upd H1 dx (.xd [(fn, v)]) := by
        funext b
        by_cases hb : b = dx
        · subst hb; rw [upd_same, upd_same]
        · rw [upd_ne hb, upd_ne hb]
          by_cases hba : b = a
          · subst hba; rw [del_same, ha]
          · rw [del_ne hba, upd_ne hba, upd_ne hb, upd_ne hba]
      rw [e]
      exact w dx hd1
  exact ⟨_, h, key⟩
theorem r_rz {fn : Str} {W : WX} {ta : TA} {D : Ends} {σ : L2.St} {H : Hp} (h : ta σ H fun vs H1 => ∃ v, vs = [v] ∧ ∀ d, H1 d = none → W (.ref C) (some d) σ (upd H1 d (.xd [(fn, v)]))) : tRz C fn W ta D σ H := h
end
end
section
open PySem PySem.Spec PyProof.Rows L2
/-- below 4000 bits -/
def Bt (i : Int) : Prop := i.natAbs < 2 ^ 4000
def Sz (n : Nat) (q : Rat) : Prop := q.num.natAbs < 2 ^ n ∧ q.den < 2 ^ n
def Bq (q : Rat) : Prop := Bt q.num ∧ Bt (q.den : Int)
theorem pow_mono {a b n : Nat} (h : a < 2 ^ n) (hb : n ≤ b) : a < 2 ^ b := Nat.lt_of_lt_of_le h (Nat.pow_le_pow_right (by decide) hb)
theorem bt_of {i : Int} {n : Nat} (h : i.natAbs < 2 ^ n) (hn : n ≤ 4000) : Bt i := pow_mono h hn
theorem Sz.bq {n : Nat} {q : Rat} (h : Sz n q) (hn : n ≤ 4000) : Bq q := ⟨pow_mono h.1 hn, by show ((q.den : Int)).natAbs < _; rw [Int.natAbs_natCast]; exact pow_mono h.2 hn⟩
theorem Sz.mono {n m : Nat} {q : Rat} (h : Sz n q) (hn : n ≤ m) : Sz m q := ⟨pow_mono h.1 hn, pow_mono h.2 hn⟩
theorem pow_mul_lt {a b n m : Nat} (ha : a < 2 ^ n) (hb : b < 2 ^ m) : a * b < 2 ^ (n + m) := by
  rw [Nat.pow_add]; exact Nat.mul_lt_mul'' ha hb
theorem lt_mul {i j : Int} {n m : Nat} (hi : i.natAbs < 2 ^ n) (hj : j.natAbs < 2 ^ m) : (i * j).natAbs < 2 ^ (n + m) := by
  rw [Int.natAbs_mul]; exact pow_mul_lt hi hj
theorem lt_add {i j : Int} {n m k : Nat} (hi : i.natAbs < 2 ^ n) (hj : j.natAbs < 2 ^ m) (h1 : n < k) (h2 : m < k) : (i + j).natAbs < 2 ^ k := by
  have a := pow_mono hi (show n ≤ k - 1 by omega)
  have b := pow_mono hj (show m ≤ k - 1 by omega)
  have e : 2 ^ k = 2 ^ (k - 1) + 2 ^ (k - 1) := by
    obtain ⟨r, rfl⟩ : ∃ r, k = r + 1 := ⟨k - 1, by omega⟩
    rw [Nat.add_sub_cancel, Nat.pow_succ]; omega
  omega
theorem lt_sub {i j : Int} {n m k : Nat} (hi : i.natAbs < 2 ^ n) (hj : j.natAbs < 2 ^ m) (h1 : n < k) (h2 : m < k) : (i - j).natAbs < 2 ^ k := by
  rw [Int.sub_eq_add_neg]; exact lt_add hi (by rw [Int.natAbs_neg]; exact hj) h1 h2
theorem natAbs_div_le (a : Int) (b : Nat) : (a / (b : Int)).natAbs ≤ a.natAbs := by
  exact Int.natAbs_ediv_le_natAbs a b
theorem Sz.divInt {a b : Int} {n : Nat} (ha : a.natAbs < 2 ^ n) (hb : b.natAbs < 2 ^ n) (h0 : 0 < n) : Sz n (Rat.divInt a b) := by
  constructor
  · rw [Rat.num_divInt]
    refine Nat.lt_of_le_of_lt (natAbs_div_le _ _) ?_
    rw [Int.natAbs_mul]
    refine Nat.lt_of_le_of_lt (Nat.mul_le_mul_right _ (show b.sign.natAbs ≤ 1 from ?_)) (by rw [Nat.one_mul]; exact ha)
    rw [Int.natAbs_sign]; split <;> omega
  · rw [Rat.den_divInt]
    split
    · exact Nat.one_lt_two_pow (by omega)
    · exact Nat.lt_of_le_of_lt (Nat.div_le_self _ _) hb
theorem den_ne (q : Rat) : (q.den : Int) ≠ 0 := by have := q.den_nz; omega
theorem den_pos (q : Rat) : 0 < (q.den : Int) := by have := den_ne q; omega
theorem Sz.add {n m k : Nat} {q r : Rat} (h : Sz n q) (g : Sz m r) (hk : n + m < k) : Sz k (q + r) := by
  rw [← Rat.num_divInt_den q, ← Rat.num_divInt_den r, Rat.divInt_add_divInt _ _ (den_ne q) (den_ne r)]
  refine Sz.divInt (lt_add (n := n + m) (m := m + n) (lt_mul h.1 ?_) (lt_mul g.1 ?_) hk (by omega)) (pow_mono (lt_mul (n := n) (m := m) ?_ ?_) (by omega)) (by omega)
  all_goals first | exact g.2 | exact h.2
theorem Sz.mul {n m : Nat} {q r : Rat} (h : Sz n q) (g : Sz m r) (hk : 0 < n + m) : Sz (n + m) (q * r) := by
  rw [← Rat.num_divInt_den q, ← Rat.num_divInt_den r, Rat.divInt_mul_divInt]
  refine Sz.divInt (lt_mul h.1 g.1) (lt_mul ?_ ?_) hk
  all_goals first | exact g.2 | exact h.2
theorem Sz.neg {n : Nat} {q : Rat} (h : Sz n q) : Sz n (-q) := ⟨by show (-q.num).natAbs < _; rw [Int.natAbs_neg]; exact h.1, h.2⟩
theorem Sz.int {n : Nat} {i : Int} (h : i.natAbs < 2 ^ n) (h0 : 0 < n) : Sz n (i : Rat) := ⟨h, by show 1 < 2 ^ n; exact Nat.one_lt_two_pow (by omega)⟩
/-- what Ratio's __init__ writes -/
theorem made_num {a b : Int} (hb : b ≠ 0) : a.fdiv (if b < 0 then -(Int.gcd a b : Int) else (Int.gcd a b : Int)) = (Rat.divInt a b).num := by
  rw [Rat.num_divInt]
  have hg : (Int.gcd a b : Int) ∣ a := Int.gcd_dvd_left ..
  have e : Int.gcd b a = Int.gcd a b := Int.gcd_comm ..
  rw [e]
  obtain ⟨c, hc⟩ := hg
  have hg0 : (Int.gcd a b : Int) ≠ 0 := by
    have := Int.gcd_ne_zero_right (a := a) hb; omega
  split
  · rename_i h
    rw [Int.sign_eq_neg_one_of_neg h, Int.fdiv_eq_ediv_of_dvd (by rw [Int.neg_dvd]; exact ⟨c, hc⟩), Int.ediv_neg, Int.neg_one_mul, Int.neg_ediv_of_dvd ⟨c, hc⟩]
  · rename_i h
    have : 0 < b := by omega
    rw [Int.sign_eq_one_of_pos this, Int.fdiv_eq_ediv_of_dvd ⟨c, hc⟩, Int.one_mul]
theorem made_den {a b : Int} (hb : b ≠ 0) : b.fdiv (if b < 0 then -(Int.gcd a b : Int) else (Int.gcd a b : Int)) = ((Rat.divInt a b).den : Int) := by
  rw [Rat.den_divInt, if_neg hb]
  have e : Int.gcd b a = Int.gcd a b := Int.gcd_comm ..
  rw [e]
  have hg : (Int.gcd a b : Int) ∣ b := Int.gcd_dvd_right ..
  rw [Int.natCast_ediv]
  split
  · rename_i h
    rw [Int.fdiv_eq_ediv_of_dvd (by rw [Int.neg_dvd]; exact hg), Int.ediv_neg, Int.ofNat_natAbs_of_nonpos (by omega), Int.neg_ediv_of_dvd hg]
  · rename_i h
    rw [Int.fdiv_eq_ediv_of_dvd hg, Int.natAbs_of_nonneg (by omega)]
theorem gcd_le {a b : Int} (hb : b ≠ 0) : Int.gcd a b ≤ b.natAbs := Nat.le_of_dvd (by omega) (Int.gcd_dvd_natAbs_right a b)
theorem divInt_one (n : Int) : Rat.divInt n 1 = (n : Rat) := by
  apply Rat.ext <;> simp [Rat.num_divInt, Rat.den_divInt]
theorem rat_add (q r : Rat) : Rat.divInt (q.num * r.den + r.num * q.den) (q.den * r.den) = q + r := by
  conv => rhs; rw [← Rat.num_divInt_den q, ← Rat.num_divInt_den r, Rat.divInt_add_divInt _ _ (den_ne q) (den_ne r)]
theorem rat_mul (q r : Rat) : Rat.divInt (q.num * r.num) (q.den * r.den) = q * r := by
  conv => rhs; rw [← Rat.num_divInt_den q, ← Rat.num_divInt_den r, Rat.divInt_mul_divInt]
theorem rat_neg (q : Rat) : Rat.divInt (-q.num) q.den = -q := by
  conv => rhs; rw [← Rat.num_divInt_den q, Rat.neg_divInt]
theorem eq_iff (q r : Rat) : (q.num = r.num ∧ (q.den : Int) = r.den) ↔ q = r := ⟨fun h => Rat.ext h.1 (by omega), fun h => by subst h; exact ⟨rfl, rfl⟩⟩
theorem den_one {q : Rat} (h : (q.den : Int) = 1) : q = (q.num : Rat) := Rat.ext rfl (by show q.den = 1; omega)
/-- floor(q / r) -/
theorem rat_fdiv (q r : Rat) (hr : r ≠ 0) : (q.num * r.den).fdiv (q.den * r.num) = (q / r).floor := by
  have hn : r.num ≠ 0 := fun h => hr (Rat.num_eq_zero.mp h)
  have e : q / r = Rat.divInt (q.num * r.den) (q.den * r.num) := by
    conv => lhs; rw [← Rat.num_divInt_den q, ← Rat.num_divInt_den r, Rat.div_def, Rat.inv_divInt, Rat.divInt_mul_divInt]
  have hd : q.den * r.num ≠ 0 := Int.mul_ne_zero (den_ne q) hn
  rw [e, Rat.floor_def, ← made_num hd, ← made_den hd]
  generalize q.num * r.den = a at *
  generalize (q.den : Int) * r.num = b at *
  have hga : (Int.gcd a b : Int) ∣ a := Int.gcd_dvd_left ..
  have hgb : (Int.gcd a b : Int) ∣ b := Int.gcd_dvd_right ..
  have hg0 : (Int.gcd a b : Int) ≠ 0 := by
    have := Int.gcd_ne_zero_right (a := a) hd; omega
  generalize hG : (if b < 0 then -(Int.gcd a b : Int) else (Int.gcd a b : Int)) = G
  have hG0 : G ≠ 0 := by subst hG; split <;> omega
  have hGa : G ∣ a := by subst hG; split; exact (Int.neg_dvd).mpr hga; exact hga
  have hGb : G ∣ b := by subst hG; split; exact (Int.neg_dvd).mpr hgb; exact hgb
  have hp : 0 ≤ b.fdiv G := by
    have := made_den (a := a) hd
    rw [hG] at this; rw [this]; omega
  rw [← Int.fdiv_eq_ediv_of_nonneg _ hp]
  obtain ⟨c, rfl⟩ := hGa
  obtain ⟨d, rfl⟩ := hGb
  rw [Int.mul_fdiv_cancel_left _ hG0] at hp
  rw [Int.mul_fdiv_cancel_left _ hG0, Int.mul_fdiv_cancel_left _ hG0]
  rcases Int.lt_or_gt_of_ne hG0 with g | g
  · rw [← Int.neg_fdiv_neg (G * c), ← Int.neg_mul, ← Int.neg_mul, Int.fdiv_eq_ediv_of_nonneg _ hp, Int.fdiv_eq_ediv_of_nonneg _ (Int.mul_nonneg (by omega) hp), Int.mul_ediv_mul_of_pos _ _ (by omega)]
  · rw [Int.fdiv_eq_ediv_of_nonneg _ hp, Int.fdiv_eq_ediv_of_nonneg _ (Int.mul_nonneg (by omega) hp), Int.mul_ediv_mul_of_pos _ _ g]
theorem dec_eq_i {q : Rat} {n : Int} (h : (q.den : Int) = 1) : decide (q = (n : Rat)) = decide (q.num = n) := by
  rw [decide_eq_decide]
  constructor
  · intro z; rw [z]; rfl
  · intro z; rw [den_one h, z]
theorem dec_eq_i' {q : Rat} {n : Int} (h : ¬ (q.den : Int) = 1) : decide (q = (n : Rat)) = false := by
  rw [decide_eq_false_iff_not]; intro z; rw [z] at h; exact h rfl
theorem dec_eq_r {q r : Rat} (h : q.num = r.num) : decide (q = r) = decide ((q.den : Int) = r.den) := by
  rw [decide_eq_decide, ← eq_iff]; exact ⟨fun z => z.2, fun z => ⟨h, z⟩⟩
theorem dec_eq_r' {q r : Rat} (h : ¬ q.num = r.num) : decide (q = r) = false := by
  rw [decide_eq_false_iff_not]; intro z; exact h (by rw [z])
theorem dec_lt {q r : Rat} : decide (q < r) = decide (q.num * r.den < r.num * q.den) := by rw [decide_eq_decide, Rat.lt_iff]
theorem dec_le {q r : Rat} : decide (q ≤ r) = decide (q.num * r.den ≤ r.num * q.den) := by rw [decide_eq_decide, Rat.le_iff]
theorem dec_gt {q r : Rat} : decide (r < q) = decide (r.num * q.den < q.num * r.den) := dec_lt
theorem dec_ge {q r : Rat} : decide (r ≤ q) = decide (r.num * q.den ≤ q.num * r.den) := dec_le
end
section
open PySem PySem.Spec PyProof.Rows L2
/-- what the written part says of a plain own class, with what isinstance asks -/
structure ClsP (K : PySem.W.Frag) (C : Addr) : Prop where
  o : ClsO K C
  nb : PySem.W.subIn K (.ref C) (.type "bool") = some false
  ci : (PySem.W.clsIn K C).isSome = true
  ct : PySem.W.typeIn K (.ref C) = some (.type "type")
section
variable {K : PySem.W.Frag} {C D : Addr} {b : Bool} {t : Value}
theorem kit_self : PySem.W.kitOne K t t = some true := by
  unfold PySem.W.kitOne; rw [if_pos (by exact beq_self_eq_true t)]
theorem kit_own (k : ClsP K C) (h : PySem.W.subIn K t (.ref C) = some b) (hne : (t == Value.ref C) = false) : PySem.W.kitOne K t (.ref C) = some b := by
  unfold PySem.W.kitOne; rw [if_neg (by rw [hne]; simp)]
  show (if ((PySem.W.clsIn K C).isSome && PySem.W.typeIn K (.ref C) == some (.type "type")) = true then _ else _) = _
  rw [k.ci, k.ct, if_pos (by simp)]; exact h
theorem kit_ni (k : ClsP K C) : PySem.W.kitOne K (.ref C) (.type "int") = some false := by
  unfold PySem.W.kitOne; rw [if_neg (by intro z; cases beq_iff_eq.mp z)]
  show (if PySem.W.kitMeta "int" = true then PySem.W.subIn K (.ref C) (.type "int") else none) = _
  rw [if_pos (by decide +kernel)]; exact k.o.ni
theorem kit_nb (k : ClsP K C) : PySem.W.kitOne K (.ref C) (.type "bool") = some false := by
  unfold PySem.W.kitOne; rw [if_neg (by intro z; cases beq_iff_eq.mp z)]
  show (if PySem.W.kitMeta "bool" = true then PySem.W.subIn K (.ref C) (.type "bool") else none) = _
  rw [if_pos (by decide +kernel)]; exact k.nb
theorem kit_int (k : ClsP K C) : PySem.W.kitOne K (.type "int") (.ref C) = some false := kit_own k sub_int (Bool.eq_false_iff.mpr fun z => by cases beq_iff_eq.mp z)
theorem kit_str (k : ClsP K C) : PySem.W.kitOne K (.type "str") (.ref C) = some false := kit_own k sub_str (Bool.eq_false_iff.mpr fun z => by cases beq_iff_eq.mp z)
theorem kit_bool (k : ClsP K C) : PySem.W.kitOne K (.type "bool") (.ref C) = some false := kit_own k sub_bool (Bool.eq_false_iff.mpr fun z => by cases beq_iff_eq.mp z)
theorem kit_none (k : ClsP K C) : PySem.W.kitOne K (.type "NoneType") (.ref C) = some false := kit_own k sub_none (Bool.eq_false_iff.mpr fun z => by cases beq_iff_eq.mp z)
theorem kit_tup (k : ClsP K C) : PySem.W.kitOne K (.type "tuple") (.ref C) = some false := kit_own k sub_tuple (Bool.eq_false_iff.mpr fun z => by cases beq_iff_eq.mp z)
theorem kit_lst (k : ClsP K C) : PySem.W.kitOne K (.type "list") (.ref C) = some false := kit_own k sub_list (Bool.eq_false_iff.mpr fun z => by cases beq_iff_eq.mp z)
theorem ki_ii : PySem.W.kitOne K (.type "int") (.type "int") = some true := kit_ty (by decide +kernel)
theorem ki_ib : PySem.W.kitOne K (.type "int") (.type "bool") = some false := kit_ty (by decide +kernel)
theorem ki_bi : PySem.W.kitOne K (.type "bool") (.type "int") = some true := kit_ty (by decide +kernel)
theorem ki_bb : PySem.W.kitOne K (.type "bool") (.type "bool") = some true := kit_ty (by decide +kernel)
theorem ki_si : PySem.W.kitOne K (.type "str") (.type "int") = some false := kit_ty (by decide +kernel)
theorem ki_ni : PySem.W.kitOne K (.type "NoneType") (.type "int") = some false := kit_ty (by decide +kernel)
theorem ki_ti : PySem.W.kitOne K (.type "tuple") (.type "int") = some false := kit_ty (by decide +kernel)
theorem ki_li : PySem.W.kitOne K (.type "list") (.type "int") = some false := kit_ty (by decide +kernel)
theorem tyI {H : Hp} {n : Int} : TyX K H (.int n) (.type "int") := .base (.int n)
theorem tyB {H : Hp} {n : Bool} : TyX K H (.bl n) (.type "bool") := .base (.bl n)
theorem tyS {H : Hp} {n : Str} : TyX K H (.str n) (.type "str") := .base (.str n)
theorem tyN {H : Hp} : TyX K H .non (.type "NoneType") := .base .non
theorem tyT {H : Hp} {a : Addr} {xs : List V} (h : H a = some (.tup xs)) : TyX K H (.ref a) (.type "tuple") := .base (.tup h)
theorem tyL {H : Hp} {a : Addr} {xs : List V} (h : H a = some (.lst xs)) : TyX K H (.ref a) (.type "list") := .base (.lst h)
end
def CMulA (i j : Int) : Prop := CMul i j ∨ CMulW i j
section
variable {X : Cx}
theorem op_mulA : OpR X (binaryOp .Mult) (rI CMulA fun i j => .int (i * j)) := L2.opI fun _ _ _ _ _ _ _ hc q => mul_int q (hc.elim CMul.ok CMulW.ok)
variable {a b : Value} {r1 r2 : R2}
/-- two rules, of which one serves -/
theorem op_or {f : Value → Value → Sem Value} (h1 : OpR X f r1) (h2 : OpR X f r2) : OpR X f (fun x y H Q => r1 x y H Q ∨ r2 x y H Q) := by
  intro pins s σ H x y v u Q I rx ry h
  exact h.elim (h1 pins s σ H x y v u Q I rx ry) (h2 pins s σ H x y v u Q I rx ry)
theorem un_or {f : Value → Sem Value} {r1 r2 : V → Hp → VK → Prop} (h1 : UnR X f r1) (h2 : UnR X f r2) : UnR X f (fun x H Q => r1 x H Q ∨ r2 x H Q) := by
  intro pins s σ H x v Q I rx h
  exact h.elim (h1 pins s σ H x v Q I rx) (h2 pins s σ H x v Q I rx)
theorem tru_or {r1 r2 : V → Hp → (Bool → Hp → Prop) → Prop} (h1 : TruR X r1) (h2 : TruR X r2) : TruR X (fun x H Q => r1 x H Q ∨ r2 x H Q) := by
  intro pins s σ H x v Q I rx h
  exact h.elim (h1 pins s σ H x v Q I rx) (h2 pins s σ H x v Q I rx)
theorem call_or {f : Value} {r1 r2 : List V → Hp → VK → Prop} (h1 : CallR X f r1) (h2 : CallR X f r2) : CallR X f (fun x H Q => r1 x H Q ∨ r2 x H Q) := by
  intro pins s σ H xs us Q I r h
  exact h.elim (h1 pins s σ H xs us Q I r) (h2 pins s σ H xs us Q I r)
end
theorem cmA_bt {i j : Int} (hi : Bt i) (hj : Bt j) : CMulA i j := .inr (wide_mul hi hj (by decide) (by decide) (by decide))
theorem le64 {i : Int} (h : i.natAbs < 2 ^ 64) : -(2 ^ 64) < i ∧ i < 2 ^ 64 := by
  have e : (2 : Nat) ^ 64 = 18446744073709551616 := by decide
  have e' : (2 : Int) ^ 64 = 18446744073709551616 := by decide
  rw [e']; rw [e] at h; omega
theorem cmA_l {i j : Int} (h : i.natAbs < 2 ^ 64) : CMulA i j := .inl (.inl (le64 h))
theorem cmA_r {i j : Int} (h : j.natAbs < 2 ^ 64) : CMulA i j := .inl (.inr (le64 h))
theorem cmA_w {i j : Int} {n m : Nat} (hi : i.natAbs < 2 ^ n) (hj : j.natAbs < 2 ^ m) (h : n + m ≤ 999998) : CMulA i j :=
  .inr (wide_mul (a := n + 1) (b := m + 1) (pow_mono hi (Nat.le_succ n)) (pow_mono hj (Nat.le_succ m)) (Nat.succ_pos _) (Nat.succ_pos _) (by omega))
def fR (q : Rat) : List (Str × V) := [("top", .int q.num), ("bottom", .int (q.den : Int))]
def IsR (C : Addr) (H : Hp) (p : Addr) (q : Rat) : Prop := ∃ dx, H p = some (.ins C dx (fR q))
def NumV (C : Addr) (H : Hp) (v : V) (q : Rat) : Prop := (∃ n : Int, v = .int n ∧ q = (n : Rat)) ∨ ∃ p, v = .ref p ∧ IsR C H p q
/-- a value that is neither an int nor a Ratio -/
def Wrong (K : PySem.W.Frag) (C : Addr) (H : Hp) (v : V) : Prop := ∃ t, TyX K H v t ∧ PySem.W.kitOne K t (.ref C) = some false ∧ (PySem.W.kitOne K t (.type "int") = some false ∨ (PySem.W.kitOne K t (.type "int") = some true ∧ PySem.W.kitOne K t (.type "bool") = some true))
theorem IsR.le {C p : Addr} {H H' : Hp} {q : Rat} (l : Le H H') (h : IsR C H p q) : IsR C H' p q := by
  obtain ⟨dx, h⟩ := h
  exact ⟨dx, l _ _ h trivial⟩
theorem IsR.ex {C p : Addr} {H H' : Hp} {q : Rat} (l : Ex H H') (h : IsR C H p q) : IsR C H' p q := h.le l.le
theorem NumV.le {C : Addr} {v : V} {H H' : Hp} {q : Rat} (l : Le H H') (h : NumV C H v q) : NumV C H' v q := by
  rcases h with h | ⟨p, e, h⟩
  · exact .inl h
  · exact .inr ⟨p, e, h.le l⟩
theorem NumV.ex {C : Addr} {v : V} {H H' : Hp} {q : Rat} (l : Ex H H') (h : NumV C H v q) : NumV C H' v q := h.le l.le
structure RT (K : PySem.W.Frag) (mg : Str → Option Value) (C : Addr) : Prop where
  k : ClsP K C
  nT : NoAttr K C "top"
  nB : NoAttr K C "bottom"
  mgC : mg "Ratio" = some (.ref C)
theorem tb_ne : ¬ (("top" : Str) = "bottom") := by decide +kernel
theorem tb_ne' : ¬ (("bottom" : Str) = "top") := by decide +kernel
theorem lk_top {q : Rat} : (fR q).lookup ("top" : Str) = some (.int q.num) := by
  unfold fR; rw [List.lookup_cons]; simp
theorem lk_bot {q : Rat} : (fR q).lookup ("bottom" : Str) = some (.int (q.den : Int)) := by
  unfold fR
  rw [List.lookup_cons, show (("bottom" : Str) == "top") = false from by decide +kernel]
  show ([(("bottom" : Str), V.int (q.den : Int))]).lookup ("bottom" : Str) = _
  rw [List.lookup_cons]; simp
theorem lk_no {q : Rat} {m : Str} (h1 : (m == ("top" : Str)) = false) (h2 : (m == ("bottom" : Str)) = false) : (fR q).lookup m = none := by
  unfold fR
  rw [List.lookup_cons, h1]
  show ([(("bottom" : Str), V.int (q.den : Int))]).lookup m = _
  rw [List.lookup_cons, h2]; rfl
theorem fR_made {a b : Int} : putF "bottom" (.int b) (putF "top" (.int a) []) = [(("top" : Str), V.int a), (("bottom" : Str), V.int b)] := by
  show (if ("top" : Str) = "bottom" then _ else (("top" : Str), V.int a) :: putF "bottom" (V.int b) []) = _
  rw [if_neg tb_ne]; rfl
section
variable {K : PySem.W.Frag} {mg : Str → Option Value} {C a : Addr} {H : Hp} {Q : VK} {q : Rat} {E : XK} {σ : L2.St} {ta : TE} {f : Str} {v : V} {D : Ends}
/-- the field f of the instance x -/
def FldAt (K : PySem.W.Frag) (f : Str) (x : V) (H : Hp) (Q : VK) : Prop := ∃ a C dx fs v, x = .ref a ∧ H a = some (.ins C dx fs) ∧ Cls K C ∧ NoAttr K C f ∧ fs.lookup f = some v ∧ Q v H
theorem r_fld (k : ta σ H fun x H1 => FldAt K f x H1 Q) : tFld K ta f σ H Q := k
theorem r_top {K' : PySem.W.Frag} (T : RT K mg C) (e : K' = K) (h : IsR C H a q) (k : Q (.int q.num) H) : FldAt K' "top" (.ref a) H Q := by
  subst e
  obtain ⟨dx, h⟩ := h
  exact ⟨a, C, dx, _, _, rfl, h, T.k.o.cl, T.nT, lk_top, k⟩
theorem r_bot {K' : PySem.W.Frag} (T : RT K mg C) (e : K' = K) (h : IsR C H a q) (k : Q (.int (q.den : Int)) H) : FldAt K' "bottom" (.ref a) H Q := by
  subst e
  obtain ⟨dx, h⟩ := h
  exact ⟨a, C, dx, _, _, rfl, h, T.k.o.cl, T.nB, lk_bot, k⟩
/-- the store of a field -/
def PutAt (K : PySem.W.Frag) (f : Str) (x v : V) (H : Hp) (N : Hp → Prop) : Prop := ∃ a C dx fs, x = .ref a ∧ H a = some (.ins C dx fs) ∧ Cls K C ∧ NoAttr K C f ∧ fs.length < 1000 ∧ N (upd H a (.ins C dx (putF f v fs)))
theorem IsR.tyx (T : RT K mg C) (h : IsR C H a q) : TyX K H (.ref a) (.ref C) := by
  obtain ⟨dx, h⟩ := h
  exact T.k.o.ty h
def spIsInt (K : PySem.W.Frag) : Sp := fun vs H Q _ => ∃ v t r s, vs = [v] ∧ TyX K H v t ∧ PySem.W.kitOne K t (.type "int") = some r ∧ (r = true → PySem.W.kitOne K t (.type "bool") = some s) ∧ Q (.bl (r && !s)) H
theorem q_isInt_i {n : Int} (k : Q (.bl true) H) : spIsInt K [.int n] H Q E := ⟨_, _, true, false, rfl, tyI, ki_ii, fun _ => ki_ib, k⟩
theorem q_isInt_r (T : RT K mg C) (h : IsR C H a q) (k : Q (.bl false) H) : spIsInt K [.ref a] H Q E := ⟨_, _, false, false, rfl, h.tyx T, kit_ni T.k, (fun z => nomatch z), k⟩
theorem q_isInt_w (h : Wrong K C H v) (k : Q (.bl false) H) : spIsInt K [v] H Q E := by
  obtain ⟨t, ht, _, h | ⟨h1, h2⟩⟩ := h
  · exact ⟨v, t, false, false, rfl, ht, h, (fun z => nomatch z), k⟩
  · exact ⟨v, t, true, true, rfl, ht, h1, (fun _ => h2), k⟩
def spIsNum (K : PySem.W.Frag) (C : Addr) : Sp := fun vs H Q _ => ∃ v, vs = [v] ∧ (((∃ q, NumV C H v q) ∧ Q (.bl true) H) ∨ (Wrong K C H v ∧ Q (.bl false) H))
theorem q_isNum (h : NumV C H v q) (k : Q (.bl true) H) : spIsNum K C [v] H Q E := ⟨v, rfl, .inl ⟨⟨q, h⟩, k⟩⟩
/-- raises the own error CX with the value v -/
def Rz (E : XK) (CX : Addr) (fn : Str) (v : V) (H : Hp) : Prop := ∀ d H', Ex H H' → H' d = some (.xd [(fn, v)]) → H d = none → E (.ref CX) (some d) H'
theorem Rz.at {CX : Addr} {fn : Str} {v : V} (h : Rz E CX fn v H) : ∃ v', [v] = [v'] ∧ ∀ d, H d = none → E (.ref CX) (some d) (upd H d (.xd [(fn, v')])) := ⟨v, rfl, fun d hd => h d _ (Ex.new hd) upd_same hd⟩
theorem Rz.ex {CX : Addr} {fn : Str} {v : V} {H' : Hp} (h : Rz E CX fn v H) (e : Ex H H') : Rz E CX fn v H' := fun d H2 e2 hd hn => h d H2 (e.trans e2) hd (by
  cases z : H d with
  | none => rfl
  | some o => have := e d o z; rw [hn] at this; cases this)
def spRatioOf (K : PySem.W.Frag) (C CB : Addr) : Sp := fun vs H Q E => ∃ v, vs = [v] ∧ ((∃ q, NumV C H v q ∧ Bq q ∧ ∀ H' p, Ex H H' → IsR C H' p q → Q (.ref p) H') ∨ (Wrong K C H v ∧ Rz E CB "value" v H))
/-- __init__ -/
def spRInit (K : PySem.W.Frag) (C CB : Addr) : Sp := fun vs H Q E => ∃ p dx x y, vs = [.ref p, x, y] ∧ H p = some (.ins C dx []) ∧
  ((∃ a b : Int, x = .int a ∧ y = .int b ∧ b ≠ 0 ∧ b.natAbs < 2 ^ 9000 ∧ ∀ H', (∀ c o, H c = some o → c ≠ p → H' c = some o) → IsR C H' p (Rat.divInt a b) → Q .non H') ∨
   (Wrong K C H x ∧ Rz E CB "value" x H) ∨ (∃ a : Int, x = .int a ∧ Wrong K C H y ∧ Rz E CB "value" y H) ∨ (∃ a : Int, x = .int a ∧ y = .int 0 ∧ Rz E CB "value" (.int 0) H))
/-- a new Ratio, whatever it was made of -/
def NewR (C : Addr) (Q : VK) (H : Hp) (q : Rat) : Prop := ∀ H' p, Ex H H' → IsR C H' p q → Q (.ref p) H'
/-- the reading of C(..): the instance is new, __init__ keeps sp -/
def MkAt (C : Addr) (sp : Sp) (dvs : List V) (E : XK) (vs : List V) (H : Hp) (Q : VK) : Prop := ∀ x dx, H x = none → H dx = none → dx ≠ x → sp (.ref x :: (vs ++ dvs)) (upd (upd H dx (.own x)) x (.ins C dx [])) (fun v H2 => v = .non ∧ Q (.ref x) H2) E
/-- the reading of Ratio(a, b) -/
theorem q_mk {CB : Addr} {a b : Int} {dvs vs : List V} (e : vs ++ dvs = [.int a, .int b]) (hb : b ≠ 0) (h9 : b.natAbs < 2 ^ 9000) (k : NewR C Q H (Rat.divInt a b)) : MkAt C (spRInit K C CB) dvs E vs H Q := by
  intro x dx hx hdx hne
  rw [e]
  refine ⟨x, dx, _, _, rfl, upd_same, .inl ⟨a, b, rfl, rfl, hb, h9, fun H' st h => ⟨rfl, k H' x (fun c o hc => ?_) h⟩⟩⟩
  exact st c o (by rw [upd_ne (ne_of_none hc hx), upd_ne (ne_of_none hc hdx)]; exact hc) (ne_of_none hc hx)
/-- a method of one argument: a number of either kind -/
def spR1 (C : Addr) (g : Rat → Rat → Rat) (ok : Rat → Rat → Prop) : Sp := fun vs H Q _ => ∃ a v q r, vs = [.ref a, v] ∧ IsR C H a q ∧ NumV C H v r ∧ Bq q ∧ Bq r ∧ ok q r ∧ NewR C Q H (g q r)
/-- .. an int alone -/
def spRI (C : Addr) (g : Rat → Rat → Rat) (ok : Rat → Rat → Prop) : Sp := fun vs H Q _ => ∃ a q n, vs = [.ref a, .int n] ∧ IsR C H a q ∧ Bq q ∧ Bt n ∧ ok q (n : Rat) ∧ NewR C Q H (g q (n : Rat))
/-- a value, whatever was made on the way -/
def NewV (Q : VK) (H : Hp) (v : V) : Prop := ∀ H', Ex H H' → Q v H'
/-- a comparison -/
def spRB (C : Addr) (g : Rat → Rat → Bool) : Sp := fun vs H Q _ => ∃ a v q r, vs = [.ref a, v] ∧ IsR C H a q ∧ NumV C H v r ∧ Bq q ∧ Bq r ∧ NewV Q H (.bl (g q r))
/-- without an argument -/
def spR0 (C : Addr) (g : Rat → Rat) : Sp := fun vs H Q _ => ∃ a q, vs = [.ref a] ∧ IsR C H a q ∧ Bq q ∧ NewR C Q H (g q)
def spRV (C : Addr) (g : Rat → V) : Sp := fun vs H Q _ => ∃ a q, vs = [.ref a] ∧ IsR C H a q ∧ Bq q ∧ Q (g q) H
end
section
variable {X : Cx} {pos : Pos}
/-- a name that is not reached -/
theorem pe_ni {e : Expr} : PE X e (fun _ _ _ => False) := ⟨fun _ _ _ _ _ _ h => h.elim⟩
end
end
section
open PySem PySem.Spec PyProof.Rows L2
theorem st_set {σ : L2.St} {i : Nat} {v : Option V} {τ : L2.St} {QS : L2.St → Hp → Prop} {H : Hp} (e : σ.set i v = τ) (h : QS τ H) : QS (σ.set i v) H := by rw [e]; exact h
theorem r_blP {b : Bool} {R : Bool → Prop} (k : R b) : ∃ b', V.bl b = .bl b' ∧ R b' := ⟨b, rfl, k⟩
theorem Bq.n {q : Rat} (h : Bq q) : Bt q.num := h.1
theorem Bq.d {q : Rat} (h : Bq q) : Bt (q.den : Int) := h.2
theorem bt_abs {i : Int} (h : Bt i) : Bt (i.natAbs : Int) := by unfold Bt; rw [Int.natAbs_natCast]; exact h
theorem bt_neg {i : Int} (h : Bt i) : Bt (-i) := by unfold Bt; rw [Int.natAbs_neg]; exact h
theorem bt_mul9 {i j : Int} (hi : Bt i) (hj : Bt j) : (i * j).natAbs < 2 ^ 9000 := pow_mono (lt_mul hi hj) (by decide)
theorem bt_9 {i : Int} (hi : Bt i) : i.natAbs < 2 ^ 9000 := pow_mono hi (by decide)
section
variable {K : PySem.W.Frag} {mg : Str → Option Value} {C a p CB : Addr} {H : Hp} {Q : VK} {q r : Rat} {E : XK} {σ : L2.St} {t : TA} {ta : TE} {sp : Sp} {dvs : List V} {f m : Str} {v : V} {D : Ends} {k : Nat} {ok : Rat → Rat → Prop} {g : Rat → Rat → Rat}
theorem r_ck (h : t σ H fun vs H1 => MkAt C sp dvs E vs H1 Q) : tK1 C sp dvs E t σ H Q := h
theorem r_cm (h : ta σ H fun x H1 => ∃ a dx fs, x = .ref a ∧ H1 a = some (.ins C dx fs) ∧ fs.lookup m = none ∧ t σ H1 fun vs H2 => sp (.ref a :: vs) H2 Q E) : tM1 C m sp E ta t σ H Q := h
theorem q_ratioOf (h : NumV C H v q) (b : Bq q) (k : NewR C Q H q) : spRatioOf K C CB [v] H Q E := ⟨v, rfl, .inl ⟨q, h, b, k⟩⟩
theorem q_ratioOfW (h : Wrong K C H v) (k : Rz E CB "value" v H) : spRatioOf K C CB [v] H Q E := ⟨v, rfl, .inr ⟨h, k⟩⟩
theorem q_isNumW (h : Wrong K C H v) (k : Q (.bl false) H) : spIsNum K C [v] H Q E := ⟨v, rfl, .inr ⟨h, k⟩⟩
theorem NewR.ex {H' : Hp} (k : NewR C Q H q) (e : Ex H H') : NewR C Q H' q := fun H2 p e2 h => k H2 p (e.trans e2) h
theorem NewV.ex {H' : Hp} (k : NewV Q H v) (e : Ex H H') : NewV Q H' v := fun H2 e2 => k H2 (e.trans e2)
theorem NewV.here (k : NewV Q H v) : Q v H := k H (Ex.refl H)
theorem num_i {n : Int} : NumV C H (.int n) (n : Rat) := .inl ⟨n, rfl, rfl⟩
theorem num_r (h : IsR C H p q) : NumV C H (.ref p) q := .inr ⟨p, rfl, h⟩
theorem bq_i {n : Int} (h : Bt n) : Bq (n : Rat) := ⟨h, by show (1 : Int).natAbs < _; exact Nat.one_lt_two_pow (by decide)⟩
/-- an operator's reading, x a Ratio -/
theorem o_O {y : V} {ok : V → Hp → Prop} (h : IsR C H a q) (ho : ok y H) (k : sp [.ref a, y] H Q E) : rO C sp E ok (.ref a) y H Q := by
  obtain ⟨dx, h⟩ := h; exact ⟨a, dx, _, rfl, h, ho, k⟩
theorem o_ins (h : IsR C H p q) : isIns C (.ref p) H := by
  obtain ⟨dx, h⟩ := h; exact ⟨p, dx, _, rfl, h⟩
theorem o_int {n : Int} : isInt (.int n) H := ⟨n, rfl⟩
theorem o_any {t : Value} {y : V} (h : TyX K H y t) (n : PySem.W.notFirst K C t = true) : isAny K C y H := ⟨t, h, n⟩
theorem o_anyR (T : RT K mg C) (h : IsR C H p q) : isAny K C (.ref p) H := ⟨_, h.tyx T, nf_self⟩
theorem o_anyI {n : Int} : isAny K C (.int n) H := ⟨_, tyI, nf_of sub_int⟩
theorem o_Or {n : Int} (h : IsR C H a q) (k : sp [.ref a, .int n] H Q E) : rOr C sp E (.int n) (.ref a) H Q := by
  obtain ⟨dx, h⟩ := h; exact ⟨a, dx, _, n, rfl, rfl, h, k⟩
theorem o_NO {y : V} {ok : V → Hp → Prop} (h : IsR C H a q) (ho : ok y H) (k : sp [.ref a, y] H (kNB Q) E) : rNO C sp E ok (.ref a) y H Q := by
  obtain ⟨dx, h⟩ := h; exact ⟨a, dx, _, rfl, h, ho, k⟩
theorem o_U (h : IsR C H a q) (k : sp [.ref a] H Q E) : rU1 C sp E (.ref a) H Q := by
  obtain ⟨dx, h⟩ := h; exact ⟨a, dx, _, rfl, h, k⟩
theorem o_C {kk : VK → VK} (h : IsR C H a q) (k : sp [.ref a] H (kk Q) E) : rC1 C sp E kk [.ref a] H Q := by
  obtain ⟨dx, h⟩ := h; exact ⟨a, dx, _, rfl, h, k⟩
theorem o_T {QT : Bool → Hp → Prop} (h : IsR C H a q) (k : sp [.ref a] H (fun v H' => ∃ b, v = .bl b ∧ QT b H') E) : ∃ a' dx fs, V.ref a = .ref a' ∧ H a' = some (.ins C dx fs) ∧ sp [.ref a'] H (fun v H' => ∃ b, v = .bl b ∧ QT b H') E := by
  obtain ⟨dx, h⟩ := h; exact ⟨a, dx, _, rfl, h, k⟩
theorem o_M {R : Addr → Prop} (h : IsR C H a q) (hm : (m == ("top" : Str)) = false) (hm' : (m == ("bottom" : Str)) = false) (k : R a) : ∃ a' dx fs, V.ref a = .ref a' ∧ H a' = some (.ins C dx fs) ∧ fs.lookup m = none ∧ R a' := by
  obtain ⟨dx, h⟩ := h; exact ⟨a, dx, _, rfl, h, lk_no hm hm', k⟩
theorem q_R1 (h : IsR C H a q) (hv : NumV C H v r) (b : Bq q) (b' : Bq r) (o : ok q r) (k : NewR C Q H (g q r)) : spR1 C g ok [.ref a, v] H Q E := ⟨a, v, q, r, rfl, h, hv, b, b', o, k⟩
theorem q_RI {n : Int} (h : IsR C H a q) (b : Bq q) (b' : Bt n) (o : ok q (n : Rat)) (k : NewR C Q H (g q (n : Rat))) : spRI C g ok [.ref a, .int n] H Q E := ⟨a, q, n, rfl, h, b, b', o, k⟩
theorem q_RB {g : Rat → Rat → Bool} (h : IsR C H a q) (hv : NumV C H v r) (b : Bq q) (b' : Bq r) (k : NewV Q H (.bl (g q r))) : spRB C g [.ref a, v] H Q E := ⟨a, v, q, r, rfl, h, hv, b, b', k⟩
theorem q_R0 {g : Rat → Rat} (h : IsR C H a q) (b : Bq q) (k : NewR C Q H (g q)) : spR0 C g [.ref a] H Q E := ⟨a, q, rfl, h, b, k⟩
theorem q_RV {g : Rat → V} (h : IsR C H a q) (b : Bq q) (k : Q (g q) H) : spRV C g [.ref a] H Q E := ⟨a, q, rfl, h, b, k⟩
end
/-- a fact carried to the heap of the goal -/
theorem r_sfld {K : PySem.W.Frag} {σ : L2.St} {H : Hp} {ta tv : TE} {f : Str} {D : Ends} (k : tv σ H fun y H1 => ta σ H1 fun x H2 => PutAt K f x y H2 (fun H' => D.nx σ H')) : sFld K ta tv f D σ H := k
/-- a field of an instance of which all is known -/
theorem r_put {K K' : PySem.W.Frag} {C p dx : Addr} {fs : List (Str × V)} {f : Str} {v : V} {H : Hp} {N : Hp → Prop} (c : Cls K C) (n : NoAttr K C f) (e : K' = K) (h : H p = some (.ins C dx fs)) (hl : fs.length < 1000) (k : N (upd H p (.ins C dx (putF f v fs)))) : PutAt K' f (.ref p) v H N := by
  subst e
  exact ⟨p, C, dx, fs, rfl, h, c, n, hl, k⟩
theorem upd_upd {H : Hp} {p : Addr} {o o' : HO} : upd (upd H p o) p o' = upd H p o' := by
  funext b
  by_cases e : b = p
  · subst e; rw [upd_same, upd_same]
  · rw [upd_ne e, upd_ne e, upd_ne e]
theorem r_Ibt {a b : Int} {g : Int → Int → V} {H : Hp} {Q : VK} (ha : Bt a) (hb : Bt b) (k : Q (g a b) H) : rI CMulA g (.int a) (.int b) H Q := r_I (cmA_bt ha hb) k
theorem r_Ir {a b : Int} {g : Int → Int → V} {H : Hp} {Q : VK} (hb : b.natAbs < 2 ^ 64) (k : Q (g a b) H) : rI CMulA g (.int a) (.int b) H Q := r_I (cmA_r hb) k
theorem r_Il {a b : Int} {g : Int → Int → V} {H : Hp} {Q : VK} (ha : a.natAbs < 2 ^ 64) (k : Q (g a b) H) : rI CMulA g (.int a) (.int b) H Q := r_I (cmA_l ha) k
end
open PySem PySem.Spec PyProof.Rows L2
local macro_rules | `(tactic| wtm_at "of_up") => `(tactic| first | assumption | (apply IsR.ex; assumption; wtm_at "of_up") | (apply NumV.ex; assumption; wtm_at "of_up") | (apply num_r; wtm_at "of_up") | exact num_i | (apply NewR.ex; wtm_at "of_up"; assumption) | (apply NewV.ex; wtm_at "of_up"; assumption) | (apply Rz.ex; wtm_at "of_up"; assumption))
section
open PySem PySem.Spec PyProof.Rows L2
end
open PySem PySem.Spec PyProof.Rows L2
local macro_rules | `(tactic| wtm_at "of_btl") => `(tactic| first | assumption | exact Bq.n (by assumption) | exact Bq.d (by assumption) | (refine bt_neg ?_; wtm_at "of_btl") | (refine bt_abs ?_; wtm_at "of_btl") | (refine bq_i ?_; wtm_at "of_btl"))
section
open PySem PySem.Spec PyProof.Rows L2
end
open PySem PySem.Spec PyProof.Rows L2
local macro_rules | `(tactic| wtm_at "of_rd1") => `(tactic| with_reducible first
  | refine r_seq ?_ | refine r_asg ?_ | refine r_ret ?_ | refine r_sfld ?_ | refine r_ifS ?_ | refine r_drop ?_ | refine r_next ?_ | refine r_retN ?_ | refine r_gcd ?_
  | refine r_op ?_ | refine r_un ?_ | refine r_fld ?_ | refine r_cons ?_ | refine r_nil ?_ | refine r_c ?_ | refine r_c1 ?_ | refine r_cb ?_ | refine r_ck ?_ | refine r_cm ?_
  | refine r_test ?_ | refine r_B ?_ | refine r_and ?_ | refine r_or ?_ | refine r_not ?_ | refine r_andV ?_ | refine r_orV ?_ | refine r_notV ?_ | refine r_ifE ?_
  | refine r_tr ?_ | refine r_name ?_ | refine r_blP ?_ | refine r_tup ?_ | refine r_lst ?_ | refine r_gCons ?_ | refine r_gNil ?_ | refine r_rz ?_
  | refine r_var (by with_unfolding_all rfl) ?_
  | refine iteT ?_ | refine iteF ?_ | refine iteNT ?_ | refine iteNF ?_
  | refine r_I0 ?_ | refine r_Ibt (by wtm_at "of_btl") (by wtm_at "of_btl") ?_ | refine r_U ?_ | refine r_eqI ?_ | refine r_neI ?_
  | refine r_top (by assumption) (by with_unfolding_all rfl) (by wtm_at "of_up") ?_ | refine r_bot (by assumption) (by with_unfolding_all rfl) (by wtm_at "of_up") ?_)
section
open PySem PySem.Spec PyProof.Rows L2
end
open PySem PySem.Spec PyProof.Rows L2
local macro_rules | `(tactic| wtm_at "of_rd") => `(tactic| repeat wtm_at "of_rd1")
section
open PySem PySem.Spec PyProof.Rows L2
end
section
open PySem PySem.Spec PyProof.Rows L2 RZ
section
variable {K : PySem.W.Frag} {σ : L2.St} {H : Hp} {Q : VK} {QA : List V → Hp → Prop} {D : Ends} {ta tb te : TE} {tr : TA} {wi : TI} {g : TG} {ts : TS} {tt : TT} {vs : List Nat} {a l p : Addr} {xs : List V} {x y v : V} {R : It → Hp → Prop}
def ForIt (J : It) (g : TG) (tb : TS) (D : Ends) (σ : L2.St) (H : Hp) : Prop := ∃ W : Nat → Nat → L2.St → Hp → Prop, (∃ m, W 0 m σ H) ∧ ∀ i m σ H, W i m σ H →
  (J.stop i H ∧ D.nx σ H) ∨ (J.go i H ∧ ∃ N : L2.St → Hp → Prop, (∀ σ' H', N σ' H' → ∃ m', m' < m ∧ W (i + 1) m' σ' H') ∧ ∀ x H', J.yld i H x H' → g x σ H' fun σ2 H2 => tb { D with nx := N, ct := N, bk := D.nx } σ2 H2)
theorem r_for (k : wi σ H fun J H1 => ForIt J g ts D σ H1) : tFor wi g ts D σ H := k
def LcIt (J : It) (g : TG) (tt : TT) (te : TE) (vs : List Nat) (σ : L2.St) (H1 : Hp) (Q : VK) : Prop := ∀ D, H1 D = none → ∃ W : Nat → Nat → Hp → Prop, (∃ m, W 0 m (upd H1 D (.lst []))) ∧ ∀ i m H, W i m H →
  (J.stop i H ∧ Q (.ref D) H) ∨ (J.go i H ∧ ∃ Nx : Hp → Prop, (∀ H', Nx H' → ∃ m', m' < m ∧ W (i + 1) m' H') ∧ ∀ x H', J.yld i H x H' → g x (wipe σ vs) H' fun σ2 H2 => wipe σ2 vs = wipe σ vs ∧ tt σ2 H2 fun b H3 =>
    if b = true then te σ2 H3 fun y H4 => ∃ acc, H4 D = some (.lst acc) ∧ acc.length < sizeLine ∧ Nx (upd H4 D (.lst (acc ++ [y]))) else Nx H3)
theorem r_lc (k : wi σ H fun J H1 => LcIt J g tt te vs σ H1 Q) : tLc wi g tt te vs σ H Q := k
def ItL (K : PySem.W.Frag) (x : V) (H : Hp) (R : It → Hp → Prop) : Prop := ∃ a, x = .ref a ∧ (∃ xs, SqL K H a xs) ∧ R (Itl K a) H
def ItT (K : PySem.W.Frag) (x : V) (H : Hp) (R : It → Hp → Prop) : Prop := ∃ a, x = .ref a ∧ (∃ xs, SqT K H a xs) ∧ R (Itt K a) H
def ItR (vs : List V) (H : Hp) (R : It → Hp → Prop) : Prop := ∃ j : Int, vs = [.int j] ∧ -(2 ^ 62) ≤ j ∧ j < 2 ^ 62 ∧ R (Itr 0 j.toNat) H
def ItR2 (vs : List V) (H : Hp) (R : It → Hp → Prop) : Prop := ∃ i j : Int, vs = [.int i, .int j] ∧ (-(2 ^ 62) ≤ i ∧ i < 2 ^ 62 ∧ -(2 ^ 62) ≤ j ∧ j < 2 ^ 62) ∧ R (Itr i (j - i).toNat) H
def ItR3 (vs : List V) (H : Hp) (R : It → Hp → Prop) : Prop := ∃ (i j c : Int) (n : Nat), vs = [.int i, .int j, .int c] ∧ RgC i j c n ∧ R (Itc i c n) H
def ItZ (K : PySem.W.Frag) (vs : List V) (H : Hp) (R : It → Hp → Prop) : Prop := ∃ a b xs ys, vs = [.ref a, .ref b] ∧ ((SqL K H a xs ∧ SqL K H b ys ∧ R (Itz K a b) H) ∨ (SqT K H a xs ∧ SqT K H b ys ∧ R (ItzT K a b) H))
theorem r_iL (k : ta σ H fun x H1 => ItL K x H1 R) : iList K ta σ H R := k
theorem r_iT (k : ta σ H fun x H1 => ItT K x H1 R) : iTup K ta σ H R := k
theorem r_iR1 (k : tr σ H fun x H1 => ItR x H1 R) : iRng1 tr σ H R := k
theorem r_iR2 (k : tr σ H fun x H1 => ItR2 x H1 R) : iRng2 tr σ H R := k
theorem r_iR3 (k : tr σ H fun x H1 => ItR3 x H1 R) : iRng3 tr σ H R := k
theorem r_iZ (k : tr σ H fun x H1 => ItZ K x H1 R) : iZipA K tr σ H R := k
theorem i_L (h : H a = some (.lst xs)) (k : R (Itl K a) H) : ItL K (.ref a) H R := ⟨a, rfl, ⟨xs, SqL.of h⟩, k⟩
theorem i_T (h : H a = some (.tup xs)) (k : R (Itt K a) H) : ItT K (.ref a) H R := ⟨a, rfl, ⟨xs, SqT.of h⟩, k⟩
theorem n62 {n : Nat} (h : n ≤ 1000000000) : -(2 ^ 62) ≤ (n : Int) ∧ (n : Int) < 2 ^ 62 := by
  have e : (2 : Int) ^ 62 = 4611686018427387904 := by decide
  rw [e]; omega
theorem i_R {n : Nat} {j : Int} (e : j = (n : Int)) (h : n ≤ 1000000000) (k : R (Itr 0 n) H) : ItR [.int j] H R := by
  subst e
  exact ⟨_, rfl, (n62 h).1, (n62 h).2, k⟩
theorem i_ZT {b : Addr} {ys : List V} (h : H a = some (.tup xs)) (h' : H b = some (.tup ys)) (k : R (ItzT K a b) H) : ItZ K [.ref a, .ref b] H R := ⟨a, b, xs, ys, rfl, .inr ⟨SqT.of h, SqT.of h', k⟩⟩
theorem i_ZL {b : Addr} {ys : List V} (h : H a = some (.lst xs)) (h' : H b = some (.lst ys)) (k : R (Itz K a b) H) : ItZ K [.ref a, .ref b] H R := ⟨a, b, xs, ys, rfl, .inl ⟨SqL.of h, SqL.of h', k⟩⟩
/-- one turn of a loop: the body, with where it goes on -/
def Turn1 (g : TG) (tb : TS) (D : Ends) (N : L2.St → Hp → Prop) (x : V) (σ : L2.St) (H : Hp) : Prop := g x σ H fun σ2 H2 => tb { D with nx := N, ct := N, bk := D.nx } σ2 H2
theorem fL (Pv : Nat → L2.St → Hp → Prop) (h0 : Pv 0 σ H) (hl : ∀ i σ H, i ≤ xs.length → Pv i σ H → H a = some (.lst xs))
    (hs : ∀ i x σ H, xs[i]? = some x → Pv i σ H → Turn1 g ts D (Pv (i + 1)) x σ H) (hd : ∀ σ H, Pv xs.length σ H → D.nx σ H) : ForIt (Itl K a) g ts D σ H := for_list Pv h0 (fun i σ H hi h => SqL.of (hl i σ H hi h)) hs hd
theorem fR' {lo : Int} {n : Nat} (Pv : Nat → L2.St → Hp → Prop) (h0 : Pv 0 σ H) (hs : ∀ i σ H, i < n → Pv i σ H → Turn1 g ts D (Pv (i + 1)) (.int (lo + i)) σ H) (hd : ∀ σ H, Pv n σ H → D.nx σ H) : ForIt (Itr lo n) g ts D σ H := for_range Pv h0 hs hd
theorem fZT {b : Addr} {ys : List V} (hl : xs.length = ys.length) (Pv : Nat → L2.St → Hp → Prop) (h0 : Pv 0 σ H) (hq : ∀ i σ H, Pv i σ H → H a = some (.tup xs) ∧ H b = some (.tup ys))
    (hs : ∀ (i : Nat) (x y : V) (T : Addr) (σ : L2.St) (H H' : Hp), xs[i]? = some x → ys[i]? = some y → Pv i σ H → Ex H H' → H T = none → H' T = some (.tup [x, y]) → Turn1 g ts D (Pv (i + 1)) (.ref T) σ H') (hd : ∀ σ H, Pv xs.length σ H → D.nx σ H) : ForIt (ItzT K a b) g ts D σ H :=
  for_zipT hl Pv h0 (fun i σ H h => ⟨SqT.of (hq i σ H h).1, SqT.of (hq i σ H h).2⟩) (fun i x y T σ H h1 h2 h3 h4 => hs i x y T σ H _ h1 h2 h3 (Ex.new h4) h4 upd_same) hd
/-- a comprehension's item is put to its list -/
def LPut (L : Addr) (P : List V → Hp → Prop) (y : V) (H : Hp) : Prop := ∃ acc, H L = some (.lst acc) ∧ acc.length < sizeLine ∧ ∃ acc', upd H L (.lst (acc ++ [y])) L = some (.lst acc') ∧ P acc' (upd H L (.lst (acc ++ [y])))
theorem lput {L : Addr} {P : List V → Hp → Prop} {acc : List V} (h : H L = some (.lst acc)) (hn : acc.length ≤ 1000000) (k : P (acc ++ [y]) (upd H L (.lst (acc ++ [y])))) : LPut L P y H :=
  ⟨acc, h, by rw [sizeLine_eq]; omega, acc ++ [y], upd_same, k⟩
/-- a turn of a comprehension -/
def LTurn (g : TG) (tt : TT) (te : TE) (vs : List Nat) (σ : L2.St) (L : Addr) (P : List V → Hp → Prop) (x : V) (H : Hp) : Prop :=
  g x (wipe σ vs) H fun σ2 H2 => wipe σ2 vs = wipe σ vs ∧ tt σ2 H2 fun b H3 => if b = true then te σ2 H3 fun y H4 => LPut L P y H4 else ∃ acc, H3 L = some (.lst acc) ∧ P acc H3
theorem lL (Pv : Addr → Nat → List V → Hp → Prop) (h0 : ∀ L, H L = none → ∀ H', Ex H H' → H' L = some (.lst []) → Pv L 0 [] H')
    (hl : ∀ L i acc H', H L = none → i ≤ xs.length → Pv L i acc H' → H' a = some (.lst xs))
    (hs : ∀ L i x acc H', H L = none → xs[i]? = some x → Pv L i acc H' → H' L = some (.lst acc) → LTurn g tt te vs σ L (Pv L (i + 1)) x H')
    (hd : ∀ L acc H', H L = none → H' L = some (.lst acc) → Pv L xs.length acc H' → Q (.ref L) H') : LcIt (Itl K a) g tt te vs σ H Q := by
  intro L hL
  refine lc_list (xs := xs) (fun i H' => ∃ acc, H' L = some (.lst acc) ∧ Pv L i acc H') ⟨[], upd_same, h0 L hL _ (Ex.new hL) upd_same⟩ (fun i H' hi ⟨acc, h1, h2⟩ => SqL.of (hl L i acc H' hL hi h2)) (fun i x H' hx' ⟨acc, h1, h2⟩ => ?_) (fun H' ⟨acc, h1, h2⟩ => hd L acc H' hL h1 h2)
  exact hs L i x acc H' hL hx' h2 h1
theorem lR {lo : Int} {n : Nat} (Pv : Addr → Nat → List V → Hp → Prop) (h0 : ∀ L, H L = none → ∀ H', Ex H H' → H' L = some (.lst []) → Pv L 0 [] H')
    (hs : ∀ L i acc H', H L = none → i < n → Pv L i acc H' → H' L = some (.lst acc) → LTurn g tt te vs σ L (Pv L (i + 1)) (.int (lo + i)) H')
    (hd : ∀ L acc H', H L = none → H' L = some (.lst acc) → Pv L n acc H' → Q (.ref L) H') : LcIt (Itr lo n) g tt te vs σ H Q := by
  intro L hL
  refine lc_range (fun i H' => ∃ acc, H' L = some (.lst acc) ∧ Pv L i acc H') ⟨[], upd_same, h0 L hL _ (Ex.new hL) upd_same⟩ (fun i H' hi ⟨acc, h1, h2⟩ => ?_) (fun H' ⟨acc, h1, h2⟩ => hd L acc H' hL h1 h2)
  exact hs L i acc H' hL hi h2 h1
theorem lRC {lo c : Int} {n : Nat} (Pv : Addr → Nat → List V → Hp → Prop) (h0 : ∀ L, H L = none → ∀ H', Ex H H' → H' L = some (.lst []) → Pv L 0 [] H')
    (hs : ∀ L i acc H', H L = none → i < n → Pv L i acc H' → H' L = some (.lst acc) → LTurn g tt te vs σ L (Pv L (i + 1)) (.int (lo + (i : Nat) * c)) H')
    (hd : ∀ L acc H', H L = none → H' L = some (.lst acc) → Pv L n acc H' → Q (.ref L) H') : LcIt (Itc lo c n) g tt te vs σ H Q := by
  intro L hL
  refine ⟨fun i m H' => m = n - i ∧ i ≤ n ∧ ∃ acc, H' L = some (.lst acc) ∧ Pv L i acc H', ⟨n, by simp, Nat.zero_le _, [], upd_same, h0 L hL _ (Ex.new hL) upd_same⟩, ?_⟩
  rintro i m H' ⟨rfl, hi, acc, h1, h2⟩
  by_cases hlt : i < n
  · refine .inr ⟨hlt, fun H' => ∃ acc, H' L = some (.lst acc) ∧ Pv L (i + 1) acc H', fun H' p' => ⟨n - (i + 1), by omega, rfl, hlt, p'⟩, fun x H'' y => ?_⟩
    obtain ⟨e, y⟩ := y
    subst e y
    exact hs L i acc _ hL hlt h2 h1
  · have e : i = n := by omega
    subst e
    exact .inl ⟨Nat.le_refl _, hd L acc H' hL h1 h2⟩
theorem lT (Pv : Addr → Nat → List V → Hp → Prop) (h0 : ∀ L, H L = none → ∀ H', Ex H H' → H' L = some (.lst []) → Pv L 0 [] H')
    (hl : ∀ L i acc H', H L = none → i ≤ xs.length → Pv L i acc H' → H' a = some (.tup xs))
    (hs : ∀ L i x acc H', H L = none → xs[i]? = some x → Pv L i acc H' → H' L = some (.lst acc) → LTurn g tt te vs σ L (Pv L (i + 1)) x H')
    (hd : ∀ L acc H', H L = none → H' L = some (.lst acc) → Pv L xs.length acc H' → Q (.ref L) H') : LcIt (Itt K a) g tt te vs σ H Q := by
  intro L hL
  refine lc_tup (xs := xs) (fun i H' => ∃ acc, H' L = some (.lst acc) ∧ Pv L i acc H') ⟨[], upd_same, h0 L hL _ (Ex.new hL) upd_same⟩ (fun i H' hi ⟨acc, h1, h2⟩ => SqT.of (hl L i acc H' hL hi h2)) (fun i x H' hx' ⟨acc, h1, h2⟩ => ?_) (fun H' ⟨acc, h1, h2⟩ => hd L acc H' hL h1 h2)
  exact hs L i x acc H' hL hx' h2 h1
/-- a list or a tuple -/
def SeqAt1 (H : Hp) (a : Addr) (xs : List V) : Prop := H a = some (.lst xs) ∨ H a = some (.tup xs)
theorem lLT {J : It} (hJ : (J = Itl K a ∧ H a = some (.lst xs)) ∨ (J = Itt K a ∧ H a = some (.tup xs))) (Pv : Addr → Nat → List V → Hp → Prop) (h0 : ∀ L, H L = none → ∀ H', Ex H H' → H' L = some (.lst []) → Pv L 0 [] H')
    (hl : ∀ L i acc H', H L = none → i ≤ xs.length → Pv L i acc H' → Ex H H')
    (hs : ∀ L i x acc H', H L = none → xs[i]? = some x → Pv L i acc H' → H' L = some (.lst acc) → LTurn g tt te vs σ L (Pv L (i + 1)) x H')
    (hd : ∀ L acc H', H L = none → H' L = some (.lst acc) → Pv L xs.length acc H' → Q (.ref L) H') : LcIt J g tt te vs σ H Q := by
  rcases hJ with ⟨rfl, h⟩ | ⟨rfl, h⟩
  · exact lL Pv h0 (fun L i acc H' h1 h2 h3 => hl L i acc H' h1 h2 h3 _ _ h) hs hd
  · exact lT Pv h0 (fun L i acc H' h1 h2 h3 => hl L i acc H' h1 h2 h3 _ _ h) hs hd
def iOr (w1 w2 : TI) : TI := fun σ H R => w1 σ H R ∨ w2 σ H R
theorem i_LT {i : Nat} (e : σ[i]? = some (some (V.ref a))) (h : SeqAt1 H a xs) (k : ∀ J, ((J = Itl K a ∧ H a = some (.lst xs)) ∨ (J = Itt K a ∧ H a = some (.tup xs))) → R J H) : iOr (iList K (tVar i)) (iTup K (tVar i)) σ H R := by
  rcases h with h | h
  · exact .inl ⟨.ref a, e, a, rfl, ⟨xs, SqL.of h⟩, k _ (.inl ⟨rfl, h⟩)⟩
  · exact .inr ⟨.ref a, e, a, rfl, ⟨xs, SqT.of h⟩, k _ (.inr ⟨rfl, h⟩)⟩
theorem r_lturn {L : Addr} {P : List V → Hp → Prop} (k : g x (wipe σ vs) H fun σ2 H2 => wipe σ2 vs = wipe σ vs ∧ tt σ2 H2 fun b H3 => if b = true then te σ2 H3 fun y H4 => LPut L P y H4 else ∃ acc, H3 L = some (.lst acc) ∧ P acc H3) : LTurn g tt te vs σ L P x H := k
theorem r_yes {QT : Bool → Hp → Prop} (k : QT true H) : tYes σ H QT := k
/-- a while -/
def Tn (Pv : L2.St → Hp → Prop) (μ : L2.St → Hp → Nat) (m : Nat) (tb : TS) (D : Ends) (σ : L2.St) (H1 : Hp) : Prop := ∃ N : L2.St → Hp → Prop, (∀ σ' H', N σ' H' → ∃ m', m' < m ∧ (m' = μ σ' H' ∧ Pv σ' H')) ∧ tb { D with nx := N, ct := N, bk := D.nx } σ H1
theorem tn {Pv : L2.St → Hp → Prop} {μ : L2.St → Hp → Nat} {m : Nat} (k : ts { D with nx := fun σ' H' => Pv σ' H' ∧ μ σ' H' < m, ct := fun σ' H' => Pv σ' H' ∧ μ σ' H' < m, bk := D.nx } σ H) : Tn Pv μ m ts D σ H :=
  ⟨_, fun σ' H' h => ⟨_, h.2, rfl, h.1⟩, k⟩
theorem r_while {c : TT} (Pv : L2.St → Hp → Prop) (μ : L2.St → Hp → Nat) (h0 : Pv σ H) (hs : ∀ σ H, Pv σ H → c σ H fun b H1 => if b = true then Tn Pv μ (μ σ H) ts D σ H1 else D.nx σ H1) : tWhile c ts D σ H := by
  refine ⟨fun m σ H => m = μ σ H ∧ Pv σ H, ⟨_, rfl, h0⟩, ?_⟩
  rintro m σ H ⟨rfl, p⟩
  exact hs σ H p
/-- slices -/
theorem r_sl {r : V → Option Int → Option Int → Hp → VK → Prop} {tl th : TO} (k : te σ H fun x H1 => tl σ H1 fun l H2 => th σ H2 fun u H3 => r x l u H3 Q) : L2.tSl r te tl th σ H Q := k
theorem r_slL {lo hi : Option Int} (h : H a = some (.lst xs)) (k : ∀ p H', Ex H H' → H p = none → H' p = some (.lst (cutV xs lo hi)) → Q (.ref p) H') : rSlL K (.ref a) lo hi H Q := ⟨a, xs, rfl, SqL.of h, fun p hp => k p _ (Ex.new hp) hp upd_same⟩
/-- methods of built-in types -/
theorem r_bm {T : String} {r : V → List V → Hp → VK → Prop} (k : ta σ H fun x H1 => tyV K T x H1 ∧ tr σ H1 fun xs H2 => r x xs H2 Q) : tBM K T r ta tr σ H Q := k
theorem ty_l (h : H a = some (.lst xs)) : tyV K "list" (.ref a) H := .inl ⟨rfl, xs, SqL.of h⟩
theorem r_app (h : H l = some (.lst xs)) (hn : xs.length ≤ 1000000) (k : Q .non (upd H l (.lst (xs ++ [y])))) : rAppend (.ref l) [y] H Q := ⟨l, xs, y, rfl, rfl, h, by rw [sizeLine_eq]; omega, k⟩
theorem r_cat {b : Addr} {zs : List V} (h : H a = some (.lst xs)) (h' : H b = some (.lst zs)) (hn : xs.length + zs.length ≤ 1000000) (k : ∀ p H', Ex H H' → H p = none → H' p = some (.lst (xs ++ zs)) → Q (.ref p) H') : rCat (.ref a) (.ref b) H Q :=
  ⟨a, b, xs, zs, rfl, rfl, h, h', by rw [sizeLine_eq]; omega, fun p hp => k p _ (Ex.new hp) hp upd_same⟩
end
theorem none_of {H H' : Hp} {p : Addr} (e : Ex H H') (h : H' p = none) : H p = none := by
  cases z : H p with
  | none => rfl
  | some o => rw [e _ _ z] at h; cases h
/-- what was there before L stays whatever becomes of L -/
theorem Ex.put {H H' : Hp} {L : Addr} {o : HO} (e : Ex H H') (h : H L = none) : Ex H (upd H' L o) := fun a u q => by
  rw [upd_ne (ne_of_none q h)]; exact e a u q
theorem Le.put {H H' : Hp} {L : Addr} {o : HO} (e : Le H H') (h : H L = none) : Le H (upd H' L o) := fun a u q s => by
  rw [upd_ne (ne_of_none q h)]; exact e a u q s
theorem IsR.put {C p L : Addr} {H : Hp} {q : Rat} {xs : List V} {o : HO} (h : IsR C H p q) (hl : H L = some (.lst xs)) : IsR C (upd H L o) p q := by
  obtain ⟨dx, h⟩ := h
  exact ⟨dx, by rw [upd_ne (ne_of h hl (by intro z; cases z))]; exact h⟩
theorem cutV_all (xs : List V) : cutV xs none none = xs := by
  unfold cutV
  show (xs.drop 0).take (xs.length - 0) = xs
  simp
def rLen (K : PySem.W.Frag) : List V → Hp → VK → Prop := fun xs H Q => ∃ p ys, xs = [.ref p] ∧ (SqL K H p ys ∨ SqT K H p ys) ∧ Q (.int (List.length ys : Int)) H
def rListOf (K : PySem.W.Frag) : List V → Hp → VK → Prop := fun xs H Q => ∃ p ys, xs = [.ref p] ∧ (SqL K H p ys ∨ SqT K H p ys) ∧ ∀ l, H l = none → Q (.ref l) (upd H l (.lst ys))
def rTru (K : PySem.W.Frag) : V → Hp → (Bool → Hp → Prop) → Prop := fun x H Q => ∃ k, TruV K x H k ∧ Q k H
section
variable {X : Cx} {K : PySem.W.Frag} {e o : Expr} {es : List Expr} {ta tv tl to : TE} {tr : TA} {f : Str} {pos pos' p tpos : Pos} {tg : Expr} {value : Expr}
theorem kix_l (h : X.K = K) : IxR X (rIxL K) := by subst h; exact ix_list
theorem kix_t (h : X.K = K) : IxR X (rIxT K) := by subst h; exact ix_tup
theorem kc_len (h : X.K = K) : CallR X (.builtin "len") (rLen K) := by subst h; exact call_len_seq
theorem kc_listof (h : X.K = K) : CallR X (.type "list") (rListOf K) := by subst h; exact call_list_of
theorem kc_isi (h : X.K = K) : CallR X (.builtin "isinstance") (rIsi K) := by subst h; exact call_isi
theorem kc_isiT (h : X.K = K) : CallR X (.builtin "isinstance") (rIsiT K) := by subst h; exact call_isiT
theorem kfld (h : X.K = K) (he : PE X e ta) (hb : attributeBase e f X.env (eval e X.env) = eval e X.env) : PE X (.Attribute e f pos) (tFld K ta f) := by subst h; exact pe_fld he hb
theorem ksfld (h : X.K = K) (ha : PE X o ta) (hv : PE X value tv) (hs : swapsWith value (some (.Attribute o f pos')) pos.line X.env = pure false) : PS X (.Assign [.Attribute o f pos'] value pos) (sFld K ta tv f) := by subst h; exact ps_fld ha hv hs
theorem kpg_tup {es : List Expr} {k : Nat} {t : TGs} (n : Nat) (h : X.K = K) (hc : X.calm = true) (hp : PGs X es t)
    (hn : (assignEach es X.env).length = n := by rfl) (hst : (assignEach es X.env).findIdx? (·.1) = none := by rfl) : PG X (.Tuple es k pos) (gTup K n t) := by subst h; exact pg_tup hc hp hn hst
theorem kpi_l (h : X.K = K) (hl : PE X e tl) : PI X tg e (iList K tl) := by subst h; exact pi_list hl
theorem kpi_t (h : X.K = K) (hl : PE X e tl) : PI X tg e (iTup K tl) := by subst h; exact pi_tup hl
theorem kpi_or {w1 w2 : TI} (h1 : PI X tg e w1) (h2 : PI X tg e w2) : PI X tg e (iOr w1 w2) := ⟨fun pins s σ H R I h => h.elim (h1.run pins s σ H R I) (h2.run pins s σ H R I)⟩
theorem kpi_zip {e2 : Expr} {elts : List Expr} {kk : Nat} (h : X.K = K) (hg : Gl X "zip") (hm : X.mg "zip" = none) (ha : PA X [e, e2] tr)
    (hs : starEach [e, e2] X.env = (false, eval e X.env) :: starEach [e2] X.env := by rfl) (hpl : (backTo pos (starEach [e2] X.env)).any (·.1) = false := by rfl) :
    PI X (.Tuple elts kk tpos) (.Call (.Name "zip" p) [e, e2] [] pos) (RZ.iZipA K tr) := by subst h; exact RZ.pi_zipA hg hm ha hs hpl
theorem ksl_l (h : X.K = K) : SlR X (rSlL K) := by subst h; exact sl_list
theorem ksl_t (h : X.K = K) : SlR X (rSlT K) := by subst h; exact sl_tup
theorem kop_eqD (h : X.K = K) (hu : X.A.units + 64 < cLine) : OpR X (compareOp .Eq) (rEqD K) := by subst h; exact op_eqD hu
theorem kop_neD (h : X.K = K) (hu : X.A.units + 64 < cLine) : OpR X (compareOp .NotEq) (rNeD K) := by subst h; exact op_neD hu
theorem ktru (h : X.K = K) : TruR X (rTru K) := by subst h; exact tru_ok
theorem kapp {e : Expr} {es : List Expr} {apos cpos : Pos} {T id : String} {r : V → List V → Hp → VK → Prop} {name : Str} (h : X.K = K) (pa : PlainAttrs T) (slot : Slot T name id) (hty : typeOf (.builtin id) = pure (.type "method_descriptor")) (hm : MtR X id r) (ho : PE X o to) (ha : PA X (e :: es) tr)
    (hbase : attributeBase o name X.env (eval o X.env) = eval o X.env := by rfl)
    (hfew : ((backTo cpos (starEach (e :: es) X.env)).all (fun x => !x.1) && (backToKw cpos (keywordEach [] X.env)).all (fun x => x.1.isSome)
      && decide ((e :: es).length + ([] : List Keyword).length + (if ([] : List Keyword).isEmpty then 0 else 1) < 30)) = true := by rfl)
    (hline : (apos.endLine == cpos.line) = true := by rfl) (hs : starEach (e :: es) X.env = (false, eval e X.env) :: starEach es X.env := by rfl) (hplain : (backTo cpos (starEach es X.env)).any (·.1) = false := by rfl) :
    PE X (.Call (.Attribute o name apos) (e :: es) [] cpos) (tBM K T r to tr) := by subst h; exact pe_bm pa slot hty hm ho ha hbase hfew hline hs hplain
section
variable {k j : Nat} {C f g : Addr} {sp : Sp} {E : XK}
theorem kC_eq (h : X.K = K) (c : Cm X.prog X.w K X.mg X.base k C "__eq__" f sp) (hr : Room j X.A) (hk : k ≤ j) (hx : Passes (L2.CX X.prog X.w) X E) : OpR X (compareOp .Eq) (rO C sp E (isAny K C)) := by subst h; exact opC_eq c hr hk hx
theorem kC_lt (h : X.K = K) (c : Cm X.prog X.w K X.mg X.base k C "__lt__" f sp) (hr : Room j X.A) (hk : k ≤ j) (hx : Passes (L2.CX X.prog X.w) X E) : OpR X (compareOp .Lt) (rO C sp E (isAny K C)) := by subst h; exact opC_lt c hr hk hx
theorem kC_le (h : X.K = K) (c : Cm X.prog X.w K X.mg X.base k C "__le__" f sp) (hr : Room j X.A) (hk : k ≤ j) (hx : Passes (L2.CX X.prog X.w) X E) : OpR X (compareOp .LtE) (rO C sp E (isAny K C)) := by subst h; exact opC_le c hr hk hx
theorem kC_gt (h : X.K = K) (c : Cm X.prog X.w K X.mg X.base k C "__gt__" f sp) (hr : Room j X.A) (hk : k ≤ j) (hx : Passes (L2.CX X.prog X.w) X E) : OpR X (compareOp .Gt) (rO C sp E (isAny K C)) := by subst h; exact opC_gt c hr hk hx
theorem kC_ge (h : X.K = K) (c : Cm X.prog X.w K X.mg X.base k C "__ge__" f sp) (hr : Room j X.A) (hk : k ≤ j) (hx : Passes (L2.CX X.prog X.w) X E) : OpR X (compareOp .GtE) (rO C sp E (isAny K C)) := by subst h; exact opC_ge c hr hk hx
theorem kNe (h : X.K = K) (kc : ClsO K C) (c : Cm X.prog X.w K X.mg X.base k C "__eq__" f sp) (hr : Room j X.A) (hk : k + 1 ≤ j) (hx : Passes (L2.CX X.prog X.w) X E) : OpR X (compareOp .NotEq) (rNO C sp E (isAny K C)) := by subst h; exact opNe kc c hr hk hx
end
end
section
variable {K : PySem.W.Frag} {H : Hp} {Q : VK} {a : Addr} {xs : List V}
theorem q_lenL (h : H a = some (.lst xs)) (k : Q (.int (xs.length : Int)) H) : rLen K [.ref a] H Q := ⟨a, xs, rfl, .inl (SqL.of h), k⟩
theorem q_lenT (h : H a = some (.tup xs)) (k : Q (.int (xs.length : Int)) H) : rLen K [.ref a] H Q := ⟨a, xs, rfl, .inr (SqT.of h), k⟩
theorem q_lenLT (h : SeqAt1 H a xs) (k : Q (.int (xs.length : Int)) H) : rLen K [.ref a] H Q := by
  rcases h with h | h
  · exact ⟨a, xs, rfl, .inl (SqL.of h), k⟩
  · exact ⟨a, xs, rfl, .inr (SqT.of h), k⟩
theorem q_listL (h : H a = some (.lst xs)) (k : ∀ p H', Ex H H' → H p = none → H' p = some (.lst xs) → Q (.ref p) H') : rListOf K [.ref a] H Q := ⟨a, xs, rfl, .inl (SqL.of h), fun l hl => k l _ (Ex.new hl) hl upd_same⟩
theorem q_truI {i : Int} {QT : Bool → Hp → Prop} (k : QT (decide (i ≠ 0)) H) : rTru K (.int i) H QT := ⟨i != 0, rfl, by
  have e : (i != 0) = decide (i ≠ 0) := by rw [Bool.eq_iff_iff]; simp
  rw [e]; exact k⟩
theorem q_truB {b : Bool} {QT : Bool → Hp → Prop} (k : QT b H) : rTru K (.bl b) H QT := ⟨b, rfl, k⟩
end
theorem r_part {te : TE} {σ : L2.St} {H : Hp} {QO : Option Int → Hp → Prop} (k : te σ H fun x H1 => ∃ i, x = .int i ∧ QO (some i) H1) : tPart te σ H QO := k
theorem r_nopart {σ : L2.St} {H : Hp} {QO : Option Int → Hp → Prop} (k : QO none H) : tNoPart σ H QO := k
theorem r_intP {j : Int} {R : Int → Prop} (k : R j) : ∃ i, V.int j = .int i ∧ R i := ⟨j, rfl, k⟩
theorem r_parP {v w : V} {R : V → V → Prop} (k : R v w) : ∃ v' w', [v, w] = [v', w'] ∧ R v' w' := ⟨v, w, rfl, k⟩
theorem r_parP3 {v w z : V} {R : V → V → V → Prop} (k : R v w z) : ∃ v' w' z', [v, w, z] = [v', w', z'] ∧ R v' w' z' := ⟨v, w, z, rfl, k⟩
theorem r_turn1 {g : TG} {tb : TS} {D : Ends} {N : L2.St → Hp → Prop} {x : V} {σ : L2.St} {H : Hp} (k : g x σ H fun σ2 H2 => tb { D with nx := N, ct := N, bk := D.nx } σ2 H2) : Turn1 g tb D N x σ H := k
end
open PySem PySem.Spec PyProof.Rows L2 RZ
local macro_rules | `(tactic| wtm_at "of_rd1") => `(tactic| with_reducible first
  | refine r_par ?_ | refine r_par3 ?_ | refine r_parP ?_ | refine r_parP3 ?_ | refine r_part ?_ | refine r_nopart ?_ | refine r_intP ?_ | refine r_for ?_ | refine r_iL ?_ | refine r_iT ?_ | refine r_iR1 ?_ | refine r_iR2 ?_ | refine r_iR3 ?_ | refine r_iZ ?_ | refine r_lc ?_ | refine r_sl ?_ | refine r_bm ?_ | refine r_turn1 ?_ | refine r_lturn ?_ | refine r_yes ?_
  | refine r_seq ?_ | refine r_asg ?_ | refine r_ret ?_ | refine r_sfld ?_ | refine r_ifS ?_ | refine r_drop ?_ | refine r_next ?_ | refine r_retN ?_ | refine r_gcd ?_
  | refine r_op ?_ | refine r_un ?_ | refine r_fld ?_ | refine r_cons ?_ | refine r_nil ?_ | refine r_c ?_ | refine r_c1 ?_ | refine r_cb ?_ | refine r_ck ?_ | refine r_cm ?_
  | refine r_test ?_ | refine r_B ?_ | refine r_and ?_ | refine r_or ?_ | refine r_not ?_ | refine r_andV ?_ | refine r_orV ?_ | refine r_notV ?_ | refine r_ifE ?_
  | refine r_tr ?_ | refine r_name ?_ | refine r_blP ?_ | refine r_tup ?_ | refine r_lst ?_ | refine r_gCons ?_ | refine r_gNil ?_ | refine r_rz ?_
  | refine r_var (by with_unfolding_all rfl) ?_
  | refine iteT ?_ | refine iteF ?_ | refine iteNT ?_ | refine iteNF ?_
  | refine r_I0 ?_ | refine r_Ibt (by wtm_at "of_btl") (by wtm_at "of_btl") ?_ | refine r_U ?_ | refine r_eqI ?_ | refine r_neI ?_
  | refine r_top (by assumption) (by with_unfolding_all rfl) (by wtm_at "of_up") ?_ | refine r_bot (by assumption) (by with_unfolding_all rfl) (by wtm_at "of_up") ?_)
section
open PySem PySem.Spec PyProof.Rows L2 RZ
section
variable {K : PySem.W.Frag} {σ : L2.St} {H : Hp} {Q : VK} {QT : Bool → Hp → Prop} {D : Ends} {te : TE} {x : V} {i : Nat} {p : Addr} {xs : List V} {v : V}
theorem r_aug {ti : TIp} (h : σ[i]? = some (some x)) (k : te σ H fun y H1 => ti x y H1 fun z H2 => D.nx (σ.set i (some z)) H2) : tAug i te ti D σ H := ⟨x, h, k⟩
theorem r_ipI {f : Int → Int → Int} {a b : Int} (k : Q (.int (f a b)) H) : ipI f (.int a) (.int b) H Q := ⟨a, b, rfl, rfl, k⟩
theorem r_iL1 (h : H p = some (.lst xs)) {j : Int} (e : atI xs j = some v) (k : Q v H) : rIxL K (.ref p) (.int j) H Q := ⟨p, xs, j, v, rfl, rfl, SqL.of h, e, k⟩
theorem r_iT1 (h : H p = some (.tup xs)) {j : Int} (e : atI xs j = some v) (k : Q v H) : rIxT K (.ref p) (.int j) H Q := ⟨p, xs, j, v, rfl, rfl, SqT.of h, e, k⟩
end
/-- a comprehension's items, all new objects -/
structure Acc (P : Nat → Addr → Hp → Prop) (acc : List V) (i : Nat) (H : Hp) : Prop where
  len : acc.length = i
  at_ : ∀ j, j < i → ∃ p : Addr, acc[j]? = some (V.ref p) ∧ P j p H
theorem Acc.nil {P : Nat → Addr → Hp → Prop} {H : Hp} : Acc P [] 0 H := ⟨rfl, fun j h => absurd h (Nat.not_lt_zero j)⟩
theorem Acc.snoc {P : Nat → Addr → Hp → Prop} {acc : List V} {i : Nat} {H H' : Hp} {p : Addr} (hP : ∀ j q, P j q H → P j q H') (a : Acc P acc i H) (h : P i p H') : Acc P (acc ++ [V.ref p]) (i + 1) H' := by
  refine ⟨by rw [List.length_append, a.len]; rfl, fun j hj => ?_⟩
  by_cases e : j < i
  · obtain ⟨q, h1, h2⟩ := a.at_ j e
    exact ⟨q, by rw [List.getElem?_append_left (by rw [a.len]; exact e)]; exact h1, hP j q h2⟩
  · have : j = i := by omega
    subst this
    exact ⟨p, by rw [List.getElem?_append_right (by rw [a.len]; omega), a.len]; simp, h⟩
theorem r_iRC {i j c : Int} {n : Nat} {H : Hp} {R : It → Hp → Prop} (h : RgC i j c n) (k : R (Itc i c n) H) : ItR3 [.int i, .int j, .int c] H R := ⟨i, j, c, n, rfl, h, k⟩
theorem rg2 {m : Nat} (h : 2 ≤ m) (h' : m ≤ 1000000) : RgC 0 ((m : Int) - 1) 2 (m / 2) := by
  have e : Builtin.Range.rangeSize 0 ((m : Int) - 1) 2 = ((m / 2 : Nat) : Int) := by
    unfold Builtin.Range.rangeSize
    rw [if_pos (by decide), if_pos (by omega)]; omega
  refine ⟨by decide, by decide, ?_, e⟩
  unfold Builtin.Range.small
  rw [e]
  simp only [Builtin.Range.rangeFitsLong, Bool.and_eq_true, Bool.or_eq_true, decide_eq_true_eq, beq_iff_eq, show (2 : Int) > 0 by decide, if_true]
  omega
end
section
open PySem PySem.Spec PyProof.Rows L2
theorem rlt_asymm {a b : Rat} (h : a < b) : ¬ b < a := by grind
theorem rlt_trans {a b c : Rat} (h : a < b) (h' : b < c) : a < c := by grind
theorem rlt_tri {a b : Rat} (h : a ≠ b) : a < b ∨ b < a := by grind
def lexLt : List Rat → List Rat → Bool
  | a :: as, b :: bs => if a = b then lexLt as bs else decide (a < b)
  | [], _ :: _ => true
  | _, [] => false
theorem lexLt_asymm : ∀ a b : List Rat, lexLt a b = true → lexLt b a = false
  | [], [], h => by cases h
  | [], _ :: _, _ => rfl
  | _ :: _, [], h => by cases h
  | a :: as, b :: bs, h => by
    unfold lexLt at h ⊢
    by_cases e : a = b
    · rw [if_pos e] at h; rw [if_pos e.symm]; exact lexLt_asymm as bs h
    · rw [if_neg e] at h; rw [if_neg (fun z => e z.symm)]
      rw [decide_eq_true_iff] at h; rw [decide_eq_false_iff_not]
      exact rlt_asymm h
theorem lexLt_step : ∀ a b c : List Rat, lexLt c a = true → lexLt c b = true ∨ lexLt b a = true
  | [], _, [], h => by cases h
  | [], _, _ :: _, h => by cases h
  | _ :: _, [], [], _ => .inr rfl
  | _ :: _, _ :: _, [], _ => .inl rfl
  | _ :: _, [], _ :: _, _ => .inr rfl
  | a :: as, b :: bs, c :: cs, h => by
    unfold lexLt at h ⊢
    by_cases e : c = a
    · rw [if_pos e] at h
      subst e
      by_cases e2 : c = b
      · rw [if_pos e2, if_pos e2.symm]; exact lexLt_step as bs cs h
      · rw [if_neg e2, if_neg (fun z => e2 z.symm), decide_eq_true_iff, decide_eq_true_iff]
        rcases rlt_tri e2 with z | z
        · exact .inl z
        · exact .inr z
    · rw [if_neg e, decide_eq_true_iff] at h
      by_cases e2 : c = b
      · subst e2; rw [if_neg e, decide_eq_true_iff]; exact .inr h
      · rw [if_neg e2, decide_eq_true_iff]
        rcases rlt_tri e2 with z | z
        · exact .inl z
        · right
          rw [if_neg (fun w => by subst w; exact rlt_asymm h z), decide_eq_true_iff]
          exact rlt_trans z h
def leftOf (n i : Nat) (σ : L2.St) : Nat := match σ[i]? with
  | some (some (V.int a)) => n - a.toNat
  | _ => 0
/-- the Ratios of a tuple or list -/
def RsL (C : Addr) (H : Hp) (xs : List V) (k : List Rat) : Prop := xs.length = k.length ∧ ∀ (i : Nat) (q : Rat), k[i]? = some q → ∃ p : Addr, xs[i]? = some (V.ref p) ∧ IsR C H p q
def KeyT (C : Addr) (H : Hp) (a : Addr) (k : List Rat) : Prop := ∃ xs, H a = some (.tup xs) ∧ RsL C H xs k
def Keys (C : Addr) (H : Hp) (a : Addr) (ks : List (List Rat)) : Prop := ∃ xs, H a = some (.lst xs) ∧ xs.length = ks.length ∧ ∀ (i : Nat) (k : List Rat), ks[i]? = some k → ∃ p : Addr, xs[i]? = some (V.ref p) ∧ KeyT C H p k
/-- keys of one length, of no great numbers -/
def KOk (m : Nat) (ks : List (List Rat)) : Prop := ∀ k ∈ ks, k.length = m ∧ ∀ q ∈ k, Bq q
abbrev nat (n : Nat) : V := .int n
def leK (ks : List (List Rat)) (i j : Nat) : Bool := !(lexLt (ks.getD j []) (ks.getD i []))
def spBefore (C : Addr) : Sp := fun vs H Q _ => ∃ (a b : Addr) (ka kb : List Rat), vs = [.ref a, .ref b] ∧ KeyT C H a ka ∧ KeyT C H b kb ∧ ka.length = kb.length ∧ (∀ q ∈ ka, Bq q) ∧ (∀ q ∈ kb, Bq q) ∧ NewV Q H (.bl (lexLt ka kb))
def spMerged (C : Addr) : Sp := fun vs H Q _ => ∃ (l r k : Addr) (L R : List Nat) (ks : List (List Rat)) (m : Nat), vs = [.ref l, .ref r, .ref k] ∧ H l = some (.lst (L.map nat)) ∧ H r = some (.lst (R.map nat)) ∧ Keys C H k ks ∧ KOk m ks ∧ L.length + R.length ≤ 1000 ∧ (∀ i ∈ L, i < ks.length) ∧ (∀ i ∈ R, i < ks.length) ∧
  ∀ (H' : Hp) (p : Addr), Ex H H' → H p = none → H' p = some (.lst ((List.merge L R (leK ks)).map nat)) → Q (.ref p) H'
def spRanked (C : Addr) : Sp := fun vs H Q _ => ∃ (k : Addr) (ks : List (List Rat)) (m : Nat), vs = [.ref k] ∧ Keys C H k ks ∧ KOk m ks ∧ ks.length ≤ 1000 ∧
  ∀ (H' : Hp) (p : Addr) (idx : List Nat), Ex H H' → H' p = some (.lst (idx.map nat)) → idx.Perm (List.range ks.length) → idx.Pairwise (fun i j => leK ks i j = true) → Q (.ref p) H'
def spAscending (C : Addr) : Sp := fun vs H Q _ => ∃ (k : Addr) (xs : List V) (qs : List Rat), vs = [.ref k] ∧ SeqAt1 H k xs ∧ xs.length = qs.length ∧ (∀ (i : Nat) (q : Rat), qs[i]? = some q → ∃ v, xs[i]? = some v ∧ NumV C H v q) ∧ (∀ q ∈ qs, Bq q) ∧ qs.length ≤ 1000 ∧
  ∀ (H' : Hp) (p : Addr) (ys : List V) (rs : List Rat), Ex H H' → H p = none → H' p = some (.lst ys) → RsL C H' ys rs → rs.Perm qs → rs.Pairwise (· ≤ ·) → Q (.ref p) H'
theorem lex_at {C : Addr} {H : Hp} {xs ys : List V} {ka kb : List Rat} {x y : V} {i : Nat} (hx : RsL C H xs ka) (hy : RsL C H ys kb) (hl : ka.length = kb.length) (h1 : xs[i]? = some x) (h2 : ys[i]? = some y) :
    ∃ q p r p', ka[i]? = some q ∧ kb[i]? = some r ∧ x = .ref p ∧ y = .ref p' ∧ IsR C H p q ∧ IsR C H p' r ∧ lexLt (ka.drop i) (kb.drop i) = if q = r then lexLt (ka.drop (i + 1)) (kb.drop (i + 1)) else decide (q < r) := by
  have i1 : i < xs.length := (List.getElem?_eq_some_iff.mp h1).1
  have ia : i < ka.length := by rw [← hx.1]; exact i1
  have ib : i < kb.length := by rw [← hl]; exact ia
  obtain ⟨p, hp, R1⟩ := hx.2 i ka[i] (List.getElem?_eq_getElem ia)
  obtain ⟨p', hp', R2⟩ := hy.2 i kb[i] (List.getElem?_eq_getElem ib)
  rw [hp] at h1; rw [hp'] at h2
  cases h1; cases h2
  refine ⟨ka[i], p, kb[i], p', List.getElem?_eq_getElem ia, List.getElem?_eq_getElem ib, rfl, rfl, R1, R2, ?_⟩
  rw [List.drop_eq_getElem_cons ia, List.drop_eq_getElem_cons ib]
  rfl
theorem leK_trans (ks : List (List Rat)) (a b c : Nat) (h1 : leK ks a b = true) (h2 : leK ks b c = true) : leK ks a c = true := by
  unfold leK at *
  rw [Bool.not_eq_true'] at *
  cases h : lexLt (ks.getD c []) (ks.getD a []) with
  | false => rfl
  | true =>
    rcases lexLt_step _ (ks.getD b []) _ h with z | z
    · rw [z] at h2; cases h2
    · rw [z] at h1; cases h1
theorem leK_total (ks : List (List Rat)) (a b : Nat) : (leK ks a b || leK ks b a) = true := by
  unfold leK
  cases h : lexLt (ks.getD b []) (ks.getD a []) with
  | false => rfl
  | true => rw [lexLt_asymm _ _ h]; rfl
/-- one step of a merge -/
theorem merge_at {le : Nat → Nat → Bool} {L R : List Nat} {a i x y : Nat} (hx : L[a]? = some x) (hy : R[i]? = some y) :
    List.merge (L.drop a) (R.drop i) le = if le x y = true then x :: List.merge (L.drop (a + 1)) (R.drop i) le else y :: List.merge (L.drop a) (R.drop (i + 1)) le := by
  obtain ⟨ha, rfl⟩ := List.getElem?_eq_some_iff.mp hx
  obtain ⟨hi, rfl⟩ := List.getElem?_eq_some_iff.mp hy
  rw [List.drop_eq_getElem_cons ha, List.drop_eq_getElem_cons hi, List.cons_merge_cons]
theorem nat_at {L : List Nat} {i : Nat} {v : V} (h : (L.map nat)[i]? = some v) : ∃ x, L[i]? = some x ∧ v = nat x := by
  rw [List.getElem?_map] at h
  cases e : L[i]? with
  | none => rw [e] at h; cases h
  | some x => rw [e] at h; exact ⟨x, rfl, (Option.some.inj h).symm⟩
theorem key_at {C : Addr} {H : Hp} {xs : List V} {ks : List (List Rat)} {i : Nat} (hl : xs.length = ks.length) (h : ∀ (i : Nat) (k : List Rat), ks[i]? = some k → ∃ p : Addr, xs[i]? = some (V.ref p) ∧ KeyT C H p k) (hi : i < ks.length) :
    ∃ p, atI xs (i : Int) = some (V.ref p) ∧ KeyT C H p (ks.getD i []) := by
  obtain ⟨p, h1, h2⟩ := h i ks[i] (List.getElem?_eq_getElem hi)
  refine ⟨p, atI_nat h1, ?_⟩
  rw [List.getD_eq_getElem?_getD, List.getElem?_eq_getElem hi]; exact h2
theorem key_ok {m : Nat} {ks : List (List Rat)} {i : Nat} (h : KOk m ks) (hi : i < ks.length) : (ks.getD i []).length = m ∧ ∀ q ∈ ks.getD i [], Bq q := by
  rw [List.getD_eq_getElem?_getD, List.getElem?_eq_getElem hi]; exact h _ (List.getElem_mem hi)
theorem RsL.ex {C : Addr} {H H' : Hp} {xs : List V} {k : List Rat} (e : Ex H H') (h : RsL C H xs k) : RsL C H' xs k := ⟨h.1, fun i q hq => by
  obtain ⟨p, h1, h2⟩ := h.2 i q hq
  exact ⟨p, h1, h2.ex e⟩⟩
theorem KeyT.ex {C a : Addr} {H H' : Hp} {k : List Rat} (e : Ex H H') (h : KeyT C H a k) : KeyT C H' a k := by
  obtain ⟨xs, h1, h2⟩ := h
  exact ⟨xs, e _ _ h1, h2.ex e⟩
theorem Keys.ex {C a : Addr} {H H' : Hp} {k : List (List Rat)} (e : Ex H H') (h : Keys C H a k) : Keys C H' a k := by
  obtain ⟨xs, h1, h2, h3⟩ := h
  exact ⟨xs, e _ _ h1, h2, fun i k hk => by
    obtain ⟨p, h4, h5⟩ := h3 i k hk
    exact ⟨p, h4, h5.ex e⟩⟩
theorem cutV_from {xs : List V} {a : Nat} (h : a ≤ xs.length) : cutV xs (some (a : Int)) none = xs.drop a := by
  unfold cutV
  have e1 : HT.sIx xs.length 0 (some (a : Int)) = a := by
    unfold HT.sIx
    show (if (a : Int) < 0 then ((a : Int) + xs.length).toNat else min (a : Int).toNat xs.length) = a
    rw [if_neg (by omega)]; omega
  have e2 : HT.sIx xs.length xs.length none = xs.length := rfl
  rw [e1, e2, List.take_of_length_le (by rw [List.length_drop]; omega)]
/-- a list of lists of indexes -/
def RowsAt (H : Hp) (r : Addr) (rs : List (List Nat)) : Prop := ∃ xs, H r = some (.lst xs) ∧ Acc (fun j p H => ∃ s, rs[j]? = some s ∧ H p = some (.lst (s.map nat))) xs rs.length H
theorem RowsAt.ex {H H' : Hp} {r : Addr} {rs : List (List Nat)} (e : Ex H H') (h : RowsAt H r rs) : RowsAt H' r rs := by
  obtain ⟨xs, h1, h2⟩ := h
  exact ⟨xs, e _ _ h1, h2.len, fun j hj => by
    obtain ⟨p, h3, s, h4, h5⟩ := h2.at_ j hj
    exact ⟨p, h3, s, h4, e _ _ h5⟩⟩
def rowsLeft (σ : L2.St) (H : Hp) : Nat := match σ[1]? with
  | some (some (V.ref r)) => (match H r with | some (.lst xs) => xs.length | _ => 0)
  | _ => 0
theorem rowsLeft_at {a b c d : Option V} {r : Addr} {H : Hp} {rs : List (List Nat)} (h : RowsAt H r rs) : rowsLeft [a, some (V.ref r), b, c, d] H = rs.length := by
  obtain ⟨xs, h1, h2⟩ := h
  show (match H r with | some (.lst xs) => xs.length | _ => 0) = _
  rw [h1]; exact h2.len
/-- pairs of rows merged -/
def joinRows (le : Nat → Nat → Bool) : List (List Nat) → List (List Nat)
  | a :: b :: rs => List.merge a b le :: joinRows le rs
  | rs => rs
theorem joinRows_perm (le : Nat → Nat → Bool) : ∀ rs, (joinRows le rs).flatten.Perm rs.flatten
  | [] => .refl _
  | [_] => .refl _
  | a :: b :: rs => by
    show (List.merge a b le ++ (joinRows le rs).flatten).Perm (a ++ (b ++ rs.flatten))
    rw [← List.append_assoc]
    exact (List.merge_perm_append le).append (joinRows_perm le rs)
theorem joinRows_sorted {le : Nat → Nat → Bool} (tr : ∀ a b c, le a b = true → le b c = true → le a c = true) (to : ∀ a b, (le a b || le b a) = true) : ∀ rs : List (List Nat), (∀ s ∈ rs, s.Pairwise (fun a b => le a b = true)) → ∀ s ∈ joinRows le rs, s.Pairwise (fun a b => le a b = true)
  | [], h => h
  | [_], h => h
  | a :: b :: rs, h => by
    intro s hs
    rcases List.mem_cons.mp hs with e | e
    · subst e
      exact List.pairwise_merge tr to a b (h a (by simp)) (h b (by simp))
    · exact joinRows_sorted tr to rs (fun s z => h s (by simp [z])) s e
theorem joinRows_length (le : Nat → Nat → Bool) : ∀ rs, (joinRows le rs).length = (rs.length + 1) / 2
  | [] => rfl
  | [_] => by simp [joinRows]
  | a :: b :: rs => by
    show (joinRows le rs).length + 1 = (rs.length + 1 + 1 + 1) / 2
    rw [joinRows_length le rs]; omega
theorem joinRows_at (le : Nat → Nat → Bool) : ∀ (rs : List (List Nat)) (i : Nat), 2 * i + 1 < rs.length → ∃ a b, rs[2 * i]? = some a ∧ rs[2 * i + 1]? = some b ∧ (joinRows le rs)[i]? = some (List.merge a b le)
  | [], i, h => by simp at h
  | [_], i, h => by simp at h
  | a :: b :: rs, 0, h => ⟨a, b, rfl, rfl, rfl⟩
  | a :: b :: rs, i + 1, h => by
    obtain ⟨x, y, h1, h2, h3⟩ := joinRows_at le rs i (by simp at h; omega)
    refine ⟨x, y, ?_, ?_, h3⟩
    · rw [show 2 * (i + 1) = 2 * i + 1 + 1 from by omega]; exact h1
    · rw [show 2 * (i + 1) + 1 = 2 * i + 1 + 1 + 1 from by omega]; exact h2
theorem joinRows_tail (le : Nat → Nat → Bool) : ∀ rs : List (List Nat), (joinRows le rs).drop (rs.length / 2) = rs.drop (rs.length / 2 * 2)
  | [] => rfl
  | [_] => by simp [joinRows]
  | a :: b :: rs => by
    show (List.merge a b le :: joinRows le rs).drop ((rs.length + 1 + 1) / 2) = (a :: b :: rs).drop ((rs.length + 1 + 1) / 2 * 2)
    rw [show (rs.length + 1 + 1) / 2 = rs.length / 2 + 1 from by omega, show (rs.length / 2 + 1) * 2 = rs.length / 2 * 2 + 1 + 1 from by omega]
    exact joinRows_tail le rs
theorem flat_mem {n : Nat} {rs : List (List Nat)} (h : rs.flatten.Perm (List.range n)) {s : List Nat} (hs : s ∈ rs) : ∀ i ∈ s, i < n := fun i hi => by
  have : i ∈ List.range n := h.mem_iff.mp (List.mem_flatten.mpr ⟨s, hs, hi⟩)
  exact List.mem_range.mp this
theorem flat_len : ∀ {rs : List (List Nat)} {a b : Nat} {s t : List Nat}, rs[a]? = some s → rs[b]? = some t → a < b → s.length + t.length ≤ rs.flatten.length
  | [], _, _, _, _, h, _, _ => by simp at h
  | r :: rs, 0, b + 1, s, t, h1, h2, _ => by
    cases h1
    have : t.length ≤ rs.flatten.length := by
      have hm : t ∈ rs := List.mem_of_getElem? h2
      obtain ⟨l1, l2, rfl⟩ := List.append_of_mem hm
      simp; omega
    show r.length + t.length ≤ (r ++ rs.flatten).length
    rw [List.length_append]; omega
  | r :: rs, a + 1, b + 1, s, t, h1, h2, hab => by
    have := flat_len (rs := rs) (a := a) (b := b) h1 h2 (by omega)
    show _ ≤ (r ++ rs.flatten).length
    rw [List.length_append]; omega
theorem rows_next {le : Nat → Nat → Bool} {rs : List (List Nat)} {acc xs : List V} {H H' : Hp} {L p : Addr} (hx : Acc (fun j p H => ∃ s, rs[j]? = some s ∧ H p = some (.lst (s.map nat))) xs rs.length H)
    (ha : Acc (fun j p H => p ≠ L ∧ ∃ s, (joinRows le rs)[j]? = some s ∧ H p = some (.lst (s.map nat))) acc (rs.length / 2) H) (e : Ex H H') (hp : H' p = some (.lst (acc ++ xs.drop (rs.length / 2 * 2)))) : RowsAt H' p (joinRows le rs) := by
  refine ⟨_, hp, ?_, fun j hj => ?_⟩
  · rw [List.length_append, ha.len, List.length_drop, hx.len, joinRows_length]; omega
  · rw [joinRows_length] at hj
    by_cases h : j < rs.length / 2
    · obtain ⟨q, h1, _, s, h3, h4⟩ := ha.at_ j h
      exact ⟨q, by rw [List.getElem?_append_left (by rw [ha.len]; exact h)]; exact h1, s, h3, e _ _ h4⟩
    · have hj2 : rs.length / 2 * 2 + (j - rs.length / 2) < rs.length := by omega
      obtain ⟨q, h1, s, h3, h4⟩ := hx.at_ _ hj2
      refine ⟨q, by rw [List.getElem?_append_right (by rw [ha.len]; omega), ha.len, List.getElem?_drop]; exact h1, s, ?_, e _ _ h4⟩
      have t := congrArg (fun l => l[j - rs.length / 2]?) (joinRows_tail le rs)
      simp only [List.getElem?_drop] at t
      rw [show rs.length / 2 + (j - rs.length / 2) = j from by omega] at t
      rw [t]; exact h3
theorem RsL.put {C L : Addr} {H : Hp} {xs ys : List V} {k : List Rat} {o : HO} (h : RsL C H xs k) (hl : H L = some (.lst ys)) : RsL C (upd H L o) xs k := ⟨h.1, fun i q hq => by
  obtain ⟨p, h1, h2⟩ := h.2 i q hq
  exact ⟨p, h1, h2.put hl⟩⟩
theorem KeyT.put {C a L : Addr} {H : Hp} {ys : List V} {k : List Rat} {o : HO} (h : KeyT C H a k) (hl : H L = some (.lst ys)) : KeyT C (upd H L o) a k := by
  obtain ⟨xs, h1, h2⟩ := h
  exact ⟨xs, by rw [upd_ne (ne_of h1 hl (by intro z; cases z))]; exact h1, h2.put hl⟩
theorem RsL.of_acc {C : Addr} {H : Hp} {xs : List V} {qs : List Rat} (h : Acc (fun j p H => ∃ q, qs[j]? = some q ∧ IsR C H p q) xs qs.length H) : RsL C H xs qs := ⟨h.len, fun i q hq => by
  obtain ⟨p, h1, q', h2, h3⟩ := h.at_ i (List.getElem?_eq_some_iff.mp hq).1
  rw [hq] at h2; cases h2
  exact ⟨p, h1, h3⟩⟩
theorem one_key {C : Addr} {H : Hp} {a : Addr} {p : Addr} {q : Rat} (h : H a = some (.tup [V.ref p])) (hp : IsR C H p q) : KeyT C H a [q] := ⟨_, h, rfl, fun i r hr => by
  match i, hr with
  | 0, hr => cases hr; exact ⟨p, rfl, hp⟩⟩
theorem ord_perm {qs : List Rat} {idx : List Nat} (h : idx.Perm (List.range qs.length)) : (idx.map fun i => qs.getD i 0).Perm qs := by
  have := h.map (fun i => qs.getD i 0)
  refine this.trans (List.Perm.of_eq ?_)
  apply List.ext_getElem?
  intro i
  rw [List.getElem?_map]
  by_cases hi : i < qs.length
  · rw [List.getElem?_range hi, List.getElem?_eq_getElem hi]
    show some (qs.getD i 0) = _
    rw [List.getD_eq_getElem?_getD, List.getElem?_eq_getElem hi]; rfl
  · rw [List.getElem?_eq_none (by rw [List.length_range]; omega), List.getElem?_eq_none (by omega)]; rfl
theorem ord_sorted {qs : List Rat} {idx : List Nat} (hlt : ∀ i ∈ idx, i < qs.length) (h : idx.Pairwise (fun i j => leK (qs.map fun q => [q]) i j = true)) : (idx.map fun i => qs.getD i 0).Pairwise (· ≤ ·) := by
  rw [List.pairwise_map]
  refine List.Pairwise.imp_of_mem (fun {a b} ha hb z => ?_) h
  have la := hlt a ha
  have lb := hlt b hb
  unfold leK at z
  rw [List.getD_eq_getElem?_getD, List.getD_eq_getElem?_getD, List.getElem?_map, List.getElem?_map, List.getElem?_eq_getElem la, List.getElem?_eq_getElem lb] at z
  rw [List.getD_eq_getElem?_getD, List.getD_eq_getElem?_getD, List.getElem?_eq_getElem la, List.getElem?_eq_getElem lb]
  show qs[a] ≤ qs[b]
  have z' : (!(if qs[b] = qs[a] then lexLt [] [] else decide (qs[b] < qs[a]))) = true := z
  by_cases e : qs[b] = qs[a]
  · rw [e]; exact Rat.le_refl
  · rw [if_neg e, Bool.not_eq_true', decide_eq_false_iff_not, Rat.not_lt] at z'; exact z'
/-- least (m = 0), greatest (m = 1) -/
def spLeast (C CN : Addr) (m : Nat) : Sp := fun vs H Q E => ∃ (k : Addr) (xs : List V), vs = [.ref k] ∧ SeqAt1 H k xs ∧ ((xs = [] ∧ Rz E CN "number" (.int 0) H) ∨
  ∃ qs : List Rat, xs.length = qs.length ∧ (∀ (i : Nat) (q : Rat), qs[i]? = some q → ∃ v, xs[i]? = some v ∧ NumV C H v q) ∧ (∀ q ∈ qs, Bq q) ∧ qs.length ≤ 1000 ∧ 0 < qs.length ∧
  ∀ (H' : Hp) (p : Addr) (rs : List Rat) (q : Rat), Ex H H' → rs.Perm qs → rs.Pairwise (· ≤ ·) → ((m = 0 ∧ rs[0]? = some q) ∨ (m = 1 ∧ rs[rs.length - 1]? = some q)) → IsR C H' p q → Q (.ref p) H')
def spII (g : Int → Int → Int) : Sp := fun vs H Q _ => ∃ a b : Int, vs = [.int a, .int b] ∧ Bt a ∧ Bt b ∧ Q (.int (g a b)) H
theorem atI_last {xs : List V} {v : V} (h : 0 < xs.length) (e : xs[xs.length - 1]? = some v) : atI xs (-1) = some v := by
  unfold atI
  have : ixN xs.length (-1) = some (xs.length - 1) := by
    unfold ixN
    rw [if_neg (by decide), if_pos (by omega)]
    congr 1
    omega
  rw [this]; exact e
/-- math.lcm -/
def rLcm : List V → Hp → VK → Prop := fun vs H Q => ∃ a b : Int, vs = [.int a, .int b] ∧ Bt a ∧ Bt b ∧ Q (.int ((Int.lcm a b : Nat) : Int)) H
theorem bt_log {a : Nat} (h : a < 2 ^ 4000) : a.log2 < 4000 := PySem.Flt.log2_lt_of (by decide) h
theorem cr_lcm {X : Cx} : CallR X (.builtin "math.lcm") rLcm := by
  intro pins s σ H vs us Q I r h
  obtain ⟨a, b, rfl, ha, hb, q⟩ := h
  obtain ⟨t, u, rfl⟩ := Vals.int2 r
  have la := bt_log ha
  have lb := bt_log hb
  have e : ((Nat.lcm 1 a.natAbs).lcm b.natAbs) = Int.lcm a b := by rw [Nat.lcm_one_left]; rfl
  have l1 : (max 1 a.natAbs).log2 < 4000 := by
    rcases Nat.le_total 1 a.natAbs with z | z
    · rw [Nat.max_eq_right z]; exact la
    · rw [Nat.max_eq_left z]; decide
  have l2 : (max a.natAbs b.natAbs).log2 < 4000 := by
    rcases Nat.le_total a.natAbs b.natAbs with z | z
    · rw [Nat.max_eq_right z]; exact lb
    · rw [Nat.max_eq_left z]; exact la
  have l3 : (((Nat.lcm 1 a.natAbs).lcm b.natAbs : Nat) : Int).natAbs.log2 < bitsLine := by
    rw [Int.natAbs_natCast, e]
    have : Int.lcm a b < 2 ^ 8000 := by
      show Nat.lcm a.natAbs b.natAbs < _
      refine Nat.lt_of_le_of_lt (Nat.div_le_self _ _) ?_
      exact pow_mono (pow_mul_lt ha hb) (by decide)
    have z := PySem.Flt.log2_lt_of (by decide) this
    have e : bitsLine = 134217728 := by decide
    omega
  exact call_function_meets PySem.W.MGF.kind_lcm PySem.W.MGF.plain_lcm PySem.W.MGF.entry_lcm (PySem.W.MGF.args_lcm _ _) (PySem.W.mg_run_lcm a t b u (by omega) (by omega) l3).meets ⟨.int _, H, I.tok _, ⟨_, rfl⟩, by rw [e]; exact q⟩
def spBez : Sp := fun vs H Q _ => ∃ a b : Int, vs = [.int a, .int b] ∧ Bt a ∧ Bt b ∧ ∀ (H' : Hp) (p : Addr) (s t : Int), Ex H H' → H p = none → H' p = some (.tup [.int ((Int.gcd a b : Nat) : Int), .int s, .int t]) → s * a + t * b = ((Int.gcd a b : Nat) : Int) → s.natAbs < 2 ^ 4002 → t.natAbs < 2 ^ 8010 → Q (.ref p) H'
/-- the state of the walk -/
structure Bez (a b u l s f : Int) : Prop where
  co : ∃ x y, u = s * a + x * b ∧ l = f * a + y * b
  gc : Int.gcd u l = Int.gcd a b
  ab : f.natAbs * u.natAbs + s.natAbs * l.natAbs = b.natAbs
  sg : (u = a ∧ l = b ∧ s = 1 ∧ f = 0) ∨ (u ≠ 0 ∧ ((0 ≤ u ∧ 0 ≤ l) ∨ (u ≤ 0 ∧ l ≤ 0)) ∧ ((0 ≤ s ∧ f ≤ 0) ∨ (s ≤ 0 ∧ 0 ≤ f)))
  bs : s.natAbs ≤ b.natAbs + 1
  bf : f.natAbs ≤ b.natAbs + 1
  bu : u.natAbs ≤ a.natAbs + b.natAbs
  bl : l.natAbs ≤ b.natAbs
theorem Bez.start (a b : Int) : Bez a b a b 1 0 := ⟨⟨0, 1, by omega, by omega⟩, rfl, by simp, .inl ⟨rfl, rfl, rfl, rfl⟩, by simp, by simp, by omega, Nat.le_refl _⟩
theorem fmod_facts {u l : Int} (h : l ≠ 0) : (0 < l → 0 ≤ u - u.fdiv l * l ∧ u - u.fdiv l * l < l) ∧ (l < 0 → l < u - u.fdiv l * l ∧ u - u.fdiv l * l ≤ 0) := by
  have e : u - u.fdiv l * l = u.fmod l := by rw [Int.fmod_def, Int.mul_comm]
  rw [e]
  exact ⟨fun hl => ⟨Int.fmod_nonneg_of_pos u hl, Int.fmod_lt_of_pos u hl⟩, fun hl => ⟨by
    have := Int.fmod_lt_of_pos (-u) (show 0 < -l by omega)
    have e2 := Int.neg_fmod_neg (a := u) (b := l)
    omega, by
    have := Int.fmod_nonneg_of_pos (-u) (show 0 < -l by omega)
    have e2 := Int.neg_fmod_neg (a := u) (b := l)
    omega⟩⟩
theorem abs_p {x : Int} (h : 0 ≤ x) : (x.natAbs : Int) = x := Int.natAbs_of_nonneg h
theorem abs_n {x : Int} (h : x ≤ 0) : (x.natAbs : Int) = -x := by omega
theorem Bez.step {a b u l s f q : Int} (B : Bez a b u l s f) (h : l ≠ 0) (hq : q = u.fdiv l) : Bez a b l (u - q * l) f (s - q * f) ∧ (u - q * l).natAbs < l.natAbs := by
  obtain ⟨⟨x, y, e1, e2⟩, gc, ab, sg, bs, bf, bu, bl⟩ := B
  have fm := fmod_facts (u := u) h
  rw [← hq] at fm
  have lt : (u - q * l).natAbs < l.natAbs := by
    rcases Int.lt_or_gt_of_ne h with z | z
    · have := fm.2 z; omega
    · have := fm.1 z; omega
  have sgn : (0 ≤ l ∧ 0 ≤ u - q * l) ∨ (l ≤ 0 ∧ u - q * l ≤ 0) := by
    rcases Int.lt_or_gt_of_ne h with z | z
    · exact .inr ⟨by omega, (fm.2 z).2⟩
    · exact .inl ⟨by omega, (fm.1 z).1⟩
  have gc' : Int.gcd l (u - q * l) = Int.gcd a b := by
    rw [← gc, Int.gcd_comm u l]
    have : u - q * l = u + l * (-q) := by grind
    rw [this, Int.gcd_add_mul_left_right]
  have co' : ∃ x y, l = f * a + x * b ∧ u - q * l = (s - q * f) * a + y * b := ⟨y, x - q * y, e2, by rw [e1]; grind⟩
  have main : (s - q * f).natAbs * l.natAbs + f.natAbs * (u - q * l).natAbs = b.natAbs ∧ ((0 ≤ f ∧ s - q * f ≤ 0) ∨ (f ≤ 0 ∧ 0 ≤ s - q * f)) := by
    rcases sg with ⟨rfl, rfl, rfl, rfl⟩ | ⟨hu, hs, hsf⟩
    · refine ⟨by simp, .inr ⟨by omega, by omega⟩⟩
    · have q0 : 0 ≤ q := by
        rw [hq]
        rcases hs with ⟨z1, z2⟩ | ⟨z1, z2⟩
        · exact Int.fdiv_nonneg z1 z2
        · rw [← Int.neg_fdiv_neg]; exact Int.fdiv_nonneg (by omega) (by omega)
      have key : (0 ≤ f ∧ s - q * f ≤ 0 ∧ s ≤ 0) ∨ (f ≤ 0 ∧ 0 ≤ s - q * f ∧ 0 ≤ s) := by
        rcases hsf with ⟨z1, z2⟩ | ⟨z1, z2⟩
        · right
          have := Int.mul_nonpos_of_nonneg_of_nonpos q0 z2
          exact ⟨z2, by omega, z1⟩
        · left
          have := Int.mul_nonneg q0 z2
          exact ⟨z2, by omega, z1⟩
      refine ⟨?_, key.elim (fun z => .inl ⟨z.1, z.2.1⟩) (fun z => .inr ⟨z.1, z.2.1⟩)⟩
      have hs' : (0 ≤ l ∧ 0 ≤ u ∧ 0 ≤ u - q * l) ∨ (l ≤ 0 ∧ u ≤ 0 ∧ u - q * l ≤ 0) := by
        rcases Int.lt_or_gt_of_ne h with z | z
        · right
          have := fm.2 z
          exact ⟨by omega, by omega, by omega⟩
        · left
          have := fm.1 z
          exact ⟨by omega, by omega, by omega⟩
      apply Int.ofNat_inj.mp
      rw [← ab]
      push_cast
      rcases key with ⟨k1, k2, k3⟩ | ⟨k1, k2, k3⟩ <;> rcases hs' with ⟨l1, l2, l3⟩ | ⟨l1, l2, l3⟩
      · rw [abs_n k2, abs_p l1, abs_p k1, abs_p l3, abs_p l2, abs_n k3]; grind
      · rw [abs_n k2, abs_n l1, abs_p k1, abs_n l3, abs_n l2, abs_n k3]; grind
      · rw [abs_p k2, abs_p l1, abs_n k1, abs_p l3, abs_p l2, abs_p k3]; grind
      · rw [abs_p k2, abs_n l1, abs_n k1, abs_n l3, abs_n l2, abs_p k3]; grind
  have bnd : (s - q * f).natAbs ≤ b.natAbs := by
    have h1 : 1 ≤ l.natAbs := by omega
    have := Nat.mul_le_mul_left (s - q * f).natAbs h1
    omega
  exact ⟨⟨co', gc', main.1, .inr ⟨h, sgn, main.2⟩, bf, by omega, by omega, by omega⟩, lt⟩
/-- the products of a step are not great -/
theorem Bez.small {a b u l s f q : Int} (B : Bez a b u l s f) (h : l ≠ 0) (hq : q = u.fdiv l) (ha : Bt a) (hb : Bt b) : CDivZ u l ∧ CMulA q l ∧ CMulA q f := by
  have st := (B.step h hq).2
  have bl := B.bl
  have bu := B.bu
  have bf := B.bf
  have a4 : a.natAbs < 2 ^ 4000 := ha
  have b4 : b.natAbs < 2 ^ 4000 := hb
  have e1 : (2 : Nat) ^ 4002 = 4 * 2 ^ 4000 := by rw [show (4002 : Nat) = 4000 + 2 from rfl, Nat.pow_add, Nat.mul_comm]
  have q1 : q.natAbs ≤ u.natAbs + l.natAbs := by
    have z : q.natAbs * l.natAbs ≤ u.natAbs + l.natAbs := by
      rw [← Int.natAbs_mul]; omega
    have h1 : 1 ≤ l.natAbs := by omega
    have := Nat.mul_le_mul_left q.natAbs h1
    omega
  have q2 : q.natAbs < 2 ^ 4002 := by rw [e1]; omega
  have p1 : 0 < 2 ^ 4000 := Nat.two_pow_pos 4000
  exact ⟨⟨h, Nat.lt_of_lt_of_le (Nat.lt_of_le_of_lt bl b4) (Nat.pow_le_pow_right (by decide) (by decide))⟩, cmA_w q2 (show l.natAbs < 2 ^ 4000 from Nat.lt_of_le_of_lt bl b4) (by decide), cmA_w q2 (show f.natAbs < 2 ^ 4002 by omega) (by decide)⟩
def absAt (i : Nat) (σ : L2.St) : Nat := match σ[i]? with
  | some (some (V.int a)) => a.natAbs
  | _ => 0
/-- the end of the walk -/
theorem Bez.fin {a b u s f : Int} (B : Bez a b u 0 s f) : (u.natAbs : Int) = ((Int.gcd a b : Nat) : Int) ∧ ∃ x, u = s * a + x * b := by
  obtain ⟨⟨x, y, e1, e2⟩, gc, ab, sg, bs, bf, bu, bl⟩ := B
  refine ⟨?_, x, e1⟩
  rw [← gc, Int.gcd_zero_right]
theorem bez_t {a b s t : Int} (e : s * a + t * b = ((Int.gcd a b : Nat) : Int)) (hb : b ≠ 0) (hs : s.natAbs < 2 ^ 4002) (ha : Bt a) (hb4 : Bt b) : t.natAbs < 2 ^ 8010 := by
  have h1 : t.natAbs ≤ (t * b).natAbs := by
    rw [Int.natAbs_mul]
    exact Nat.le_mul_of_pos_right _ (by omega)
  have h2 : t * b = ((Int.gcd a b : Nat) : Int) - s * a := by omega
  have h3 : (s * a).natAbs < 2 ^ (4002 + 4000) := lt_mul hs ha
  have h4 : Int.gcd a b < 2 ^ 4000 := Nat.lt_of_le_of_lt (gcd_le hb) hb4
  have h5 : (((Int.gcd a b : Nat) : Int) - s * a).natAbs < 2 ^ 8010 := lt_sub (n := 4000) (m := 8002) (by rw [Int.natAbs_natCast]; exact h4) h3 (by decide) (by decide)
  rw [← h2] at h5
  omega
theorem lcm_eq {a b : Int} : ((Int.lcm a b : Nat) : Int) = (a.natAbs : Int).fdiv ((Int.gcd a b : Nat) : Int) * (b.natAbs : Int) := by
  have hg : Int.gcd a b ∣ a.natAbs := Int.gcd_dvd_natAbs_left a b
  rw [Int.fdiv_eq_ediv_of_nonneg _ (by omega), ← Int.natCast_ediv, ← Int.natCast_mul]
  congr 1
  show a.natAbs * b.natAbs / Nat.gcd a.natAbs b.natAbs = a.natAbs / Nat.gcd a.natAbs b.natAbs * b.natAbs
  exact Nat.mul_div_right_comm hg b.natAbs
end
section
open PySem PySem.Spec PyProof.Rows L2 He
def oexB (K : PySem.W.Frag) (C : Addr) : Bool := (match K.lookup C with
  | some ⟨.type "type", _, .cls cd, sl⟩ => (match cd.mro, sl.toList with
    | .ref C' :: bm, [_, _, _, _, some (.builtin n), _] => decide (C' = C) && (decide (n = "ValueError.__new__") && (!cd.hasDel && (cd.hasDict && PySem.HandSPX.refsVE bm)))
    | _, _ => false)
  | _ => false) && (eqO (PySem.W.findIn K (.ref C) "__setattr__") (some (some (.builtin "object.__setattr__"))) && (decide (PySem.W.subIn K (.ref C) (.type "BaseException") = some true) && (decide (PySem.W.typeIn K (.ref C) = some (.type "type")) && PySem.W.keepIn K (.ref C))))
theorem oexB_ok {K : PySem.W.Frag} {C : Addr} (h : oexB K C = true) : OexC K C := by
  obtain ⟨h1, h2⟩ := ba h
  obtain ⟨h2, h3⟩ := ba h2
  obtain ⟨h3, h4⟩ := ba h3
  obtain ⟨h4, h5⟩ := ba h4
  refine ⟨?_, eqO_ok h2, of_decide_eq_true h3, of_decide_eq_true h4, h5⟩
  cases e : K.lookup C with
  | none => rw [e] at h1; cases h1
  | some o =>
    rw [e] at h1
    obtain ⟨oc, od, dt, sl⟩ := o
    skip
    split at h1
    · rename_i cd sl' ho
      cases ho
      split at h1
      · rename_i C' bm a0 a1 a2 a3 n a5 hm hs
        obtain ⟨nm, bs, mro, N, q, hd, sn, sub, ab, col, hdel⟩ := cd
        replace h1 : (decide (C' = C) && (decide (n = "ValueError.__new__") && (!hdel && (hd && PySem.HandSPX.refsVE bm)))) = true := h1
        simp only [Bool.and_eq_true, decide_eq_true_eq, Bool.not_eq_true'] at h1
        obtain ⟨e1, e2, e3, e4, g5⟩ := h1
        replace hm : mro = .ref C' :: bm := hm
        subst e1 e2 e3 e4 hm
        have e6 : sl = #[a0, a1, a2, a3, some (.builtin "ValueError.__new__"), a5] := by
          apply Array.ext'
          rw [hs]
        subst e6
        exact ⟨nm, q, N, bs, bm, sn, sub, ab, col, _, a0, a1, a2, a3, a5, rfl, g5⟩
      · cases h1
    · cases h1
def clsPB (K : PySem.W.Frag) (C : Addr) : Bool :=
  PySem.W.selfFirst K C && (decide (PySem.W.subIn K (.ref C) (.type "int") = some false) && (eqO (PySem.W.findIn K (.ref C) "__ne__") (some (some (.builtin "object.__ne__"))) && (eqO (PySem.W.findIn K (.ref C) "__class__") (some (some (.builtin "object.__class__"))) &&
  (decide (PySem.W.specialIn K (.builtin "object.__class__") "__get__" = some (some (.builtin "getset_descriptor.__get__"))) && (decide (PySem.W.takesIn K (.builtin "object.__class__") = some true) && (decide (PySem.W.mroIn K C (.type "object") = some true) &&
  (eqO (PySem.W.findIn K (.ref C) "__rpow__") (some none) && (decide (PySem.W.subIn K (.ref C) (.type "bool") = some false) && ((PySem.W.clsIn K C).isSome && decide (PySem.W.typeIn K (.ref C) = some (.type "type")))))))))))
theorem clsPB_ok {K : PySem.W.Frag} {C : Addr} (c : Cls K C) (h : clsPB K C = true) : ClsP K C := by
  obtain ⟨h1, h⟩ := ba h
  obtain ⟨h2, h⟩ := ba h
  obtain ⟨h3, h⟩ := ba h
  obtain ⟨h4, h⟩ := ba h
  obtain ⟨h5, h⟩ := ba h
  obtain ⟨h6, h⟩ := ba h
  obtain ⟨h7, h⟩ := ba h
  obtain ⟨h8, h⟩ := ba h
  obtain ⟨h9, h⟩ := ba h
  obtain ⟨h10, h11⟩ := ba h
  exact ⟨⟨c, h1, of_decide_eq_true h2, eqO_ok h3, eqO_ok h4, of_decide_eq_true h5, of_decide_eq_true h6, of_decide_eq_true h7, eqO_ok h8⟩, of_decide_eq_true h9, h10, of_decide_eq_true h11⟩
section
variable {X : Cx} {K : PySem.W.Frag} {o e : Expr} {to te : TE} {f : Str} {p' pos : Pos}
theorem kps_ost (h : X.K = K) (ho : PE X o to) (he : PE X e te) (hs : swapsWith e (some (.Attribute o f p')) pos.line X.env = pure false := by rfl) : PS X (.Assign [.Attribute o f p'] e pos) (tOst K f to te) := by subst h; exact ps_ost ho he hs
end
section
variable {P : Program} {w : World} {K : PySem.W.Frag} {mg : Str → Option Value} {base : Heap} {k : Nat} {x m : Str} {f C : Addr} {fd : FuncData} {ps : List Str} {sp : Sp} {pa : Arguments} {bd : List Stmt} {sc : Scope}
/-- a def as callers take it -/
theorem mkCl {q : Str} (F : FunD K x q pa bd sc [] [] f fd) (hm : mg x = some (.ref f)) (ok : FnOk P w K mg base (L2.CX P w) k f fd ps sp) (b : Binds K fd ps []) : Cl P w K mg base k x sp := ⟨f, fd, ps, ok, hm, F.kp, b⟩
theorem mkCm (me : Meth K C m f) (ok : FnOk P w K mg base (L2.CX P w) k f fd ps sp) (b : Binds K fd ps []) : Cm P w K mg base k C m f sp := ⟨⟨fd, ps, ok, b⟩, me⟩
theorem mkCk {dvs : List V} {ds : List Value} (M : Mk K C f) (hm : mg x = some (.ref C)) (ok : FnOk P w K mg base (L2.CX P w) k f fd ps sp) (b : Binds K fd ps ds) (hv : Vals dvs ds) : Ck P w K mg base k x C dvs sp := ⟨f, fd, ps, ds, ok, M, hm, b, hv⟩
theorem mkCox {fn : Str} (ox : OexC K C) (hm : mg x = some (.ref C)) (me : Meth K C "__init__" f) (ti : PySem.W.typeIn K (.ref f) = some (.type "function")) (ok : FnOk P w K mg base (L2.CX P w) k f fd ps (spEx C fn)) (b : Binds K fd ps []) : Cox P w K mg base k x C fn := ⟨ox, hm, f, fd, ps, me.at_, ti, ok, b⟩
/-- the same contract with a wider level is not needed: a Room serves all below it -/
theorem Cl.up' {k' : Nat} (c : Cl P w K mg base k x sp) : Cl P w K mg base k x sp := c
end
end
section
open PySem PySem.Spec PyProof.Rows L2
def reps (x : Str) (n : Int) : Str := if n < 1 then Str.empty else if (n == 1 || x.length == 0) = true then x else ⟨(List.replicate n.toNat x.cps).foldl (· ++ ·) #[]⟩
def tenText (f : Nat) : Str := ("1" : Str) ++ reps ("0" : Str) (f : Int)
theorem foldl_toList {a : Array Nat} : ∀ (n : Nat) (acc : Array Nat), ((List.replicate n a).foldl (· ++ ·) acc).toList = acc.toList ++ (List.replicate n a.toList).flatten
  | 0, acc => by simp
  | n + 1, acc => by
    rw [List.replicate_succ, List.replicate_succ, List.foldl_cons, foldl_toList n, Array.toList_append, List.flatten_cons, List.append_assoc]
theorem flat_one (n x : Nat) : (List.replicate n [x]).flatten = List.replicate n x := by
  induction n with
  | zero => rfl
  | succ n ih => rw [List.replicate_succ, List.replicate_succ, List.flatten_cons, ih]; rfl
theorem zero_cps : ("0" : Str).cps.toList = [48] := by decide +kernel
theorem one_cps : ("1" : Str).cps.toList = [49] := by decide +kernel
theorem reps_cps (f : Nat) : (reps ("0" : Str) (f : Int)).cps.toList = List.replicate f 48 := by
  unfold reps
  match f with
  | 0 => rw [if_pos (by omega)]; rfl
  | 1 => rw [if_neg (by omega), if_pos (by rfl)]; exact zero_cps
  | f + 2 =>
    rw [if_neg (by omega), if_neg (by
      rw [show ((((f + 2 : Nat) : Int)) == 1) = false from by rw [beq_eq_false_iff_ne]; omega]
      rw [show ((("0" : Str).length == 0)) = false from by decide +kernel]
      decide)]
    show ((List.replicate ((f + 2 : Nat) : Int).toNat ("0" : Str).cps).foldl (· ++ ·) #[]).toList = _
    rw [foldl_toList, zero_cps, Int.toNat_natCast, flat_one]; rfl
theorem ten_cps (f : Nat) : (tenText f).cps.toList = 49 :: List.replicate f 48 := by
  show (("1" : Str).cps ++ (reps ("0" : Str) (f : Int)).cps).toList = _
  rw [Array.toList_append, one_cps, reps_cps]; rfl
theorem ten_len (f : Nat) : (tenText f).length = f + 1 := by
  show (tenText f).cps.size = _
  rw [← Array.length_toList, ten_cps, List.length_cons, List.length_replicate]
theorem reps_len (f : Nat) : (reps ("0" : Str) (f : Int)).length = f := by
  show (reps ("0" : Str) (f : Int)).cps.size = _
  rw [← Array.length_toList, reps_cps, List.length_replicate]
theorem val_zeros : ∀ (f acc : Nat), (List.replicate f 48).foldl (fun acc c => acc * 10 + (c - 48)) acc = acc * 10 ^ f
  | 0, acc => by simp
  | f + 1, acc => by
    rw [List.replicate_succ, List.foldl_cons, val_zeros f, Nat.pow_succ]
    show (acc * 10 + 0) * 10 ^ f = _
    rw [Nat.add_zero, Nat.mul_assoc, Nat.mul_comm 10]
theorem ten_ok {f : Nat} (h : f ≤ 600) : PySem.intText? (tenText f) = some (((10 ^ f : Nat) : Int)) ∧ (tenText f).length ≤ 640 := by
  refine ⟨?_, by rw [ten_len]; omega⟩
  rw [intText_digits (x := tenText f)]
  · congr 2
    rw [ten_cps]
    show (List.replicate f 48).foldl (fun acc c => acc * 10 + (c - 48)) (0 * 10 + (49 - 48)) = _
    rw [val_zeros]; omega
  · rw [ten_cps]
    intro c hc
    rcases List.mem_cons.mp hc with e | e
    · omega
    · have := List.eq_of_mem_replicate e; omega
  · rw [ten_cps]; exact List.cons_ne_nil _ _
  · rw [ten_len]; omega
theorem flat_len_const {l a : List Nat} {n : Nat} : (a ++ (List.replicate n l).flatten).length = a.length + n * l.length := by
  rw [List.length_append]
  congr 1
  induction n with
  | zero => simp
  | succ n ih => rw [List.replicate_succ, List.flatten_cons, List.length_append, ih, Nat.succ_mul]; omega
def rMulS : R2 := fun x y H Q => ∃ (z : Str) (n : Nat), x = .str z ∧ y = .int n ∧ n ≤ 1000 ∧ z.length ≤ 1000 ∧ Q (.str (reps z (n : Int))) H
theorem op_mul_str {X : Cx} : OpR X (binaryOp .Mult) rMulS := by
  intro pins s σ H x y v u Q I rx ry h
  obtain ⟨z, n, rfl, rfl, hn, hz, q⟩ := h
  obtain ⟨t, rfl⟩ := rx
  obtain ⟨t', rfl⟩ := ry
  have hlen : z.length * n ≤ 1000 * 1000 := Nat.mul_le_mul hz hn
  refine P.mul_str (by
    rw [decide_eq_false (show ¬ (n : Int) < -(2 ^ 63) by omega), decide_eq_false (show ¬ (n : Int) ≥ 2 ^ 63 by
      have e : (2 : Int) ^ 63 = 9223372036854775808 := by decide
      omega)]; rfl) (fun h1 _ => ?_) (fun h1 _ => ?_) ?_
  · have hn0 : 0 < (n : Int) := by omega
    have e : (2 : Int) ^ 63 - 1 = 9223372036854775807 := by decide
    rw [e]
    have : (z.length : Int) ≤ 9223372036854775807 / (n : Int) := by
      rw [Int.le_ediv_iff_mul_le hn0]
      have : (z.length : Int) * (n : Int) ≤ 1000 * 1000 := by exact_mod_cast hlen
      omega
    omega
  · show decide (z.length * ((n : Nat) : Int).toNat > sizeLine) = false
    rw [decide_eq_false_iff_not, sizeLine_eq, Int.toNat_natCast]; omega
  · unfold reps at q
    split
    · rename_i h1
      rw [if_pos h1] at q
      exact ⟨by decide, .str Str.empty, H, I.tok _, ⟨_, rfl⟩, q⟩
    · rename_i h1
      rw [if_neg h1] at q
      split
      · rename_i h2
        rw [if_pos h2] at q
        exact ⟨.str z, H, I, ⟨_, rfl⟩, q⟩
      · rename_i h2
        rw [if_neg h2] at q
        refine ⟨?_, .str _, H, I.tok _, ⟨_, rfl⟩, q⟩
        show ((List.replicate ((n : Nat) : Int).toNat z.cps).foldl (· ++ ·) #[]).size ≤ sizeLine
        rw [← Array.length_toList, foldl_toList, Int.toNat_natCast, flat_len_const, sizeLine_eq]
        show 0 + n * z.cps.toList.length ≤ _
        have e : z.cps.toList.length = z.length := Array.length_toList
        rw [e, Nat.mul_comm]; omega
def DAt (x y : V) (H : Hp) (Q : VK) : Prop := ∃ a v, x = .ref a ∧ DGet H a y (some v) ∧ Q v H
def DPutAt (x y v : V) (H : Hp) (N : Hp → Prop) : Prop := ∃ a H', x = .ref a ∧ DPut H a y v H' ∧ N H'
section
variable {σ : L2.St} {H : Hp} {Q : VK} {D : Ends} {td ty tv : TE} {a c : Addr} {kvs : List (Key × V)} {s : Str} {v x y : V} {N : Hp → Prop} {QS : L2.St → Hp → Prop}
theorem r_dget (k : td σ H fun x H1 => ty σ H1 fun y H2 => DAt x y H2 Q) : tDGet td ty σ H Q := k
theorem dAt (h : H a = some (.dK kvs)) (e : valV kvs (Sum.inr s) = some v) (k : Q v H) : DAt (.ref a) (.str s) H Q := ⟨a, v, rfl, by
  have := DGet.k (k := (Sum.inr s : Key)) h
  rw [e] at this; exact this, k⟩
theorem r_dput (k : tv σ H fun v H1 => td σ H1 fun x H2 => ty σ H2 fun y H3 => DPutAt x y v H3 (fun H4 => D.nx σ H4)) : sDPut td ty tv D σ H := k
theorem dPut {kvs' : List (Key × V)} (h : H a = some (.dK kvs)) (hn : kvs.length ≤ 1000) (e : putK kvs (Sum.inr s) v = kvs') (k : N (upd H a (.dK kvs'))) : DPutAt (.ref a) (.str s) v H N :=
  ⟨a, _, rfl, DPut.k (k := (Sum.inr s : Key)) h (small1000 hn), by rw [e]; exact k⟩
theorem r_gsub {v : V} (k : td σ H fun x H1 => ty σ H1 fun y H2 => DPutAt x y v H2 (fun H3 => QS σ H3)) : gSub td ty rSetD v σ H QS := k
end
def rInt1 : List V → Hp → VK → Prop := fun xs H Q => (∃ i, xs = [.int i] ∧ Q (.int i) H) ∨ ∃ k, xs = [.bl k] ∧ Q (.int (if k then 1 else 0)) H
def rIntS : List V → Hp → VK → Prop := fun xs H Q => ∃ a n, xs = [.str a] ∧ PySem.intText? a = some n ∧ a.length ≤ 640 ∧ Q (.int n) H
def rAddS : R2 := fun x y H Q => ∃ i j, x = .str i ∧ y = .str j ∧ i.length + j.length ≤ sizeLine ∧ Q (.str (i ++ j)) H
def rMax2 : List V → Hp → VK → Prop := fun xs H Q => ∃ i j, xs = [.int i, .int j] ∧ Q (.int (if j > i then j else i)) H
def rAbs1 : List V → Hp → VK → Prop := fun xs H Q => ∃ i, xs = [.int i] ∧ Q (.int (if i < 0 then -i else i)) H
section
variable {X : Cx} {H : Hp} {Q : VK} {a b : Int} {k : Bool} {x y : Str}
theorem kc_int1 : CallR X (.type "int") rInt1 := call_int1
theorem kc_intS : CallR X (.type "int") rIntS := call_int_str
theorem kop_addS : OpR X (binaryOp .Add) rAddS := op_add_str
theorem kc_max (hc : X.calm = true) : CallR X (.builtin "max") rMax2 := call_max2 hc
theorem kc_abs : CallR X (.builtin "abs") rAbs1 := call_abs
theorem q_intI (h : Q (.int a) H) : rInt1 [.int a] H Q := .inl ⟨a, rfl, h⟩
theorem q_intB (h : Q (.int (if k then 1 else 0)) H) : rInt1 [.bl k] H Q := .inr ⟨k, rfl, h⟩
theorem q_intS {n : Int} (e : PySem.intText? x = some n) (l : x.length ≤ 640) (h : Q (.int n) H) : rIntS [.str x] H Q := ⟨x, n, rfl, e, l, h⟩
theorem q_addS (l : x.length + y.length ≤ sizeLine) (h : Q (.str (x ++ y)) H) : rAddS (.str x) (.str y) H Q := ⟨x, y, rfl, rfl, l, h⟩
theorem q_max (h : Q (.int (max a b)) H) : rMax2 [.int a, .int b] H Q := ⟨a, b, rfl, by
  have e : (if b > a then b else a) = max a b := by
    rw [Int.max_def]; split <;> split <;> omega
  rw [e]; exact h⟩
theorem q_abs (h : Q (.int (a.natAbs : Int)) H) : rAbs1 [.int a] H Q := ⟨a, rfl, by
  have e : (if a < 0 then -a else a) = (a.natAbs : Int) := by split <;> omega
  rw [e]; exact h⟩
end
theorem at_mod {ns : List Int} {a : Int} (h : 0 < ns.length) : ∃ z, atI (ns.map V.int) (a % (((ns.map V.int).length : Nat) : Int)) = some (V.int z) := by
  have hl : (ns.map V.int).length = ns.length := List.length_map _
  rw [hl]
  have h0 : 0 ≤ a % (ns.length : Int) := Int.emod_nonneg _ (by omega)
  have h1 : a % (ns.length : Int) < ns.length := Int.emod_lt_of_pos _ (by omega)
  obtain ⟨j, hj⟩ : ∃ j : Nat, a % (ns.length : Int) = j := ⟨(a % (ns.length : Int)).toNat, by omega⟩
  rw [hj]
  refine ⟨ns[j]'(by omega), atI_nat ?_⟩
  rw [List.getElem?_map, List.getElem?_eq_getElem (by omega)]; rfl
end
open PySem PySem.Spec PyProof.Rows L2
local macro_rules | `(tactic| wtm_at "of_rd1") => `(tactic| with_reducible first
  | refine r_dget ?_ | refine r_dput ?_ | refine r_gsub ?_ | refine q_intI ?_ | refine q_intB ?_
  | refine r_par ?_ | refine r_par3 ?_ | refine r_parP ?_ | refine r_parP3 ?_ | refine r_part ?_ | refine r_nopart ?_ | refine r_intP ?_ | refine r_for ?_ | refine r_iL ?_ | refine r_iT ?_ | refine r_iR1 ?_ | refine r_iR2 ?_ | refine r_iR3 ?_ | refine r_iZ ?_ | refine r_lc ?_ | refine r_sl ?_ | refine r_bm ?_ | refine r_turn1 ?_ | refine r_lturn ?_ | refine r_yes ?_
  | refine r_seq ?_ | refine r_asg ?_ | refine r_ret ?_ | refine r_sfld ?_ | refine r_ifS ?_ | refine r_drop ?_ | refine r_next ?_ | refine r_retN ?_ | refine r_gcd ?_
  | refine r_op ?_ | refine r_un ?_ | refine r_fld ?_ | refine r_cons ?_ | refine r_nil ?_ | refine r_c ?_ | refine r_c1 ?_ | refine r_cb ?_ | refine r_ck ?_ | refine r_cm ?_
  | refine r_test ?_ | refine r_B ?_ | refine r_and ?_ | refine r_or ?_ | refine r_not ?_ | refine r_andV ?_ | refine r_orV ?_ | refine r_notV ?_ | refine r_ifE ?_
  | refine r_tr ?_ | refine r_name ?_ | refine r_blP ?_ | refine r_tup ?_ | refine r_lst ?_ | refine r_gCons ?_ | refine r_gNil ?_ | refine r_rz ?_
  | refine r_var (by with_unfolding_all rfl) ?_
  | refine iteT ?_ | refine iteF ?_ | refine iteNT ?_ | refine iteNF ?_
  | refine r_I0 ?_ | refine r_Ibt (by wtm_at "of_btl") (by wtm_at "of_btl") ?_ | refine r_Ir (by decide) ?_ | refine r_Il (by decide) ?_ | refine r_U ?_ | refine r_eqI ?_ | refine r_neI ?_
  | refine r_top (by assumption) (by with_unfolding_all rfl) (by wtm_at "of_up") ?_ | refine r_bot (by assumption) (by with_unfolding_all rfl) (by wtm_at "of_up") ?_)
section
open PySem PySem.Spec PyProof.Rows L2
section
variable {σ : L2.St} {H : Hp} {tk tv : TE} {r : List (TE × TE)} {QP : List (V × V) → Hp → Prop} {Q : VK} {trs : List (TE × TE)} {K : PySem.W.Frag} {a : Addr} {xs : List V}
theorem r_pairs (k : tk σ H fun x H1 => tv σ H1 fun y H2 => tPairs r σ H2 fun ps H3 => QP ((x, y) :: ps) H3) : tPairs ((tk, tv) :: r) σ H QP := k
theorem r_pairs0 (k : QP [] H) : tPairs [] σ H QP := k
def DispEnd (p : Addr) (Q : VK) (ps : List (V × V)) (H2 : Hp) : Prop := H2 p = some (.dK []) ∧ ∃ kvs : List (Key × V), ps = kvs.map (fun kv => (kV kv.1, kv.2)) ∧ kvs.length ≤ 15 ∧ Q (.ref p) (upd H2 p (.dK (mergeK [] kvs)))
theorem r_disp (k : ∀ p H', Ex H H' → H p = none → H' p = some (.dK []) → tPairs trs σ H' (DispEnd p Q)) : tDisp trs σ H Q := fun p hp => k p _ (Ex.new hp) hp upd_same
theorem disp_end {p : Addr} {kvs kvs' : List (Key × V)} (h : H p = some (.dK [])) (hl : kvs.length ≤ 15) (e : mergeK [] kvs = kvs') (k : Q (.ref p) (upd H p (.dK kvs'))) {ps : List (V × V)} (ep : ps = kvs.map (fun kv => (kV kv.1, kv.2))) : DispEnd p Q ps H := ⟨h, kvs, ep, hl, by rw [e]; exact k⟩
theorem r_slS {K' : PySem.W.Frag} {lo hi : Option Int} (e : K' = K) (h : SqL K H a xs) (k : ∀ p H', Ex H H' → H p = none → H' p = some (.lst (cutV xs lo hi)) → Q (.ref p) H') : rSlL K' (.ref a) lo hi H Q := by subst e; exact ⟨a, xs, rfl, h, fun p hp => k p _ (Ex.new hp) hp upd_same⟩
theorem q_lenS {K' : PySem.W.Frag} (e : K' = K) (h : SqL K H a xs) (k : Q (.int (xs.length : Int)) H) : rLen K' [.ref a] H Q := by subst e; exact ⟨a, xs, rfl, .inl h, k⟩
theorem r_rep {n : Int} (h : H a = some (.lst xs)) (h0 : 0 ≤ n) (h1 : n ≤ 1000) (hx : xs.length ≤ 1000) (k : ∀ p H', Ex H H' → H p = none → H' p = some (.lst (List.replicate n.toNat xs).flatten) → Q (.ref p) H') : rRep (.ref a) (.int n) H Q := by
  have e : (2 : Int) ^ 63 = 9223372036854775808 := by decide
  have hm : xs.length * n.toNat ≤ 1000 * 1000 := Nat.mul_le_mul hx (by omega)
  exact ⟨a, n, xs, rfl, rfl, h, by omega, by omega, by rw [sizeLine_eq]; omega, fun p hp => k p _ (Ex.new hp) hp upd_same⟩
theorem cutV_upto {n : Nat} (h : xs.length ≤ n) : cutV xs none (some (n : Int)) = xs := by
  unfold cutV
  have e1 : HT.sIx xs.length 0 none = 0 := rfl
  have e2 : HT.sIx xs.length xs.length (some (n : Int)) = xs.length := by
    unfold HT.sIx
    show (if (n : Int) < 0 then ((n : Int) + xs.length).toNat else min (n : Int).toNat xs.length) = _
    rw [if_neg (by omega)]; omega
  rw [e1, e2, Nat.sub_zero, List.drop_zero, List.take_length]
end
theorem Ex.seq {K : PySem.W.Frag} {H H' : Hp} {a : Addr} {xs : List V} (e : Ex H H') (h : SqL K H a xs) : SqL K H' a xs := Same.seq e h
def tpK (c : Addr) (a r : Int) : List (Key × V) := [(Sum.inr "cells", .ref c), (Sum.inr "at", .int a), (Sum.inr "rest", .int r)]
section
variable {c : Addr} {a r z : Int}
theorem tp_cells : valV (tpK c a r) (Sum.inr "cells") = some (.ref c) := by kernel_rfl
theorem tp_at : valV (tpK c a r) (Sum.inr "at") = some (.int a) := by kernel_rfl
theorem tp_rest : valV (tpK c a r) (Sum.inr "rest") = some (.int r) := by kernel_rfl
theorem tp_putAt : putK (tpK c a r) (Sum.inr "at") (.int z) = tpK c z r := by kernel_rfl
theorem tp_putRest : putK (tpK c a r) (Sum.inr "rest") (.int z) = tpK c a z := by kernel_rfl
end
theorem tp_new {c : Addr} : mergeK [] (tpK c 0 0) = tpK c 0 0 := by kernel_rfl
/-- the tape at p, of at most n cells read -/
def Tape (H : Hp) (p c : Addr) (n : Nat) : Prop := ∃ (a r : Int) (ns : List Int), H p = some (.dK (tpK c a r)) ∧ H c = some (.lst (ns.map V.int)) ∧ 0 < ns.length ∧ ns.length ≤ 63 ∧ 0 ≤ a ∧ a ≤ (n : Int)
theorem Tape.mono {H : Hp} {p c : Addr} {n m : Nat} (h : Tape H p c n) (hm : n ≤ m) : Tape H p c m := by
  obtain ⟨a, r, ns, h1, h2, h3, h4, h5, h6⟩ := h
  exact ⟨a, r, ns, h1, h2, h3, h4, h5, by omega⟩
theorem Tape.ex {H H' : Hp} {p c : Addr} {n : Nat} (e : Ex H H') (h : Tape H p c n) : Tape H' p c n := by
  obtain ⟨a, r, ns, h1, h2, h3⟩ := h
  exact ⟨a, r, ns, e _ _ h1, e _ _ h2, h3⟩
theorem Tape.put {H : Hp} {p c L : Addr} {n : Nat} {xs : List V} {o : HO} (h : Tape H p c n) (hl : H L = some (.lst xs)) (hc : c ≠ L) : Tape (upd H L o) p c n := by
  obtain ⟨a, r, ns, h1, h2, h3⟩ := h
  exact ⟨a, r, ns, by rw [upd_ne (ne_of h1 hl (by intro z; cases z))]; exact h1, by rw [upd_ne hc]; exact h2, h3⟩
theorem Le.lst {H H' : Hp} {p : Addr} {xs : List V} (e : Le H H') (h : H p = some (.lst xs)) : H' p = some (.lst xs) := e _ _ h trivial
theorem Le.tup {H H' : Hp} {p : Addr} {xs : List V} (e : Le H H') (h : H p = some (.tup xs)) : H' p = some (.tup xs) := e _ _ h trivial
/-- a draw: below the limit -/
def spDraw : Sp := fun vs H Q _ => ∃ (p : Addr) (m : Int) (n : Nat), vs = [.ref p, .int m] ∧ ∃ c, Tape H p c n ∧ n < 1000000 ∧ 0 < m ∧ m.natAbs < 2 ^ 4000 ∧ ∀ (H' : Hp) (d : Int), Le H H' → Tape H' p c (n + 1) → 0 ≤ d → d < m → Q (.int d) H'
def spBegin (K : PySem.W.Frag) : Sp := fun vs H Q _ => ∃ (a : Addr) (ns : List Int), vs = [.ref a] ∧ SqL K H a (ns.map V.int) ∧ ns.length ≤ 63 ∧ ∀ (H' : Hp) (p c : Addr), Ex H H' → H p = none → H c = none → Tape H' p c 0 → Q (.ref p) H'
def spPick : Sp := fun vs H Q _ => ∃ (p k : Addr) (xs : List V) (n : Nat), vs = [.ref p, .ref k] ∧ ∃ c, Tape H p c n ∧ n < 1000000 ∧ H k = some (.lst xs) ∧ 0 < xs.length ∧ xs.length ≤ 1000000 ∧ ∀ (H' : Hp) (i : Nat) (v : V), Le H H' → Tape H' p c (n + 1) → xs[i]? = some v → Q v H'
def spTen : Sp := fun vs H Q _ => ∃ f : Nat, vs = [.int f] ∧ f ≤ 600 ∧ Q (.int ((10 ^ f : Nat) : Int)) H
/-- a number of so many figures -/
def spNum (c lo : Nat) (neg : Bool) : Sp := fun vs H Q _ => ∃ (p : Addr) (f n : Nat), vs = [.ref p, .int f] ∧ ∃ c', Tape H p c' n ∧ n + c < 900000 ∧ lo ≤ f ∧ f ≤ 500 ∧
  ∀ (H' : Hp) (d : Int), Le H H' → Tape H' p c' (n + c) → (neg = false → 0 ≤ d) → d.natAbs < 10 ^ f → Q (.int d) H'
/-- Euclid's walk, counted -/
structure Euc (A B i u l : Nat) : Prop where
  g : Nat.gcd u l = Nat.gcd A B
  c : (i = 0 ∧ u = A ∧ l = B) ∨ (0 < i ∧ l < u ∧ u * l * 2 ^ (i - 1) ≤ A * B)
theorem Euc.step {A B i u l : Nat} (e : Euc A B i u l) (h : l ≠ 0) : Euc A B (i + 1) l (u % l) := by
  have hlt : u % l < l := Nat.mod_lt _ (by omega)
  refine ⟨by rw [← e.g, Nat.gcd_comm u l, Nat.gcd_comm l (u % l)]; exact (Nat.gcd_rec l u).symm, .inr ⟨by omega, hlt, ?_⟩⟩
  rcases e.c with ⟨rfl, rfl, rfl⟩ | ⟨h0, h1, h2⟩
  · show l * (u % l) * 2 ^ 0 ≤ u * l
    rw [Nat.pow_zero, Nat.mul_one, Nat.mul_comm]
    exact Nat.mul_le_mul_right _ (Nat.mod_le _ _)
  · have key : 2 * (u % l) ≤ u := by
      have hd := Nat.div_add_mod u l
      have h3 : 1 ≤ u / l := (Nat.one_le_div_iff (by omega)).mpr (by omega)
      have h4 : l * 1 ≤ l * (u / l) := Nat.mul_le_mul_left l h3
      omega
    refine Nat.le_trans ?_ h2
    obtain ⟨j, rfl⟩ : ∃ j, i = j + 1 := ⟨i - 1, by omega⟩
    rw [Nat.add_sub_cancel, Nat.add_sub_cancel, Nat.pow_succ]
    have : l * (u % l) * (2 ^ j * 2) = (2 * (u % l)) * l * 2 ^ j := by
      generalize 2 ^ j = y
      generalize u % l = x
      grind
    rw [this]
    exact Nat.mul_le_mul_right _ (Nat.mul_le_mul_right _ key)
theorem Euc.done {A B u l : Nat} (e : Euc A B 1000000 u l) (hA : A < 2 ^ 4000) (hB : B < 2 ^ 4000) : l = 0 := by
  rcases e.c with ⟨h, _, _⟩ | ⟨_, h1, h2⟩
  · omega
  · rcases Nat.eq_zero_or_pos l with z | z
    · exact z
    · exfalso
      have h3 : A * B < 2 ^ (4000 + 4000) := pow_mul_lt hA hB
      have h4 : 1 ≤ u * l := Nat.mul_pos (by omega) z
      have h5 : 2 ^ (1000000 - 1) ≤ A * B := Nat.le_trans (Nat.le_mul_of_pos_left _ h4) h2
      have h6 : 2 ^ (1000000 - 1) < 2 ^ (4000 + 4000) := Nat.lt_of_le_of_lt h5 h3
      have := (Nat.pow_lt_pow_iff_right (a := 2) (by decide)).mp h6
      omega
def spWhole (K : PySem.W.Frag) : Sp := fun vs H Q _ => ∃ a b : Int, vs = [.int a, .int b] ∧ Q (.bl (decide (a = b))) H
def spRatioIs (C : Addr) : Sp := fun vs H Q _ => ∃ (p : Addr) (q : Rat) (t b : Int), vs = [.ref p, .int t, .int b] ∧ IsR C H p q ∧ Bq q ∧ Bt t ∧ Bt b ∧ Q (.bl (decide (q.num * b = t * (q.den : Int)))) H
end
section
open PySem PySem.Spec PyProof.Rows L2
abbrev Pr : Type := Int × Int
def pairD (r : Pr) : PyData := .tuple [.int r.1, .int r.2]
def pairV (r : Pr) : List V := [.int r.1, .int r.2]
/-- the items are tuples of these pairs -/
inductive RowsX (H : Hp) : List V → List Pr → Prop where
  | nil : RowsX H [] []
  | cons {p : Addr} {r : Pr} {xs : List V} {rs : List Pr} : H p = some (.tup (pairV r)) → RowsX H xs rs → RowsX H (V.ref p :: xs) (r :: rs)
def Rows (H : Hp) (l : Addr) (rs : List Pr) : Prop := ∃ xs, H l = some (.lst xs) ∧ RowsX H xs rs
section
variable {H H' : Hp} {xs ys : List V} {rs qs : List Pr} {l p L : Addr} {r : Pr} {o : HO}
theorem RowsX.length (h : RowsX H xs rs) : xs.length = rs.length := by
  induction h with
  | nil => rfl
  | cons _ _ ih => rw [List.length_cons, List.length_cons, ih]
theorem RowsX.le (e : Le H H') (h : RowsX H xs rs) : RowsX H' xs rs := by
  induction h with
  | nil => exact .nil
  | cons h1 _ ih => exact .cons (e.tup h1) ih
theorem RowsX.put (hl : H L = some (.lst ys)) (h : RowsX H xs rs) : RowsX (upd H L o) xs rs := by
  induction h with
  | nil => exact .nil
  | cons h1 _ ih => exact .cons (by rw [upd_ne (ne_of h1 hl (by intro z; cases z))]; exact h1) ih
theorem RowsX.snoc (h : RowsX H xs rs) (hp : H p = some (.tup (pairV r))) : RowsX H (xs ++ [V.ref p]) (rs ++ [r]) := by
  induction h with
  | nil => exact .cons hp .nil
  | cons h1 _ ih => exact .cons h1 ih
theorem RowsX.at_ (h : RowsX H xs rs) : ∀ {i : Nat} {v : V}, xs[i]? = some v → ∃ p r, v = .ref p ∧ rs[i]? = some r ∧ H p = some (.tup (pairV r)) := by
  induction h with
  | nil => intro i v h; simp at h
  | cons h1 _ ih =>
    intro i v hv
    match i, hv with
    | 0, hv => cases hv; exact ⟨_, _, rfl, rfl, h1⟩
    | i + 1, hv => exact ih hv
theorem RowsX.get (h : RowsX H xs rs) : ∀ {i : Nat} {r : Pr}, rs[i]? = some r → ∃ p, xs[i]? = some (.ref p) ∧ H p = some (.tup (pairV r)) := by
  induction h with
  | nil => intro i v h; simp at h
  | cons h1 _ ih =>
    intro i v hv
    match i, hv with
    | 0, hv => cases hv; exact ⟨_, rfl, h1⟩
    | i + 1, hv => exact ih hv
theorem RowsX.erase (h : RowsX H xs rs) : ∀ i : Nat, RowsX H (xs.eraseIdx i) (rs.eraseIdx i) := by
  induction h with
  | nil => intro i; exact .nil
  | cons h1 h2 ih =>
    intro i
    match i with
    | 0 => exact h2
    | i + 1 => exact .cons h1 (ih i)
variable {K : PySem.W.Frag}
theorem dp_pair (h : H p = some (.tup (pairV r))) : Dp K H (.ref p) (pairD r) := .tup (SqT.of h) (.cons (.int _) (.cons (.int _) .nil))
theorem RowsX.dp (h : RowsX H xs rs) : DpAll K H xs (rs.map pairD) := by
  induction h with
  | nil => exact .nil
  | cons h1 _ ih => exact .cons (dp_pair h1) ih
theorem rows_dp (hl : H l = some (.lst xs)) (h : RowsX H xs rs) : Dp K H (.ref l) (.list (rs.map pairD)) := .lst (SqL.of hl) h.dp
theorem nil_dp (hl : H l = some (.lst [])) : Dp K H (.ref l) (.list []) := .lst (SqL.of hl) .nil
theorem pair_lay (r : Pr) : (pairD r).canLay0 = true := rfl
theorem rows_lay : ∀ rs : List Pr, PyData.canLayAll0 (rs.map pairD) = true
  | [] => rfl
  | r :: rs => by
    show (PyData.canLay0 (pairD r) && PyData.canLayAll0 (rs.map pairD)) = true
    rw [pair_lay, rows_lay rs]; rfl
theorem rows_depth : ∀ rs : List Pr, PyData.depthAll (rs.map pairD) ≤ 1
  | [] => Nat.zero_le _
  | r :: rs => by
    show max (PyData.depth (pairD r)) (PyData.depthAll (rs.map pairD)) ≤ 1
    have h1 : PyData.depth (pairD r) = 1 := rfl
    have := rows_depth rs
    omega
theorem rows_shaped (rs : List Pr) : SeqAt.shaped (.list (rs.map pairD)) = true := by
  unfold SeqAt.shaped
  have h1 : PyData.canLay0 (.list (rs.map pairD)) = true := rows_lay rs
  have h2 : PyData.depth (.list (rs.map pairD)) ≤ 64 := by
    show PyData.depthAll (rs.map pairD) + 1 ≤ 64
    have := rows_depth rs
    omega
  rw [h1, decide_eq_true h2]; rfl
theorem nil_shaped : SeqAt.shaped (.list []) = true := by decide +kernel
theorem rows_eqv_nil (rs : List Pr) : PyData.eqv (.list (rs.map pairD)) (.list []) = decide (rs = []) := by
  cases rs with
  | nil => rfl
  | cons r rs => rfl
theorem pair_eqv (r q : Pr) : PyData.eqv (pairD r) (pairD q) = decide (r = q) := by
  show (r.1 == q.1 && (r.2 == q.2 && true)) = decide (r = q)
  rw [Bool.and_true, Bool.eq_iff_iff, Bool.and_eq_true, beq_iff_eq, beq_iff_eq, decide_eq_true_iff, Prod.ext_iff]
/-- rows != [], rows == [] -/
theorem r_neNil {Q : VK} {e : Addr} (hl : H l = some (.lst xs)) (h : RowsX H xs rs) (he : H e = some (.lst [])) (k : Q (.bl (!decide (rs = []))) H) : rNeD K (.ref l) (.ref e) H Q := ⟨_, _, rows_dp hl h, nil_dp he, rows_shaped rs, nil_shaped, by rw [rows_eqv_nil]; exact k⟩
theorem r_eqNil {Q : VK} {e : Addr} (hl : H l = some (.lst xs)) (h : RowsX H xs rs) (he : H e = some (.lst [])) (k : Q (.bl (decide (rs = []))) H) : rEqD K (.ref l) (.ref e) H Q := ⟨_, _, rows_dp hl h, nil_dp he, rows_shaped rs, nil_shaped, by rw [rows_eqv_nil]; exact k⟩
/-- l.remove(x), data in data: the first equal item goes -/
def rRemD (K : PySem.W.Frag) : V → List V → Hp → VK → Prop := fun x vs H Q => ∃ (l : Addr) (xs : List V) (y : V) (ds : List PyData) (d : PyData) (j : Nat), x = .ref l ∧ vs = [y] ∧ H l = some (.lst xs) ∧ DpAll K H xs ds ∧ Dp K H y d ∧ PyData.canLayAll0 ds = true ∧ d.canLay0 = true ∧ PyData.depthAll ds ≤ 60 ∧
  SeqAt.dataPlace ds d = some j ∧ Q .non (upd H l (.lst (xs.eraseIdx j)))
theorem erase_len (xs : List V) (j : Nat) : (xs.eraseIdx j).length ≤ xs.length := by
  rw [List.length_eraseIdx]; split <;> omega
theorem mt_removeD {X : Cx} (h : X.K = K) (hu : X.A.units + 64 < cLine) : MtM X "list.remove" (rRemD K) := by
  subst h
  intro pins s σ H x vs v us Q I rx rxs h
  obtain ⟨l, xs, y, ds, d, j, rfl, rfl, hH, hds, hd, c1, c2, hdep, hj, q⟩ := h
  cases rx
  obtain ⟨u, rfl, ru⟩ := rxs.one
  obtain ⟨z, its, n, r, hl, e⟩ := I.lstM hH
  obtain ⟨as, q1⟩ := Dp.readsAll I ds _ _ hds r
  obtain ⟨bs, q2⟩ := Dp.reads I d _ _ hd ru
  refine SeqAt.remove_list_data (vs := its.toArray) (xs := ds) (d := d) (as := as) (bs := bs) ⟨_, e, rfl, n, rfl⟩ (by simpa using q1) q2 (PyData.plainAll_of_canLay0 _ c1) (PyData.plain_of_canLay0 _ c2) (by omega) hj (by rw [List.size_toArray]; omega) ?_
  have rr := r.eraseIdx j
  refine ⟨.non, _, I.lset (its' := its.eraseIdx j) (t' := s.toks) hH e ?_ rr ?_, rfl, q⟩
  · show its.toArray.eraseIdxIfInBounds j = (its.eraseIdx j).toArray
    rw [List.eraseIdxIfInBounds_toArray]
  · have := erase_len xs j
    omega
end
def spDiv : Sp := fun vs H Q _ => ∃ a b : Int, vs = [.int a, .int b] ∧ Bt a ∧ Bt b ∧ NewV Q H (.bl true)
def PrOk (N : Nat) (r : Pr) : Prop := r.1.natAbs < 2 ^ N ∧ r.2.natAbs < 2 ^ N ∧ 0 < r.2
def spNear : Sp := fun vs H Q _ => ∃ (p l : Addr) (rs : List Pr) (n N : Nat), vs = [.ref p, .ref l] ∧ ∃ c, Tape H p c n ∧ n + 500 < 900000 ∧ Rows H l rs ∧ rs.length ≤ 1000 ∧ 240 ≤ N ∧ N ≤ 3000 ∧ (∀ r ∈ rs, PrOk N r) ∧
  ∀ (H' : Hp) (q : Addr) (r : Pr), Le H H' → Tape H' p c (n + 500) → H' q = some (.tup (pairV r)) → PrOk (N + 5) r → Q (.ref q) H'
theorem p5 (N : Nat) : 2 ^ (N + 5) = 32 * 2 ^ N := by rw [Nat.pow_add, Nat.mul_comm]
theorem near_ok {N : Nat} {r : Pr} {f d : Int} (h : PrOk N r) (f0 : 1 ≤ f) (f1 : f ≤ 9) (d0 : -1 ≤ d) (d1 : d ≤ 1) : PrOk (N + 5) (r.1 * f + d, r.2 * f) := by
  obtain ⟨h1, h2, h3⟩ := h
  have e := p5 N
  have p : 0 < 2 ^ N := Nat.two_pow_pos N
  have m1 : (r.1 * f).natAbs ≤ r.1.natAbs * 9 := by rw [Int.natAbs_mul]; exact Nat.mul_le_mul_left _ (by omega)
  have m2 : (r.2 * f).natAbs ≤ r.2.natAbs * 9 := by rw [Int.natAbs_mul]; exact Nat.mul_le_mul_left _ (by omega)
  have m3 : 0 < r.2 * f := Int.mul_pos h3 (by omega)
  exact ⟨by show (r.1 * f + d).natAbs < _; rw [e]; omega, by show (r.2 * f).natAbs < _; rw [e]; omega, m3⟩
def toQ (r : Pr) : Rat := Rat.divInt r.1 r.2
/-- the numbers handed in are those of the rows -/
def Handed (C : Addr) (H : Hp) (k : Addr) (rs : List Pr) : Prop := ∃ ys, SeqAt1 H k ys ∧ ys.length = rs.length ∧ ∀ (i : Nat) (r : Pr), rs[i]? = some r → ∃ v, ys[i]? = some v ∧ NumV C H v (toQ r)
def spOrder (C : Addr) : Sp := fun vs H Q _ => ∃ (l k : Addr) (rs : List Pr), vs = [.ref l, .ref k] ∧ Rows H l rs ∧ Handed C H k rs ∧ 0 < rs.length ∧ rs.length ≤ 1000 ∧ (∀ r ∈ rs, PrOk 3000 r) ∧ NewV Q H (.bl true)
theorem PrOk.bq {N : Nat} {r : Pr} (h : PrOk N r) (hN : N ≤ 4000) : Bq (toQ r) := by
  obtain ⟨h1, h2, h3⟩ := h
  rcases Nat.eq_zero_or_pos N with z | z
  · subst z
    have : r.2.natAbs < 1 := h2
    omega
  · exact (Sz.divInt h1 h2 z).bq hN
theorem dec_ratio {q : Rat} {r : Pr} (h : 0 < r.2) : decide (q.num * r.2 = r.1 * (q.den : Int)) = decide (q = toQ r) := by
  rw [decide_eq_decide]
  unfold toQ
  conv => rhs; rw [← Rat.num_divInt_den q]
  rw [Rat.divInt_eq_divInt_iff (den_ne q) (by omega)]
theorem dec_same {q r : Rat} (h : q = r) : decide (q.num * (r.den : Int) = r.num * (q.den : Int)) = true := by
  subst h; exact decide_eq_true rfl
theorem place_of {r : Pr} {rs : List Pr} (h : r ∈ rs) : ∃ j, SeqAt.dataPlace (rs.map pairD) (pairD r) = some j ∧ rs[j]? = some r := by
  unfold SeqAt.dataPlace
  cases e : (rs.map pairD).findIdx? (fun y => PyData.eqv y (pairD r)) with
  | none =>
    have := List.findIdx?_eq_none_iff.mp e (pairD r) (List.mem_map.mpr ⟨r, h, rfl⟩)
    rw [pair_eqv] at this
    simp at this
  | some j =>
    obtain ⟨h1, h2, _⟩ := List.findIdx?_eq_some_iff_getElem.mp e
    refine ⟨j, rfl, ?_⟩
    rw [List.length_map] at h1
    rw [List.getElem_map, pair_eqv, decide_eq_true_iff] at h2
    rw [List.getElem?_eq_getElem h1, h2]
theorem erase_perm {r : Pr} : ∀ {rs : List Pr} {j : Nat}, rs[j]? = some r → (r :: rs.eraseIdx j).Perm rs
  | [], j, h => by simp at h
  | q :: rs, 0, h => by cases h; exact .refl _
  | q :: rs, j + 1, h => (List.Perm.swap q r _).trans ((erase_perm (rs := rs) (j := j) h).cons q)
theorem filter_step {t : Pr → Bool} {rs : List Pr} {r : Pr} {i : Nat} (h : rs[i]? = some r) : (rs.take (i + 1)).filter t = (rs.take i).filter t ++ (if t r = true then [r] else []) := by
  rw [List.take_add_one, h, List.filter_append]
  congr 1
  show List.filter t [r] = _
  rw [List.filter_cons, List.filter_nil]
theorem sorted_unique {a b : List Rat} (h : a.Perm b) (ha : a.Pairwise (· ≤ ·)) (hb : b.Pairwise (· ≤ ·)) : a = b :=
  List.Perm.eq_of_pairwise (fun x y _ _ h1 h2 => Rat.le_antisymm h1 h2) ha hb h
def rTupOf (K : PySem.W.Frag) : List V → Hp → VK → Prop := fun xs H Q => ∃ p ys, xs = [.ref p] ∧ ((SqL K H p ys ∧ ∀ l, H l = none → Q (.ref l) (upd H l (.tup ys))) ∨ (SqT K H p ys ∧ Q (.ref p) H))
theorem kc_tupof {X : Cx} {K : PySem.W.Frag} (h : X.K = K) : CallR X (.type "tuple") (rTupOf K) := by subst h; exact call_tuple_of
theorem kc_all {X : Cx} {K : PySem.W.Frag} (h : X.K = K) (hc : X.calm = true) : CallR X (.builtin "all") (rAll K) := by subst h; exact cr_all hc
theorem q_tupL {K : PySem.W.Frag} {H : Hp} {Q : VK} {a : Addr} {xs : List V} (h : H a = some (.lst xs)) (k : ∀ p H', Ex H H' → H p = none → H' p = some (.tup xs) → Q (.ref p) H') : rTupOf K [.ref a] H Q :=
  ⟨a, xs, rfl, .inl ⟨SqL.of h, fun l hl => k l _ (Ex.new hl) hl upd_same⟩⟩
theorem q_allB {K : PySem.W.Frag} {H : Hp} {Q : VK} {a : Addr} {bs : List Bool} (h : H a = some (.lst (bs.map V.bl))) (k : Q (.bl (bs.all id)) H) : rAll K [.ref a] H Q := ⟨a, bs, rfl, SqL.of h, k⟩
theorem PrOk.mono {N M : Nat} {r : Pr} (h : PrOk N r) (hm : N ≤ M) : PrOk M r := ⟨pow_mono h.1 hm, pow_mono h.2.1 hm, h.2.2⟩
theorem toQ_one {r : Pr} (h : r.2 = 1) : toQ r = (r.1 : Rat) := by unfold toQ; rw [h, divInt_one]
def negP (r : Pr) : Pr := (-r.1, r.2)
theorem PrOk.neg {N : Nat} {r : Pr} (h : PrOk N r) : PrOk N (negP r) := ⟨by show (-r.1).natAbs < _; rw [Int.natAbs_neg]; exact h.1, h.2.1, h.2.2⟩
end
section
open PySem PySem.Spec PyProof.Rows L2 PySem.W PySem.Calls
section
variable {prog : Program} {w : World} {A : Around} {E : Value → Shared → Prop} {s : Shared} {K : Frag} {x D : Addr} {ox : Obj} {od : Option Obj}
theorem kit_exc (C : ExcC K D) : KitX K (.ref x) (.ref D) (fun h => InstAt h x ox D od) :=
  kitx_exc (by obtain ⟨_, hc, _⟩ := any_some C.hd; rw [hc]; rfl) C.hg C.hk C.hs C.ha C.hn C.ht C.hm
end
/-- isinstance(e, c) in the suite, e with a dict -/
theorem call_isEd {X : Cx} {a D : Addr} {oe : Obj} {pn : List (Addr × Obj)} {dd : Addr} {K : Frag} (hK : X.K = K) (C : ExcC K D) (hz : Zc (.ref D) (some dd) oe) (hf : ∃ vs, oe.data = .fields vs) :
    CallR (X.suite a ((a, oe) :: pn)) (.builtin "isinstance") (fun xs H Q => (∃ fs, H dd = some (.xd fs)) ∧ rIsE K D a xs H Q) := by
  subst hK
  intro pins s σ H xs us Q I r h
  obtain ⟨⟨fs, hdd⟩, c, cv, b, rfl, hcv, e, q⟩ := h
  cases r with
  | cons rx rr =>
    cases rr with
    | cons rt rr =>
      cases rr; cases rx
      obtain rfl := hcv _ rt
      obtain ⟨hget, _⟩ := I.pin (a, oe) (List.mem_append.mpr (.inl List.mem_cons_self))
      obtain ⟨vs, hv⟩ := hf
      obtain ⟨mA, hns, hr⟩ := (show ObjOk X.prog X.w H s.heap dd (.xd fs) from I.hok dd _ hdd)
      obtain ⟨od, ho, hl⟩ := lookIn_ns hns
      have J : InstAt s.heap a oe D (some od) := ⟨hget, hz.1, by unfold notCls; rw [hv] <;> rfl, by rw [hz.2]; exact ho⟩
      exact kia_one (kit_exc C) I.kIn J e (fun z => nomatch z) fun tk => ⟨.bl b, H, I.kept (t' := tk) fun _ _ z => z, rfl, q⟩
theorem call_isEx {X : Cx} {a D : Addr} {oe : Obj} {pn : List (Addr × Obj)} {cls : Value} {d : Option Addr} {K : Frag} (hK : X.K = K) (C : ExcC K D) (hz : Zc cls d oe) (hf : ∃ vs, oe.data = .fields vs) :
    CallR (X.suite a ((a, oe) :: pn)) (.builtin "isinstance") (fun xs H Q => cls = .ref D ∧ (∃ dd fs, d = some dd ∧ H dd = some (.xd fs)) ∧ rIsE K D a xs H Q) := by
  intro pins s σ H xs us Q I r h
  obtain ⟨rfl, ⟨dd, fs, rfl, hdd⟩, q⟩ := h
  exact call_isEd hK C hz hf pins s σ H xs us Q I r ⟨⟨fs, hdd⟩, q⟩
theorem takes_len {X : Cx} {W : WX} (tk : Takes X W) : Takes X (fun cls d σ H => σ.length = X.N.length → W cls d σ H) := fun u s' h => by
  obtain ⟨a, B, sI, pins, σ, H, cls, d, e, I, nb, up, sky, na, os, ag, w⟩ := h
  exact tk u s' ⟨a, B, sI, pins, σ, H, cls, d, e, I, nb, up, sky, na, os, ag, w I.len⟩
/-- what a refused call leaves: NoSuch's number -/
def TEmpty (CN : Addr) : (XK → Hp → VK → Prop) → Hp → VK → Prop := fun tl H Q => tl (fun cls d H' => cls = .ref CN ∧ ∃ dd v, d = some dd ∧ H' dd = some (.xd [("number", v)]) ∧ Q v H') H (fun _ H' => ∃ v : V, some (some (V.str "fine")) = some (some v) ∧ Q v H')
end
section
open PySem PySem.Spec PyProof.Rows L2
def spLaw (K : PySem.W.Frag) (T : List (Addr × Str)) : Sp := fun vs H Q _ => ∃ (a : Addr) (ns : List Int), vs = [.ref a] ∧ SqL K H a (ns.map V.int) ∧ ns.length ≤ 63 ∧ LamX.Tabs T H ∧ ∀ H', Q (.bl true) H'
theorem tabs_le {T : List (Addr × Str)} {H H' : Hp} (t : LamX.Tabs T H) (e : Le H H') : LamX.Tabs T H' := fun p hp => by
  obtain ⟨ps, h1, h2, h3⟩ := t p hp
  refine ⟨ps, e _ _ h1 trivial, h2, fun pos cv hc => ?_⟩
  obtain ⟨c, e1, e2⟩ := h3 pos cv hc
  exact ⟨c, e1, e _ _ e2 trivial⟩
end
section
open PySem PySem.Spec PyProof.Rows L2
abbrev qL : Str := (("law" : Str) ++ ".<locals>.") ++ "<lambda>"
theorem psL {X : Cx} {A : Around} {outer : List Env} {s : Shared} {H : Hp} {E : XK} {scope : Scope} {f c' : Addr} : Passes (L2.CX X.prog X.w) (LamX.lamCx X A outer s H E scope f c') E :=
  passes_call (X := LamX.lamCx X A outer s H E scope f c') (W := fun cls d _ H => E cls d H) (takes_of rfl rfl rfl rfl) (fun _ _ _ _ h => h)
theorem r_lam {T : List (Addr × Str)} {TT : (XK → Hp → VK → Prop) → Hp → VK → Prop} {t : XK → TE} {σ : L2.St} {H : Hp} {Q : VK} (h : LamX.Tabs T H) (k : ∀ H1, LamX.ExtN H H1 → LamX.Tabs T H1 → TT (fun E H' Q' => t E σ H' Q') H1 Q) : LamX.tLam T TT t σ H Q := ⟨h, k⟩
end
section
open PySem PySem.Spec PyProof.Rows L2
theorem lam_mem {q : Str} {PT : Addr} (e : q ++ ("<lambda>" : Str) = qL) : (PT, q ++ ("<lambda>" : Str)) ∈ [(PT, qL)] := by rw [e]; exact List.mem_singleton.mpr rfl
theorem lam_uni {q : Str} {PT : Addr} (e : q ++ ("<lambda>" : Str) = qL) : ∀ p ∈ [(PT, qL)], p.1 = PT → p.2 = q ++ ("<lambda>" : Str) := by
  rw [e]
  intro p hp _
  rw [List.mem_singleton.mp hp]
end
section
open PySem PySem.Spec PyProof.Rows L2
theorem lamGl {X : Cx} {A : Around} {outer : List Env} {s : Shared} {H : Hp} {E : XK} {scope : Scope} {f c' : Addr} {x : Str} (h : scope.names.lookup x = some .globalImplicit) : Gl (LamX.lamCx X A outer s H E scope f c') x := h
end
section
open PySem PySem.Spec PyProof.Rows L2 PySem.W PySem.Calls PySem.HandSPX
section
variable {prog : Program} {w : World} {A : Around} {E : Value → Shared → Prop} {R : Result → Shared → Prop} {h : Heap} {g : Array GenState} {d : Drawn} {t : Nat} {os : OsState}
variable {nm q : Str} {C N : Addr} {bs bm bmB : List Value} {hdct : Bool} {sn : List Str} {sub : List Value} {ab : Bool} {col : Option Bool} {dd : Option Addr} {k0 k1 k2 k3 k5 : Option Value} {B newId initId : String} {rest : List Value} {kw : List (Str × Value)}
theorem kwNew (F : ExcBaseFacts B newId initId bmB) (hT : ∀ X : String, bm.contains (.type X) = bmB.contains (.type X)) {Q : Unit → Shared → Prop}
    (hC : h.get? C = some (excClassObj nm q C N bs bm hdct sn sub ab col dd k0 k1 k2 k3 k5 newId)) (hq : Q () ⟨h, g, d, t, os⟩) : wpAny (model prog w) A (checkBuiltinCall newId ⟨.ref C :: rest, kw⟩) Q E ⟨h, g, d, t, os⟩ := by
  have c1 : (Value.ref C :: bm).contains (.type B) = true := by rw [List.contains_cons, hT, F.hasB, Bool.or_true]
  have c2 := F.noStar
  simp only [checkBuiltinCall, F.newKind, F.newSplit, F.newRow]
  repeat (first | refine wpAny_loadPart_at hC ?_ | (refine wpAny_isSubtype_exc hC ?_; rw [c1]) | refine wpAny_staticBase_exc hC ?_ | refine wpAny_madeBy_exc hC ?_ | simp only [bne_self_eq_false, Bool.false_eq_true, if_false] | wp_step)
  exact hq
theorem newKw (F : ExcBaseFacts B newId initId bmB) (hT : ∀ X : String, bm.contains (.type X) = bmB.contains (.type X)) (hC : h.get? C = some (excClassObj nm q C N bs bm hdct sn sub ab col dd k0 k1 k2 k3 k5 newId))
    (hq : R (.ok (.ret (.ref (h.objs.size + 1)))) ⟨(h.push (PySem.W.kdv_tup rest)).push (excO C h.objs.size), g, d, t, os⟩) (hl : rest.length ≤ sizeLine) : codeAny (model prog w) A (.builtin newId ⟨.ref C :: rest, kw⟩) R ⟨h, g, d, t, os⟩ := by
  have e0 := F.ends
  have c1 : (Value.ref C :: bm).contains (.type B) = true := by rw [List.contains_cons, hT, F.hasB, Bool.or_true]
  have c2 : (Value.ref C :: bm).contains (.type "AttributeError") = false := by rw [List.contains_cons, hT, F.noAttr] <;> rfl
  have c3 : (Value.ref C :: bm).contains (.type "NameError") = false := by rw [List.contains_cons, hT, F.noName] <;> rfl
  refine codeAny_builtinAt F.entry ?_
  unfold Builtin.«BaseException.__new__»
  refine PySem.wpAt_bind ?_
  show PySem.wpAt _ _ _ (stack >>= _) _ _ _
  refine PySem.wpAt_bind (PySem.wpAt_stack fun p below => PySem.wpAt_of_wpAny ?_)
  wp_walk
  refine PySem.wpAt_of_wpAny ?_
  rw [F.owner]
  repeat (first | with_reducible refine wpAny_madeHere_exc F.canon hC ?_ | with_reducible refine wpAny_loadPart_at hC ?_ | (with_reducible refine wpAny_isSubtype_exc hC ?_; first | rw [c1] | rw [c2] | rw [c3]) | wp_step)
  show R _ _
  rw [Heap.size_push]
  exact hq
theorem tcKw (F : ExcBaseFacts B newId initId bmB) (hT : ∀ X : String, bm.contains (.type X) = bmB.contains (.type X)) {fI : Addr} {Q : Fin → Shared → Prop} (hC : h.get? C = some (excClassObj nm q C N bs bm hdct sn sub ab col dd k0 k1 k2 k3 k5 newId))
    (hi : PySem.W.Looks (model prog w) h (typeLookup (.ref C) "__init__") (some (.ref fI))) (hb : ∀ self, PySem.W.Looks (model prog w) h (bindSpecial (.ref fI) self) (.ref fI, [self])) (hl : rest.length ≤ sizeLine)
    (hq : codeAny (model prog w) A (.call (.ref fI) ⟨.ref (h.objs.size + 1) :: rest, kw⟩) (fun r s' => match r with | .ok (.ret v) => v = .none ∧ Q (.done (.ret (.ref (h.objs.size + 1)))) s' | .ok _ => False | .error e => E e s') ⟨(h.push (PySem.W.kdv_tup rest)).push (excO C h.objs.size), g, d, t, os⟩) :
    wpAny (model prog w) A (Builtin.«type.__call__» ⟨.ref C :: rest, kw⟩) Q E ⟨h, g, d, t, os⟩ := by
  repeat (first | with_reducible refine wpAny_loadPart_at hC ?_ | with_reducible refine wpAny_madeBy_exc hC ?_ | wp_step)
  refine codeAny_call_builtin_code (Code.quiet_builtin _ F.quiet) (kwNew F hT hC (newKw F hT hC ?_ hl))
  show wpAny _ _ _ _ _ _
  have k : ∀ b o, h.get? b = some o → ((h.push (PySem.W.kdv_tup rest)).push (excO C h.objs.size)).get? b = some o := fun b o e => Heap.get?_push_of_some _ (Heap.get?_push_of_some _ e)
  have hC1 := k _ _ hC
  have hg : ((h.push (PySem.W.kdv_tup rest)).push (excO C h.objs.size)).get? (h.objs.size + 1) = some (excO C h.objs.size) := by heap_get
  have cc : (Value.ref C :: bm).contains (.ref C) = true := by simp
  have i1 := hi.keeps k
  have b1 := (hb (.ref (h.objs.size + 1))).keeps k
  unfold isInstance
  repeat (first | with_reducible refine wpAny_loadPart_at hg ?_ | (with_reducible refine wpAny_isSubtype_exc hC1 ?_; rw [cc]) | wp_step)
  show wpAny _ _ (typeLookup (.ref C) _) _ _ _
  refine i1.at (wpAny_holding (wpAny_bind (b1.at (wpAny_bind (wpAny_call (codeAny_mono hq fun r s' z => ?_))))))
  rcases r with e | (v | _ | _ | _) <;> first | exact z | exact z.elim | skip
  obtain ⟨rfl, z⟩ := z
  first | exact wpAny_pure (wpAny_pure z) | (wp_walk; exact z)
theorem callKw (F : ExcBaseFacts B newId initId bmB) (hT : ∀ X : String, bm.contains (.type X) = bmB.contains (.type X)) {fI : Addr} (hC : h.get? C = some (excClassObj nm q C N bs bm hdct sn sub ab col dd k0 k1 k2 k3 k5 newId))
    (hi : PySem.W.Looks (model prog w) h (typeLookup (.ref C) "__init__") (some (.ref fI))) (hb : ∀ self, PySem.W.Looks (model prog w) h (bindSpecial (.ref fI) self) (.ref fI, [self])) (hl : rest.length ≤ sizeLine)
    (hq : codeAny (model prog w) (A.under (.builtin "type.__call__" ⟨.ref C :: rest, kw⟩)) (.call (.ref fI) ⟨.ref (h.objs.size + 1) :: rest, kw⟩) (PySem.W.InitBack (h.objs.size + 1) R) ⟨(h.push (PySem.W.kdv_tup rest)).push (excO C h.objs.size), g, d, t, os⟩) :
    codeAny (model prog w) A (.call (.ref C) ⟨rest, kw⟩) R ⟨h, g, d, t, os⟩ := by
  have f1 := tc_lookup
  have f2 := tc_bind (.ref C)
  have ty : (⟨h, g, d, t, os⟩ : Shared).TypeIs (.ref C) "type" := ⟨_, hC, rfl⟩
  refine codeAny_of_tree ?_
  show wpAny _ _ (callAny (.ref C) _) _ _ _
  repeat (any_goals (first | assumption | with_reducible refine wpAny_loadPart_at hC ?_ | wp_step))
  refine ⟨rfl, ?_⟩
  refine codeAny_call_builtin_at (Code.quiet_builtin _ (by decide +kernel)) entry_typeCall (wpAny_check_type_call_sub hC (tcKw F hT hC hi hb hl ?_))
  refine codeAny_mono hq fun r s' z => ?_
  rcases r with e | (v | _ | _ | _) <;> exact z
end
end
section
open PySem PySem.Spec PyProof.Rows L2
/-- at a stands an exception of the class at C with these fields -/
def IsX (C : Addr) (fs : List (Str × V)) (H : Hp) (a : Addr) : Prop := ∃ d, H a = some (exo a C (some d)) ∧ H d = some (exd d fs)
def AnyX (C : Addr) (H : Hp) (a : Addr) : Prop := H a = some (exo a C none) ∨ ∃ fs, IsX C fs H a
theorem IsX.ex {C a : Addr} {fs : List (Str × V)} {H H' : Hp} (h : IsX C fs H a) (e : Ex H H') : IsX C fs H' a := by
  obtain ⟨d, h1, h2⟩ := h
  exact ⟨d, e _ _ h1, e _ _ h2⟩
theorem AnyX.ex {C a : Addr} {H H' : Hp} (h : AnyX C H a) (e : Ex H H') : AnyX C H' a := by
  rcases h with h | ⟨fs, h⟩
  · exact .inl (e _ _ h)
  · exact .inr ⟨fs, h.ex e⟩
def spExs (C : Addr) (fl : List Str) : Sp := fun vs H Q _ => ∃ a ys, vs = .ref a :: ys ∧ ys.length = fl.length ∧ H a = some (exo a C none) ∧
  ∀ d H', (∀ b o, H b = some o → b ≠ a → H' b = some o) → H' a = some (exo a C (some d)) → H' d = some (exd d (fl.zip ys).reverse) → H d = none → Q .non H'
structure Cxv (P : Program) (w : World) (K : PySem.W.Frag) (mg : Str → Option Value) (base : Heap) (k : Nat) (x : Str) (C : Addr) (fl : List Str) : Prop where
  ox : OexC K C
  hm : mg x = some (.ref C)
  ex : ∃ (f : Addr) (fd : FuncData), PySem.W.findIn K (.ref C) "__init__" = some (some (.ref f)) ∧ PySem.W.typeIn K (.ref f) = some (.type "function") ∧ FnOk P w K mg base (L2.CX P w) k f fd ("self" :: fl) (spExs C fl) ∧
    ∀ n, n ≤ fl.length → KBn K fd ("self" :: fl) (n + 1) (fl.drop n) (fun us ws => us ++ ws) (fun vs zs => vs ++ zs)
/-- X(e, .., f = e, ..) -/
def tOx (C : Addr) (fl : List Str) (n : Nat) (ta tk : TA) : TE := fun σ H Q => ta σ H fun vs H1 => tk σ H1 fun zs H2 => vs.length = n ∧ zs.length = fl.length - n ∧ ∀ a H', Ex H2 H' → H2 a = none → IsX C (fl.zip (vs ++ zs)).reverse H' a → Q (.ref a) H'
section
variable {X : Cx} {k j n : Nat} {C : Addr} {fl : List Str} {x : Str} {p pos : Pos} {e : Expr} {es : List Expr} {kws : List Keyword} {ta tk : TA}
theorem run_ox {pins : List (Addr × Obj)} {σ : L2.St} {H1 : Hp} {s1 : Shared} {Q : VK} {us ws : List Value} {vs zs : List V} (c : Cxv X.prog X.w X.K X.mg X.base k x C fl) (hr : Room (k + 1) X.A) (hn : n ≤ fl.length) (hz : fl.length ≤ 100)
    (I1 : Inv X pins σ H1 s1) (r : Vals vs us) (rv2 : Vals zs ws) (l1 : vs.length = n) (l2 : zs.length = fl.length - n) (hq : ∀ a H', Ex H1 H' → H1 a = none → IsX C (fl.zip (vs ++ zs)).reverse H' a → Q (.ref a) H') :
    wpAny (model X.prog X.w) X.A (call (.ref C) us ((fl.drop n).zip ws)) (EP X pins σ Q) X.xe s1 := by
  obtain ⟨f, fd, iC, tI, F1, kb⟩ := c.ex
  have hb := kb n hn
  obtain ⟨nm, q, N, bs, bm, sn, sub, ab, col, dd, k0, k1, k2, k3, k5, hC, hbm⟩ := c.ox.cls
  obtain ⟨hp, g0, dr, tk0, os⟩ := s1
  have h0 : H1 (hp.objs.size + 1) = none := I1.hok.fresh (Nat.le_succ _)
  have kk : ∀ b o, hp.get? b = some o → ((hp.push (PySem.W.kdv_tup us)).push (PySem.HandSPX.excO C hp.objs.size)).get? b = some o := fun b o e => Heap.get?_push_of_some _ (Heap.get?_push_of_some _ e)
  have hget : ((hp.push (PySem.W.kdv_tup us)).push (PySem.HandSPX.excO C hp.objs.size)).get? (hp.objs.size + 1) = some (PySem.HandSPX.excO C hp.objs.size) := by heap_get
  have I2 : Inv X pins σ (upd H1 (hp.objs.size + 1) (exo (hp.objs.size + 1) C none)) ⟨(hp.push (PySem.W.kdv_tup us)).push (PySem.HandSPX.excO C hp.objs.size), g0, dr, tk0, os⟩ := I1.laid (t' := tk0) kk (Nat.le_succ _) (exo_ok hget)
  have r1 : Vals (V.ref (hp.objs.size + 1) :: vs) (Value.ref (hp.objs.size + 1) :: us) := .cons rfl r
  have r2 := hb.rel r1 rv2
  have n1 : (Value.ref (hp.objs.size + 1) :: us).length = n + 1 := by rw [List.length_cons, ← r.length, l1]
  have n2 : ws.length = (fl.drop n).length := by rw [List.length_drop, ← rv2.length]; exact l2
  have hus : us.length ≤ sizeLine := by rw [← r.length, sizeLine_eq]; omega
  have sp1 : spExs C fl (V.ref (hp.objs.size + 1) :: vs ++ zs) (upd H1 (hp.objs.size + 1) (exo (hp.objs.size + 1) C none)) (fun v H3 => v = .non ∧ Q (.ref (hp.objs.size + 1)) H3) (fun _ _ _ => False) := by
    refine ⟨_, vs ++ zs, rfl, by rw [List.length_append, l1, l2]; omega, upd_same, fun d H' kp ha hd hn => ⟨rfl, hq _ H' (fun b o hb => kp b o ?_ ?_) h0 ⟨d, ha, hd⟩⟩⟩
    · rw [upd_ne (ne_of_none hb h0)]; exact hb
    · exact ne_of_none hb h0
  refine wpAny_call (callKw F.excBase_ValueError (fun Y => PySem.HandSPX.refsVE_contains Y bm hbm) (I1.kIn _ _ hC) (PySem.W.looks_findIn I1.kIn iC) (fun self => PySem.W.bind_fn I1.kIn self tI) hus
    (codeAny_mono (F1.run _ X.stack _ _ ⟨Value.ref (hp.objs.size + 1) :: us, (fl.drop n).zip ws⟩ (Value.ref (hp.objs.size + 1) :: us ++ ws) _ _ (fun _ _ _ => False) (hr.make C us _) (I2.env0.make C us _) (hb.to _ _ ws I2.kIn n1 n2) r2 sp1) fun r s' hq' => ?_))
  cases r with
  | error er => exact passL pins σ _ _ er s' I2 hq'
  | ok fl2 =>
    cases fl2 with
    | ret u =>
      obtain ⟨v, H', I3, rv, ev, q3⟩ := I2.after hq'
      subst ev
      exact ⟨rv, ⟨V.ref (hp.objs.size + 1), H', I3, rfl, q3⟩⟩
    | next => exact False.elim hq'
    | brk => exact False.elim hq'
    | cont => exact False.elim hq'
end
end
section
open PySem PySem.Spec PyProof.Rows L2
section
variable {X : Cx} {k j n : Nat} {C : Addr} {fl : List Str} {x : Str} {p pos : Pos} {e : Expr} {es : List Expr} {kws : List Keyword} {ta tk : TA}
theorem pe_xvP (c : Cxv X.prog X.w X.K X.mg X.base k x C fl) (hr : Room j X.A) (hk : k + 1 ≤ j) (hg : Gl X x) (ha : PA X (e :: es) ta) (hz : fl.length ≤ 100 := by decide)
    (he : starEach (e :: es) X.env = (false, eval e X.env) :: starEach es X.env := by rfl) (hpl : (backTo pos (starEach es X.env)).any (·.1) = false := by rfl) (hdb : (x == ("__debug__" : Str)) = false := by decide) :
    PE X (.Call (.Name x p) (e :: es) [] pos) (tOx C fl fl.length ta tNil) := by
  refine ⟨fun pins s σ H Q I h => ?_⟩
  refine wpAny_Call_Name_kw (ld_glob I hg c.hm ?_ hdb)
  refine PySem.W.callWith_K (h₀ := X.base) I.ok.mod.kin c.ox.kC (thn (ha.run pos pins s σ H _ I h) fun us s1 ⟨vs, H1, I1, r1, l1, l2, q1⟩ => ⟨I1.kIn, ?_⟩) he hpl
  have z := run_ox (zs := []) (ws := []) c (hr.mono hk) (Nat.le_refl _) hz I1 r1 .nil l1 l2 q1
  rw [List.drop_length] at z
  exact z
theorem pe_xvK (c : Cxv X.prog X.w X.K X.mg X.base k x C fl) (hr : Room j X.A) (hk : k + 1 ≤ j) (hg : Gl X x) (hkw : PK X kws tk) (hz : fl.length ≤ 100 := by decide)
    (hall : (backToKw pos (keywordEach kws X.env)).all (·.1.isSome) = true := by rfl) (hks : (backToKw pos (keywordEach kws X.env)).filterMap (·.1) = fl := by rfl) (hdb : (x == ("__debug__" : Str)) = false := by decide)
    (hpl : ((backTo pos (starEach [] X.env)).any (·.1) || (backToKw pos (keywordEach kws X.env)).any (·.1.isNone)) = false := by rfl) : PE X (.Call (.Name x p) [] kws pos) (tOx C fl 0 tNil tk) := by
  refine ⟨fun pins s σ H Q I h => ?_⟩
  refine wpAny_Call_Name_kw (ld_glob I hg c.hm ?_ hdb)
  refine PySem.W.callWith_KW0 (h₀ := X.base) I.ok.mod.kin c.ox.kC hall ?_ hpl
  refine thn (hkw.run pos pins s σ H _ I h) fun ws s2 ⟨zs, H2, I2, rv2, l1, l2, q2⟩ => ⟨I2.kIn, ?_⟩
  rw [hks]
  exact run_ox (us := []) (vs := []) c (hr.mono hk) (Nat.zero_le _) hz I2 .nil rv2 rfl l2 q2
theorem pe_xvM (c : Cxv X.prog X.w X.K X.mg X.base k x C fl) (hr : Room j X.A) (hk : k + 1 ≤ j) (hg : Gl X x) (n : Nat) (hn : n ≤ fl.length) (ha : PA X (e :: es) ta) (hkw : PK X kws tk) (hz : fl.length ≤ 100 := by decide)
    (hall : (backToKw pos (keywordEach kws X.env)).all (·.1.isSome) = true := by rfl) (hks : (backToKw pos (keywordEach kws X.env)).filterMap (·.1) = fl.drop n := by rfl) (hdb : (x == ("__debug__" : Str)) = false := by decide)
    (he : starEach (e :: es) X.env = (false, eval e X.env) :: starEach es X.env := by rfl) (hpl : ((backTo pos (starEach (e :: es) X.env)).any (·.1) || (backToKw pos (keywordEach kws X.env)).any (·.1.isNone)) = false := by rfl) :
    PE X (.Call (.Name x p) (e :: es) kws pos) (tOx C fl n ta tk) := by
  refine ⟨fun pins s σ H Q I h => ?_⟩
  refine wpAny_Call_Name_kw (ld_glob I hg c.hm ?_ hdb)
  refine PySem.W.callWith_KW (h₀ := X.base) I.ok.mod.kin c.ox.kC hall (thn (ha.run pos pins s σ H _ I h) fun us s1 ⟨vs, H1, I1, r, q⟩ => ?_) hpl he
  refine thn (hkw.run pos pins s1 σ H1 _ I1 q) fun ws s2 ⟨zs, H2, I2, rv2, l1, l2, q2⟩ => ⟨I2.kIn, ?_⟩
  rw [hks]
  exact run_ox c (hr.mono hk) hn hz I2 r rv2 l1 l2 q2
/-- X(), the class without an own __init__ -/
theorem pe_xv0 {bmB : List Value} {B newId initId : String} (F : ExcBaseFacts B newId initId bmB) (q : PySem.W.excIn X.K C bmB newId = true) (gC : X.mg x = some (.ref C)) (kC : PySem.W.keepIn X.K (.ref C) = true) (hg : Gl X x) (hdb : (x == ("__debug__" : Str)) = false := by decide) :
    PE X (.Call (.Name x p) [] [] pos) (fun σ H Q => ∀ a H', Ex H H' → H a = none → H' a = some (exo a C none) → Q (.ref a) H') := by
  refine ⟨fun pins s σ H Q I h => ?_⟩
  refine wpAny_Call_Name_kw (ld_glob I hg gC ?_ hdb)
  refine PySem.W.callWith_K0 I.kIn kC ?_
  show wpAny _ _ (call (.ref C) []) _ _ _
  obtain ⟨bm, N, nm, qn, bs, hdct, sn, sub, ab, col, dd, k0, k1, k2, k3, k5, mN, hC, hN, hni, T⟩ := exc_obj I.kIn q
  refine wpAny_call_exc_subT F T hC hN hni (fun h' a hm => ?_) (by show 0 ≤ sizeLine; omega)
  have h0 : H a = none := I.hok.gone hm.new
  obtain ⟨t, ht, _, _⟩ := hm.there
  exact ⟨.ref a, upd H a (exo a C none), I.laidN hm.keeps hm.new h0 (exo_ok ht), rfl, h a _ (Ex.new h0) h0 upd_same⟩
/-- x.f, x such an exception -/
def tXa (K : PySem.W.Frag) (C : Addr) (f : Str) (te : TE) : TE := fun σ H Q => te σ H fun x H1 => ∃ a fs v, x = .ref a ∧ IsX C fs H1 a ∧ fs.lookup f = some v ∧ Q v H1
theorem xdict {H : Hp} {s : Shared} {pins : List (Addr × Obj)} {σ : L2.St} {a d : Addr} {fs : List (Str × V)} (I : Inv X pins σ H s) (h1 : H a = some (exo a C (some d))) (h2 : H d = some (exd d fs)) :
    ∃ (oe od : Obj) (mA : Str → Option Value), PySem.W.InstAt s.heap a oe C (some od) ∧ (∀ f, RelO (fs.lookup f) (mA f)) ∧ ∀ f, PySem.W.lookIn f od = some (mA f) := by
  obtain ⟨t1, ho⟩ := exo_at I.hok h1
  obtain ⟨mA, hns, rel⟩ := exd_at I.hok h2
  obtain ⟨od, hd, hl⟩ := lookIn_ns hns
  exact ⟨_, od, mA, ⟨ho, rfl, rfl, hd⟩, rel, hl⟩
theorem pe_xa {te : TE} {f : Str} (T : XfC X.K C) (hno : PySem.W.findIn X.K (.ref C) f = some none) (he : PE X e te) (hb : attributeBase e f X.env (eval e X.env) = eval e X.env := by rfl) : PE X (.Attribute e f pos) (tXa X.K C f te) := by
  refine ⟨fun pins s σ H Q I h => ?_⟩
  refine attr_of hb (thn (he.run pins s σ H _ I h) fun u s1 ⟨v0, H1, I1, rx, a, fs, v, ex, ⟨d, h1, h2⟩, l, q⟩ => ?_)
  subst ex
  obtain rfl : u = Value.ref a := rx
  obtain ⟨oe, od, mA, J, rel, hl⟩ := xdict I1 h1 h2
  obtain ⟨u, hu, ru⟩ := RelO.some_of (v := v) (o := mA f) (by rw [← l]; exact rel f)
  exact HandSPX.exc_get I1.kIn J T.ga T.gg T.exC (PySem.W.findObj_own T.hdC hno rfl (by rw [hl, hu])) (handed_of ru) ⟨v, H1, I1.tok _, ru, q⟩
/-- isinstance(x, c), x such an exception, c a class or a tuple of classes -/
def rIsV (K : PySem.W.Frag) : List V → Hp → VK → Prop := fun xs H Q => ∃ (a C : Addr) (c : V) (b : Bool), xs = [.ref a, c] ∧ ExcC K C ∧ AnyX C H a ∧
  ((∃ cv, (∀ u, RelV c u → u = cv) ∧ PySem.W.kitOne K (.ref C) cv = some b) ∨ ∃ (t : Addr) (cs : List Addr), c = .ref t ∧ H t = some (.tup (cs.map V.ref)) ∧ PySem.W.kitAny K (.ref C) (cs.map Value.ref) = some b) ∧ Q (.bl b) H
theorem anyInst {H : Hp} {s : Shared} {pins : List (Addr × Obj)} {σ : L2.St} {a : Addr} (I : Inv X pins σ H s) (h : AnyX C H a) : ∃ (oe : Obj) (od : Option Obj), PySem.W.InstAt s.heap a oe C od := by
  rcases h with h | ⟨fs, d, h1, h2⟩
  · obtain ⟨t1, ho⟩ := exo_at I.hok h
    exact ⟨_, none, ho, rfl, rfl, trivial⟩
  · obtain ⟨oe, od, _, J, _⟩ := xdict I h1 h2
    exact ⟨oe, some od, J⟩
theorem vals_refs : ∀ {cs : List Addr} {us : List Value}, Vals (cs.map V.ref) us → us = cs.map Value.ref
  | [], _, h => by cases h; rfl
  | c :: cs, _, h => by
    cases h with
    | cons r rr => rw [vals_refs rr, show _ = Value.ref c from r]; rfl
theorem cr_isV : CallR X (.builtin "isinstance") (rIsV X.K) := by
  intro pins s σ H xs us Q I r h
  obtain ⟨a, C, c, b, rfl, EC, hx, hc, q⟩ := h
  obtain ⟨oe, od, J⟩ := anyInst I hx
  cases r with
  | cons rx rr =>
    cases rr with
    | cons rt rr =>
      cases rr; cases rx
      rcases hc with ⟨cv, hcv, hk⟩ | ⟨t, cs, rfl, ht, hk⟩
      · obtain rfl := hcv _ rt
        exact PySem.W.kia_one (kit_exc EC) I.kIn J hk (fun z => nomatch z) fun tk => ⟨.bl b, H, I.kept (t' := tk) fun _ _ z => z, rfl, q⟩
      · cases rt
        obtain ⟨_, its, rv, pl⟩ := (show ObjOk X.prog X.w H s.heap t (.tup _) from I.hok t _ ht)
        obtain rfl := vals_refs rv
        obtain ⟨⟨oc, od2, dt, sl⟩, ho, h1, n, h2⟩ := pl
        replace h1 : oc = .type "tuple" := h1
        replace h2 : dt = .seq _ n := h2
        subst h1 h2
        exact PySem.W.kia_tup (kit_exc EC) I.kIn J ho hk (fun z => nomatch z) fun tk => ⟨.bl b, H, I.kept (t' := tk) fun _ _ z => z, rfl, q⟩
/-- raise x, x such an exception made in this def -/
theorem pmk_x {te : TE} (hx : X.ex = []) (he : PE X e te) : PMk X e (fun σ H Q => te σ H fun x H1 => ∃ (a C : Addr) (od : Option Addr), x = .ref a ∧ H1 a = some (exo a C od) ∧ Fr0 X.H_0 a ∧ Raises X (.ref C) ∧ Q (.ref C) od (delH H1 a)) := by
  intro pins s σ H Q I h
  refine wpAny_mono (he.run pins s σ H _ I h) (fun u s1 hu => ?_) fun _ _ x => x
  obtain ⟨v, H1, I1, r1, a, C, od, rfl, ha, h0, hr, q⟩ := hu
  cases r1
  obtain ⟨t1, ho⟩ := exo_at I1.hok ha
  obtain ⟨G, gs, ga, J⟩ := I1.untrack ha h0 hx
  exact ⟨a, _, _, { s1 with heap := G }, delH H1 a, .ref C, od, rfl, J, gs, ga, ho, ⟨rfl, rfl⟩, rfl, rfl, delH_same, rfl, I1.bare, hr, q⟩
end
end
section
open PySem PySem.Spec PyProof.Rows L2
/-- all stays but dicts with something in them -/
def Kn (H H' : Hp) : Prop := ∀ b o, H b = some o → (∀ kv kvs, o ≠ .dK (kv :: kvs)) → H' b = some o
theorem Kn.refl (H : Hp) : Kn H H := fun _ _ h _ => h
theorem Kn.trans {H H1 H2 : Hp} (a : Kn H H1) (b : Kn H1 H2) : Kn H H2 := fun x o h s => b x o (a x o h s) s
theorem Ex.kn {H H' : Hp} (e : Ex H H') : Kn H H' := fun a o h _ => e a o h
theorem Kn.dict {H : Hp} {p : Addr} {kv : Key × V} {kvs : List (Key × V)} {o : HO} (h : H p = some (.dK (kv :: kvs))) : Kn H (upd H p o) := fun a u e s => by
  rw [upd_ne (ne_of e h (s _ _))]
  exact e
theorem Kn.put {H H' : Hp} {L : Addr} {o : HO} (e : Kn H H') (h : H L = none) : Kn H (upd H' L o) := fun a u q s => by
  rw [upd_ne (ne_of_none q h)]
  exact e a u q s
theorem Kn.lst {H H' : Hp} {p : Addr} {xs : List V} (e : Kn H H') (h : H p = some (.lst xs)) : H' p = some (.lst xs) := e _ _ h fun _ _ z => by cases z
theorem Kn.tup {H H' : Hp} {p : Addr} {xs : List V} (e : Kn H H') (h : H p = some (.tup xs)) : H' p = some (.tup xs) := e _ _ h fun _ _ z => by cases z
inductive V12 (H : Hp) : V → Prop
  | non : V12 H .non
  | tr : V12 H (.bl true)
  | i (n : Int) (h : n.natAbs < 2 ^ 64) : V12 H (.int n)
  | s (x : Str) (h : SeqAt.shaped (.str x) = true) : V12 H (.str x)
  | tup {t : Addr} (h : H t = some (.tup [.int 1, .int 2])) : V12 H (.ref t)
  | lst {t : Addr} (h : H t = some (.lst [.str "x"])) : V12 H (.ref t)
  | dic {t : Addr} (h : H t = some (.dK [])) : V12 H (.ref t)
  | nest {t u : Addr} (h : H t = some (.tup [.ref u, .int 2])) (h2 : H u = some (.tup [.int 0, .int 1])) : V12 H (.ref t)
theorem V12.kn {H H' : Hp} {v : V} (h : V12 H v) (e : Kn H H') : V12 H' v := by
  cases h with
  | non => exact .non
  | tr => exact .tr
  | i n h => exact .i n h
  | s x h => exact .s x h
  | tup h => exact .tup (e.tup h)
  | lst h => exact .lst (e.lst h)
  | dic h => exact .dic (e _ _ h fun _ _ z => by cases z)
  | nest h h2 => exact .nest (e.tup h) (e.tup h2)
theorem V12.put {H : Hp} {v : V} {L : Addr} {xs : List V} {o : HO} (h : V12 H v) (hL : H L = some (.lst xs)) (hx : xs.length ≠ 1) : V12 (upd H L o) v := by
  cases h with
  | non => exact .non
  | tr => exact .tr
  | i n h => exact .i n h
  | s x h => exact .s x h
  | tup h => exact .tup (by rw [upd_ne (ne_of h hL (by intro z; cases z))]; exact h)
  | lst h => exact .lst (by rw [upd_ne (ne_of h hL (by intro z; cases z; exact hx rfl))]; exact h)
  | dic h => exact .dic (by rw [upd_ne (ne_of h hL (by intro z; cases z))]; exact h)
  | nest h h2 => exact .nest (by rw [upd_ne (ne_of h hL (by intro z; cases z))]; exact h) (by rw [upd_ne (ne_of h2 hL (by intro z; cases z))]; exact h2)
theorem V12.data {K : PySem.W.Frag} {H : Hp} {v : V} (h : V12 H v) : (∃ d, Dp K H v d ∧ SeqAt.shaped d = true ∧ PyData.eqv d d = true) ∨ ∃ a, v = .ref a ∧ H a = some (.dK []) := by
  have sh : ∀ d : PyData, d.canLay0 = true → d.depth ≤ 64 → SeqAt.shaped d = true := fun d h1 h2 => by unfold SeqAt.shaped; rw [h1, decide_eq_true h2]; rfl
  cases h with
  | non => exact .inl ⟨_, .non, by decide, by decide⟩
  | tr => exact .inl ⟨_, .bl _, by decide, by decide⟩
  | i n h => exact .inl ⟨_, .int n, sh _ rfl (by show 0 ≤ 64; decide), SeqAt.eqv_refl _ rfl⟩
  | s x h => exact .inl ⟨_, .str x, h, SeqAt.eqv_refl _ (SeqAt.canLay_of_shaped h)⟩
  | tup h => exact .inl ⟨_, .tup (SqT.of h) (.cons (.int _) (.cons (.int _) .nil)), by decide, by decide⟩
  | lst h => exact .inl ⟨_, .lst (SqL.of h) (.cons (.str _) .nil), by decide +kernel, by decide +kernel⟩
  | dic h => exact .inr ⟨_, rfl, h⟩
  | nest h h2 => exact .inl ⟨_, .tup (SqT.of h) (.cons (.tup (SqT.of h2) (.cons (.int _) (.cons (.int _) .nil))) (.cons (.int _) .nil)), by decide, by decide⟩
theorem kitB (K : PySem.W.Frag) (n : String) (b : Bool) (h : PySem.W.kitOne [] (.type n) (.type "bool") = some b) : PySem.W.kitOne K (.type n) (.type "bool") = some b := h
theorem V12.ty {K : PySem.W.Frag} {H : Hp} {v : V} (h : V12 H v) : ∃ t b, TyX K H v t ∧ PySem.W.kitOne K t (.type "bool") = some b := by
  cases h with
  | non => exact ⟨_, false, .base .non, kitB K _ _ (by decide +kernel)⟩
  | tr => exact ⟨_, true, .base (.bl _), kitB K _ _ (by decide +kernel)⟩
  | i n h => exact ⟨_, false, .base (.int _), kitB K _ _ (by decide +kernel)⟩
  | s x h => exact ⟨_, false, .base (.str _), kitB K _ _ (by decide +kernel)⟩
  | tup h => exact ⟨_, false, .base (.tup h), kitB K _ _ (by decide +kernel)⟩
  | lst h => exact ⟨_, false, .base (.lst h), kitB K _ _ (by decide +kernel)⟩
  | dic h => exact ⟨_, false, .base (.dK h), kitB K _ _ (by decide +kernel)⟩
  | nest h h2 => exact ⟨_, false, .base (.tup h), kitB K _ _ (by decide +kernel)⟩
end
section
open PySem PySem.Spec PyProof.Rows L2
def GetX (C : Addr) (f : Str) (x : V) (H : Hp) (Q : VK) : Prop := ∃ a fs v, x = .ref a ∧ IsX C fs H a ∧ fs.lookup f = some v ∧ Q v H
def MkX (C : Addr) (fl : List Str) (n : Nat) (vs zs : List V) (H : Hp) (Q : VK) : Prop := vs.length = n ∧ zs.length = fl.length - n ∧ ∀ a H', Ex H H' → H a = none → IsX C (fl.zip (vs ++ zs)).reverse H' a → Q (.ref a) H'
/-- a class without fields -/
structure Cx0 (K : PySem.W.Frag) (mg : Str → Option Value) (x : Str) (C : Addr) : Prop where
  q : PySem.W.excIn K C He.veBase "ValueError.__new__" = true
  hm : mg x = some (.ref C)
  kp : PySem.W.keepIn K (.ref C) = true
def MkX0 (C : Addr) (H : Hp) (Q : VK) : Prop := ∀ a H', Ex H H' → H a = none → H' a = some (exo a C none) → Q (.ref a) H'
def tO0 (C : Addr) : TE := fun _ H Q => MkX0 C H Q
/-- what a raise takes -/
def Rzx (X : Cx) (x : V) (H : Hp) (Q : XK) : Prop := ∃ (a C : Addr) (od : Option Addr), x = .ref a ∧ H a = some (exo a C od) ∧ Fr0 X.H_0 a ∧ Raises X (.ref C) ∧ Q (.ref C) od (delH H a)
section
variable {K K' : PySem.W.Frag} {C : Addr} {f : Str} {fl : List Str} {n : Nat} {ta tk : TA} {te : TE} {σ : L2.St} {H : Hp} {Q : VK} {v x y : V} {vs zs : List V}
theorem r_xa (k : te σ H fun x H1 => GetX C f x H1 Q) : tXa K' C f te σ H Q := k
theorem r_ox (k : ta σ H fun vs H1 => tk σ H1 fun zs H2 => MkX C fl n vs zs H2 Q) : tOx C fl n ta tk σ H Q := k
theorem r_ox0 (k : MkX0 C H Q) : tO0 C σ H Q := k
theorem mkget (l1 : vs.length = n) (l2 : zs.length = fl.length - n) (hl : (fl.zip (vs ++ zs)).reverse.lookup f = some v) (k : ∀ H', Ex H H' → Q v H') : MkX C fl n vs zs H (fun x H1 => GetX C f x H1 Q) := ⟨l1, l2, fun a H' e _ h => ⟨a, _, v, rfl, h, hl, k H' e⟩⟩
theorem mkx (l1 : vs.length = n) (l2 : zs.length = fl.length - n) (k : ∀ a H', Ex H H' → H a = none → AnyX C H' a → Q (.ref a) H') : MkX C fl n vs zs H Q := ⟨l1, l2, fun a H' e h0 h => k a H' e h0 (.inr ⟨_, h⟩)⟩
theorem mkx0 (k : ∀ a H', Ex H H' → H a = none → AnyX C H' a → Q (.ref a) H') : MkX0 C H Q := fun a H' e h0 h => k a H' e h0 (.inl h)
/-- two values of a kind are never unlike themselves -/
def rNeW (K : PySem.W.Frag) : R2 := fun x y H Q => rNeD K x y H Q ∨ rNeDA x y H Q
theorem q_neW (h : V12 H v) (k : Q (.bl false) H) : rNeW K v v H Q := by
  rcases h.data (K := K) with ⟨d, h1, h2, h3⟩ | ⟨a, rfl, ha⟩
  · exact .inl ⟨d, d, h1, h1, h2, h2, by rw [h3]; exact k⟩
  · exact .inr ⟨a, a, [], [], rfl, rfl, ha, ha, rfl, fun p hp => (nomatch hp), k⟩
theorem q_isB (h : V12 H v) (e : K' = K) (k : ∀ b, (∀ Q' : VK, Q' (.bl b) H → rIsi K' [v, .ty "bool"] H Q') → Q (.bl b) H) : rIsi K' [v, .ty "bool"] H Q := by
  obtain ⟨t, b, h1, h2⟩ := h.ty (K := K')
  exact r_isi (.ty _) h1 h2 (k b fun Q' q => r_isi (.ty _) h1 h2 q)
end
section
variable {X : Cx} {K : PySem.W.Frag} {C : Addr} {x f : Str} {e : Expr} {te : TE} {p pos : Pos}
theorem kpe_xa (hK : X.K = K) (T : XfC K C) (hno : PySem.W.findIn K (.ref C) f = some none) (he : PE X e te) (hb : attributeBase e f X.env (eval e X.env) = eval e X.env := by rfl) : PE X (.Attribute e f pos) (tXa K C f te) := by subst hK; exact pe_xa T hno he hb
theorem pe_x0 (hK : X.K = K) (c : Cx0 K X.mg x C) (hg : Gl X x) (hdb : (x == ("__debug__" : Str)) = false := by decide) : PE X (.Call (.Name x p) [] [] pos) (tO0 C) := by subst hK; exact pe_xv0 F.excBase_ValueError c.q c.hm c.kp hg hdb
theorem kc_isV (hK : X.K = K) : CallR X (.builtin "isinstance") (rIsV K) := by subst hK; exact cr_isV
theorem kc_sum (hK : X.K = K) (hc : X.calm = true) : CallR X (.builtin "sum") (rSum K) := by subst hK; exact cr_sum hc
def rMin2 : List V → Hp → VK → Prop := fun xs H Q => ∃ i j, xs = [.int i, .int j] ∧ Q (.int (if j < i then j else i)) H
theorem kc_min (hc : X.calm = true) : CallR X (.builtin "min") rMin2 := call_min2 hc
theorem kop_neW (hK : X.K = K) (h1 : X.A.units + 64 < cLine) : OpR X (compareOp .NotEq) (rNeW K) := op_or (kop_neD hK h1) (op_ne_dictA (by omega))
theorem pmk_rx (hx : X.ex = []) (he : PE X e te) : PMk X e (fun σ H Q => te σ H fun x H1 => Rzx X x H1 Q) := pmk_x hx he
end
theorem r_rzx {X : Cx} {te : TE} {W : WX} {σ : L2.St} {H : Hp} (k : te σ H fun x H1 => Rzx X x H1 (fun cls d H' => W cls d σ H')) : (fun (σ : L2.St) (H : Hp) (Q : XK) => te σ H fun x H1 => Rzx X x H1 Q) σ H (fun cls d H' => W cls d σ H') := k
end
open PySem PySem.Spec PyProof.Rows L2
local macro_rules | `(tactic| wtm_at "of_rz1") => `(tactic| with_reducible first
  | refine r_xa ?_ | refine r_ox ?_ | refine r_ox0 ?_
  | refine r_dget ?_ | refine r_dput ?_ | refine r_gsub ?_ | refine q_intI ?_ | refine q_intB ?_
  | refine r_par ?_ | refine r_par3 ?_ | refine r_parP ?_ | refine r_parP3 ?_ | refine r_part ?_ | refine r_nopart ?_ | refine r_intP ?_ | refine r_for ?_ | refine r_iL ?_ | refine r_iT ?_ | refine r_iR1 ?_ | refine r_iR2 ?_ | refine r_iR3 ?_ | refine r_iZ ?_ | refine r_lc ?_ | refine r_sl ?_ | refine r_bm ?_ | refine r_turn1 ?_ | refine r_lturn ?_ | refine r_yes ?_
  | refine r_seq ?_ | refine r_asg ?_ | refine r_ret ?_ | refine r_sfld ?_ | refine r_ifS ?_ | refine r_drop ?_ | refine r_next ?_ | refine r_retN ?_
  | refine r_op ?_ | refine r_un ?_ | refine r_fld ?_ | refine r_cons ?_ | refine r_nil ?_ | refine r_c ?_ | refine r_c1 ?_ | refine r_cb ?_
  | refine r_test ?_ | refine r_B ?_ | refine r_and ?_ | refine r_or ?_ | refine r_not ?_ | refine r_andV ?_ | refine r_orV ?_ | refine r_notV ?_ | refine r_ifE ?_
  | refine r_tr ?_ | refine r_name ?_ | refine r_blP ?_ | refine r_tup ?_ | refine r_lst ?_ | refine r_gCons ?_ | refine r_gNil ?_
  | refine r_var (by with_unfolding_all rfl) ?_
  | refine iteT ?_ | refine iteF ?_ | refine iteNT ?_ | refine iteNF ?_
  | refine r_I0 ?_ | refine r_Ir (by decide) ?_ | refine r_Il (by decide) ?_ | refine r_U ?_ | refine r_eqI ?_ | refine r_neI ?_)
section
open PySem PySem.Spec PyProof.Rows L2
end
open PySem PySem.Spec PyProof.Rows L2
local macro_rules | `(tactic| wtm_at "of_rz") => `(tactic| repeat wtm_at "of_rz1")
section
open PySem PySem.Spec PyProof.Rows L2
def pnK (c : Addr) (a r : Int) : List (Key × V) := [(Sum.inr "cells", .ref c), (Sum.inr "stop", .int a), (Sum.inr "rest", .int r)]
section
variable {c : Addr} {a r z : Int}
theorem pn_cells : valV (pnK c a r) (Sum.inr "cells") = some (.ref c) := by kernel_rfl
theorem pn_stop : valV (pnK c a r) (Sum.inr "stop") = some (.int a) := by kernel_rfl
theorem pn_rest : valV (pnK c a r) (Sum.inr "rest") = some (.int r) := by kernel_rfl
theorem pn_putStop : putK (pnK c a r) (Sum.inr "stop") (.int z) = pnK c z r := by kernel_rfl
theorem pn_putRest : putK (pnK c a r) (Sum.inr "rest") (.int z) = pnK c a z := by kernel_rfl
end
theorem pn_new {c : Addr} : mergeK [] (pnK c 0 0) = pnK c 0 0 := by kernel_rfl
def Pen (H : Hp) (p c : Addr) (n : Nat) : Prop := ∃ (a r : Int) (ns : List Int), H p = some (.dK (pnK c a r)) ∧ H c = some (.lst (ns.map V.int)) ∧ ns.length ≤ 63 ∧ 0 ≤ a ∧ a ≤ (n : Int)
theorem Pen.mono {H : Hp} {p c : Addr} {n m : Nat} (h : Pen H p c n) (hm : n ≤ m) : Pen H p c m := by
  obtain ⟨a, r, ns, h1, h2, h4, h5, h6⟩ := h
  exact ⟨a, r, ns, h1, h2, h4, h5, by omega⟩
theorem Pen.ex {H H' : Hp} {p c : Addr} {n : Nat} (e : Ex H H') (h : Pen H p c n) : Pen H' p c n := by
  obtain ⟨a, r, ns, h1, h2, h3⟩ := h
  exact ⟨a, r, ns, e _ _ h1, e _ _ h2, h3⟩
theorem Pen.put {H : Hp} {p c L : Addr} {n : Nat} {xs : List V} {o : HO} (h : Pen H p c n) (hl : H L = some (.lst xs)) (hc : c ≠ L) : Pen (upd H L o) p c n := by
  obtain ⟨a, r, ns, h1, h2, h3⟩ := h
  exact ⟨a, r, ns, by rw [upd_ne (ne_of h1 hl (by intro z; cases z))]; exact h1, by rw [upd_ne hc]; exact h2, h3⟩
def spPen (K : PySem.W.Frag) : Sp := fun vs H Q _ => ∃ (a : Addr) (ns : List Int), vs = [.ref a] ∧ SqL K H a (ns.map V.int) ∧ ns.length ≤ 63 ∧ ∀ (H' : Hp) (p c : Addr), Ex H H' → H p = none → H c = none → Pen H' p c 0 → Q (.ref p) H'
def spPDraw : Sp := fun vs H Q _ => ∃ (p : Addr) (m : Int) (n : Nat), vs = [.ref p, .int m] ∧ ∃ c, Pen H p c n ∧ n < 1000000 ∧ 0 < m ∧ m.natAbs < 2 ^ 64 ∧ ∀ (H' : Hp) (d : Int), Kn H H' → Pen H' p c (n + 1) → 0 ≤ d → d < m → Q (.int d) H'
def spPPick : Sp := fun vs H Q _ => ∃ (p k : Addr) (xs : List V) (n : Nat), vs = [.ref p, .ref k] ∧ ∃ c, Pen H p c n ∧ n < 1000000 ∧ H k = some (.lst xs) ∧ 0 < xs.length ∧ xs.length ≤ 1000000 ∧ ∀ (H' : Hp) (v : V), Kn H H' → Pen H' p c (n + 1) → v ∈ xs → Q v H'
end
section
open PySem PySem.Spec PyProof.Rows L2
section
variable {K : PySem.W.Frag} {H : Hp} {l e : Addr} {ns : List Int} {Q : VK}
theorem ints_dp : ∀ ns : List Int, DpAll K H (ns.map V.int) (ns.map PyData.int)
  | [] => .nil
  | n :: ns => .cons (.int n) (ints_dp ns)
theorem ints_lay : ∀ ns : List Int, PyData.canLayAll0 (ns.map PyData.int) = true
  | [] => rfl
  | n :: ns => by
    show (PyData.canLay0 (.int n) && PyData.canLayAll0 (ns.map PyData.int)) = true
    rw [ints_lay ns]; rfl
theorem ints_depth : ∀ ns : List Int, PyData.depthAll (ns.map PyData.int) ≤ 1
  | [] => by decide
  | n :: ns => by
    show max (PyData.depth (.int n)) (PyData.depthAll (ns.map PyData.int)) ≤ 1
    have := ints_depth ns
    have h2 : PyData.depth (.int n) ≤ 1 := by show (0 : Nat) ≤ 1; decide
    omega
theorem ints_shaped (ns : List Int) : SeqAt.shaped (.list (ns.map PyData.int)) = true := by
  unfold SeqAt.shaped
  have h1 : PyData.canLay0 (.list (ns.map PyData.int)) = true := ints_lay ns
  have h2 : PyData.depth (.list (ns.map PyData.int)) = PyData.depthAll (ns.map PyData.int) + 1 := rfl
  rw [h1, h2, decide_eq_true (by have := ints_depth ns; omega)]; rfl
theorem q_neInts (hl : H l = some (.lst (ns.map V.int))) (he : H e = some (.lst [])) (k : Q (.bl (!decide (ns = []))) H) : rNeD K (.ref l) (.ref e) H Q :=
  ⟨_, _, .lst (SqL.of hl) (ints_dp ns), .lst (SqL.of he) .nil, ints_shaped ns, nil_shaped, by
    have e1 : PyData.eqv (.list (ns.map PyData.int)) (.list []) = decide (ns = []) := by
      cases ns with
      | nil => rfl
      | cons n ns => rfl
    rw [e1]; exact k⟩
end
end
section
open PySem PySem.Spec PyProof.Rows L2
def spAlone : Sp := fun vs H Q _ => ∃ v, vs = [v] ∧ ∀ H' L ts, Ex H H' → H' L = some (.lst ts) → ts.length = 14 → (∀ t ∈ ts, ∃ a, t = .ref a ∧ H' a = some (.tup [v, v])) → Q (.ref L) H'
def spMore : Sp := fun vs H Q _ => ∃ x y, vs = [x, y] ∧ ∀ H' L ts, Ex H H' → H' L = some (.lst ts) → ts.length ≤ 100 → (∀ t ∈ ts, ∃ a u, t = .ref a ∧ H' a = some (.tup [u, u]) ∧ (u = x ∨ u = y)) → Q (.ref L) H'
def spRaise (Cs : List Addr) : Sp := fun vs H _ E => ∃ (i : Int) (y : V), vs = [.int i, y] ∧ 0 ≤ i ∧ i < 5 ∧ ∀ C ∈ Cs, ∀ od H', Ex H H' → E (.ref C) od H'
def spCaught : Sp := fun vs H Q _ => ∃ (i : Int) (y : V), vs = [.int i, y] ∧ 0 ≤ i ∧ i < 5 ∧ ∀ H', Ex H H' → Q (.bl true) H'
theorem Ex.del {H H' : Hp} {a : Addr} (e : Ex H H') (h : H a = none) : Ex H (delH H' a) := fun b o q => by
  rw [delH_ne (ne_of_none q h)]
  exact e b o q
end
section
open PySem PySem.Spec PyProof.Rows L2
def spLaw0 (K : PySem.W.Frag) : Sp := fun vs H Q _ => ∃ (a : Addr) (ns : List Int), vs = [.ref a] ∧ SqL K H a (ns.map V.int) ∧ ns.length ≤ 63 ∧ ∀ H', Q (.bl true) H'
end
section
open PySem PySem.Spec PyProof.Rows L2
theorem r_dnew {σ : L2.St} {H : Hp} {Q : VK} (k : ∀ p H', Ex H H' → H p = none → H' p = some (.dK []) → Q (.ref p) H') : tDNewK σ H Q := fun p hp => k p _ (Ex.new hp) hp upd_same
theorem r_neB0 {b : Bool} {H : Hp} {Q : VK} (k : Q (.bl false) H) : rNe (.bl b) (.bl b) H Q := ⟨rfl, by rw [decide_eq_true rfl]; exact k⟩
theorem q_isV {K : PySem.W.Frag} {a C : Addr} {c : V} {cv : Value} {b : Bool} {H : Hp} {Q : VK} (EC : ExcC K C) (hx : AnyX C H a) (hc : ∀ u, RelV c u → u = cv) (hk : PySem.W.kitOne K (.ref C) cv = some b) (k : Q (.bl b) H) : rIsV K [.ref a, c] H Q := ⟨a, C, c, b, rfl, EC, hx, .inl ⟨cv, hc, hk⟩, k⟩
theorem q_isVT {K : PySem.W.Frag} {a C t : Addr} {cs : List Addr} {b : Bool} {H : Hp} {Q : VK} (EC : ExcC K C) (hx : AnyX C H a) (ht : H t = some (.tup (cs.map V.ref))) (hk : PySem.W.kitAny K (.ref C) (cs.map Value.ref) = some b) (k : Q (.bl b) H) : rIsV K [.ref a, .ref t] H Q := ⟨a, C, .ref t, b, rfl, EC, hx, .inr ⟨t, cs, rfl, ht, hk⟩, k⟩
theorem AnyX.put {C a L : Addr} {H : Hp} {xs : List V} {o : HO} (h : AnyX C H a) (hL : H L = some (.lst xs)) : AnyX C (upd H L o) a := by
  have ne1 : ∀ {b e C' : Addr} {d : Option Addr}, H b = some (exo e C' d) → b ≠ L := fun h => ne_of h hL (fun z => by have z' : HO.ext _ = HO.lst xs := z; cases z')
  have ne2 : ∀ {b e : Addr} {fs : List (Str × V)}, H b = some (exd e fs) → b ≠ L := fun h => ne_of h hL (fun z => by have z' : HO.ext _ = HO.lst xs := z; cases z')
  rcases h with h | ⟨fs, d, h1, h2⟩
  · exact .inl (by rw [upd_ne (ne1 h)]; exact h)
  · exact .inr ⟨fs, d, by rw [upd_ne (ne1 h1)]; exact h1, by rw [upd_ne (ne2 h2)]; exact h2⟩
end
section
open PySem PySem.Spec PyProof.Rows L2
theorem Kn.putN {H G G' : Hp} {L : Addr} {o : HO} (k1 : Kn H G) (z : G L = none) (k2 : Kn H G') : Kn H (upd G' L o) := fun b u q s => by
  have ne : b ≠ L := fun e => by
    have := k1 b u q s
    rw [e, z] at this
    cases this
  rw [upd_ne ne]
  exact k2 b u q s
theorem q_sum {K : PySem.W.Frag} {H : Hp} {Q : VK} {a : Addr} {ns : List Int} (h : H a = some (.lst (ns.map V.int))) (k : Q (.int ns.sum) H) : rSum K [.ref a] H Q := ⟨a, ns, rfl, SqL.of h, k⟩
end
section
open PySem PySem.Spec PyProof.Rows L2 He
def top (i : Nat) : Stmt := PySem.Challenge.pw_overfloors_k00_errors_made_by_hand.main.body.getD i (.Pass ⟨0, 0, 0, 0⟩)
structure TBl (mg : Str → Option Value) : Prop where
  b_isinstance : mg "isinstance" = none
  b_int : mg "int" = none
  b_bool : mg "bool" = none
  b_len : mg "len" = none
  b_range : mg "range" = none
  b_list : mg "list" = none
  b_min : mg "min" = none
  b_sum : mg "sum" = none
  b_all : mg "all" = none
  b_ValueError : mg "ValueError" = none
section
variable {P : Program} {w : World} {K : PySem.W.Frag} {mg : Str → Option Value} {base : Heap} {C_BadNumber C_BadPoint C_Flat C_TooMany C_TooFar C_NoSuch C_NotWithin C_Apart C_NotPositive C_NotPlain C_NoMarks C_NoLetter C_Clash C_BadLetter C_Overlap C_NoWidth C_BadText C_NoFloor C_BadName C_Taken C_NoPromise C_Barred C_NothingToUndo C_FloorError : Addr}
abbrev s_BadNumber_init : Stmt := (inClass (top 2) 0)
theorem sc_BadNumber___init__ : FnScope ["self", "value"] ["self", "value"] (defScope s_BadNumber_init) := ⟨rfl, rfl, rfl, by decide +kernel, rfl, by decide +kernel, by decide +kernel⟩
theorem ok_BadNumber_init {f : Addr} {fd : FuncData} (F : FunD K "__init__" "BadNumber.__init__" (defArgs s_BadNumber_init) (defBody s_BadNumber_init) (defScope s_BadNumber_init) [] [] f fd) (o_BadNumber : OexC K C_BadNumber) (n_BadNumber_value : PySem.W.findIn K (.ref C_BadNumber) "value" = some none) : FnOk P w K mg base (L2.CX P w) 1 f fd ["self", "value"] (spExs C_BadNumber ["value"]) := by
  refine F.ok (CX := L2.CX P w) sc_BadNumber___init__ (fun vs H Q E h => ?_) (fun cdv A outer s H vs Q E hr h => ?_)
  · obtain ⟨a, ys, rfl, hl, _⟩ := h; rw [List.length_cons, hl]; rfl
  · obtain ⟨a, ys, rfl, hl, ha, k⟩ := h
    obtain ⟨y0, rfl⟩ : ∃ y0, ys = [y0] := by
      match ys, hl with
      | [y0], _ => exact ⟨y0, rfl⟩
    refine ⟨_, (pss_one (kps_ost (K := K) rfl (pv 0) (pv 1))), ?_⟩
    refine ⟨y0, rfl, .ref a, rfl, a, C_BadNumber, rfl, o_BadNumber, n_BadNumber_value, .inl ⟨ha, fun dx hn ne => ?_⟩⟩
    exact k dx _ (fun b o hb hne => by rw [upd_ne hne, upd_ne (ne_of_none hb hn)]; exact hb) upd_same (by rw [upd_ne ne]; exact upd_same) hn
abbrev s_BadPoint_init : Stmt := (inClass (top 3) 0)
theorem sc_BadPoint___init__ : FnScope ["self", "value"] ["self", "value"] (defScope s_BadPoint_init) := ⟨rfl, rfl, rfl, by decide +kernel, rfl, by decide +kernel, by decide +kernel⟩
theorem ok_BadPoint_init {f : Addr} {fd : FuncData} (F : FunD K "__init__" "BadPoint.__init__" (defArgs s_BadPoint_init) (defBody s_BadPoint_init) (defScope s_BadPoint_init) [] [] f fd) (o_BadPoint : OexC K C_BadPoint) (n_BadPoint_value : PySem.W.findIn K (.ref C_BadPoint) "value" = some none) : FnOk P w K mg base (L2.CX P w) 1 f fd ["self", "value"] (spExs C_BadPoint ["value"]) := by
  refine F.ok (CX := L2.CX P w) sc_BadPoint___init__ (fun vs H Q E h => ?_) (fun cdv A outer s H vs Q E hr h => ?_)
  · obtain ⟨a, ys, rfl, hl, _⟩ := h; rw [List.length_cons, hl]; rfl
  · obtain ⟨a, ys, rfl, hl, ha, k⟩ := h
    obtain ⟨y0, rfl⟩ : ∃ y0, ys = [y0] := by
      match ys, hl with
      | [y0], _ => exact ⟨y0, rfl⟩
    refine ⟨_, (pss_one (kps_ost (K := K) rfl (pv 0) (pv 1))), ?_⟩
    refine ⟨y0, rfl, .ref a, rfl, a, C_BadPoint, rfl, o_BadPoint, n_BadPoint_value, .inl ⟨ha, fun dx hn ne => ?_⟩⟩
    exact k dx _ (fun b o hb hne => by rw [upd_ne hne, upd_ne (ne_of_none hb hn)]; exact hb) upd_same (by rw [upd_ne ne]; exact upd_same) hn
abbrev s_TooMany_init : Stmt := (inClass (top 5) 0)
theorem sc_TooMany___init__ : FnScope ["self", "most"] ["self", "most"] (defScope s_TooMany_init) := ⟨rfl, rfl, rfl, by decide +kernel, rfl, by decide +kernel, by decide +kernel⟩
theorem ok_TooMany_init {f : Addr} {fd : FuncData} (F : FunD K "__init__" "TooMany.__init__" (defArgs s_TooMany_init) (defBody s_TooMany_init) (defScope s_TooMany_init) [] [] f fd) (o_TooMany : OexC K C_TooMany) (n_TooMany_most : PySem.W.findIn K (.ref C_TooMany) "most" = some none) : FnOk P w K mg base (L2.CX P w) 1 f fd ["self", "most"] (spExs C_TooMany ["most"]) := by
  refine F.ok (CX := L2.CX P w) sc_TooMany___init__ (fun vs H Q E h => ?_) (fun cdv A outer s H vs Q E hr h => ?_)
  · obtain ⟨a, ys, rfl, hl, _⟩ := h; rw [List.length_cons, hl]; rfl
  · obtain ⟨a, ys, rfl, hl, ha, k⟩ := h
    obtain ⟨y0, rfl⟩ : ∃ y0, ys = [y0] := by
      match ys, hl with
      | [y0], _ => exact ⟨y0, rfl⟩
    refine ⟨_, (pss_one (kps_ost (K := K) rfl (pv 0) (pv 1))), ?_⟩
    refine ⟨y0, rfl, .ref a, rfl, a, C_TooMany, rfl, o_TooMany, n_TooMany_most, .inl ⟨ha, fun dx hn ne => ?_⟩⟩
    exact k dx _ (fun b o hb hne => by rw [upd_ne hne, upd_ne (ne_of_none hb hn)]; exact hb) upd_same (by rw [upd_ne ne]; exact upd_same) hn
abbrev s_TooFar_init : Stmt := (inClass (top 6) 0)
theorem sc_TooFar___init__ : FnScope ["self", "number"] ["self", "number"] (defScope s_TooFar_init) := ⟨rfl, rfl, rfl, by decide +kernel, rfl, by decide +kernel, by decide +kernel⟩
theorem ok_TooFar_init {f : Addr} {fd : FuncData} (F : FunD K "__init__" "TooFar.__init__" (defArgs s_TooFar_init) (defBody s_TooFar_init) (defScope s_TooFar_init) [] [] f fd) (o_TooFar : OexC K C_TooFar) (n_TooFar_number : PySem.W.findIn K (.ref C_TooFar) "number" = some none) : FnOk P w K mg base (L2.CX P w) 1 f fd ["self", "number"] (spExs C_TooFar ["number"]) := by
  refine F.ok (CX := L2.CX P w) sc_TooFar___init__ (fun vs H Q E h => ?_) (fun cdv A outer s H vs Q E hr h => ?_)
  · obtain ⟨a, ys, rfl, hl, _⟩ := h; rw [List.length_cons, hl]; rfl
  · obtain ⟨a, ys, rfl, hl, ha, k⟩ := h
    obtain ⟨y0, rfl⟩ : ∃ y0, ys = [y0] := by
      match ys, hl with
      | [y0], _ => exact ⟨y0, rfl⟩
    refine ⟨_, (pss_one (kps_ost (K := K) rfl (pv 0) (pv 1))), ?_⟩
    refine ⟨y0, rfl, .ref a, rfl, a, C_TooFar, rfl, o_TooFar, n_TooFar_number, .inl ⟨ha, fun dx hn ne => ?_⟩⟩
    exact k dx _ (fun b o hb hne => by rw [upd_ne hne, upd_ne (ne_of_none hb hn)]; exact hb) upd_same (by rw [upd_ne ne]; exact upd_same) hn
abbrev s_NoSuch_init : Stmt := (inClass (top 7) 0)
theorem sc_NoSuch___init__ : FnScope ["self", "number"] ["self", "number"] (defScope s_NoSuch_init) := ⟨rfl, rfl, rfl, by decide +kernel, rfl, by decide +kernel, by decide +kernel⟩
theorem ok_NoSuch_init {f : Addr} {fd : FuncData} (F : FunD K "__init__" "NoSuch.__init__" (defArgs s_NoSuch_init) (defBody s_NoSuch_init) (defScope s_NoSuch_init) [] [] f fd) (o_NoSuch : OexC K C_NoSuch) (n_NoSuch_number : PySem.W.findIn K (.ref C_NoSuch) "number" = some none) : FnOk P w K mg base (L2.CX P w) 1 f fd ["self", "number"] (spExs C_NoSuch ["number"]) := by
  refine F.ok (CX := L2.CX P w) sc_NoSuch___init__ (fun vs H Q E h => ?_) (fun cdv A outer s H vs Q E hr h => ?_)
  · obtain ⟨a, ys, rfl, hl, _⟩ := h; rw [List.length_cons, hl]; rfl
  · obtain ⟨a, ys, rfl, hl, ha, k⟩ := h
    obtain ⟨y0, rfl⟩ : ∃ y0, ys = [y0] := by
      match ys, hl with
      | [y0], _ => exact ⟨y0, rfl⟩
    refine ⟨_, (pss_one (kps_ost (K := K) rfl (pv 0) (pv 1))), ?_⟩
    refine ⟨y0, rfl, .ref a, rfl, a, C_NoSuch, rfl, o_NoSuch, n_NoSuch_number, .inl ⟨ha, fun dx hn ne => ?_⟩⟩
    exact k dx _ (fun b o hb hne => by rw [upd_ne hne, upd_ne (ne_of_none hb hn)]; exact hb) upd_same (by rw [upd_ne ne]; exact upd_same) hn
abbrev s_Apart_init : Stmt := (inClass (top 9) 0)
theorem sc_Apart___init__ : FnScope ["self", "bar"] ["self", "bar"] (defScope s_Apart_init) := ⟨rfl, rfl, rfl, by decide +kernel, rfl, by decide +kernel, by decide +kernel⟩
theorem ok_Apart_init {f : Addr} {fd : FuncData} (F : FunD K "__init__" "Apart.__init__" (defArgs s_Apart_init) (defBody s_Apart_init) (defScope s_Apart_init) [] [] f fd) (o_Apart : OexC K C_Apart) (n_Apart_bar : PySem.W.findIn K (.ref C_Apart) "bar" = some none) : FnOk P w K mg base (L2.CX P w) 1 f fd ["self", "bar"] (spExs C_Apart ["bar"]) := by
  refine F.ok (CX := L2.CX P w) sc_Apart___init__ (fun vs H Q E h => ?_) (fun cdv A outer s H vs Q E hr h => ?_)
  · obtain ⟨a, ys, rfl, hl, _⟩ := h; rw [List.length_cons, hl]; rfl
  · obtain ⟨a, ys, rfl, hl, ha, k⟩ := h
    obtain ⟨y0, rfl⟩ : ∃ y0, ys = [y0] := by
      match ys, hl with
      | [y0], _ => exact ⟨y0, rfl⟩
    refine ⟨_, (pss_one (kps_ost (K := K) rfl (pv 0) (pv 1))), ?_⟩
    refine ⟨y0, rfl, .ref a, rfl, a, C_Apart, rfl, o_Apart, n_Apart_bar, .inl ⟨ha, fun dx hn ne => ?_⟩⟩
    exact k dx _ (fun b o hb hne => by rw [upd_ne hne, upd_ne (ne_of_none hb hn)]; exact hb) upd_same (by rw [upd_ne ne]; exact upd_same) hn
abbrev s_NotPositive_init : Stmt := (inClass (top 10) 0)
theorem sc_NotPositive___init__ : FnScope ["self", "a", "b", "c"] ["self", "a", "b", "c"] (defScope s_NotPositive_init) := ⟨rfl, rfl, rfl, by decide +kernel, rfl, by decide +kernel, by decide +kernel⟩
theorem ok_NotPositive_init {f : Addr} {fd : FuncData} (F : FunD K "__init__" "NotPositive.__init__" (defArgs s_NotPositive_init) (defBody s_NotPositive_init) (defScope s_NotPositive_init) [] [] f fd) (o_NotPositive : OexC K C_NotPositive) (n_NotPositive_a : PySem.W.findIn K (.ref C_NotPositive) "a" = some none) (n_NotPositive_b : PySem.W.findIn K (.ref C_NotPositive) "b" = some none) (n_NotPositive_c : PySem.W.findIn K (.ref C_NotPositive) "c" = some none) : FnOk P w K mg base (L2.CX P w) 1 f fd ["self", "a", "b", "c"] (spExs C_NotPositive ["a", "b", "c"]) := by
  refine F.ok (CX := L2.CX P w) sc_NotPositive___init__ (fun vs H Q E h => ?_) (fun cdv A outer s H vs Q E hr h => ?_)
  · obtain ⟨a, ys, rfl, hl, _⟩ := h; rw [List.length_cons, hl]; rfl
  · obtain ⟨a, ys, rfl, hl, ha, k⟩ := h
    obtain ⟨y0, y1, y2, rfl⟩ : ∃ y0 y1 y2, ys = [y0, y1, y2] := by
      match ys, hl with
      | [y0, y1, y2], _ => exact ⟨y0, y1, y2, rfl⟩
    refine ⟨_, (pss_cons (kps_ost (K := K) rfl (pv 0) (pv 1)) (pss_cons (kps_ost (K := K) rfl (pv 0) (pv 2)) (pss_one (kps_ost (K := K) rfl (pv 0) (pv 3))))), ?_⟩
    refine ⟨y0, rfl, .ref a, rfl, a, C_NotPositive, rfl, o_NotPositive, n_NotPositive_a, .inl ⟨ha, fun dx hn ne => ?_⟩⟩
    have hd1 : upd (upd H dx (exd dx [("a", y0)])) a (exo a C_NotPositive (some dx)) dx = some (exd dx [("a", y0)]) := by rw [upd_ne ne]; exact upd_same
    refine ⟨y1, rfl, .ref a, rfl, a, C_NotPositive, rfl, o_NotPositive, n_NotPositive_b, .inr ⟨dx, _, upd_same, hd1, by show 1 ≤ 900; decide, ?_⟩⟩
    refine ⟨y2, rfl, .ref a, rfl, a, C_NotPositive, rfl, o_NotPositive, n_NotPositive_c, .inr ⟨dx, _, by rw [upd_ne (Ne.symm ne)]; exact upd_same, upd_same, by show 2 ≤ 900; decide, ?_⟩⟩
    exact k dx _ (fun b o hb hne => by rw [upd_ne (ne_of_none hb hn), upd_ne (ne_of_none hb hn), upd_ne hne, upd_ne (ne_of_none hb hn)]; exact hb) (by rw [upd_ne (Ne.symm ne), upd_ne (Ne.symm ne)]; exact upd_same) upd_same hn
abbrev s_NoLetter_init : Stmt := (inClass (top 13) 0)
theorem sc_NoLetter___init__ : FnScope ["self", "letter"] ["self", "letter"] (defScope s_NoLetter_init) := ⟨rfl, rfl, rfl, by decide +kernel, rfl, by decide +kernel, by decide +kernel⟩
theorem ok_NoLetter_init {f : Addr} {fd : FuncData} (F : FunD K "__init__" "NoLetter.__init__" (defArgs s_NoLetter_init) (defBody s_NoLetter_init) (defScope s_NoLetter_init) [] [] f fd) (o_NoLetter : OexC K C_NoLetter) (n_NoLetter_letter : PySem.W.findIn K (.ref C_NoLetter) "letter" = some none) : FnOk P w K mg base (L2.CX P w) 1 f fd ["self", "letter"] (spExs C_NoLetter ["letter"]) := by
  refine F.ok (CX := L2.CX P w) sc_NoLetter___init__ (fun vs H Q E h => ?_) (fun cdv A outer s H vs Q E hr h => ?_)
  · obtain ⟨a, ys, rfl, hl, _⟩ := h; rw [List.length_cons, hl]; rfl
  · obtain ⟨a, ys, rfl, hl, ha, k⟩ := h
    obtain ⟨y0, rfl⟩ : ∃ y0, ys = [y0] := by
      match ys, hl with
      | [y0], _ => exact ⟨y0, rfl⟩
    refine ⟨_, (pss_one (kps_ost (K := K) rfl (pv 0) (pv 1))), ?_⟩
    refine ⟨y0, rfl, .ref a, rfl, a, C_NoLetter, rfl, o_NoLetter, n_NoLetter_letter, .inl ⟨ha, fun dx hn ne => ?_⟩⟩
    exact k dx _ (fun b o hb hne => by rw [upd_ne hne, upd_ne (ne_of_none hb hn)]; exact hb) upd_same (by rw [upd_ne ne]; exact upd_same) hn
abbrev s_Clash_init : Stmt := (inClass (top 14) 0)
theorem sc_Clash___init__ : FnScope ["self", "letter", "other"] ["self", "letter", "other"] (defScope s_Clash_init) := ⟨rfl, rfl, rfl, by decide +kernel, rfl, by decide +kernel, by decide +kernel⟩
theorem ok_Clash_init {f : Addr} {fd : FuncData} (F : FunD K "__init__" "Clash.__init__" (defArgs s_Clash_init) (defBody s_Clash_init) (defScope s_Clash_init) [] [] f fd) (o_Clash : OexC K C_Clash) (n_Clash_letter : PySem.W.findIn K (.ref C_Clash) "letter" = some none) (n_Clash_other : PySem.W.findIn K (.ref C_Clash) "other" = some none) : FnOk P w K mg base (L2.CX P w) 1 f fd ["self", "letter", "other"] (spExs C_Clash ["letter", "other"]) := by
  refine F.ok (CX := L2.CX P w) sc_Clash___init__ (fun vs H Q E h => ?_) (fun cdv A outer s H vs Q E hr h => ?_)
  · obtain ⟨a, ys, rfl, hl, _⟩ := h; rw [List.length_cons, hl]; rfl
  · obtain ⟨a, ys, rfl, hl, ha, k⟩ := h
    obtain ⟨y0, y1, rfl⟩ : ∃ y0 y1, ys = [y0, y1] := by
      match ys, hl with
      | [y0, y1], _ => exact ⟨y0, y1, rfl⟩
    refine ⟨_, (pss_cons (kps_ost (K := K) rfl (pv 0) (pv 1)) (pss_one (kps_ost (K := K) rfl (pv 0) (pv 2)))), ?_⟩
    refine ⟨y0, rfl, .ref a, rfl, a, C_Clash, rfl, o_Clash, n_Clash_letter, .inl ⟨ha, fun dx hn ne => ?_⟩⟩
    have hd1 : upd (upd H dx (exd dx [("letter", y0)])) a (exo a C_Clash (some dx)) dx = some (exd dx [("letter", y0)]) := by rw [upd_ne ne]; exact upd_same
    refine ⟨y1, rfl, .ref a, rfl, a, C_Clash, rfl, o_Clash, n_Clash_other, .inr ⟨dx, _, upd_same, hd1, by show 1 ≤ 900; decide, ?_⟩⟩
    exact k dx _ (fun b o hb hne => by rw [upd_ne (ne_of_none hb hn), upd_ne hne, upd_ne (ne_of_none hb hn)]; exact hb) (by rw [upd_ne (Ne.symm ne)]; exact upd_same) upd_same hn
abbrev s_BadLetter_init : Stmt := (inClass (top 15) 0)
theorem sc_BadLetter___init__ : FnScope ["self", "value"] ["self", "value"] (defScope s_BadLetter_init) := ⟨rfl, rfl, rfl, by decide +kernel, rfl, by decide +kernel, by decide +kernel⟩
theorem ok_BadLetter_init {f : Addr} {fd : FuncData} (F : FunD K "__init__" "BadLetter.__init__" (defArgs s_BadLetter_init) (defBody s_BadLetter_init) (defScope s_BadLetter_init) [] [] f fd) (o_BadLetter : OexC K C_BadLetter) (n_BadLetter_value : PySem.W.findIn K (.ref C_BadLetter) "value" = some none) : FnOk P w K mg base (L2.CX P w) 1 f fd ["self", "value"] (spExs C_BadLetter ["value"]) := by
  refine F.ok (CX := L2.CX P w) sc_BadLetter___init__ (fun vs H Q E h => ?_) (fun cdv A outer s H vs Q E hr h => ?_)
  · obtain ⟨a, ys, rfl, hl, _⟩ := h; rw [List.length_cons, hl]; rfl
  · obtain ⟨a, ys, rfl, hl, ha, k⟩ := h
    obtain ⟨y0, rfl⟩ : ∃ y0, ys = [y0] := by
      match ys, hl with
      | [y0], _ => exact ⟨y0, rfl⟩
    refine ⟨_, (pss_one (kps_ost (K := K) rfl (pv 0) (pv 1))), ?_⟩
    refine ⟨y0, rfl, .ref a, rfl, a, C_BadLetter, rfl, o_BadLetter, n_BadLetter_value, .inl ⟨ha, fun dx hn ne => ?_⟩⟩
    exact k dx _ (fun b o hb hne => by rw [upd_ne hne, upd_ne (ne_of_none hb hn)]; exact hb) upd_same (by rw [upd_ne ne]; exact upd_same) hn
abbrev s_Overlap_init : Stmt := (inClass (top 16) 0)
theorem sc_Overlap___init__ : FnScope ["self", "first", "second"] ["self", "first", "second"] (defScope s_Overlap_init) := ⟨rfl, rfl, rfl, by decide +kernel, rfl, by decide +kernel, by decide +kernel⟩
theorem ok_Overlap_init {f : Addr} {fd : FuncData} (F : FunD K "__init__" "Overlap.__init__" (defArgs s_Overlap_init) (defBody s_Overlap_init) (defScope s_Overlap_init) [] [] f fd) (o_Overlap : OexC K C_Overlap) (n_Overlap_first : PySem.W.findIn K (.ref C_Overlap) "first" = some none) (n_Overlap_second : PySem.W.findIn K (.ref C_Overlap) "second" = some none) : FnOk P w K mg base (L2.CX P w) 1 f fd ["self", "first", "second"] (spExs C_Overlap ["first", "second"]) := by
  refine F.ok (CX := L2.CX P w) sc_Overlap___init__ (fun vs H Q E h => ?_) (fun cdv A outer s H vs Q E hr h => ?_)
  · obtain ⟨a, ys, rfl, hl, _⟩ := h; rw [List.length_cons, hl]; rfl
  · obtain ⟨a, ys, rfl, hl, ha, k⟩ := h
    obtain ⟨y0, y1, rfl⟩ : ∃ y0 y1, ys = [y0, y1] := by
      match ys, hl with
      | [y0, y1], _ => exact ⟨y0, y1, rfl⟩
    refine ⟨_, (pss_cons (kps_ost (K := K) rfl (pv 0) (pv 1)) (pss_one (kps_ost (K := K) rfl (pv 0) (pv 2)))), ?_⟩
    refine ⟨y0, rfl, .ref a, rfl, a, C_Overlap, rfl, o_Overlap, n_Overlap_first, .inl ⟨ha, fun dx hn ne => ?_⟩⟩
    have hd1 : upd (upd H dx (exd dx [("first", y0)])) a (exo a C_Overlap (some dx)) dx = some (exd dx [("first", y0)]) := by rw [upd_ne ne]; exact upd_same
    refine ⟨y1, rfl, .ref a, rfl, a, C_Overlap, rfl, o_Overlap, n_Overlap_second, .inr ⟨dx, _, upd_same, hd1, by show 1 ≤ 900; decide, ?_⟩⟩
    exact k dx _ (fun b o hb hne => by rw [upd_ne (ne_of_none hb hn), upd_ne hne, upd_ne (ne_of_none hb hn)]; exact hb) (by rw [upd_ne (Ne.symm ne)]; exact upd_same) upd_same hn
abbrev s_BadText_init : Stmt := (inClass (top 18) 0)
theorem sc_BadText___init__ : FnScope ["self", "index"] ["self", "index"] (defScope s_BadText_init) := ⟨rfl, rfl, rfl, by decide +kernel, rfl, by decide +kernel, by decide +kernel⟩
theorem ok_BadText_init {f : Addr} {fd : FuncData} (F : FunD K "__init__" "BadText.__init__" (defArgs s_BadText_init) (defBody s_BadText_init) (defScope s_BadText_init) [] [] f fd) (o_BadText : OexC K C_BadText) (n_BadText_index : PySem.W.findIn K (.ref C_BadText) "index" = some none) : FnOk P w K mg base (L2.CX P w) 1 f fd ["self", "index"] (spExs C_BadText ["index"]) := by
  refine F.ok (CX := L2.CX P w) sc_BadText___init__ (fun vs H Q E h => ?_) (fun cdv A outer s H vs Q E hr h => ?_)
  · obtain ⟨a, ys, rfl, hl, _⟩ := h; rw [List.length_cons, hl]; rfl
  · obtain ⟨a, ys, rfl, hl, ha, k⟩ := h
    obtain ⟨y0, rfl⟩ : ∃ y0, ys = [y0] := by
      match ys, hl with
      | [y0], _ => exact ⟨y0, rfl⟩
    refine ⟨_, (pss_one (kps_ost (K := K) rfl (pv 0) (pv 1))), ?_⟩
    refine ⟨y0, rfl, .ref a, rfl, a, C_BadText, rfl, o_BadText, n_BadText_index, .inl ⟨ha, fun dx hn ne => ?_⟩⟩
    exact k dx _ (fun b o hb hne => by rw [upd_ne hne, upd_ne (ne_of_none hb hn)]; exact hb) upd_same (by rw [upd_ne ne]; exact upd_same) hn
abbrev s_NoFloor_init : Stmt := (inClass (top 19) 0)
theorem sc_NoFloor___init__ : FnScope ["self", "name"] ["self", "name"] (defScope s_NoFloor_init) := ⟨rfl, rfl, rfl, by decide +kernel, rfl, by decide +kernel, by decide +kernel⟩
theorem ok_NoFloor_init {f : Addr} {fd : FuncData} (F : FunD K "__init__" "NoFloor.__init__" (defArgs s_NoFloor_init) (defBody s_NoFloor_init) (defScope s_NoFloor_init) [] [] f fd) (o_NoFloor : OexC K C_NoFloor) (n_NoFloor_name : PySem.W.findIn K (.ref C_NoFloor) "name" = some none) : FnOk P w K mg base (L2.CX P w) 1 f fd ["self", "name"] (spExs C_NoFloor ["name"]) := by
  refine F.ok (CX := L2.CX P w) sc_NoFloor___init__ (fun vs H Q E h => ?_) (fun cdv A outer s H vs Q E hr h => ?_)
  · obtain ⟨a, ys, rfl, hl, _⟩ := h; rw [List.length_cons, hl]; rfl
  · obtain ⟨a, ys, rfl, hl, ha, k⟩ := h
    obtain ⟨y0, rfl⟩ : ∃ y0, ys = [y0] := by
      match ys, hl with
      | [y0], _ => exact ⟨y0, rfl⟩
    refine ⟨_, (pss_one (kps_ost (K := K) rfl (pv 0) (pv 1))), ?_⟩
    refine ⟨y0, rfl, .ref a, rfl, a, C_NoFloor, rfl, o_NoFloor, n_NoFloor_name, .inl ⟨ha, fun dx hn ne => ?_⟩⟩
    exact k dx _ (fun b o hb hne => by rw [upd_ne hne, upd_ne (ne_of_none hb hn)]; exact hb) upd_same (by rw [upd_ne ne]; exact upd_same) hn
abbrev s_BadName_init : Stmt := (inClass (top 20) 0)
theorem sc_BadName___init__ : FnScope ["self", "value"] ["self", "value"] (defScope s_BadName_init) := ⟨rfl, rfl, rfl, by decide +kernel, rfl, by decide +kernel, by decide +kernel⟩
theorem ok_BadName_init {f : Addr} {fd : FuncData} (F : FunD K "__init__" "BadName.__init__" (defArgs s_BadName_init) (defBody s_BadName_init) (defScope s_BadName_init) [] [] f fd) (o_BadName : OexC K C_BadName) (n_BadName_value : PySem.W.findIn K (.ref C_BadName) "value" = some none) : FnOk P w K mg base (L2.CX P w) 1 f fd ["self", "value"] (spExs C_BadName ["value"]) := by
  refine F.ok (CX := L2.CX P w) sc_BadName___init__ (fun vs H Q E h => ?_) (fun cdv A outer s H vs Q E hr h => ?_)
  · obtain ⟨a, ys, rfl, hl, _⟩ := h; rw [List.length_cons, hl]; rfl
  · obtain ⟨a, ys, rfl, hl, ha, k⟩ := h
    obtain ⟨y0, rfl⟩ : ∃ y0, ys = [y0] := by
      match ys, hl with
      | [y0], _ => exact ⟨y0, rfl⟩
    refine ⟨_, (pss_one (kps_ost (K := K) rfl (pv 0) (pv 1))), ?_⟩
    refine ⟨y0, rfl, .ref a, rfl, a, C_BadName, rfl, o_BadName, n_BadName_value, .inl ⟨ha, fun dx hn ne => ?_⟩⟩
    exact k dx _ (fun b o hb hne => by rw [upd_ne hne, upd_ne (ne_of_none hb hn)]; exact hb) upd_same (by rw [upd_ne ne]; exact upd_same) hn
abbrev s_Taken_init : Stmt := (inClass (top 21) 0)
theorem sc_Taken___init__ : FnScope ["self", "name"] ["self", "name"] (defScope s_Taken_init) := ⟨rfl, rfl, rfl, by decide +kernel, rfl, by decide +kernel, by decide +kernel⟩
theorem ok_Taken_init {f : Addr} {fd : FuncData} (F : FunD K "__init__" "Taken.__init__" (defArgs s_Taken_init) (defBody s_Taken_init) (defScope s_Taken_init) [] [] f fd) (o_Taken : OexC K C_Taken) (n_Taken_name : PySem.W.findIn K (.ref C_Taken) "name" = some none) : FnOk P w K mg base (L2.CX P w) 1 f fd ["self", "name"] (spExs C_Taken ["name"]) := by
  refine F.ok (CX := L2.CX P w) sc_Taken___init__ (fun vs H Q E h => ?_) (fun cdv A outer s H vs Q E hr h => ?_)
  · obtain ⟨a, ys, rfl, hl, _⟩ := h; rw [List.length_cons, hl]; rfl
  · obtain ⟨a, ys, rfl, hl, ha, k⟩ := h
    obtain ⟨y0, rfl⟩ : ∃ y0, ys = [y0] := by
      match ys, hl with
      | [y0], _ => exact ⟨y0, rfl⟩
    refine ⟨_, (pss_one (kps_ost (K := K) rfl (pv 0) (pv 1))), ?_⟩
    refine ⟨y0, rfl, .ref a, rfl, a, C_Taken, rfl, o_Taken, n_Taken_name, .inl ⟨ha, fun dx hn ne => ?_⟩⟩
    exact k dx _ (fun b o hb hne => by rw [upd_ne hne, upd_ne (ne_of_none hb hn)]; exact hb) upd_same (by rw [upd_ne ne]; exact upd_same) hn
abbrev s_NoPromise_init : Stmt := (inClass (top 22) 0)
theorem sc_NoPromise___init__ : FnScope ["self", "name"] ["self", "name"] (defScope s_NoPromise_init) := ⟨rfl, rfl, rfl, by decide +kernel, rfl, by decide +kernel, by decide +kernel⟩
theorem ok_NoPromise_init {f : Addr} {fd : FuncData} (F : FunD K "__init__" "NoPromise.__init__" (defArgs s_NoPromise_init) (defBody s_NoPromise_init) (defScope s_NoPromise_init) [] [] f fd) (o_NoPromise : OexC K C_NoPromise) (n_NoPromise_name : PySem.W.findIn K (.ref C_NoPromise) "name" = some none) : FnOk P w K mg base (L2.CX P w) 1 f fd ["self", "name"] (spExs C_NoPromise ["name"]) := by
  refine F.ok (CX := L2.CX P w) sc_NoPromise___init__ (fun vs H Q E h => ?_) (fun cdv A outer s H vs Q E hr h => ?_)
  · obtain ⟨a, ys, rfl, hl, _⟩ := h; rw [List.length_cons, hl]; rfl
  · obtain ⟨a, ys, rfl, hl, ha, k⟩ := h
    obtain ⟨y0, rfl⟩ : ∃ y0, ys = [y0] := by
      match ys, hl with
      | [y0], _ => exact ⟨y0, rfl⟩
    refine ⟨_, (pss_one (kps_ost (K := K) rfl (pv 0) (pv 1))), ?_⟩
    refine ⟨y0, rfl, .ref a, rfl, a, C_NoPromise, rfl, o_NoPromise, n_NoPromise_name, .inl ⟨ha, fun dx hn ne => ?_⟩⟩
    exact k dx _ (fun b o hb hne => by rw [upd_ne hne, upd_ne (ne_of_none hb hn)]; exact hb) upd_same (by rw [upd_ne ne]; exact upd_same) hn
abbrev s_Barred_init : Stmt := (inClass (top 23) 0)
theorem sc_Barred___init__ : FnScope ["self", "words"] ["self", "words"] (defScope s_Barred_init) := ⟨rfl, rfl, rfl, by decide +kernel, rfl, by decide +kernel, by decide +kernel⟩
theorem ok_Barred_init {f : Addr} {fd : FuncData} (F : FunD K "__init__" "Barred.__init__" (defArgs s_Barred_init) (defBody s_Barred_init) (defScope s_Barred_init) [] [] f fd) (o_Barred : OexC K C_Barred) (n_Barred_words : PySem.W.findIn K (.ref C_Barred) "words" = some none) : FnOk P w K mg base (L2.CX P w) 1 f fd ["self", "words"] (spExs C_Barred ["words"]) := by
  refine F.ok (CX := L2.CX P w) sc_Barred___init__ (fun vs H Q E h => ?_) (fun cdv A outer s H vs Q E hr h => ?_)
  · obtain ⟨a, ys, rfl, hl, _⟩ := h; rw [List.length_cons, hl]; rfl
  · obtain ⟨a, ys, rfl, hl, ha, k⟩ := h
    obtain ⟨y0, rfl⟩ : ∃ y0, ys = [y0] := by
      match ys, hl with
      | [y0], _ => exact ⟨y0, rfl⟩
    refine ⟨_, (pss_one (kps_ost (K := K) rfl (pv 0) (pv 1))), ?_⟩
    refine ⟨y0, rfl, .ref a, rfl, a, C_Barred, rfl, o_Barred, n_Barred_words, .inl ⟨ha, fun dx hn ne => ?_⟩⟩
    exact k dx _ (fun b o hb hne => by rw [upd_ne hne, upd_ne (ne_of_none hb hn)]; exact hb) upd_same (by rw [upd_ne ne]; exact upd_same) hn
end
end
section
open PySem PySem.Spec PyProof.Rows L2 He
section
variable {P : Program} {w : World} {K : PySem.W.Frag} {mg : Str → Option Value} {base : Heap} {C_BadNumber C_BadPoint C_Flat C_TooMany C_TooFar C_NoSuch C_NotWithin C_Apart C_NotPositive C_NotPlain C_NoMarks C_NoLetter C_Clash C_BadLetter C_Overlap C_NoWidth C_BadText C_NoFloor C_BadName C_Taken C_NoPromise C_Barred C_NothingToUndo C_FloorError : Addr}
abbrev s__law_pen : Stmt := (top 26)
theorem sc__law_pen : FnScope ["script"] ["script"] (defScope s__law_pen) := ⟨rfl, rfl, rfl, by decide +kernel, rfl, by decide +kernel, by decide +kernel⟩
theorem ok__law_pen {f : Addr} {fd : FuncData} (F : FunD K "_law_pen" "_law_pen" (defArgs s__law_pen) (defBody s__law_pen) (defScope s__law_pen) [] [] f fd) (TB : TBl mg) : FnOk P w K mg base (L2.CX P w) 1 f fd ["script"] (spPen K) := by
  refine F.ok (CX := L2.CX P w) sc__law_pen (fun vs H Q E h => ?_) (fun cdv A outer s H vs Q E hr h => ?_)
  · obtain ⟨a, ns, rfl, _⟩ := h; rfl
  · obtain ⟨a, ns, rfl, ha, hn, k⟩ := h
    refine ⟨_, (pss_one (ps_ret (pe_disp (pps_cons pe_str (pe_callTy (kc_listof (K := K) rfl) (by rfl) TB.b_list (by decide +kernel) (pa_cons (pe_slice (ksl_l (K := K) rfl) (pv 0) po_none (po_some pe_int)) pa_nil)) (pps_cons pe_str pe_int (pps_cons pe_str pe_int pps_nil))) (by rfl) (by rfl) (fun z => by cases z) (by decide)))), ?_⟩
    have hl : (ns.map V.int).length = ns.length := List.length_map _
    wtm_at "of_rz"
    refine r_disp ?_
    intro p H1 e1 n1 h1
    refine r_pairs ?_
    wtm_at "of_rz"
    refine r_slS (by with_unfolding_all rfl) (e1.seq ha) ?_
    intro p2 H2 e2 n2 h2
    have cu : cutV (ns.map V.int) none (some (63 : Int)) = ns.map V.int := cutV_upto (n := 63) (by rw [hl]; exact hn)
    rw [cu] at h2
    wtm_at "of_rz"
    refine q_listL h2 ?_
    intro p3 H3 e3 n3 h3
    have hp3 := (e2.trans e3) _ _ h1
    have np : p3 ≠ p := fun z => by subst z; rw [e2 _ _ h1] at n3; cases n3
    refine r_pairs ?_
    wtm_at "of_rz"
    refine r_pairs ?_
    wtm_at "of_rz"
    refine r_pairs0 ?_
    refine disp_end (kvs := pnK p3 0 0) hp3 (by show 3 ≤ 15; decide) pn_new ?_ rfl
    exact k _ p p3 (((e1.trans e2).trans e3).put n1) n1 (none_of (e1.trans e2) n3) ⟨0, 0, ns, upd_same, by rw [upd_ne np]; exact h3, hn, by decide, by decide⟩
abbrev s__law_draw : Stmt := (top 27)
theorem sc__law_draw : FnScope ["pen", "many", "stop", "cell", "blend", "digit"] ["pen", "many"] (defScope s__law_draw) := ⟨rfl, rfl, rfl, by decide +kernel, rfl, by decide +kernel, by decide +kernel⟩
theorem ok__law_draw {f : Addr} {fd : FuncData} (F : FunD K "_law_draw" "_law_draw" (defArgs s__law_draw) (defBody s__law_draw) (defScope s__law_draw) [] [] f fd) (TB : TBl mg) : FnOk P w K mg base (L2.CX P w) 1 f fd ["pen", "many"] (spPDraw) := by
  refine F.ok (CX := L2.CX P w) sc__law_draw (fun vs H Q E h => ?_) (fun cdv A outer s H vs Q E hr h => ?_)
  · obtain ⟨p, m, n, rfl, _⟩ := h; rfl
  · obtain ⟨p, m, n, rfl, c, ⟨a, r, ns, h1, h2, h3, h5, h6⟩, hn, hm, hm4, k⟩ := h
    refine ⟨_, (pss_cons (ps_if (pt_cmpR op_ge (pe_dget (hu_of hr) (pv 0) pe_str (fun _ _ => rfl)) (pv 1) (nomark _)) (pss_cons (ps_set (i := 5) sc__law_draw.nd rfl (Or.inl rfl) (pe_op op_mod (pe_callTy kc_int1 (by rfl) TB.b_int (by decide +kernel) (pa_cons (pe_dget (hu_of hr) (pv 0) pe_str (fun _ _ => rfl)) pa_nil)) (pv 1))) (pss_cons (ps_dput (hu_of hr) (pv 0) pe_str (pe_op op_fdivW (pe_dget (hu_of hr) (pv 0) pe_str (fun _ _ => rfl)) (pv 1)) rfl) (pss_one (ps_ret (pv 5))))) pss_nil) (pss_cons (ps_set (i := 2) sc__law_draw.nd rfl (Or.inl rfl) (pe_dget (hu_of hr) (pv 0) pe_str (fun _ _ => rfl))) (pss_cons (ps_dput (hu_of hr) (pv 0) pe_str (pe_op op_add (pv 2) pe_int) rfl) (pss_cons (ps_set (i := 3) sc__law_draw.nd rfl (Or.inl rfl) (pe_op op_add (pe_op op_mulA pe_int (pv 2)) pe_int)) (pss_cons (ps_if (pt_cmpR (kop_neD (K := K) rfl (hu_of64 hr)) (pe_dget (hu_of hr) (pv 0) pe_str (fun _ _ => rfl)) (pe_lst pa_nil) (nomark _)) (pss_one (ps_set (i := 3) sc__law_draw.nd rfl (Or.inl rfl) (pe_ix (kix_l (K := K) rfl) (pe_dget (hu_of hr) (pv 0) pe_str (fun _ _ => rfl)) (pe_op op_mod (pe_callTy kc_int1 (by rfl) TB.b_int (by decide +kernel) (pa_cons (pv 2) pa_nil)) (pe_callB (kc_len (K := K) rfl) (by rfl) TB.b_len PySem.boot_len (pa_cons (pe_dget (hu_of hr) (pv 0) pe_str (fun _ _ => rfl)) pa_nil))) (fun _ _ => rfl)))) pss_nil) (pss_cons (ps_if (pw_and (pt_cmpR op_lt (pv 2) (pe_callB (kc_len (K := K) rfl) (by rfl) TB.b_len PySem.boot_len (pa_cons (pe_dget (hu_of hr) (pv 0) pe_str (fun _ _ => rfl)) pa_nil)) (nomark _)) (pw_and1 (pt_cmpR op_ge (pv 3) (pe_op op_pow pe_int pe_int) (nomark _)))).pt (pss_cons (ps_dput (hu_of hr) (pv 0) pe_str (pe_op op_fdivW (pe_op op_sub (pv 3) (pe_op op_pow pe_int pe_int)) (pv 1)) rfl) (pss_one (ps_ret (pe_op op_mod (pe_callTy kc_int1 (by rfl) TB.b_int (by decide +kernel) (pa_cons (pe_op op_sub (pv 3) (pe_op op_pow pe_int pe_int)) pa_nil)) (pv 1))))) pss_nil) (pss_cons (ps_set (i := 4) sc__law_draw.nd rfl (Or.inl rfl) (pe_op op_mulA (pe_op op_mod (pe_callTy kc_int1 (by rfl) TB.b_int (by decide +kernel) (pa_cons (pv 3) pa_nil)) pe_int) pe_int)) (pss_cons (ps_set (i := 4) sc__law_draw.nd rfl (Or.inl rfl) (pe_op op_mod (pe_callTy kc_int1 (by rfl) TB.b_int (by decide +kernel) (pa_cons (pe_op op_add (pe_op op_add (pe_op op_add (pv 4) (pe_op op_mulA (pe_op op_mulA pe_int (pv 2)) (pv 2))) (pe_op op_mulA pe_int (pv 2))) pe_int) pa_nil)) pe_int)) (pss_cons (ps_set (i := 4) sc__law_draw.nd rfl (Or.inl rfl) (pe_op op_mod (pe_callTy kc_int1 (by rfl) TB.b_int (by decide +kernel) (pa_cons (pe_op op_mulA (pv 4) (pe_op op_add (pv 4) pe_int)) pa_nil)) pe_int)) (pss_one (ps_ret (pe_op op_mod (pe_callTy kc_int1 (by rfl) TB.b_int (by decide +kernel) (pa_cons (pe_op op_fdivW (pe_op op_mod (pe_callTy kc_int1 (by rfl) TB.b_int (by decide +kernel) (pa_cons (pe_op op_add (pe_op op_mulA (pv 4) (pv 4)) (pe_op op_mulA pe_int (pv 4))) pa_nil)) pe_int) pe_int) pa_nil)) (pv 1))))))))))))), ?_⟩
    wtm_at "of_rz"
    refine dAt h1 pn_rest ?_
    wtm_at "of_rz"
    refine ite2 (fun hge => ?_) (fun hlt => ?_)
    · wtm_at "of_rz"
      refine dAt h1 pn_rest ?_
      wtm_at "of_rz"
      refine r_I hm ?_
      wtm_at "of_rz"
      refine dAt h1 pn_rest ?_
      wtm_at "of_rz"
      refine r_I ⟨hm, PySem.Flt.log2_lt_of (by decide) (pow_mono hm4 (by decide))⟩ ?_
      wtm_at "of_rz"
      refine dPut h1 (by show 3 ≤ 1000; decide) pn_putRest ?_
      wtm_at "of_rz"
      exact k _ _ (Kn.dict h1) ⟨a, _, ns, upd_same, Kn.lst (Kn.dict h1) h2, h3, h5, by omega⟩ (Int.emod_nonneg _ (by omega)) (Int.emod_lt_of_pos _ hm)
    · wtm_at "of_rz"
      refine dAt h1 pn_stop ?_
      wtm_at "of_rz"
      refine dPut h1 (by show 3 ≤ 1000; decide) pn_putStop ?_
      have K1 : Kn H (upd H p (.dK (pnK c (a + 1) r))) := Kn.dict h1
      have g2 := K1.lst h2
      wtm_at "of_rz"
      refine dAt upd_same pn_cells ?_
      wtm_at "of_rz"
      refine r_laidL (by decide) ?_
      intro N0 H2 e2 n2 g0
      have q1 := e2 _ _ upd_same
      have q2 := e2 _ _ g2
      have K2 := K1.trans e2.kn
      wtm_at "of_rz"
      refine q_neInts q2 g0 ?_
      have e64 : (2 : Nat) ^ 64 = 18446744073709551616 := by decide
      have a64 : a.natAbs < 2 ^ 64 := by omega
      by_cases hz : ns = []
      · rw [decide_eq_true hz]
        wtm_at "of_rz"
        refine dAt q1 pn_cells ?_
        wtm_at "of_rz"
        refine q_lenL q2 ?_
        wtm_at "of_rz"
        refine ite2 (fun hs => ?_) (fun hs => ?_)
        · wtm_at "of_rz"
          refine r_I ⟨by decide, by decide, by decide⟩ ?_
          wtm_at "of_rz"
          refine ite2 (fun hc => ?_) (fun hc => ?_)
          · wtm_at "of_rz"
            refine r_I ⟨by decide, by decide, by decide⟩ ?_
            wtm_at "of_rz"
            refine r_I ⟨hm, PySem.Flt.log2_lt_of (by decide) (pow_mono hm4 (by decide))⟩ ?_
            wtm_at "of_rz"
            refine dPut q1 (by show 3 ≤ 1000; decide) pn_putRest ?_
            wtm_at "of_rz"
            refine r_I ⟨by decide, by decide, by decide⟩ ?_
            wtm_at "of_rz"
            refine r_I hm ?_
            wtm_at "of_rz"
            have K3 : ∀ o, Kn H (upd H2 p o) := fun o => K2.trans (Kn.dict q1)
            exact k _ _ (K3 _) ⟨a + 1, _, ns, upd_same, (K3 _).lst h2, h3, by omega, by omega⟩ (Int.emod_nonneg _ (by omega)) (Int.emod_lt_of_pos _ hm)
          · wtm_at "of_rz"
            refine r_I (by decide) ?_
            generalize hM1 : (_ % (2147483269 : Int)) = M1
            wtm_at "of_rz"
            refine r_I (cmA_r a64) ?_
            wtm_at "of_rz"
            refine r_I (by decide) ?_
            generalize hM2 : (_ % (2147483323 : Int)) = M2
            have b2 : M2.natAbs < 2 ^ 64 := by
              have := Int.emod_nonneg (M1 * 40177 + 52489 * a * a + 103 * a + 37) (b := 2147483323) (by decide)
              have := Int.emod_lt_of_pos (M1 * 40177 + 52489 * a * a + 103 * a + 37) (b := 2147483323) (by decide)
              omega
            wtm_at "of_rz"
            refine r_I (cmA_l b2) ?_
            wtm_at "of_rz"
            refine r_I (by decide) ?_
            generalize hM3 : (_ % (2147483353 : Int)) = M3
            have b3 : M3.natAbs < 2 ^ 64 := by
              have := Int.emod_nonneg (M2 * (M2 + 70019)) (b := 2147483353) (by decide)
              have := Int.emod_lt_of_pos (M2 * (M2 + 70019)) (b := 2147483353) (by decide)
              omega
            wtm_at "of_rz"
            refine r_I (cmA_r b3) ?_
            wtm_at "of_rz"
            refine r_I (by decide) ?_
            wtm_at "of_rz"
            refine r_I ⟨by decide, by decide⟩ ?_
            wtm_at "of_rz"
            refine r_I hm ?_
            wtm_at "of_rz"
            exact k _ _ K2 ⟨a + 1, r, ns, q1, q2, h3, by omega, by omega⟩ (Int.emod_nonneg _ (by omega)) (Int.emod_lt_of_pos _ hm)
        · wtm_at "of_rz"
          refine r_I (by decide) ?_
          generalize hM1 : (_ % (2147483269 : Int)) = M1
          wtm_at "of_rz"
          refine r_I (cmA_r a64) ?_
          wtm_at "of_rz"
          refine r_I (by decide) ?_
          generalize hM2 : (_ % (2147483323 : Int)) = M2
          have b2 : M2.natAbs < 2 ^ 64 := by
            have := Int.emod_nonneg (M1 * 40177 + 52489 * a * a + 103 * a + 37) (b := 2147483323) (by decide)
            have := Int.emod_lt_of_pos (M1 * 40177 + 52489 * a * a + 103 * a + 37) (b := 2147483323) (by decide)
            omega
          wtm_at "of_rz"
          refine r_I (cmA_l b2) ?_
          wtm_at "of_rz"
          refine r_I (by decide) ?_
          generalize hM3 : (_ % (2147483353 : Int)) = M3
          have b3 : M3.natAbs < 2 ^ 64 := by
            have := Int.emod_nonneg (M2 * (M2 + 70019)) (b := 2147483353) (by decide)
            have := Int.emod_lt_of_pos (M2 * (M2 + 70019)) (b := 2147483353) (by decide)
            omega
          wtm_at "of_rz"
          refine r_I (cmA_r b3) ?_
          wtm_at "of_rz"
          refine r_I (by decide) ?_
          wtm_at "of_rz"
          refine r_I ⟨by decide, by decide⟩ ?_
          wtm_at "of_rz"
          refine r_I hm ?_
          wtm_at "of_rz"
          exact k _ _ K2 ⟨a + 1, r, ns, q1, q2, h3, by omega, by omega⟩ (Int.emod_nonneg _ (by omega)) (Int.emod_lt_of_pos _ hm)
      · rw [decide_eq_false hz]
        wtm_at "of_rz"
        have hl0 : 0 < ns.length := List.length_pos_iff.mpr hz
        refine dAt q1 pn_cells ?_
        wtm_at "of_rz"
        refine dAt q1 pn_cells ?_
        wtm_at "of_rz"
        refine q_lenL q2 ?_
        wtm_at "of_rz"
        refine r_I (by rw [List.length_map]; omega) ?_
        obtain ⟨z, hz'⟩ := at_mod (a := a) hl0
        refine r_iL1 q2 hz' ?_
        wtm_at "of_rz"
        refine dAt q1 pn_cells ?_
        wtm_at "of_rz"
        refine q_lenL q2 ?_
        wtm_at "of_rz"
        refine ite2 (fun hs => ?_) (fun hs => ?_)
        · wtm_at "of_rz"
          refine r_I ⟨by decide, by decide, by decide⟩ ?_
          wtm_at "of_rz"
          refine ite2 (fun hc => ?_) (fun hc => ?_)
          · wtm_at "of_rz"
            refine r_I ⟨by decide, by decide, by decide⟩ ?_
            wtm_at "of_rz"
            refine r_I ⟨hm, PySem.Flt.log2_lt_of (by decide) (pow_mono hm4 (by decide))⟩ ?_
            wtm_at "of_rz"
            refine dPut q1 (by show 3 ≤ 1000; decide) pn_putRest ?_
            wtm_at "of_rz"
            refine r_I ⟨by decide, by decide, by decide⟩ ?_
            wtm_at "of_rz"
            refine r_I hm ?_
            wtm_at "of_rz"
            have K3 : ∀ o, Kn H (upd H2 p o) := fun o => K2.trans (Kn.dict q1)
            exact k _ _ (K3 _) ⟨a + 1, _, ns, upd_same, (K3 _).lst h2, h3, by omega, by omega⟩ (Int.emod_nonneg _ (by omega)) (Int.emod_lt_of_pos _ hm)
          · wtm_at "of_rz"
            refine r_I (by decide) ?_
            generalize hM1 : (_ % (2147483269 : Int)) = M1
            wtm_at "of_rz"
            refine r_I (cmA_r a64) ?_
            wtm_at "of_rz"
            refine r_I (by decide) ?_
            generalize hM2 : (_ % (2147483323 : Int)) = M2
            have b2 : M2.natAbs < 2 ^ 64 := by
              have := Int.emod_nonneg (M1 * 40177 + 52489 * a * a + 103 * a + 37) (b := 2147483323) (by decide)
              have := Int.emod_lt_of_pos (M1 * 40177 + 52489 * a * a + 103 * a + 37) (b := 2147483323) (by decide)
              omega
            wtm_at "of_rz"
            refine r_I (cmA_l b2) ?_
            wtm_at "of_rz"
            refine r_I (by decide) ?_
            generalize hM3 : (_ % (2147483353 : Int)) = M3
            have b3 : M3.natAbs < 2 ^ 64 := by
              have := Int.emod_nonneg (M2 * (M2 + 70019)) (b := 2147483353) (by decide)
              have := Int.emod_lt_of_pos (M2 * (M2 + 70019)) (b := 2147483353) (by decide)
              omega
            wtm_at "of_rz"
            refine r_I (cmA_r b3) ?_
            wtm_at "of_rz"
            refine r_I (by decide) ?_
            wtm_at "of_rz"
            refine r_I ⟨by decide, by decide⟩ ?_
            wtm_at "of_rz"
            refine r_I hm ?_
            wtm_at "of_rz"
            exact k _ _ K2 ⟨a + 1, r, ns, q1, q2, h3, by omega, by omega⟩ (Int.emod_nonneg _ (by omega)) (Int.emod_lt_of_pos _ hm)
        · wtm_at "of_rz"
          refine r_I (by decide) ?_
          generalize hM1 : (_ % (2147483269 : Int)) = M1
          wtm_at "of_rz"
          refine r_I (cmA_r a64) ?_
          wtm_at "of_rz"
          refine r_I (by decide) ?_
          generalize hM2 : (_ % (2147483323 : Int)) = M2
          have b2 : M2.natAbs < 2 ^ 64 := by
            have := Int.emod_nonneg (M1 * 40177 + 52489 * a * a + 103 * a + 37) (b := 2147483323) (by decide)
            have := Int.emod_lt_of_pos (M1 * 40177 + 52489 * a * a + 103 * a + 37) (b := 2147483323) (by decide)
            omega
          wtm_at "of_rz"
          refine r_I (cmA_l b2) ?_
          wtm_at "of_rz"
          refine r_I (by decide) ?_
          generalize hM3 : (_ % (2147483353 : Int)) = M3
          have b3 : M3.natAbs < 2 ^ 64 := by
            have := Int.emod_nonneg (M2 * (M2 + 70019)) (b := 2147483353) (by decide)
            have := Int.emod_lt_of_pos (M2 * (M2 + 70019)) (b := 2147483353) (by decide)
            omega
          wtm_at "of_rz"
          refine r_I (cmA_r b3) ?_
          wtm_at "of_rz"
          refine r_I (by decide) ?_
          wtm_at "of_rz"
          refine r_I ⟨by decide, by decide⟩ ?_
          wtm_at "of_rz"
          refine r_I hm ?_
          wtm_at "of_rz"
          exact k _ _ K2 ⟨a + 1, r, ns, q1, q2, h3, by omega, by omega⟩ (Int.emod_nonneg _ (by omega)) (Int.emod_lt_of_pos _ hm)
abbrev s__law_pick : Stmt := (top 28)
theorem sc__law_pick : FnScope ["pen", "items"] ["pen", "items"] (defScope s__law_pick) := ⟨rfl, rfl, rfl, by decide +kernel, rfl, by decide +kernel, by decide +kernel⟩
theorem ok__law_pick {f : Addr} {fd : FuncData} (F : FunD K "_law_pick" "_law_pick" (defArgs s__law_pick) (defBody s__law_pick) (defScope s__law_pick) [] [] f fd) (TB : TBl mg) (c__law_draw : Cl P w K mg base 1 "_law_draw" (spPDraw)) : FnOk P w K mg base (L2.CX P w) 2 f fd ["pen", "items"] (spPPick) := by
  refine F.ok (CX := L2.CX P w) sc__law_pick (fun vs H Q E h => ?_) (fun cdv A outer s H vs Q E hr h => ?_)
  · obtain ⟨p, l, xs, n, rfl, _⟩ := h; rfl
  · obtain ⟨p, l, xs, n, rfl, c, hT, hn, hl, h0, h1, k⟩ := h
    refine ⟨_, (pss_one (ps_ret (pe_ix (kix_l (K := K) rfl) (pv 1) (pe_cl c__law_draw hr (by decide) (by rfl) psE (pa_cons (pv 0) (pa_cons (pe_callB (kc_len (K := K) rfl) (by rfl) TB.b_len PySem.boot_len (pa_cons (pv 1) pa_nil)) pa_nil))) (fun _ _ => rfl)))), ?_⟩
    wtm_at "of_rz"
    refine q_lenL hl ?_
    wtm_at "of_rz"
    have e : (2 : Nat) ^ 64 = 18446744073709551616 := by decide
    refine ⟨p, (xs.length : Int), n, rfl, c, hT, hn, by omega, by omega, fun H' d kn hp d0 d1 => ?_⟩
    have q1 := kn.lst hl
    obtain ⟨i, rfl⟩ := Int.eq_ofNat_of_zero_le d0
    have hi : i < xs.length := by omega
    exact r_iL1 q1 (atI_nat (List.getElem?_eq_getElem hi)) (k _ _ kn hp (List.getElem_mem hi))
end
end
section
open PySem PySem.Spec PyProof.Rows L2 He
section
variable {P : Program} {w : World} {K : PySem.W.Frag} {mg : Str → Option Value} {base : Heap} {C_BadNumber C_BadPoint C_Flat C_TooMany C_TooFar C_NoSuch C_NotWithin C_Apart C_NotPositive C_NotPlain C_NoMarks C_NoLetter C_Clash C_BadLetter C_Overlap C_NoWidth C_BadText C_NoFloor C_BadName C_Taken C_NoPromise C_Barred C_NothingToUndo C_FloorError : Addr}
abbrev s__law_alone : Stmt := (top 29)
theorem sc__law_alone : FnScope ["mine"] ["mine"] (defScope s__law_alone) := ⟨rfl, rfl, rfl, by decide +kernel, rfl, by decide +kernel, by decide +kernel⟩
theorem ok__law_alone {f : Addr} {fd : FuncData} (F : FunD K "_law_alone" "_law_alone" (defArgs s__law_alone) (defBody s__law_alone) (defScope s__law_alone) [] [] f fd) (x_BadNumber : XfC K C_BadNumber) (n_BadNumber_value : PySem.W.findIn K (.ref C_BadNumber) "value" = some none) (x_BadPoint : XfC K C_BadPoint) (n_BadPoint_value : PySem.W.findIn K (.ref C_BadPoint) "value" = some none) (x_TooMany : XfC K C_TooMany) (n_TooMany_most : PySem.W.findIn K (.ref C_TooMany) "most" = some none) (x_TooFar : XfC K C_TooFar) (n_TooFar_number : PySem.W.findIn K (.ref C_TooFar) "number" = some none) (x_NoSuch : XfC K C_NoSuch) (n_NoSuch_number : PySem.W.findIn K (.ref C_NoSuch) "number" = some none) (x_Apart : XfC K C_Apart) (n_Apart_bar : PySem.W.findIn K (.ref C_Apart) "bar" = some none) (x_NoLetter : XfC K C_NoLetter) (n_NoLetter_letter : PySem.W.findIn K (.ref C_NoLetter) "letter" = some none) (x_BadLetter : XfC K C_BadLetter) (n_BadLetter_value : PySem.W.findIn K (.ref C_BadLetter) "value" = some none) (x_BadText : XfC K C_BadText) (n_BadText_index : PySem.W.findIn K (.ref C_BadText) "index" = some none) (x_NoFloor : XfC K C_NoFloor) (n_NoFloor_name : PySem.W.findIn K (.ref C_NoFloor) "name" = some none) (x_BadName : XfC K C_BadName) (n_BadName_value : PySem.W.findIn K (.ref C_BadName) "value" = some none) (x_Taken : XfC K C_Taken) (n_Taken_name : PySem.W.findIn K (.ref C_Taken) "name" = some none) (x_NoPromise : XfC K C_NoPromise) (n_NoPromise_name : PySem.W.findIn K (.ref C_NoPromise) "name" = some none) (x_Barred : XfC K C_Barred) (n_Barred_words : PySem.W.findIn K (.ref C_Barred) "words" = some none) (c_BadNumber : Cxv P w K mg base 1 "BadNumber" C_BadNumber ["value"]) (c_BadPoint : Cxv P w K mg base 1 "BadPoint" C_BadPoint ["value"]) (c_TooMany : Cxv P w K mg base 1 "TooMany" C_TooMany ["most"]) (c_TooFar : Cxv P w K mg base 1 "TooFar" C_TooFar ["number"]) (c_NoSuch : Cxv P w K mg base 1 "NoSuch" C_NoSuch ["number"]) (c_Apart : Cxv P w K mg base 1 "Apart" C_Apart ["bar"]) (c_NoLetter : Cxv P w K mg base 1 "NoLetter" C_NoLetter ["letter"]) (c_BadLetter : Cxv P w K mg base 1 "BadLetter" C_BadLetter ["value"]) (c_BadText : Cxv P w K mg base 1 "BadText" C_BadText ["index"]) (c_NoFloor : Cxv P w K mg base 1 "NoFloor" C_NoFloor ["name"]) (c_BadName : Cxv P w K mg base 1 "BadName" C_BadName ["value"]) (c_Taken : Cxv P w K mg base 1 "Taken" C_Taken ["name"]) (c_NoPromise : Cxv P w K mg base 1 "NoPromise" C_NoPromise ["name"]) (c_Barred : Cxv P w K mg base 1 "Barred" C_Barred ["words"]) : FnOk P w K mg base (L2.CX P w) 3 f fd ["mine"] (spAlone) := by
  refine F.ok (CX := L2.CX P w) sc__law_alone (fun vs H Q E h => ?_) (fun cdv A outer s H vs Q E hr h => ?_)
  · obtain ⟨v, rfl, _⟩ := h; rfl
  · obtain ⟨v, rfl, k⟩ := h
    refine ⟨_, (pss_one (ps_ret (pe_lst (pa_cons (pe_tup (pa_cons (kpe_xa (K := K) rfl x_BadNumber n_BadNumber_value (pe_xvP c_BadNumber hr (by decide) (by rfl) (pa_cons (pv 0) pa_nil))) (pa_cons (kpe_xa (K := K) rfl x_BadNumber n_BadNumber_value (pe_xvK c_BadNumber hr (by decide) (by rfl) (pk_cons (pv 0) pk_nil))) pa_nil))) (pa_cons (pe_tup (pa_cons (kpe_xa (K := K) rfl x_BadPoint n_BadPoint_value (pe_xvP c_BadPoint hr (by decide) (by rfl) (pa_cons (pv 0) pa_nil))) (pa_cons (kpe_xa (K := K) rfl x_BadPoint n_BadPoint_value (pe_xvK c_BadPoint hr (by decide) (by rfl) (pk_cons (pv 0) pk_nil))) pa_nil))) (pa_cons (pe_tup (pa_cons (kpe_xa (K := K) rfl x_TooMany n_TooMany_most (pe_xvP c_TooMany hr (by decide) (by rfl) (pa_cons (pv 0) pa_nil))) (pa_cons (kpe_xa (K := K) rfl x_TooMany n_TooMany_most (pe_xvK c_TooMany hr (by decide) (by rfl) (pk_cons (pv 0) pk_nil))) pa_nil))) (pa_cons (pe_tup (pa_cons (kpe_xa (K := K) rfl x_TooFar n_TooFar_number (pe_xvP c_TooFar hr (by decide) (by rfl) (pa_cons (pv 0) pa_nil))) (pa_cons (kpe_xa (K := K) rfl x_TooFar n_TooFar_number (pe_xvK c_TooFar hr (by decide) (by rfl) (pk_cons (pv 0) pk_nil))) pa_nil))) (pa_cons (pe_tup (pa_cons (kpe_xa (K := K) rfl x_NoSuch n_NoSuch_number (pe_xvP c_NoSuch hr (by decide) (by rfl) (pa_cons (pv 0) pa_nil))) (pa_cons (kpe_xa (K := K) rfl x_NoSuch n_NoSuch_number (pe_xvK c_NoSuch hr (by decide) (by rfl) (pk_cons (pv 0) pk_nil))) pa_nil))) (pa_cons (pe_tup (pa_cons (kpe_xa (K := K) rfl x_Apart n_Apart_bar (pe_xvP c_Apart hr (by decide) (by rfl) (pa_cons (pv 0) pa_nil))) (pa_cons (kpe_xa (K := K) rfl x_Apart n_Apart_bar (pe_xvK c_Apart hr (by decide) (by rfl) (pk_cons (pv 0) pk_nil))) pa_nil))) (pa_cons (pe_tup (pa_cons (kpe_xa (K := K) rfl x_NoLetter n_NoLetter_letter (pe_xvP c_NoLetter hr (by decide) (by rfl) (pa_cons (pv 0) pa_nil))) (pa_cons (kpe_xa (K := K) rfl x_NoLetter n_NoLetter_letter (pe_xvK c_NoLetter hr (by decide) (by rfl) (pk_cons (pv 0) pk_nil))) pa_nil))) (pa_cons (pe_tup (pa_cons (kpe_xa (K := K) rfl x_BadLetter n_BadLetter_value (pe_xvP c_BadLetter hr (by decide) (by rfl) (pa_cons (pv 0) pa_nil))) (pa_cons (kpe_xa (K := K) rfl x_BadLetter n_BadLetter_value (pe_xvK c_BadLetter hr (by decide) (by rfl) (pk_cons (pv 0) pk_nil))) pa_nil))) (pa_cons (pe_tup (pa_cons (kpe_xa (K := K) rfl x_BadText n_BadText_index (pe_xvP c_BadText hr (by decide) (by rfl) (pa_cons (pv 0) pa_nil))) (pa_cons (kpe_xa (K := K) rfl x_BadText n_BadText_index (pe_xvK c_BadText hr (by decide) (by rfl) (pk_cons (pv 0) pk_nil))) pa_nil))) (pa_cons (pe_tup (pa_cons (kpe_xa (K := K) rfl x_NoFloor n_NoFloor_name (pe_xvP c_NoFloor hr (by decide) (by rfl) (pa_cons (pv 0) pa_nil))) (pa_cons (kpe_xa (K := K) rfl x_NoFloor n_NoFloor_name (pe_xvK c_NoFloor hr (by decide) (by rfl) (pk_cons (pv 0) pk_nil))) pa_nil))) (pa_cons (pe_tup (pa_cons (kpe_xa (K := K) rfl x_BadName n_BadName_value (pe_xvP c_BadName hr (by decide) (by rfl) (pa_cons (pv 0) pa_nil))) (pa_cons (kpe_xa (K := K) rfl x_BadName n_BadName_value (pe_xvK c_BadName hr (by decide) (by rfl) (pk_cons (pv 0) pk_nil))) pa_nil))) (pa_cons (pe_tup (pa_cons (kpe_xa (K := K) rfl x_Taken n_Taken_name (pe_xvP c_Taken hr (by decide) (by rfl) (pa_cons (pv 0) pa_nil))) (pa_cons (kpe_xa (K := K) rfl x_Taken n_Taken_name (pe_xvK c_Taken hr (by decide) (by rfl) (pk_cons (pv 0) pk_nil))) pa_nil))) (pa_cons (pe_tup (pa_cons (kpe_xa (K := K) rfl x_NoPromise n_NoPromise_name (pe_xvP c_NoPromise hr (by decide) (by rfl) (pa_cons (pv 0) pa_nil))) (pa_cons (kpe_xa (K := K) rfl x_NoPromise n_NoPromise_name (pe_xvK c_NoPromise hr (by decide) (by rfl) (pk_cons (pv 0) pk_nil))) pa_nil))) (pa_cons (pe_tup (pa_cons (kpe_xa (K := K) rfl x_Barred n_Barred_words (pe_xvP c_Barred hr (by decide) (by rfl) (pa_cons (pv 0) pa_nil))) (pa_cons (kpe_xa (K := K) rfl x_Barred n_Barred_words (pe_xvK c_Barred hr (by decide) (by rfl) (pk_cons (pv 0) pk_nil))) pa_nil))) pa_nil))))))))))))))))), ?_⟩
    wtm_at "of_rz"
    refine mkget rfl rfl (by with_unfolding_all rfl) ?_
    intro A1 ea1
    wtm_at "of_rz"
    refine mkget rfl rfl (by with_unfolding_all rfl) ?_
    intro B1 eb1
    wtm_at "of_rz"
    refine r_laidT (by show 2 ≤ 1000; decide) ?_
    intro t1 C1 ec1 nc1 g1
    have s1 := ea1.trans (eb1.trans ec1)
    wtm_at "of_rz"
    refine mkget rfl rfl (by with_unfolding_all rfl) ?_
    intro A2 ea2
    wtm_at "of_rz"
    refine mkget rfl rfl (by with_unfolding_all rfl) ?_
    intro B2 eb2
    wtm_at "of_rz"
    refine r_laidT (by show 2 ≤ 1000; decide) ?_
    intro t2 C2 ec2 nc2 g2
    have s2 := ea2.trans (eb2.trans ec2)
    wtm_at "of_rz"
    refine mkget rfl rfl (by with_unfolding_all rfl) ?_
    intro A3 ea3
    wtm_at "of_rz"
    refine mkget rfl rfl (by with_unfolding_all rfl) ?_
    intro B3 eb3
    wtm_at "of_rz"
    refine r_laidT (by show 2 ≤ 1000; decide) ?_
    intro t3 C3 ec3 nc3 g3
    have s3 := ea3.trans (eb3.trans ec3)
    wtm_at "of_rz"
    refine mkget rfl rfl (by with_unfolding_all rfl) ?_
    intro A4 ea4
    wtm_at "of_rz"
    refine mkget rfl rfl (by with_unfolding_all rfl) ?_
    intro B4 eb4
    wtm_at "of_rz"
    refine r_laidT (by show 2 ≤ 1000; decide) ?_
    intro t4 C4 ec4 nc4 g4
    have s4 := ea4.trans (eb4.trans ec4)
    wtm_at "of_rz"
    refine mkget rfl rfl (by with_unfolding_all rfl) ?_
    intro A5 ea5
    wtm_at "of_rz"
    refine mkget rfl rfl (by with_unfolding_all rfl) ?_
    intro B5 eb5
    wtm_at "of_rz"
    refine r_laidT (by show 2 ≤ 1000; decide) ?_
    intro t5 C5 ec5 nc5 g5
    have s5 := ea5.trans (eb5.trans ec5)
    wtm_at "of_rz"
    refine mkget rfl rfl (by with_unfolding_all rfl) ?_
    intro A6 ea6
    wtm_at "of_rz"
    refine mkget rfl rfl (by with_unfolding_all rfl) ?_
    intro B6 eb6
    wtm_at "of_rz"
    refine r_laidT (by show 2 ≤ 1000; decide) ?_
    intro t6 C6 ec6 nc6 g6
    have s6 := ea6.trans (eb6.trans ec6)
    wtm_at "of_rz"
    refine mkget rfl rfl (by with_unfolding_all rfl) ?_
    intro A7 ea7
    wtm_at "of_rz"
    refine mkget rfl rfl (by with_unfolding_all rfl) ?_
    intro B7 eb7
    wtm_at "of_rz"
    refine r_laidT (by show 2 ≤ 1000; decide) ?_
    intro t7 C7 ec7 nc7 g7
    have s7 := ea7.trans (eb7.trans ec7)
    wtm_at "of_rz"
    refine mkget rfl rfl (by with_unfolding_all rfl) ?_
    intro A8 ea8
    wtm_at "of_rz"
    refine mkget rfl rfl (by with_unfolding_all rfl) ?_
    intro B8 eb8
    wtm_at "of_rz"
    refine r_laidT (by show 2 ≤ 1000; decide) ?_
    intro t8 C8 ec8 nc8 g8
    have s8 := ea8.trans (eb8.trans ec8)
    wtm_at "of_rz"
    refine mkget rfl rfl (by with_unfolding_all rfl) ?_
    intro A9 ea9
    wtm_at "of_rz"
    refine mkget rfl rfl (by with_unfolding_all rfl) ?_
    intro B9 eb9
    wtm_at "of_rz"
    refine r_laidT (by show 2 ≤ 1000; decide) ?_
    intro t9 C9 ec9 nc9 g9
    have s9 := ea9.trans (eb9.trans ec9)
    wtm_at "of_rz"
    refine mkget rfl rfl (by with_unfolding_all rfl) ?_
    intro A10 ea10
    wtm_at "of_rz"
    refine mkget rfl rfl (by with_unfolding_all rfl) ?_
    intro B10 eb10
    wtm_at "of_rz"
    refine r_laidT (by show 2 ≤ 1000; decide) ?_
    intro t10 C10 ec10 nc10 g10
    have s10 := ea10.trans (eb10.trans ec10)
    wtm_at "of_rz"
    refine mkget rfl rfl (by with_unfolding_all rfl) ?_
    intro A11 ea11
    wtm_at "of_rz"
    refine mkget rfl rfl (by with_unfolding_all rfl) ?_
    intro B11 eb11
    wtm_at "of_rz"
    refine r_laidT (by show 2 ≤ 1000; decide) ?_
    intro t11 C11 ec11 nc11 g11
    have s11 := ea11.trans (eb11.trans ec11)
    wtm_at "of_rz"
    refine mkget rfl rfl (by with_unfolding_all rfl) ?_
    intro A12 ea12
    wtm_at "of_rz"
    refine mkget rfl rfl (by with_unfolding_all rfl) ?_
    intro B12 eb12
    wtm_at "of_rz"
    refine r_laidT (by show 2 ≤ 1000; decide) ?_
    intro t12 C12 ec12 nc12 g12
    have s12 := ea12.trans (eb12.trans ec12)
    wtm_at "of_rz"
    refine mkget rfl rfl (by with_unfolding_all rfl) ?_
    intro A13 ea13
    wtm_at "of_rz"
    refine mkget rfl rfl (by with_unfolding_all rfl) ?_
    intro B13 eb13
    wtm_at "of_rz"
    refine r_laidT (by show 2 ≤ 1000; decide) ?_
    intro t13 C13 ec13 nc13 g13
    have s13 := ea13.trans (eb13.trans ec13)
    wtm_at "of_rz"
    refine mkget rfl rfl (by with_unfolding_all rfl) ?_
    intro A14 ea14
    wtm_at "of_rz"
    refine mkget rfl rfl (by with_unfolding_all rfl) ?_
    intro B14 eb14
    wtm_at "of_rz"
    refine r_laidT (by show 2 ≤ 1000; decide) ?_
    intro t14 C14 ec14 nc14 g14
    have s14 := ea14.trans (eb14.trans ec14)
    wtm_at "of_rz"
    refine r_laidL (by show 14 ≤ 1000; decide) ?_
    intro L H' e n g
    have T14 := e
    have T13 := s14.trans T14
    have T12 := s13.trans T13
    have T11 := s12.trans T12
    have T10 := s11.trans T11
    have T9 := s10.trans T10
    have T8 := s9.trans T9
    have T7 := s8.trans T8
    have T6 := s7.trans T7
    have T5 := s6.trans T6
    have T4 := s5.trans T5
    have T3 := s4.trans T4
    have T2 := s3.trans T3
    have T1 := s2.trans T2
    have T0 := s1.trans T1
    refine k _ L _ T0 g rfl ?_
    intro t ht
    simp only [List.mem_cons, List.mem_nil_iff, or_false, List.not_mem_nil] at ht
    rcases ht with rfl | rfl | rfl | rfl | rfl | rfl | rfl | rfl | rfl | rfl | rfl | rfl | rfl | rfl
    · exact ⟨t1, rfl, T1 _ _ g1⟩
    · exact ⟨t2, rfl, T2 _ _ g2⟩
    · exact ⟨t3, rfl, T3 _ _ g3⟩
    · exact ⟨t4, rfl, T4 _ _ g4⟩
    · exact ⟨t5, rfl, T5 _ _ g5⟩
    · exact ⟨t6, rfl, T6 _ _ g6⟩
    · exact ⟨t7, rfl, T7 _ _ g7⟩
    · exact ⟨t8, rfl, T8 _ _ g8⟩
    · exact ⟨t9, rfl, T9 _ _ g9⟩
    · exact ⟨t10, rfl, T10 _ _ g10⟩
    · exact ⟨t11, rfl, T11 _ _ g11⟩
    · exact ⟨t12, rfl, T12 _ _ g12⟩
    · exact ⟨t13, rfl, T13 _ _ g13⟩
    · exact ⟨t14, rfl, T14 _ _ g14⟩
end
end
section
open PySem PySem.Spec PyProof.Rows L2 He
section
variable {P : Program} {w : World} {K : PySem.W.Frag} {mg : Str → Option Value} {base : Heap} {C_BadNumber C_BadPoint C_Flat C_TooMany C_TooFar C_NoSuch C_NotWithin C_Apart C_NotPositive C_NotPlain C_NoMarks C_NoLetter C_Clash C_BadLetter C_Overlap C_NoWidth C_BadText C_NoFloor C_BadName C_Taken C_NoPromise C_Barred C_NothingToUndo C_FloorError : Addr}
abbrev s__law_more : Stmt := (top 30)
theorem sc__law_more : FnScope ["mine", "yours", "rows"] ["mine", "yours"] (defScope s__law_more) := ⟨rfl, rfl, rfl, by decide +kernel, rfl, by decide +kernel, by decide +kernel⟩
theorem ok__law_more {f : Addr} {fd : FuncData} (F : FunD K "_law_more" "_law_more" (defArgs s__law_more) (defBody s__law_more) (defScope s__law_more) [] [] f fd) (x_NotPositive : XfC K C_NotPositive) (n_NotPositive_a : PySem.W.findIn K (.ref C_NotPositive) "a" = some none) (n_NotPositive_b : PySem.W.findIn K (.ref C_NotPositive) "b" = some none) (n_NotPositive_c : PySem.W.findIn K (.ref C_NotPositive) "c" = some none) (x_Clash : XfC K C_Clash) (n_Clash_letter : PySem.W.findIn K (.ref C_Clash) "letter" = some none) (n_Clash_other : PySem.W.findIn K (.ref C_Clash) "other" = some none) (x_Overlap : XfC K C_Overlap) (n_Overlap_first : PySem.W.findIn K (.ref C_Overlap) "first" = some none) (n_Overlap_second : PySem.W.findIn K (.ref C_Overlap) "second" = some none) (c_NotPositive : Cxv P w K mg base 1 "NotPositive" C_NotPositive ["a", "b", "c"]) (c_Clash : Cxv P w K mg base 1 "Clash" C_Clash ["letter", "other"]) (c_Overlap : Cxv P w K mg base 1 "Overlap" C_Overlap ["first", "second"]) : FnOk P w K mg base (L2.CX P w) 3 f fd ["mine", "yours"] (spMore) := by
  refine F.ok (CX := L2.CX P w) sc__law_more (fun vs H Q E h => ?_) (fun cdv A outer s H vs Q E hr h => ?_)
  · obtain ⟨x, y, rfl, _⟩ := h; rfl
  · obtain ⟨x, y, rfl, k⟩ := h
    refine ⟨_, (pss_cons (ps_set (i := 2) sc__law_more.nd rfl (Or.inl rfl) (pe_lst (pa_cons (pe_tup (pa_cons (kpe_xa (K := K) rfl x_NotPositive n_NotPositive_a (pe_xvP c_NotPositive hr (by decide) (by rfl) (pa_cons (pv 0) (pa_cons (pv 1) (pa_cons pe_int pa_nil))))) (pa_cons (pv 0) pa_nil))) (pa_cons (pe_tup (pa_cons (kpe_xa (K := K) rfl x_NotPositive n_NotPositive_b (pe_xvM c_NotPositive hr (by decide) (by rfl) 2 (by decide) (pa_cons pe_int (pa_cons (pv 1) pa_nil)) (pk_cons pe_int pk_nil))) (pa_cons (pv 1) pa_nil))) pa_nil)))) (pss_cons (ps_set (i := 2) sc__law_more.nd rfl (Or.inl rfl) (pe_op op_cat (pv 2) (pe_lst (pa_cons (pe_tup (pa_cons (kpe_xa (K := K) rfl x_NotPositive n_NotPositive_c (pe_xvK c_NotPositive hr (by decide) (by rfl) (pk_cons pe_int (pk_cons pe_int (pk_cons (pv 1) pk_nil))))) (pa_cons (pv 1) pa_nil))) (pa_cons (pe_tup (pa_cons (kpe_xa (K := K) rfl x_Clash n_Clash_letter (pe_xvP c_Clash hr (by decide) (by rfl) (pa_cons (pv 0) (pa_cons (pv 1) pa_nil)))) (pa_cons (pv 0) pa_nil))) pa_nil))))) (pss_cons (ps_set (i := 2) sc__law_more.nd rfl (Or.inl rfl) (pe_op op_cat (pv 2) (pe_lst (pa_cons (pe_tup (pa_cons (kpe_xa (K := K) rfl x_Clash n_Clash_other (pe_xvM c_Clash hr (by decide) (by rfl) 1 (by decide) (pa_cons (pv 0) pa_nil) (pk_cons (pv 1) pk_nil))) (pa_cons (pv 1) pa_nil))) (pa_cons (pe_tup (pa_cons (kpe_xa (K := K) rfl x_Clash n_Clash_letter (pe_xvK c_Clash hr (by decide) (by rfl) (pk_cons (pv 0) (pk_cons (pv 1) pk_nil)))) (pa_cons (pv 0) pa_nil))) pa_nil))))) (pss_cons (ps_set (i := 2) sc__law_more.nd rfl (Or.inl rfl) (pe_op op_cat (pv 2) (pe_lst (pa_cons (pe_tup (pa_cons (kpe_xa (K := K) rfl x_Overlap n_Overlap_first (pe_xvP c_Overlap hr (by decide) (by rfl) (pa_cons (pv 0) (pa_cons (pv 1) pa_nil)))) (pa_cons (pv 0) pa_nil))) (pa_cons (pe_tup (pa_cons (kpe_xa (K := K) rfl x_Overlap n_Overlap_second (pe_xvM c_Overlap hr (by decide) (by rfl) 1 (by decide) (pa_cons (pv 0) pa_nil) (pk_cons (pv 1) pk_nil))) (pa_cons (pv 1) pa_nil))) pa_nil))))) (pss_one (ps_ret (pe_op op_cat (pv 2) (pe_lst (pa_cons (pe_tup (pa_cons (kpe_xa (K := K) rfl x_Overlap n_Overlap_second (pe_xvK c_Overlap hr (by decide) (by rfl) (pk_cons (pv 0) (pk_cons (pv 1) pk_nil)))) (pa_cons (pv 1) pa_nil))) pa_nil))))))))), ?_⟩
    wtm_at "of_rz"
    refine mkget rfl rfl (by with_unfolding_all rfl) ?_
    intro A1 ea1
    wtm_at "of_rz"
    refine r_laidT (by show 2 ≤ 1000; decide) ?_
    intro t1 C1 ec1 nc1 g1
    wtm_at "of_rz"
    refine mkget rfl rfl (by with_unfolding_all rfl) ?_
    intro A2 ea2
    wtm_at "of_rz"
    refine r_laidT (by show 2 ≤ 1000; decide) ?_
    intro t2 C2 ec2 nc2 g2
    wtm_at "of_rz"
    refine r_laidL (by show 2 ≤ 1000; decide) ?_
    intro L0 D0 ed0 nd0 gl0
    wtm_at "of_rz"
    refine mkget rfl rfl (by with_unfolding_all rfl) ?_
    intro A3 ea3
    wtm_at "of_rz"
    refine r_laidT (by show 2 ≤ 1000; decide) ?_
    intro t3 C3 ec3 nc3 g3
    wtm_at "of_rz"
    refine mkget rfl rfl (by with_unfolding_all rfl) ?_
    intro A4 ea4
    wtm_at "of_rz"
    refine r_laidT (by show 2 ≤ 1000; decide) ?_
    intro t4 C4 ec4 nc4 g4
    wtm_at "of_rz"
    refine r_laidL (by show 2 ≤ 1000; decide) ?_
    intro L1 D1 ed1 nd1 gl1
    wtm_at "of_rz"
    refine r_cat ((ea3.trans (ec3.trans (ea4.trans (ec4.trans ed1)))) _ _ gl0) gl1 (by show 4 ≤ 1000000; decide) ?_
    intro R1 F1 ef1 nf1 gf1
    wtm_at "of_rz"
    refine mkget rfl rfl (by with_unfolding_all rfl) ?_
    intro A5 ea5
    wtm_at "of_rz"
    refine r_laidT (by show 2 ≤ 1000; decide) ?_
    intro t5 C5 ec5 nc5 g5
    wtm_at "of_rz"
    refine mkget rfl rfl (by with_unfolding_all rfl) ?_
    intro A6 ea6
    wtm_at "of_rz"
    refine r_laidT (by show 2 ≤ 1000; decide) ?_
    intro t6 C6 ec6 nc6 g6
    wtm_at "of_rz"
    refine r_laidL (by show 2 ≤ 1000; decide) ?_
    intro L2 D2 ed2 nd2 gl2
    wtm_at "of_rz"
    refine r_cat ((ea5.trans (ec5.trans (ea6.trans (ec6.trans ed2)))) _ _ gf1) gl2 (by show 6 ≤ 1000000; decide) ?_
    intro R2 F2 ef2 nf2 gf2
    wtm_at "of_rz"
    refine mkget rfl rfl (by with_unfolding_all rfl) ?_
    intro A7 ea7
    wtm_at "of_rz"
    refine r_laidT (by show 2 ≤ 1000; decide) ?_
    intro t7 C7 ec7 nc7 g7
    wtm_at "of_rz"
    refine mkget rfl rfl (by with_unfolding_all rfl) ?_
    intro A8 ea8
    wtm_at "of_rz"
    refine r_laidT (by show 2 ≤ 1000; decide) ?_
    intro t8 C8 ec8 nc8 g8
    wtm_at "of_rz"
    refine r_laidL (by show 2 ≤ 1000; decide) ?_
    intro L3 D3 ed3 nd3 gl3
    wtm_at "of_rz"
    refine r_cat ((ea7.trans (ec7.trans (ea8.trans (ec8.trans ed3)))) _ _ gf2) gl3 (by show 8 ≤ 1000000; decide) ?_
    intro R3 F3 ef3 nf3 gf3
    wtm_at "of_rz"
    refine mkget rfl rfl (by with_unfolding_all rfl) ?_
    intro A9 ea9
    wtm_at "of_rz"
    refine r_laidT (by show 2 ≤ 1000; decide) ?_
    intro t9 C9 ec9 nc9 g9
    wtm_at "of_rz"
    refine r_laidL (by show 1 ≤ 1000; decide) ?_
    intro L4 D4 ed4 nd4 gl4
    wtm_at "of_rz"
    refine r_cat ((ea9.trans (ec9.trans ed4)) _ _ gf3) gl4 (by show 9 ≤ 1000000; decide) ?_
    intro R4 F4 ef4 nf4 gf4
    wtm_at "of_rz"
    refine k _ R4 _ (ea1.trans (ec1.trans (ea2.trans (ec2.trans (ed0.trans (ea3.trans (ec3.trans (ea4.trans (ec4.trans (ed1.trans (ef1.trans (ea5.trans (ec5.trans (ea6.trans (ec6.trans (ed2.trans (ef2.trans (ea7.trans (ec7.trans (ea8.trans (ec8.trans (ed3.trans (ef3.trans (ea9.trans (ec9.trans (ed4.trans ef4)))))))))))))))))))))))))) gf4 (by show 9 ≤ 100; decide) ?_
    intro t ht
    simp only [List.cons_append, List.nil_append, List.mem_cons, List.mem_nil_iff, or_false, List.not_mem_nil] at ht
    rcases ht with rfl | rfl | rfl | rfl | rfl | rfl | rfl | rfl | rfl
    · exact ⟨t1, x, rfl, (ea2.trans (ec2.trans (ed0.trans (ea3.trans (ec3.trans (ea4.trans (ec4.trans (ed1.trans (ef1.trans (ea5.trans (ec5.trans (ea6.trans (ec6.trans (ed2.trans (ef2.trans (ea7.trans (ec7.trans (ea8.trans (ec8.trans (ed3.trans (ef3.trans (ea9.trans (ec9.trans (ed4.trans ef4)))))))))))))))))))))))) _ _ g1, .inl rfl⟩
    · exact ⟨t2, y, rfl, (ed0.trans (ea3.trans (ec3.trans (ea4.trans (ec4.trans (ed1.trans (ef1.trans (ea5.trans (ec5.trans (ea6.trans (ec6.trans (ed2.trans (ef2.trans (ea7.trans (ec7.trans (ea8.trans (ec8.trans (ed3.trans (ef3.trans (ea9.trans (ec9.trans (ed4.trans ef4)))))))))))))))))))))) _ _ g2, .inr rfl⟩
    · exact ⟨t3, y, rfl, (ea4.trans (ec4.trans (ed1.trans (ef1.trans (ea5.trans (ec5.trans (ea6.trans (ec6.trans (ed2.trans (ef2.trans (ea7.trans (ec7.trans (ea8.trans (ec8.trans (ed3.trans (ef3.trans (ea9.trans (ec9.trans (ed4.trans ef4))))))))))))))))))) _ _ g3, .inr rfl⟩
    · exact ⟨t4, x, rfl, (ed1.trans (ef1.trans (ea5.trans (ec5.trans (ea6.trans (ec6.trans (ed2.trans (ef2.trans (ea7.trans (ec7.trans (ea8.trans (ec8.trans (ed3.trans (ef3.trans (ea9.trans (ec9.trans (ed4.trans ef4))))))))))))))))) _ _ g4, .inl rfl⟩
    · exact ⟨t5, y, rfl, (ea6.trans (ec6.trans (ed2.trans (ef2.trans (ea7.trans (ec7.trans (ea8.trans (ec8.trans (ed3.trans (ef3.trans (ea9.trans (ec9.trans (ed4.trans ef4))))))))))))) _ _ g5, .inr rfl⟩
    · exact ⟨t6, x, rfl, (ed2.trans (ef2.trans (ea7.trans (ec7.trans (ea8.trans (ec8.trans (ed3.trans (ef3.trans (ea9.trans (ec9.trans (ed4.trans ef4))))))))))) _ _ g6, .inl rfl⟩
    · exact ⟨t7, x, rfl, (ea8.trans (ec8.trans (ed3.trans (ef3.trans (ea9.trans (ec9.trans (ed4.trans ef4))))))) _ _ g7, .inl rfl⟩
    · exact ⟨t8, y, rfl, (ed3.trans (ef3.trans (ea9.trans (ec9.trans (ed4.trans ef4))))) _ _ g8, .inr rfl⟩
    · exact ⟨t9, y, rfl, (ed4.trans ef4) _ _ g9, .inr rfl⟩
abbrev s__law_raise : Stmt := (top 31)
theorem sc__law_raise : FnScope ["which", "mine"] ["which", "mine"] (defScope s__law_raise) := ⟨rfl, rfl, rfl, by decide +kernel, rfl, by decide +kernel, by decide +kernel⟩
theorem ok__law_raise {f : Addr} {fd : FuncData} (F : FunD K "_law_raise" "_law_raise" (defArgs s__law_raise) (defBody s__law_raise) (defScope s__law_raise) [] [] f fd) (o_Flat : OexC K C_Flat) (z_Flat : Cx0 K mg "Flat" C_Flat) (o_TooMany : OexC K C_TooMany) (o_Apart : OexC K C_Apart) (o_Overlap : OexC K C_Overlap) (o_NothingToUndo : OexC K C_NothingToUndo) (z_NothingToUndo : Cx0 K mg "NothingToUndo" C_NothingToUndo) (c_TooMany : Cxv P w K mg base 1 "TooMany" C_TooMany ["most"]) (c_Apart : Cxv P w K mg base 1 "Apart" C_Apart ["bar"]) (c_Overlap : Cxv P w K mg base 1 "Overlap" C_Overlap ["first", "second"]) : FnOk P w K mg base (L2.CX P w) 3 f fd ["which", "mine"] (spRaise [C_Flat, C_TooMany, C_Apart, C_Overlap, C_NothingToUndo]) := by
  refine F.ok (CX := L2.CX P w) sc__law_raise (fun vs H Q E h => ?_) (fun cdv A outer s H vs Q E hr h => ?_)
  · obtain ⟨i, y, rfl, _⟩ := h; rfl
  · obtain ⟨i, y, rfl, h0, h5, k⟩ := h
    refine ⟨_, (pss_cons (ps_if (pt_cmpR op_eq (pv 0) pe_int (nomark _)) (pss_one (ps_raise rfl tkE (pmk_rx rfl (pe_x0 (K := K) rfl z_Flat (by rfl))))) pss_nil) (pss_cons (ps_if (pt_cmpR op_eq (pv 0) pe_int (nomark _)) (pss_one (ps_raise rfl tkE (pmk_rx rfl (pe_xvP c_TooMany hr (by decide) (by rfl) (pa_cons pe_int pa_nil))))) pss_nil) (pss_cons (ps_if (pt_cmpR op_eq (pv 0) pe_int (nomark _)) (pss_one (ps_raise rfl tkE (pmk_rx rfl (pe_xvK c_Apart hr (by decide) (by rfl) (pk_cons (pv 1) pk_nil))))) pss_nil) (pss_cons (ps_if (pt_cmpR op_eq (pv 0) pe_int (nomark _)) (pss_one (ps_raise rfl tkE (pmk_rx rfl (pe_xvP c_Overlap hr (by decide) (by rfl) (pa_cons (pv 1) (pa_cons pe_int pa_nil)))))) pss_nil) (pss_one (ps_raise rfl tkE (pmk_rx rfl (pe_x0 (K := K) rfl z_NothingToUndo (by rfl))))))))), ?_⟩
    have lv : ∀ {x : V} {C : Addr} {od : Option Addr} {a : Addr} {H1 : Hp}, Ex H H1 → H a = none → H1 a = some (exo a C od) → Raises (cxOf (L2.CX P w) P w K mg base ["which", "mine"] "_law_raise" (defScope s__law_raise) f cdv A outer s H E) (.ref C) → C ∈ [C_Flat, C_TooMany, C_Apart, C_Overlap, C_NothingToUndo] →
        Rzx (cxOf (L2.CX P w) P w K mg base ["which", "mine"] "_law_raise" (defScope s__law_raise) f cdv A outer s H E) (.ref a) H1 (fun cls d H' => E cls d H') := fun e hn h1 hr hm => ⟨_, _, _, rfl, h1, fr0_none hn, hr, k _ hm _ _ (e.del hn)⟩
    have own : ∀ {C : Addr}, OexC K C → Raises (cxOf (L2.CX P w) P w K mg base ["which", "mine"] "_law_raise" (defScope s__law_raise) f cdv A outer s H E) (.ref C) := fun o => raises_own o.exC o.tyC
    wtm_at "of_rz"
    refine ite2 (fun c0 => ?_) (fun c0 => ?_)
    · wtm_at "of_rz"
      exact fun a H' e hn ha => lv (x := .non) e hn ha (own o_Flat) (by simp)
    wtm_at "of_rz"
    refine ite2 (fun c1 => ?_) (fun c1 => ?_)
    · wtm_at "of_rz"
      exact ⟨rfl, rfl, fun a H' e hn ⟨d, ha, _⟩ => lv (x := .non) e hn ha (own o_TooMany) (by simp)⟩
    wtm_at "of_rz"
    refine ite2 (fun c2 => ?_) (fun c2 => ?_)
    · wtm_at "of_rz"
      exact ⟨rfl, rfl, fun a H' e hn ⟨d, ha, _⟩ => lv (x := .non) e hn ha (own o_Apart) (by simp)⟩
    wtm_at "of_rz"
    refine ite2 (fun c3 => ?_) (fun c3 => ?_)
    · wtm_at "of_rz"
      exact ⟨rfl, rfl, fun a H' e hn ⟨d, ha, _⟩ => lv (x := .non) e hn ha (own o_Overlap) (by simp)⟩
    wtm_at "of_rz"
    exact fun a H' e hn ha => lv (x := .non) e hn ha (own o_NothingToUndo) (by simp)
end
end
section
open PySem PySem.Spec PyProof.Rows L2 He
section
variable {P : Program} {w : World} {K : PySem.W.Frag} {mg : Str → Option Value} {base : Heap} {C_BadNumber C_BadPoint C_Flat C_TooMany C_TooFar C_NoSuch C_NotWithin C_Apart C_NotPositive C_NotPlain C_NoMarks C_NoLetter C_Clash C_BadLetter C_Overlap C_NoWidth C_BadText C_NoFloor C_BadName C_Taken C_NoPromise C_Barred C_NothingToUndo C_FloorError : Addr}
abbrev s__law_caught : Stmt := top 32
theorem sc__law_caught : FnScope ["which", "mine", "e"] ["which", "mine"] (defScope s__law_caught) := ⟨rfl, rfl, rfl, by decide +kernel, rfl, by decide +kernel, by decide +kernel⟩
theorem ok__law_caught {f : Addr} {fd : FuncData} (F : FunD K "_law_caught" "_law_caught" (defArgs s__law_caught) (defBody s__law_caught) (defScope s__law_caught) [] [] f fd) (g_FloorError : mg "FloorError" = some (.ref C_FloorError)) (c__law_raise : Cl P w K mg base 3 "_law_raise" (spRaise [C_Flat, C_TooMany, C_Apart, C_Overlap, C_NothingToUndo])) (exF : ∀ C ∈ [C_Flat, C_TooMany, C_Apart, C_Overlap, C_NothingToUndo], PySem.W.exmOne K (.ref C) (.ref C_FloorError) = some true) : FnOk P w K mg base (L2.CX P w) (3 + 1) f fd ["which", "mine"] (spCaught) := by
  refine F.ok (CX := L2.CX P w) sc__law_caught (fun vs H Q E h => ?_) (fun cdv A outer s H vs Q E hr h => ?_)
  · obtain ⟨i, y, rfl, _⟩ := h; rfl
  · obtain ⟨i, y, rfl, h0, h5, k⟩ := h
    refine ⟨_, pss_cons (ps_try_as (i := 2) (c := .ref C_FloorError)
      (tb := fun W D σ H => ∃ Ech : XK, (∀ cls d (σ' : L2.St) H', σ'.length = 3 → Ech cls d H' → W cls d σ' H') ∧ tDrop (tC1 (spRaise [C_Flat, C_TooMany, C_Apart, C_Overlap, C_NothingToUndo]) Ech (tCons (tVar 0) (tCons (tVar 1) tNil))) D σ H)
      rfl rfl sc__law_caught.nd rfl rfl ⟨rfl, by decide, .inl g_FloorError⟩ LamX.takes0 (fun W pn xe tk _ => ?_)
      (fun a oe cls d pn hz hf => pss_one (ps_ret pe_bl)))
      (pss_one (ps_ret pe_bl)), ?_⟩
    · refine ⟨fun pins s' σ H' D I h' => ?_⟩
      obtain ⟨Ech, hW, h1⟩ := h'
      exact (pss_one (ps_expr (pe_cl c__law_raise hr (by decide) (by rfl) (passes_call (takes_len tk) (fun cls d σ' H' he hl => hW cls d σ' H' hl he)) (pa_cons (pv 0) (pa_cons (pv 1) pa_nil))))).run pins s' σ H' D I h1
    · wtm_at "of_rz"
      refine ⟨fun cls d H' => ∃ C, C ∈ [C_Flat, C_TooMany, C_Apart, C_Overlap, C_NothingToUndo] ∧ cls = .ref C ∧ Ex H H', ?_, ?_⟩
      · rintro cls d σ' H' hl ⟨C, hC, rfl, e⟩
        refine ⟨true, exF C hC, fun _ a ha => ?_, fun z => by cases z⟩
        wtm_at "of_rz"
        exact k _ e
      · wtm_at "of_rz"
        exact ⟨i, y, rfl, h0, h5, fun C hC od H' e => ⟨C, hC, rfl, e⟩⟩
end
end
section
open PySem PySem.Spec PyProof.Rows L2 He
section
variable {P : Program} {w : World} {K : PySem.W.Frag} {mg : Str → Option Value} {base : Heap} {C_BadNumber C_BadPoint C_Flat C_TooMany C_TooFar C_NoSuch C_NotWithin C_Apart C_NotPositive C_NotPlain C_NoMarks C_NoLetter C_Clash C_BadLetter C_Overlap C_NoWidth C_BadText C_NoFloor C_BadName C_Taken C_NoPromise C_Barred C_NothingToUndo C_FloorError : Addr}
abbrev s_law : Stmt := (top 33)
theorem sc_law : FnScope ["script", "pen", "values", "lap", "lots", "error", "found", "mine", "yours", "kept", "twice", "due", "told", "which"] ["script"] (defScope s_law) := ⟨rfl, rfl, rfl, by decide +kernel, rfl, by decide +kernel, by decide +kernel⟩
theorem ok_law {f : Addr} {fd : FuncData} (F : FunD K "law" "law" (defArgs s_law) (defBody s_law) (defScope s_law) [] [] f fd) (TB : TBl mg) (g_BadNumber : mg "BadNumber" = some (.ref C_BadNumber)) (GX : ∀ C b, (C, b) ∈ [(C_Flat, true), (C_NotWithin, false), (C_NotPlain, true), (C_NoMarks, false), (C_NoWidth, true), (C_NothingToUndo, false), (C_BadNumber, true), (C_Clash, false)] → ExcC K C ∧ PySem.W.kitOne K (.ref C) (.ref C_FloorError) = some true ∧ PySem.W.kitOne K (.ref C) (.type "ValueError") = some true ∧ PySem.W.kitAny K (.ref C) ([C_Flat, C_NotPlain, C_NoWidth, C_BadNumber].map Value.ref) = some b) (g_Flat : mg "Flat" = some (.ref C_Flat)) (z_Flat : Cx0 K mg "Flat" C_Flat) (z_NotWithin : Cx0 K mg "NotWithin" C_NotWithin) (g_NotPlain : mg "NotPlain" = some (.ref C_NotPlain)) (z_NotPlain : Cx0 K mg "NotPlain" C_NotPlain) (z_NoMarks : Cx0 K mg "NoMarks" C_NoMarks) (g_NoWidth : mg "NoWidth" = some (.ref C_NoWidth)) (z_NoWidth : Cx0 K mg "NoWidth" C_NoWidth) (z_NothingToUndo : Cx0 K mg "NothingToUndo" C_NothingToUndo) (g_FloorError : mg "FloorError" = some (.ref C_FloorError)) (c_BadNumber : Cxv P w K mg base 1 "BadNumber" C_BadNumber ["value"]) (c_Clash : Cxv P w K mg base 1 "Clash" C_Clash ["letter", "other"]) (c__law_pen : Cl P w K mg base 1 "_law_pen" (spPen K)) (c__law_pick : Cl P w K mg base 2 "_law_pick" (spPPick)) (c__law_alone : Cl P w K mg base 3 "_law_alone" (spAlone)) (c__law_more : Cl P w K mg base 3 "_law_more" (spMore)) (c__law_caught : Cl P w K mg base 4 "_law_caught" (spCaught)) : FnOk P w K mg base (L2.CX P w) 5 f fd ["script"] (spLaw0 K) := by
  refine F.ok (CX := L2.CX P w) sc_law (fun vs H Q E h => ?_) (fun cdv A outer s H vs Q E hr h => ?_)
  · obtain ⟨a, ns, rfl, _⟩ := h; rfl
  · obtain ⟨a, ns, rfl, ha, hn, k⟩ := h
    refine ⟨_, (pss_cons (ps_set (i := 1) sc_law.nd rfl (Or.inl rfl) (pe_cl c__law_pen hr (by decide) (by rfl) psE (pa_cons (pv 0) pa_nil))) (pss_cons (ps_set (i := 2) sc_law.nd rfl (Or.inl rfl) (pe_lst (pa_cons pe_non (pa_cons pe_bl (pa_cons pe_int (pa_cons (pe_un un_neg pe_int) (pa_cons pe_str (pa_cons pe_str (pa_cons (pe_tup (pa_cons pe_int (pa_cons pe_int pa_nil))) (pa_cons (pe_lst (pa_cons pe_str pa_nil)) (pa_cons pe_dnewK (pa_cons (pe_op op_pow pe_int pe_int) (pa_cons pe_str (pa_cons (pe_tup (pa_cons (pe_tup (pa_cons pe_int (pa_cons pe_int pa_nil))) (pa_cons pe_int pa_nil))) pa_nil)))))))))))))) (pss_cons (ps_for (passes_of rfl) rfl (pi_range1 (by rfl) TB.b_range (pa_cons (pe_op op_add pe_int (pe_callB (kc_min rfl) (by rfl) TB.b_min (by decide +kernel) (pa_cons pe_int (pa_cons (pe_callB (kc_len (K := K) rfl) (by rfl) TB.b_len PySem.boot_len (pa_cons (pv 0) pa_nil)) pa_nil)))) pa_nil)) (pg_name (i := 3) sc_law.nd rfl (Or.inl rfl)) (pss_cons (ps_asg (pe_tup (pa_cons (pe_cl c__law_pick hr (by decide) (by rfl) psE (pa_cons (pv 1) (pa_cons (pv 2) pa_nil))) (pa_cons (pe_cl c__law_pick hr (by decide) (by rfl) psE (pa_cons (pv 1) (pa_cons (pv 2) pa_nil))) pa_nil))) (kpg_tup (K := K) 2 rfl rfl (pgs_cons (pg_name (i := 7) sc_law.nd rfl (Or.inr rfl)) (pgs_cons (pg_name (i := 8) sc_law.nd rfl (Or.inl rfl)) pgs_nil)))) (pss_cons (ps_for (passes_of rfl) rfl (kpi_l (K := K) rfl (pe_cl c__law_alone hr (by decide) (by rfl) psE (pa_cons (pv 7) pa_nil))) (kpg_tup (K := K) 2 rfl rfl (pgs_cons (pg_name (i := 9) sc_law.nd rfl (Or.inl rfl)) (pgs_cons (pg_name (i := 10) sc_law.nd rfl (Or.inl rfl)) pgs_nil))) (pss_one (ps_if (pw_or (pt_cmpR (kop_neW (K := K) rfl (hu_of64 hr)) (pv 9) (pv 7) (nomark _)) (pw_or (pt_cmpR (kop_neW (K := K) rfl (hu_of64 hr)) (pv 10) (pv 7) (nomark _)) (pw_or1 (pt_cmpR op_ne (pe_callB (kc_isi (K := K) rfl) (by rfl) TB.b_isinstance (by decide +kernel) (pa_cons (pv 9) (pa_cons (pe_bltn (v := .ty "bool") (u := .type "bool") (by rfl) TB.b_bool (by decide +kernel) rfl) pa_nil))) (pe_callB (kc_isi (K := K) rfl) (by rfl) TB.b_isinstance (by decide +kernel) (pa_cons (pv 7) (pa_cons (pe_bltn (v := .ty "bool") (u := .type "bool") (by rfl) TB.b_bool (by decide +kernel) rfl) pa_nil))) (nomark _))))).pt (pss_one (ps_ret pe_bl)) pss_nil))) (pss_cons (ps_for (passes_of rfl) rfl (kpi_l (K := K) rfl (pe_cl c__law_more hr (by decide) (by rfl) psE (pa_cons (pv 7) (pa_cons (pv 8) pa_nil)))) (kpg_tup (K := K) 2 rfl rfl (pgs_cons (pg_name (i := 9) sc_law.nd rfl (Or.inl rfl)) (pgs_cons (pg_name (i := 11) sc_law.nd rfl (Or.inl rfl)) pgs_nil))) (pss_one (ps_if (pw_or (pt_cmpR (kop_neW (K := K) rfl (hu_of64 hr)) (pv 9) (pv 11) (nomark _)) (pw_or1 (pt_cmpR op_ne (pe_callB (kc_isi (K := K) rfl) (by rfl) TB.b_isinstance (by decide +kernel) (pa_cons (pv 9) (pa_cons (pe_bltn (v := .ty "bool") (u := .type "bool") (by rfl) TB.b_bool (by decide +kernel) rfl) pa_nil))) (pe_callB (kc_isi (K := K) rfl) (by rfl) TB.b_isinstance (by decide +kernel) (pa_cons (pv 11) (pa_cons (pe_bltn (v := .ty "bool") (u := .type "bool") (by rfl) TB.b_bool (by decide +kernel) rfl) pa_nil))) (nomark _)))).pt (pss_one (ps_ret pe_bl)) pss_nil))) (pss_cons (ps_set (i := 4) sc_law.nd rfl (Or.inl rfl) (pe_lst (pa_cons (pe_x0 (K := K) rfl z_Flat (by rfl)) (pa_cons (pe_x0 (K := K) rfl z_NotWithin (by rfl)) (pa_cons (pe_x0 (K := K) rfl z_NotPlain (by rfl)) (pa_cons (pe_x0 (K := K) rfl z_NoMarks (by rfl)) (pa_cons (pe_x0 (K := K) rfl z_NoWidth (by rfl)) (pa_cons (pe_x0 (K := K) rfl z_NothingToUndo (by rfl)) (pa_cons (pe_xvP c_BadNumber hr (by decide) (by rfl) (pa_cons (pv 7) pa_nil)) pa_nil))))))))) (pss_cons (ps_expr (kapp (K := K) rfl PySem.F.plainAttrs_list PySem.F.slot_list_append PySem.F.type_list_append mt_append (pv 4) (pa_cons (pe_xvP c_Clash hr (by decide) (by rfl) (pa_cons (pv 7) (pa_cons (pv 8) pa_nil))) pa_nil))) (pss_cons (ps_for (passes_of rfl) rfl (kpi_l (K := K) rfl (pv 4)) (pg_name (i := 5) sc_law.nd rfl (Or.inl rfl)) (pss_one (ps_if (pw_or (pt_not (pt_val (pe_callB (kc_isV (K := K) rfl) (by rfl) TB.b_isinstance (by decide +kernel) (pa_cons (pv 5) (pa_cons (pe_glob (v := .ref C_FloorError) (by rfl) g_FloorError rfl) pa_nil))))) (pw_or1 (pt_not (pt_val (pe_callB (kc_isV (K := K) rfl) (by rfl) TB.b_isinstance (by decide +kernel) (pa_cons (pv 5) (pa_cons (pe_bltn (v := .ty "ValueError") (u := .type "ValueError") (by rfl) TB.b_ValueError (by decide +kernel) rfl) pa_nil))))))).pt (pss_one (ps_ret pe_bl)) pss_nil))) (pss_cons (ps_setLc (i := 6) (own := [("error", 5)]) (tt := tYes) (by rfl) sc_law.nd rfl rfl (sw_true rfl rfl rfl (by decide +kernel)) (kpi_l (K := K) rfl (pv 4)) (blkOk_by (own := [("error", 5)]) (N := ["script", "pen", "values", "lap", "lots", "error", "found", "mine", "yours", "kept", "twice", "due", "told", "which"]) (sc := defScope s_law) (by decide +kernel)) (fun _ _ _ _ _ => (pg_name (i := 5) sc_law.nd rfl (Or.inl rfl))) (fun _ _ _ _ _ => pts_nil) (fun _ _ _ _ _ => (pe_callB (kc_isV (K := K) rfl) (by rfl) TB.b_isinstance (by decide +kernel) (pa_cons (pv 5) (pa_cons (pe_tup (pa_cons (pe_glob (v := .ref C_Flat) (by rfl) g_Flat rfl) (pa_cons (pe_glob (v := .ref C_NotPlain) (by rfl) g_NotPlain rfl) (pa_cons (pe_glob (v := .ref C_NoWidth) (by rfl) g_NoWidth rfl) (pa_cons (pe_glob (v := .ref C_BadNumber) (by rfl) g_BadNumber rfl) pa_nil))))) pa_nil))))) (pss_one (ps_if (pw_or (pt_cmpR op_ne (pe_callB (kc_sum (K := K) rfl rfl) (by rfl) TB.b_sum (by decide +kernel) (pa_cons (pe_lc (own := [("told", 12)]) (tt := tYes) (by rfl) sc_law.nd (kpi_l (K := K) rfl (pv 6)) (blkOk_by (own := [("told", 12)]) (N := ["script", "pen", "values", "lap", "lots", "error", "found", "mine", "yours", "kept", "twice", "due", "told", "which"]) (sc := defScope s_law) (by decide +kernel)) (fun _ _ _ _ _ => (pg_name (i := 12) sc_law.nd rfl (Or.inl rfl))) (fun _ _ _ _ _ => pts_nil) (fun _ _ _ _ _ => (pe_callTy kc_int1 (by rfl) TB.b_int (by decide +kernel) (pa_cons (pv 12) pa_nil)))) pa_nil)) pe_int (nomark _)) (pw_or1 (pt_not (pt_val (pe_callB (kc_all (K := K) rfl rfl) (by rfl) TB.b_all (by decide +kernel) (pa_cons (pe_lc (own := [("which", 13)]) (tt := tYes) (by rfl) sc_law.nd (pi_range1 (by rfl) TB.b_range (pa_cons pe_int pa_nil)) (blkOk_by (own := [("which", 13)]) (N := ["script", "pen", "values", "lap", "lots", "error", "found", "mine", "yours", "kept", "twice", "due", "told", "which"]) (sc := defScope s_law) (by decide +kernel)) (fun _ _ _ _ _ => (pg_name (i := 13) sc_law.nd rfl (Or.inl rfl))) (fun _ _ _ _ _ => pts_nil) (fun _ _ _ _ _ => (pe_cl c__law_caught hr (by decide) (by rfl) passL (pa_cons (pv 13) (pa_cons (pv 7) pa_nil))))) pa_nil)))))).pt (pss_one (ps_ret pe_bl)) pss_nil)))))))))) (pss_one (ps_ret pe_bl))))), ?_⟩
    have hl : (ns.map V.int).length = ns.length := List.length_map _
    wtm_at "of_rz"
    refine ⟨a, ns, rfl, ha, hn, ?_⟩
    intro H1 p c e1 np nc P1
    wtm_at "of_rz"
    refine r_laidT (by show 2 ≤ 1000; decide) ?_
    intro t1 H2 e2 n2 g1
    wtm_at "of_rz"
    refine r_laidL (by show 1 ≤ 1000; decide) ?_
    intro l1 H3 e3 n3 g2
    wtm_at "of_rz"
    refine r_dnew ?_
    intro d1 H4 e4 n4 g3
    wtm_at "of_rz"
    refine r_I ⟨by decide, by decide, by decide⟩ ?_
    wtm_at "of_rz"
    refine r_laidT (by show 2 ≤ 1000; decide) ?_
    intro t2 H5 e5 n5 g4
    wtm_at "of_rz"
    refine r_laidT (by show 2 ≤ 1000; decide) ?_
    intro t3 H6 e6 n6 g5
    wtm_at "of_rz"
    refine r_laidL (by show 12 ≤ 1000; decide) ?_
    intro V7 H7 e7 n7 g6
    have hv : ∀ v ∈ [V.non, V.bl true, V.int 0, V.int (-3), V.str "", V.str "x y", V.ref t1, V.ref l1, V.ref d1, V.int (10 ^ (9 : Int).toNat), V.str "a", V.ref t3], V12 H7 v := by
      intro v hm
      simp only [List.mem_cons, List.mem_nil_iff, or_false, List.not_mem_nil] at hm
      rcases hm with rfl | rfl | rfl | rfl | rfl | rfl | rfl | rfl | rfl | rfl | rfl | rfl
      · exact .non
      · exact .tr
      · exact .i 0 (by decide)
      · exact .i (-3) (by decide)
      · exact .s _ (by decide +kernel)
      · exact .s _ (by decide +kernel)
      · exact .tup ((e3.trans (e4.trans (e5.trans (e6.trans e7)))) _ _ g1)
      · exact .lst ((e4.trans (e5.trans (e6.trans e7))) _ _ g2)
      · exact .dic ((e5.trans (e6.trans e7)) _ _ g3)
      · exact .i _ (by decide)
      · exact .s _ (by decide +kernel)
      · exact .nest (e7 _ _ g5) ((e6.trans e7) _ _ g4)
    have e17 : Ex H1 H7 := e2.trans (e3.trans (e4.trans (e5.trans (e6.trans e7))))
    wtm_at "of_rz"
    refine q_lenS (by with_unfolding_all rfl) ((e1.trans e17).seq ha) ?_
    wtm_at "of_rz"
    refine ⟨4, _, rfl, ?_⟩
    wtm_at "of_rz"
    obtain ⟨m, hm, hm9⟩ : ∃ m : Nat, (2 : Int) + (if ((((ns.map V.int).length : Nat) : Int)) < 4 then (((ns.map V.int).length : Nat) : Int) else 4) = (m : Int) ∧ m ≤ 6 := by
      split
      · exact ⟨2 + (ns.map V.int).length, by omega, by omega⟩
      · exact ⟨6, by omega, by omega⟩
    rw [hm]
    refine i_R (n := m) rfl (by omega) ?_
    refine fR' (fun i σ H' => ∃ (v3 v4 v5 v6 v7 v8 v9 v10 v11 v12 v13 : Option V), σ = [some (.ref a), some (.ref p), some (.ref V7), v3, v4, v5, v6, v7, v8, v9, v10, v11, v12, v13] ∧ Kn H7 H' ∧ Pen H' p c (2 * i)) ⟨_, _, _, _, _, _, _, _, _, _, _, rfl, Kn.refl _, P1.ex e17⟩ ?_ ?_
    · rintro i σ H8 hi ⟨v3, v4, v5, v6, v7, v8, v9, v10, v11, v12, v13, rfl, k8, P8⟩
      wtm_at "of_rz"
      refine ⟨p, V7, _, 2 * i, rfl, c, P8, by omega, k8.lst g6, by show 0 < 12; decide, by show 12 ≤ 1000000; decide, ?_⟩
      intro H9 mine k9 P9 m1
      have k79 := k8.trans k9
      wtm_at "of_rz"
      refine ⟨p, V7, _, 2 * i + 1, rfl, c, P9, by omega, k79.lst g6, by show 0 < 12; decide, by show 12 ≤ 1000000; decide, ?_⟩
      intro H10 yours k10 P10 m2
      have k70 := k79.trans k10
      wtm_at "of_rz"
      refine r_laidT (by show 2 ≤ 1000; decide) ?_
      intro tt H11 e11 n11 g11
      refine r_gTup g11 rfl ?_
      wtm_at "of_rz"
      refine ⟨mine, rfl, ?_⟩
      intro H12 L12 ts e12 g12 hlen hts
      have vm : V12 H12 mine := (hv _ m1).kn (k70.trans (e11.trans e12).kn)
      obtain ⟨tb, bb, ty1, kb⟩ := vm.ty (K := K)
      wtm_at "of_rz"
      refine i_L g12 ?_
      refine fL (xs := ts) (fun j σ H' => ∃ (w3 w4 w5 w6 w9 w10 w11 w12 w13 : Option V), σ = [some (.ref a), some (.ref p), some (.ref V7), w3, w4, w5, w6, some mine, some yours, w9, w10, w11, w12, w13] ∧ H' = H12) ⟨_, _, _, _, _, _, _, _, _, rfl, rfl⟩ (fun j σ H' _ ⟨_, _, _, _, _, _, _, _, _, _, e⟩ => by subst e; exact g12) ?_ ?_
      · rintro j x σ H' hx ⟨w3, w4, w5, w6, w9, w10, w11, w12, w13, rfl, rfl⟩
        obtain ⟨q, rfl, hq⟩ := hts x (List.mem_of_getElem? hx)
        wtm_at "of_rz"
        refine r_gTup hq rfl ?_
        wtm_at "of_rz"
        refine q_neW vm ?_
        wtm_at "of_rz"
        refine q_neW vm ?_
        wtm_at "of_rz"
        refine r_isi (.ty _) ty1 kb ?_
        wtm_at "of_rz"
        refine r_isi (.ty _) ty1 kb ?_
        wtm_at "of_rz"
        refine r_neB0 ?_
        wtm_at "of_rz"
        exact ⟨_, _, _, _, _, _, _, _, _, rfl, rfl⟩
      rintro σ H' ⟨w3, w4, w5, w6, w9, w10, w11, w12, w13, rfl, rfl⟩
      wtm_at "of_rz"
      refine ⟨mine, yours, rfl, ?_⟩
      intro H13 L13 us e13 g13 hlen2 hus
      have vm2 : V12 H13 mine := vm.kn e13.kn
      have vy2 : V12 H13 yours := (hv _ m2).kn (k70.trans (e11.trans (e12.trans e13)).kn)
      wtm_at "of_rz"
      refine i_L g13 ?_
      refine fL (xs := us) (fun j σ H' => ∃ (w3 w4 w5 w6 w9 w10 w11 w12 w13 : Option V), σ = [some (.ref a), some (.ref p), some (.ref V7), w3, w4, w5, w6, some mine, some yours, w9, w10, w11, w12, w13] ∧ H' = H13) ⟨_, _, _, _, _, _, _, _, _, rfl, rfl⟩ (fun j σ H' _ ⟨_, _, _, _, _, _, _, _, _, _, e⟩ => by subst e; exact g13) ?_ ?_
      · rintro j x σ H' hx ⟨w3, w4, w5, w6, w9, w10, w11, w12, w13, rfl, rfl⟩
        obtain ⟨q, u, rfl, hq, hu⟩ := hus x (List.mem_of_getElem? hx)
        have vu : V12 H' u := by rcases hu with rfl | rfl <;> assumption
        obtain ⟨tb, bb, ty1, kb⟩ := vu.ty (K := K)
        wtm_at "of_rz"
        refine r_gTup hq rfl ?_
        wtm_at "of_rz"
        refine q_neW vu ?_
        wtm_at "of_rz"
        refine r_isi (.ty _) ty1 kb ?_
        wtm_at "of_rz"
        refine r_isi (.ty _) ty1 kb ?_
        wtm_at "of_rz"
        refine r_neB0 ?_
        wtm_at "of_rz"
        exact ⟨_, _, _, _, _, _, _, _, _, rfl, rfl⟩
      rintro σ H' ⟨w3, w4, w5, w6, w9, w10, w11, w12, w13, rfl, rfl⟩
      wtm_at "of_rz"
      refine mkx0 ?_
      intro x1 G1 f1 z1 y1
      wtm_at "of_rz"
      refine mkx0 ?_
      intro x2 G2 f2 z2 y2
      wtm_at "of_rz"
      refine mkx0 ?_
      intro x3 G3 f3 z3 y3
      wtm_at "of_rz"
      refine mkx0 ?_
      intro x4 G4 f4 z4 y4
      wtm_at "of_rz"
      refine mkx0 ?_
      intro x5 G5 f5 z5 y5
      wtm_at "of_rz"
      refine mkx0 ?_
      intro x6 G6 f6 z6 y6
      wtm_at "of_rz"
      refine mkx ?_ ?_ ?_
      · rfl
      · rfl
      intro x7 G7 f7 z7 y7
      wtm_at "of_rz"
      refine r_laidL (by show 7 ≤ 1000; decide) ?_
      intro L8 G8 f8 z8 y8
      wtm_at "of_rz"
      refine ⟨ty_l y8, ?_⟩
      wtm_at "of_rz"
      refine mkx ?_ ?_ ?_
      · rfl
      · rfl
      intro x9 G9 f9 z9 y9
      wtm_at "of_rz"
      have hL9 := f9 _ _ y8
      refine r_app hL9 (by show 7 ≤ 1000000; decide) ?_
      have u1 : AnyX C_Flat (upd G9 L8 (.lst ([V.ref x1, V.ref x2, V.ref x3, V.ref x4, V.ref x5, V.ref x6, V.ref x7] ++ [V.ref x9]))) x1 := AnyX.put (y1.ex (f2.trans (f3.trans (f4.trans (f5.trans (f6.trans (f7.trans (f8.trans f9)))))))) hL9
      have u2 : AnyX C_NotWithin (upd G9 L8 (.lst ([V.ref x1, V.ref x2, V.ref x3, V.ref x4, V.ref x5, V.ref x6, V.ref x7] ++ [V.ref x9]))) x2 := AnyX.put (y2.ex (f3.trans (f4.trans (f5.trans (f6.trans (f7.trans (f8.trans f9))))))) hL9
      have u3 : AnyX C_NotPlain (upd G9 L8 (.lst ([V.ref x1, V.ref x2, V.ref x3, V.ref x4, V.ref x5, V.ref x6, V.ref x7] ++ [V.ref x9]))) x3 := AnyX.put (y3.ex (f4.trans (f5.trans (f6.trans (f7.trans (f8.trans f9)))))) hL9
      have u4 : AnyX C_NoMarks (upd G9 L8 (.lst ([V.ref x1, V.ref x2, V.ref x3, V.ref x4, V.ref x5, V.ref x6, V.ref x7] ++ [V.ref x9]))) x4 := AnyX.put (y4.ex (f5.trans (f6.trans (f7.trans (f8.trans f9))))) hL9
      have u5 : AnyX C_NoWidth (upd G9 L8 (.lst ([V.ref x1, V.ref x2, V.ref x3, V.ref x4, V.ref x5, V.ref x6, V.ref x7] ++ [V.ref x9]))) x5 := AnyX.put (y5.ex (f6.trans (f7.trans (f8.trans f9)))) hL9
      have u6 : AnyX C_NothingToUndo (upd G9 L8 (.lst ([V.ref x1, V.ref x2, V.ref x3, V.ref x4, V.ref x5, V.ref x6, V.ref x7] ++ [V.ref x9]))) x6 := AnyX.put (y6.ex (f7.trans (f8.trans f9))) hL9
      have u7 : AnyX C_BadNumber (upd G9 L8 (.lst ([V.ref x1, V.ref x2, V.ref x3, V.ref x4, V.ref x5, V.ref x6, V.ref x7] ++ [V.ref x9]))) x7 := AnyX.put (y7.ex (f8.trans f9)) hL9
      have u9 : AnyX C_Clash (upd G9 L8 (.lst ([V.ref x1, V.ref x2, V.ref x3, V.ref x4, V.ref x5, V.ref x6, V.ref x7] ++ [V.ref x9]))) x9 := AnyX.put y9 hL9
      have k7 : Kn H7 G7 := k70.trans (e11.trans (e12.trans (e13.trans (f1.trans (f2.trans (f3.trans (f4.trans (f5.trans (f6.trans f7))))))))).kn
      have k9' : Kn H7 G9 := k7.trans (f8.trans f9).kn
      have k10' : Kn H7 (upd G9 L8 (.lst ([V.ref x1, V.ref x2, V.ref x3, V.ref x4, V.ref x5, V.ref x6, V.ref x7] ++ [V.ref x9]))) := Kn.putN k7 z8 k9'
      have P7 : Pen G7 p c (2 * i + 2) := P10.ex (e11.trans (e12.trans (e13.trans (f1.trans (f2.trans (f3.trans (f4.trans (f5.trans (f6.trans f7)))))))))
      have cL : c ≠ L8 := fun z => by
        obtain ⟨_, _, _, _, z2, _⟩ := P7
        rw [z, z8] at z2; cases z2
      have P10' : Pen (upd G9 L8 (.lst ([V.ref x1, V.ref x2, V.ref x3, V.ref x4, V.ref x5, V.ref x6, V.ref x7] ++ [V.ref x9]))) p c (2 * i + 2) := (P7.ex (f8.trans f9)).put hL9 cL
      have gL : (upd G9 L8 (.lst ([V.ref x1, V.ref x2, V.ref x3, V.ref x4, V.ref x5, V.ref x6, V.ref x7] ++ [V.ref x9]))) L8 = some (.lst ([V.ref x1, V.ref x2, V.ref x3, V.ref x4, V.ref x5, V.ref x6, V.ref x7] ++ [V.ref x9])) := upd_same
      generalize upd G9 L8 (.lst ([V.ref x1, V.ref x2, V.ref x3, V.ref x4, V.ref x5, V.ref x6, V.ref x7] ++ [V.ref x9])) = G at *
      have at_ : ∀ (j : Nat) (x : V), [V.ref x1, V.ref x2, V.ref x3, V.ref x4, V.ref x5, V.ref x6, V.ref x7, V.ref x9][j]? = some x → ∃ (a C : Addr) (b : Bool), x = .ref a ∧ AnyX C G a ∧ (C, b) ∈ [(C_Flat, true), (C_NotWithin, false), (C_NotPlain, true), (C_NoMarks, false), (C_NoWidth, true), (C_NothingToUndo, false), (C_BadNumber, true), (C_Clash, false)] ∧ [true, false, true, false, true, false, true, false][j]? = some b := by
        intro j x hx
        match j, hx with
        | 0, hx => cases hx; exact ⟨x1, C_Flat, true, rfl, u1, by simp, rfl⟩
        | 1, hx => cases hx; exact ⟨x2, C_NotWithin, false, rfl, u2, by simp, rfl⟩
        | 2, hx => cases hx; exact ⟨x3, C_NotPlain, true, rfl, u3, by simp, rfl⟩
        | 3, hx => cases hx; exact ⟨x4, C_NoMarks, false, rfl, u4, by simp, rfl⟩
        | 4, hx => cases hx; exact ⟨x5, C_NoWidth, true, rfl, u5, by simp, rfl⟩
        | 5, hx => cases hx; exact ⟨x6, C_NothingToUndo, false, rfl, u6, by simp, rfl⟩
        | 6, hx => cases hx; exact ⟨x7, C_BadNumber, true, rfl, u7, by simp, rfl⟩
        | 7, hx => cases hx; exact ⟨x9, C_Clash, false, rfl, u9, by simp, rfl⟩
        | j + 8, hx => simp at hx
      wtm_at "of_rz"
      refine i_L gL ?_
      refine fL (xs := [V.ref x1, V.ref x2, V.ref x3, V.ref x4, V.ref x5, V.ref x6, V.ref x7, V.ref x9]) (fun j σ H' => ∃ (w3 w5 w6 w9 w10 w11 w12 w13 : Option V), σ = [some (.ref a), some (.ref p), some (.ref V7), w3, some (.ref L8), w5, w6, some mine, some yours, w9, w10, w11, w12, w13] ∧ G = H') ⟨_, _, _, _, _, _, _, _, rfl, rfl⟩ (fun j σ H' _ ⟨_, _, _, _, _, _, _, _, _, e⟩ => by subst e; exact gL) ?_ ?_
      · rintro j x σ H' hx ⟨w3, w5, w6, w9, w10, w11, w12, w13, rfl, rfl⟩
        obtain ⟨q, C, b, rfl, hq, hm, _⟩ := at_ j x hx
        obtain ⟨EC, kF, kV, kA⟩ := GX C b hm
        wtm_at "of_rz"
        refine q_isV EC hq (fun u r => r) kF ?_
        wtm_at "of_rz"
        refine q_isV EC hq (fun u r => r) kV ?_
        wtm_at "of_rz"
        exact ⟨_, _, _, _, _, _, _, _, rfl, rfl⟩
      rintro σ H' ⟨w3, w5, w6, w9, w10, w11, w12, w13, rfl, rfl⟩
      wtm_at "of_rz"
      refine i_L gL ?_
      refine lL (xs := [V.ref x1, V.ref x2, V.ref x3, V.ref x4, V.ref x5, V.ref x6, V.ref x7, V.ref x9]) (fun L j acc H' => Ex G H' ∧ acc = ([true, false, true, false, true, false, true, false].take j).map V.bl) (fun L hL H' e h => ⟨e, rfl⟩) (fun L j acc H' hL hj ⟨e, _⟩ => e _ _ gL) ?_ ?_
      · rintro L j x acc H' hL hx ⟨e, rfl⟩ hacc
        obtain ⟨q, C, b, rfl, hq, hm, hb⟩ := at_ j x hx
        obtain ⟨EC, kF, kV, kA⟩ := GX C b hm
        wtm_at "of_rz"
        refine ⟨rfl, ?_⟩
        wtm_at "of_rz"
        refine r_laidT (by show 4 ≤ 1000; decide) ?_
        intro tp H'' e2 n2 h2
        wtm_at "of_rz"
        refine q_isVT (cs := [C_Flat, C_NotPlain, C_NoWidth, C_BadNumber]) EC (hq.ex (e.trans e2)) h2 kA ?_
        have hacc2 := e2 _ _ hacc
        refine lput hacc2 (by rw [List.length_map]; exact Nat.le_trans (List.length_take_le _ _) (by have := (List.getElem?_eq_some_iff.mp hx).1; simp at this; omega)) ⟨(e.trans e2).put hL, ?_⟩
        rw [List.take_add_one, hb, List.map_append]; rfl
      rintro L acc G11 hL h11 ⟨f11, rfl⟩
      wtm_at "of_rz"
      refine i_L h11 ?_
      refine lL (xs := ([true, false, true, false, true, false, true, false].take 8).map V.bl) (fun L2 j acc H' => Ex G11 H' ∧ acc = ((([true, false, true, false, true, false, true, false].take j).map fun b => (if b then (1 : Int) else 0))).map V.int) (fun L2 hL2 H' e h => ⟨e, rfl⟩) (fun L2 j acc H' hL2 hj ⟨e, _⟩ => e _ _ h11) ?_ ?_
      · rintro L2 j x acc H' hL2 hx ⟨e, rfl⟩ hacc
        obtain ⟨b, rfl, hb⟩ : ∃ b, x = V.bl b ∧ [true, false, true, false, true, false, true, false][j]? = some b := by
          rw [List.getElem?_map] at hx
          obtain ⟨b, h1, h2⟩ := Option.map_eq_some_iff.mp hx
          exact ⟨b, h2.symm, h1⟩
        wtm_at "of_rz"
        refine ⟨rfl, ?_⟩
        wtm_at "of_rz"
        refine lput hacc (by rw [List.length_map, List.length_map]; exact Nat.le_trans (List.length_take_le _ _) (by have := (List.getElem?_eq_some_iff.mp hx).1; simp at this; omega)) ⟨e.put hL2, ?_⟩
        rw [List.take_add_one, hb, List.map_append, List.map_append]; rfl
      rintro L2 acc G12 hL2 h12 ⟨f12, rfl⟩
      wtm_at "of_rz"
      refine q_sum h12 ?_
      wtm_at "of_rz"
      rw [if_neg]
      rotate_left
      · decide
      wtm_at "of_rz"
      refine i_R (n := 5) rfl (by decide) ?_
      refine lR (fun L3 j acc H' => Ex G12 H' ∧ acc = (List.replicate j true).map V.bl) (fun L3 hL3 H' e h => ⟨e, rfl⟩) ?_ ?_
      · rintro L3 j acc H' hL3 hj ⟨e, rfl⟩ hacc
        wtm_at "of_rz"
        refine ⟨rfl, ?_⟩
        wtm_at "of_rz"
        refine ⟨_, mine, rfl, by omega, by omega, ?_⟩
        intro H'' e2
        refine lput (e2 _ _ hacc) (by rw [List.length_map, List.length_replicate]; omega) ⟨(e.trans e2).put hL3, ?_⟩
        rw [List.replicate_succ', List.map_append]; rfl
      rintro L3 acc G13 hL3 h13 ⟨f13, rfl⟩
      wtm_at "of_rz"
      refine q_allB h13 ?_
      wtm_at "of_rz"
      have fz := f11.trans (f12.trans f13)
      exact ⟨_, _, _, _, _, _, _, _, _, _, _, rfl, k10'.trans fz.kn, (P10'.ex fz).mono (by omega)⟩
    · rintro σ H8 ⟨v3, v4, v5, v6, v7, v8, v9, v10, v11, v12, v13, rfl, k8, P8⟩
      wtm_at "of_rz"
      exact k _
end
end
section
open PySem PySem.Spec PyProof.Rows L2 He
abbrev R : PySem.W.OpenRow := PySem.W.OpenLaw.row PySem.Challenge.rw_overfloors_k00_errors_made_by_hand
def excCB (K : PySem.W.Frag) (D : Addr) : Bool := eqO (PySem.W.findIn K (.ref D) "__getattribute__") (some (some (.builtin "BaseException.__getattribute__"))) && (eqO (PySem.W.findIn K (.ref D) "__getattr__") (some none) && (decide (PySem.W.subIn K (.ref D) (.type "BaseException") = some true) && (PySem.W.hasDictIn K D && (eqO (PySem.W.findIn K (.ref D) "__class__") (some (some (.builtin "object.__class__"))) && (decide (PySem.W.specialIn K (.builtin "object.__class__") "__get__" = some (some (.builtin "getset_descriptor.__get__"))) && (decide (PySem.W.takesIn K (.builtin "object.__class__") = some true) && decide (PySem.W.mroIn K D (.type "object") = some true)))))))
theorem excCB_ok {K : PySem.W.Frag} {D : Addr} (h : excCB K D = true) : ExcC K D := by
  obtain ⟨h1, h⟩ := ba h
  obtain ⟨h2, h⟩ := ba h
  obtain ⟨h3, h⟩ := ba h
  obtain ⟨h4, h⟩ := ba h
  obtain ⟨h5, h⟩ := ba h
  obtain ⟨h6, h⟩ := ba h
  obtain ⟨h7, h8⟩ := ba h
  exact ⟨eqO_ok h1, eqO_ok h2, of_decide_eq_true h3, h4, eqO_ok h5, of_decide_eq_true h6, of_decide_eq_true h7, of_decide_eq_true h8⟩
def fn : List DefD := [
  ⟨("_law_pen", none), "_law_pen", "_law_pen", defArgs (top 26), defBody (top 26), defScope (top 26), [], []⟩,
  ⟨("_law_draw", none), "_law_draw", "_law_draw", defArgs (top 27), defBody (top 27), defScope (top 27), [], []⟩,
  ⟨("_law_pick", none), "_law_pick", "_law_pick", defArgs (top 28), defBody (top 28), defScope (top 28), [], []⟩,
  ⟨("_law_alone", none), "_law_alone", "_law_alone", defArgs (top 29), defBody (top 29), defScope (top 29), [], []⟩,
  ⟨("_law_more", none), "_law_more", "_law_more", defArgs (top 30), defBody (top 30), defScope (top 30), [], []⟩,
  ⟨("_law_raise", none), "_law_raise", "_law_raise", defArgs (top 31), defBody (top 31), defScope (top 31), [], []⟩,
  ⟨("_law_caught", none), "_law_caught", "_law_caught", defArgs (top 32), defBody (top 32), defScope (top 32), [], []⟩,
  ⟨("law", none), "law", "law", defArgs (top 33), defBody (top 33), defScope (top 33), [], []⟩,
  ⟨("BadNumber", some "__init__"), "__init__", "BadNumber.__init__", defArgs (inClass (top 2) 0), defBody (inClass (top 2) 0), defScope (inClass (top 2) 0), [], []⟩,
  ⟨("BadPoint", some "__init__"), "__init__", "BadPoint.__init__", defArgs (inClass (top 3) 0), defBody (inClass (top 3) 0), defScope (inClass (top 3) 0), [], []⟩,
  ⟨("TooMany", some "__init__"), "__init__", "TooMany.__init__", defArgs (inClass (top 5) 0), defBody (inClass (top 5) 0), defScope (inClass (top 5) 0), [], []⟩,
  ⟨("TooFar", some "__init__"), "__init__", "TooFar.__init__", defArgs (inClass (top 6) 0), defBody (inClass (top 6) 0), defScope (inClass (top 6) 0), [], []⟩,
  ⟨("NoSuch", some "__init__"), "__init__", "NoSuch.__init__", defArgs (inClass (top 7) 0), defBody (inClass (top 7) 0), defScope (inClass (top 7) 0), [], []⟩,
  ⟨("Apart", some "__init__"), "__init__", "Apart.__init__", defArgs (inClass (top 9) 0), defBody (inClass (top 9) 0), defScope (inClass (top 9) 0), [], []⟩,
  ⟨("NotPositive", some "__init__"), "__init__", "NotPositive.__init__", defArgs (inClass (top 10) 0), defBody (inClass (top 10) 0), defScope (inClass (top 10) 0), [], []⟩,
  ⟨("NoLetter", some "__init__"), "__init__", "NoLetter.__init__", defArgs (inClass (top 13) 0), defBody (inClass (top 13) 0), defScope (inClass (top 13) 0), [], []⟩,
  ⟨("Clash", some "__init__"), "__init__", "Clash.__init__", defArgs (inClass (top 14) 0), defBody (inClass (top 14) 0), defScope (inClass (top 14) 0), [], []⟩,
  ⟨("BadLetter", some "__init__"), "__init__", "BadLetter.__init__", defArgs (inClass (top 15) 0), defBody (inClass (top 15) 0), defScope (inClass (top 15) 0), [], []⟩,
  ⟨("Overlap", some "__init__"), "__init__", "Overlap.__init__", defArgs (inClass (top 16) 0), defBody (inClass (top 16) 0), defScope (inClass (top 16) 0), [], []⟩,
  ⟨("BadText", some "__init__"), "__init__", "BadText.__init__", defArgs (inClass (top 18) 0), defBody (inClass (top 18) 0), defScope (inClass (top 18) 0), [], []⟩,
  ⟨("NoFloor", some "__init__"), "__init__", "NoFloor.__init__", defArgs (inClass (top 19) 0), defBody (inClass (top 19) 0), defScope (inClass (top 19) 0), [], []⟩,
  ⟨("BadName", some "__init__"), "__init__", "BadName.__init__", defArgs (inClass (top 20) 0), defBody (inClass (top 20) 0), defScope (inClass (top 20) 0), [], []⟩,
  ⟨("Taken", some "__init__"), "__init__", "Taken.__init__", defArgs (inClass (top 21) 0), defBody (inClass (top 21) 0), defScope (inClass (top 21) 0), [], []⟩,
  ⟨("NoPromise", some "__init__"), "__init__", "NoPromise.__init__", defArgs (inClass (top 22) 0), defBody (inClass (top 22) 0), defScope (inClass (top 22) 0), [], []⟩,
  ⟨("Barred", some "__init__"), "__init__", "Barred.__init__", defArgs (inClass (top 23) 0), defBody (inClass (top 23) 0), defScope (inClass (top 23) 0), [], []⟩]
def fa : List Fa := [
  .free "isinstance",
  .free "int",
  .free "bool",
  .free "len",
  .free "range",
  .free "list",
  .free "min",
  .free "sum",
  .free "all",
  .free "ValueError",
  .glo "_law_pen",
  .glo "_law_draw",
  .glo "_law_pick",
  .glo "_law_alone",
  .glo "_law_more",
  .glo "_law_raise",
  .glo "_law_caught",
  .glo "law",
  .glo "FloorError",
  .glo "BadNumber",
  .glo "BadPoint",
  .glo "Flat",
  .glo "TooMany",
  .glo "TooFar",
  .glo "NoSuch",
  .glo "NotWithin",
  .glo "Apart",
  .glo "NotPositive",
  .glo "NotPlain",
  .glo "NoMarks",
  .glo "NoLetter",
  .glo "Clash",
  .glo "BadLetter",
  .glo "Overlap",
  .glo "NoWidth",
  .glo "BadText",
  .glo "NoFloor",
  .glo "BadName",
  .glo "Taken",
  .glo "NoPromise",
  .glo "Barred",
  .glo "NothingToUndo",
  .meth "BadNumber" "__init__",
  .noat "BadNumber" "value",
  .meth "BadPoint" "__init__",
  .noat "BadPoint" "value",
  .exc "Flat",
  .meth "TooMany" "__init__",
  .noat "TooMany" "most",
  .meth "TooFar" "__init__",
  .noat "TooFar" "number",
  .meth "NoSuch" "__init__",
  .noat "NoSuch" "number",
  .exc "NotWithin",
  .meth "Apart" "__init__",
  .noat "Apart" "bar",
  .meth "NotPositive" "__init__",
  .noat "NotPositive" "a",
  .noat "NotPositive" "b",
  .noat "NotPositive" "c",
  .exc "NotPlain",
  .exc "NoMarks",
  .meth "NoLetter" "__init__",
  .noat "NoLetter" "letter",
  .meth "Clash" "__init__",
  .noat "Clash" "letter",
  .noat "Clash" "other",
  .meth "BadLetter" "__init__",
  .noat "BadLetter" "value",
  .meth "Overlap" "__init__",
  .noat "Overlap" "first",
  .noat "Overlap" "second",
  .exc "NoWidth",
  .meth "BadText" "__init__",
  .noat "BadText" "index",
  .meth "NoFloor" "__init__",
  .noat "NoFloor" "name",
  .meth "BadName" "__init__",
  .noat "BadName" "value",
  .meth "Taken" "__init__",
  .noat "Taken" "name",
  .meth "NoPromise" "__init__",
  .noat "NoPromise" "name",
  .meth "Barred" "__init__",
  .noat "Barred" "words",
  .exc "NothingToUndo",
  .exm "Flat" "FloorError" true,
  .exm "TooMany" "FloorError" true,
  .exm "Apart" "FloorError" true,
  .exm "Overlap" "FloorError" true,
  .exm "NothingToUndo" "FloorError" true]
def exs (K : PySem.W.Frag) : List Bool := [
  oexB K (ga K "BadNumber"),
  xfB K (ga K "BadNumber"),
  oexB K (ga K "BadPoint"),
  xfB K (ga K "BadPoint"),
  oexB K (ga K "Flat"),
  oexB K (ga K "TooMany"),
  xfB K (ga K "TooMany"),
  oexB K (ga K "TooFar"),
  xfB K (ga K "TooFar"),
  oexB K (ga K "NoSuch"),
  xfB K (ga K "NoSuch"),
  oexB K (ga K "NotWithin"),
  oexB K (ga K "Apart"),
  xfB K (ga K "Apart"),
  oexB K (ga K "NotPositive"),
  xfB K (ga K "NotPositive"),
  oexB K (ga K "NotPlain"),
  oexB K (ga K "NoMarks"),
  oexB K (ga K "NoLetter"),
  xfB K (ga K "NoLetter"),
  oexB K (ga K "Clash"),
  xfB K (ga K "Clash"),
  oexB K (ga K "BadLetter"),
  xfB K (ga K "BadLetter"),
  oexB K (ga K "Overlap"),
  xfB K (ga K "Overlap"),
  oexB K (ga K "NoWidth"),
  oexB K (ga K "BadText"),
  xfB K (ga K "BadText"),
  oexB K (ga K "NoFloor"),
  xfB K (ga K "NoFloor"),
  oexB K (ga K "BadName"),
  xfB K (ga K "BadName"),
  oexB K (ga K "Taken"),
  xfB K (ga K "Taken"),
  oexB K (ga K "NoPromise"),
  xfB K (ga K "NoPromise"),
  oexB K (ga K "Barred"),
  xfB K (ga K "Barred"),
  oexB K (ga K "NothingToUndo"),
  excCB K (ga K "Flat"),
  decide (PySem.W.kitOne K (.ref (ga K "Flat")) (.ref (ga K "FloorError")) = some true),
  decide (PySem.W.kitOne K (.ref (ga K "Flat")) (.type "ValueError") = some true),
  decide (PySem.W.kitAny K (.ref (ga K "Flat")) ([(ga K "Flat"), (ga K "NotPlain"), (ga K "NoWidth"), (ga K "BadNumber")].map Value.ref) = some true),
  excCB K (ga K "NotWithin"),
  decide (PySem.W.kitOne K (.ref (ga K "NotWithin")) (.ref (ga K "FloorError")) = some true),
  decide (PySem.W.kitOne K (.ref (ga K "NotWithin")) (.type "ValueError") = some true),
  decide (PySem.W.kitAny K (.ref (ga K "NotWithin")) ([(ga K "Flat"), (ga K "NotPlain"), (ga K "NoWidth"), (ga K "BadNumber")].map Value.ref) = some false),
  excCB K (ga K "NotPlain"),
  decide (PySem.W.kitOne K (.ref (ga K "NotPlain")) (.ref (ga K "FloorError")) = some true),
  decide (PySem.W.kitOne K (.ref (ga K "NotPlain")) (.type "ValueError") = some true),
  decide (PySem.W.kitAny K (.ref (ga K "NotPlain")) ([(ga K "Flat"), (ga K "NotPlain"), (ga K "NoWidth"), (ga K "BadNumber")].map Value.ref) = some true),
  excCB K (ga K "NoMarks"),
  decide (PySem.W.kitOne K (.ref (ga K "NoMarks")) (.ref (ga K "FloorError")) = some true),
  decide (PySem.W.kitOne K (.ref (ga K "NoMarks")) (.type "ValueError") = some true),
  decide (PySem.W.kitAny K (.ref (ga K "NoMarks")) ([(ga K "Flat"), (ga K "NotPlain"), (ga K "NoWidth"), (ga K "BadNumber")].map Value.ref) = some false),
  excCB K (ga K "NoWidth"),
  decide (PySem.W.kitOne K (.ref (ga K "NoWidth")) (.ref (ga K "FloorError")) = some true),
  decide (PySem.W.kitOne K (.ref (ga K "NoWidth")) (.type "ValueError") = some true),
  decide (PySem.W.kitAny K (.ref (ga K "NoWidth")) ([(ga K "Flat"), (ga K "NotPlain"), (ga K "NoWidth"), (ga K "BadNumber")].map Value.ref) = some true),
  excCB K (ga K "NothingToUndo"),
  decide (PySem.W.kitOne K (.ref (ga K "NothingToUndo")) (.ref (ga K "FloorError")) = some true),
  decide (PySem.W.kitOne K (.ref (ga K "NothingToUndo")) (.type "ValueError") = some true),
  decide (PySem.W.kitAny K (.ref (ga K "NothingToUndo")) ([(ga K "Flat"), (ga K "NotPlain"), (ga K "NoWidth"), (ga K "BadNumber")].map Value.ref) = some false),
  excCB K (ga K "BadNumber"),
  decide (PySem.W.kitOne K (.ref (ga K "BadNumber")) (.ref (ga K "FloorError")) = some true),
  decide (PySem.W.kitOne K (.ref (ga K "BadNumber")) (.type "ValueError") = some true),
  decide (PySem.W.kitAny K (.ref (ga K "BadNumber")) ([(ga K "Flat"), (ga K "NotPlain"), (ga K "NoWidth"), (ga K "BadNumber")].map Value.ref) = some true),
  excCB K (ga K "Clash"),
  decide (PySem.W.kitOne K (.ref (ga K "Clash")) (.ref (ga K "FloorError")) = some true),
  decide (PySem.W.kitOne K (.ref (ga K "Clash")) (.type "ValueError") = some true),
  decide (PySem.W.kitAny K (.ref (ga K "Clash")) ([(ga K "Flat"), (ga K "NotPlain"), (ga K "NoWidth"), (ga K "BadNumber")].map Value.ref) = some false)]
def ex (K : PySem.W.Frag) : Bool := (exs K).all id
abbrev hk : PySem.W.Hook := hookX 4 fa fn [] [] ex
def ob (s : PySem.W.SharedT) : AlX := obsX 4 fa fn [] [] ex (HandSHeadRun.getT s)
theorem ob_eq (s : PySem.W.SharedT) : ob s = hk.obs s.abs := obsX_eq (HandSHeadRun.getT_eq s)
def loose : List PySem.Str := [("FloorError" : PySem.Str), ("BadNumber" : PySem.Str), ("BadPoint" : PySem.Str), ("Flat" : PySem.Str), ("TooMany" : PySem.Str), ("TooFar" : PySem.Str), ("NoSuch" : PySem.Str), ("NotWithin" : PySem.Str), ("Apart" : PySem.Str), ("NotPositive" : PySem.Str), ("NotPlain" : PySem.Str), ("NoMarks" : PySem.Str), ("NoLetter" : PySem.Str), ("Clash" : PySem.Str), ("BadLetter" : PySem.Str), ("Overlap" : PySem.Str), ("NoWidth" : PySem.Str), ("BadText" : PySem.Str), ("NoFloor" : PySem.Str), ("BadName" : PySem.Str), ("Taken" : PySem.Str), ("NoPromise" : PySem.Str), ("Barred" : PySem.Str), ("NothingToUndo" : PySem.Str), ("_law_pen" : PySem.Str), ("_law_draw" : PySem.Str), ("_law_pick" : PySem.Str), ("_law_alone" : PySem.Str), ("_law_more" : PySem.Str), ("_law_raise" : PySem.Str)] ++ ([("_law_caught" : PySem.Str)] : List PySem.Str)
theorem run (w : PySem.World) : HandSHeadRun.RunEq R (PySem.W.view R.prog [33]) hk ob 6000 loose w := by
  intro os
  kernel_rfl
theorem ex_at {K : PySem.W.Frag} (h : ex K = true) (i : Nat) {b : Bool} (e : (exs K)[i]? = some b) : b = true := List.all_eq_true.mp h b (List.mem_of_getElem? e)
end
section
open PySem PySem.Spec PyProof.Rows L2 He
theorem kb_of {K : PySem.W.Frag} {x qual : Str} {params : Arguments} {body : List Stmt} {scope : Scope} {f : Addr} {fd : FuncData} {ps ks : List Str} {n : Nat} (F : FunD K x qual params body scope [] [] f fd)
    (h : ∀ (kV doc pm : Value) (an : Option Addr) (cdv ct : Value) (us ws : List Value), us.length = n → ws.length = ks.length → bindArgs (PySem.W.fnOf x qual params body scope .none kV doc pm an cdv ct) ⟨us, ks.zip ws⟩ = pure (ps.zip (us ++ ws))) : KBn K fd ps n ks (fun us ws => us ++ ws) (fun vs zs => vs ++ zs) := by
  obtain ⟨oc, od, dV, kV, doc, pm, an, cdv, ct, osl, rfl, lk, hcd, hD, hK⟩ := F.ex
  rcases hD with ⟨_, rfl⟩ | ⟨e, _⟩
  · exact ⟨fun s us ws _ l1 l2 => .of_eq (h kV doc pm an cdv ct us ws l1 l2), fun r1 r2 => r1.append r2⟩
  · exact absurd rfl e
theorem law_at {w : World} {K : PySem.W.Frag} {mg : Str → Option Value} {h : Heap} {fl : Addr} (X : K.In h) (G : h.Ns mainGlobals mg) (hfa : mg ("law" : Str) = some (.ref fl)) (c : SaysX fa fn [] [] ex w h K) : LamX.LawAtS PySem.Challenge.rw_overfloors_k00_errors_made_by_hand w K (L2.CX (PySem.Challenge.rw_overfloors_k00_errors_made_by_hand).prog w) 5 63 "script" mg fl h := by
  have d : SaysD fa fn K := c.t.d
  have hx : fl = ga K "law" := Value.ref.inj (Option.some.inj (hfa.symm.trans (glo_ok X G (d.fact 17 (f := .glo "law") rfl))))
  subst hx
  have TB : TBl mg := ⟨(free_ok X G (d.fact 0 (f := .free "isinstance") rfl)), (free_ok X G (d.fact 1 (f := .free "int") rfl)), (free_ok X G (d.fact 2 (f := .free "bool") rfl)), (free_ok X G (d.fact 3 (f := .free "len") rfl)), (free_ok X G (d.fact 4 (f := .free "range") rfl)), (free_ok X G (d.fact 5 (f := .free "list") rfl)), (free_ok X G (d.fact 6 (f := .free "min") rfl)), (free_ok X G (d.fact 7 (f := .free "sum") rfl)), (free_ok X G (d.fact 8 (f := .free "all") rfl)), (free_ok X G (d.fact 9 (f := .free "ValueError") rfl))⟩
  have g_BadNumber : mg "BadNumber" = some (.ref (ga K "BadNumber")) := (glo_ok X G (d.fact 19 (f := .glo "BadNumber") rfl))
  have o_BadNumber : OexC K (ga K "BadNumber") := oexB_ok (ex_at c.more 0 rfl)
  have x_BadNumber : XfC K (ga K "BadNumber") := xfB_ok (ex_at c.more 1 rfl)
  have n_BadNumber_value : PySem.W.findIn K (.ref (ga K "BadNumber")) "value" = some none := noat_ok (d.fact 43 (f := .noat "BadNumber" "value") rfl)
  have g_BadPoint : mg "BadPoint" = some (.ref (ga K "BadPoint")) := (glo_ok X G (d.fact 20 (f := .glo "BadPoint") rfl))
  have o_BadPoint : OexC K (ga K "BadPoint") := oexB_ok (ex_at c.more 2 rfl)
  have x_BadPoint : XfC K (ga K "BadPoint") := xfB_ok (ex_at c.more 3 rfl)
  have n_BadPoint_value : PySem.W.findIn K (.ref (ga K "BadPoint")) "value" = some none := noat_ok (d.fact 45 (f := .noat "BadPoint" "value") rfl)
  have g_Flat : mg "Flat" = some (.ref (ga K "Flat")) := (glo_ok X G (d.fact 21 (f := .glo "Flat") rfl))
  have o_Flat : OexC K (ga K "Flat") := oexB_ok (ex_at c.more 4 rfl)
  have z_Flat : Cx0 K mg "Flat" (ga K "Flat") := ⟨(exc_ok (d.fact 46 (f := .exc "Flat") rfl)).1, g_Flat, (exc_ok (d.fact 46 (f := .exc "Flat") rfl)).2.1⟩
  have g_TooMany : mg "TooMany" = some (.ref (ga K "TooMany")) := (glo_ok X G (d.fact 22 (f := .glo "TooMany") rfl))
  have o_TooMany : OexC K (ga K "TooMany") := oexB_ok (ex_at c.more 5 rfl)
  have x_TooMany : XfC K (ga K "TooMany") := xfB_ok (ex_at c.more 6 rfl)
  have n_TooMany_most : PySem.W.findIn K (.ref (ga K "TooMany")) "most" = some none := noat_ok (d.fact 48 (f := .noat "TooMany" "most") rfl)
  have g_TooFar : mg "TooFar" = some (.ref (ga K "TooFar")) := (glo_ok X G (d.fact 23 (f := .glo "TooFar") rfl))
  have o_TooFar : OexC K (ga K "TooFar") := oexB_ok (ex_at c.more 7 rfl)
  have x_TooFar : XfC K (ga K "TooFar") := xfB_ok (ex_at c.more 8 rfl)
  have n_TooFar_number : PySem.W.findIn K (.ref (ga K "TooFar")) "number" = some none := noat_ok (d.fact 50 (f := .noat "TooFar" "number") rfl)
  have g_NoSuch : mg "NoSuch" = some (.ref (ga K "NoSuch")) := (glo_ok X G (d.fact 24 (f := .glo "NoSuch") rfl))
  have o_NoSuch : OexC K (ga K "NoSuch") := oexB_ok (ex_at c.more 9 rfl)
  have x_NoSuch : XfC K (ga K "NoSuch") := xfB_ok (ex_at c.more 10 rfl)
  have n_NoSuch_number : PySem.W.findIn K (.ref (ga K "NoSuch")) "number" = some none := noat_ok (d.fact 52 (f := .noat "NoSuch" "number") rfl)
  have g_NotWithin : mg "NotWithin" = some (.ref (ga K "NotWithin")) := (glo_ok X G (d.fact 25 (f := .glo "NotWithin") rfl))
  have o_NotWithin : OexC K (ga K "NotWithin") := oexB_ok (ex_at c.more 11 rfl)
  have z_NotWithin : Cx0 K mg "NotWithin" (ga K "NotWithin") := ⟨(exc_ok (d.fact 53 (f := .exc "NotWithin") rfl)).1, g_NotWithin, (exc_ok (d.fact 53 (f := .exc "NotWithin") rfl)).2.1⟩
  have g_Apart : mg "Apart" = some (.ref (ga K "Apart")) := (glo_ok X G (d.fact 26 (f := .glo "Apart") rfl))
  have o_Apart : OexC K (ga K "Apart") := oexB_ok (ex_at c.more 12 rfl)
  have x_Apart : XfC K (ga K "Apart") := xfB_ok (ex_at c.more 13 rfl)
  have n_Apart_bar : PySem.W.findIn K (.ref (ga K "Apart")) "bar" = some none := noat_ok (d.fact 55 (f := .noat "Apart" "bar") rfl)
  have g_NotPositive : mg "NotPositive" = some (.ref (ga K "NotPositive")) := (glo_ok X G (d.fact 27 (f := .glo "NotPositive") rfl))
  have o_NotPositive : OexC K (ga K "NotPositive") := oexB_ok (ex_at c.more 14 rfl)
  have x_NotPositive : XfC K (ga K "NotPositive") := xfB_ok (ex_at c.more 15 rfl)
  have n_NotPositive_a : PySem.W.findIn K (.ref (ga K "NotPositive")) "a" = some none := noat_ok (d.fact 57 (f := .noat "NotPositive" "a") rfl)
  have n_NotPositive_b : PySem.W.findIn K (.ref (ga K "NotPositive")) "b" = some none := noat_ok (d.fact 58 (f := .noat "NotPositive" "b") rfl)
  have n_NotPositive_c : PySem.W.findIn K (.ref (ga K "NotPositive")) "c" = some none := noat_ok (d.fact 59 (f := .noat "NotPositive" "c") rfl)
  have g_NotPlain : mg "NotPlain" = some (.ref (ga K "NotPlain")) := (glo_ok X G (d.fact 28 (f := .glo "NotPlain") rfl))
  have o_NotPlain : OexC K (ga K "NotPlain") := oexB_ok (ex_at c.more 16 rfl)
  have z_NotPlain : Cx0 K mg "NotPlain" (ga K "NotPlain") := ⟨(exc_ok (d.fact 60 (f := .exc "NotPlain") rfl)).1, g_NotPlain, (exc_ok (d.fact 60 (f := .exc "NotPlain") rfl)).2.1⟩
  have g_NoMarks : mg "NoMarks" = some (.ref (ga K "NoMarks")) := (glo_ok X G (d.fact 29 (f := .glo "NoMarks") rfl))
  have o_NoMarks : OexC K (ga K "NoMarks") := oexB_ok (ex_at c.more 17 rfl)
  have z_NoMarks : Cx0 K mg "NoMarks" (ga K "NoMarks") := ⟨(exc_ok (d.fact 61 (f := .exc "NoMarks") rfl)).1, g_NoMarks, (exc_ok (d.fact 61 (f := .exc "NoMarks") rfl)).2.1⟩
  have g_NoLetter : mg "NoLetter" = some (.ref (ga K "NoLetter")) := (glo_ok X G (d.fact 30 (f := .glo "NoLetter") rfl))
  have o_NoLetter : OexC K (ga K "NoLetter") := oexB_ok (ex_at c.more 18 rfl)
  have x_NoLetter : XfC K (ga K "NoLetter") := xfB_ok (ex_at c.more 19 rfl)
  have n_NoLetter_letter : PySem.W.findIn K (.ref (ga K "NoLetter")) "letter" = some none := noat_ok (d.fact 63 (f := .noat "NoLetter" "letter") rfl)
  have g_Clash : mg "Clash" = some (.ref (ga K "Clash")) := (glo_ok X G (d.fact 31 (f := .glo "Clash") rfl))
  have o_Clash : OexC K (ga K "Clash") := oexB_ok (ex_at c.more 20 rfl)
  have x_Clash : XfC K (ga K "Clash") := xfB_ok (ex_at c.more 21 rfl)
  have n_Clash_letter : PySem.W.findIn K (.ref (ga K "Clash")) "letter" = some none := noat_ok (d.fact 65 (f := .noat "Clash" "letter") rfl)
  have n_Clash_other : PySem.W.findIn K (.ref (ga K "Clash")) "other" = some none := noat_ok (d.fact 66 (f := .noat "Clash" "other") rfl)
  have g_BadLetter : mg "BadLetter" = some (.ref (ga K "BadLetter")) := (glo_ok X G (d.fact 32 (f := .glo "BadLetter") rfl))
  have o_BadLetter : OexC K (ga K "BadLetter") := oexB_ok (ex_at c.more 22 rfl)
  have x_BadLetter : XfC K (ga K "BadLetter") := xfB_ok (ex_at c.more 23 rfl)
  have n_BadLetter_value : PySem.W.findIn K (.ref (ga K "BadLetter")) "value" = some none := noat_ok (d.fact 68 (f := .noat "BadLetter" "value") rfl)
  have g_Overlap : mg "Overlap" = some (.ref (ga K "Overlap")) := (glo_ok X G (d.fact 33 (f := .glo "Overlap") rfl))
  have o_Overlap : OexC K (ga K "Overlap") := oexB_ok (ex_at c.more 24 rfl)
  have x_Overlap : XfC K (ga K "Overlap") := xfB_ok (ex_at c.more 25 rfl)
  have n_Overlap_first : PySem.W.findIn K (.ref (ga K "Overlap")) "first" = some none := noat_ok (d.fact 70 (f := .noat "Overlap" "first") rfl)
  have n_Overlap_second : PySem.W.findIn K (.ref (ga K "Overlap")) "second" = some none := noat_ok (d.fact 71 (f := .noat "Overlap" "second") rfl)
  have g_NoWidth : mg "NoWidth" = some (.ref (ga K "NoWidth")) := (glo_ok X G (d.fact 34 (f := .glo "NoWidth") rfl))
  have o_NoWidth : OexC K (ga K "NoWidth") := oexB_ok (ex_at c.more 26 rfl)
  have z_NoWidth : Cx0 K mg "NoWidth" (ga K "NoWidth") := ⟨(exc_ok (d.fact 72 (f := .exc "NoWidth") rfl)).1, g_NoWidth, (exc_ok (d.fact 72 (f := .exc "NoWidth") rfl)).2.1⟩
  have g_BadText : mg "BadText" = some (.ref (ga K "BadText")) := (glo_ok X G (d.fact 35 (f := .glo "BadText") rfl))
  have o_BadText : OexC K (ga K "BadText") := oexB_ok (ex_at c.more 27 rfl)
  have x_BadText : XfC K (ga K "BadText") := xfB_ok (ex_at c.more 28 rfl)
  have n_BadText_index : PySem.W.findIn K (.ref (ga K "BadText")) "index" = some none := noat_ok (d.fact 74 (f := .noat "BadText" "index") rfl)
  have g_NoFloor : mg "NoFloor" = some (.ref (ga K "NoFloor")) := (glo_ok X G (d.fact 36 (f := .glo "NoFloor") rfl))
  have o_NoFloor : OexC K (ga K "NoFloor") := oexB_ok (ex_at c.more 29 rfl)
  have x_NoFloor : XfC K (ga K "NoFloor") := xfB_ok (ex_at c.more 30 rfl)
  have n_NoFloor_name : PySem.W.findIn K (.ref (ga K "NoFloor")) "name" = some none := noat_ok (d.fact 76 (f := .noat "NoFloor" "name") rfl)
  have g_BadName : mg "BadName" = some (.ref (ga K "BadName")) := (glo_ok X G (d.fact 37 (f := .glo "BadName") rfl))
  have o_BadName : OexC K (ga K "BadName") := oexB_ok (ex_at c.more 31 rfl)
  have x_BadName : XfC K (ga K "BadName") := xfB_ok (ex_at c.more 32 rfl)
  have n_BadName_value : PySem.W.findIn K (.ref (ga K "BadName")) "value" = some none := noat_ok (d.fact 78 (f := .noat "BadName" "value") rfl)
  have g_Taken : mg "Taken" = some (.ref (ga K "Taken")) := (glo_ok X G (d.fact 38 (f := .glo "Taken") rfl))
  have o_Taken : OexC K (ga K "Taken") := oexB_ok (ex_at c.more 33 rfl)
  have x_Taken : XfC K (ga K "Taken") := xfB_ok (ex_at c.more 34 rfl)
  have n_Taken_name : PySem.W.findIn K (.ref (ga K "Taken")) "name" = some none := noat_ok (d.fact 80 (f := .noat "Taken" "name") rfl)
  have g_NoPromise : mg "NoPromise" = some (.ref (ga K "NoPromise")) := (glo_ok X G (d.fact 39 (f := .glo "NoPromise") rfl))
  have o_NoPromise : OexC K (ga K "NoPromise") := oexB_ok (ex_at c.more 35 rfl)
  have x_NoPromise : XfC K (ga K "NoPromise") := xfB_ok (ex_at c.more 36 rfl)
  have n_NoPromise_name : PySem.W.findIn K (.ref (ga K "NoPromise")) "name" = some none := noat_ok (d.fact 82 (f := .noat "NoPromise" "name") rfl)
  have g_Barred : mg "Barred" = some (.ref (ga K "Barred")) := (glo_ok X G (d.fact 40 (f := .glo "Barred") rfl))
  have o_Barred : OexC K (ga K "Barred") := oexB_ok (ex_at c.more 37 rfl)
  have x_Barred : XfC K (ga K "Barred") := xfB_ok (ex_at c.more 38 rfl)
  have n_Barred_words : PySem.W.findIn K (.ref (ga K "Barred")) "words" = some none := noat_ok (d.fact 84 (f := .noat "Barred" "words") rfl)
  have g_NothingToUndo : mg "NothingToUndo" = some (.ref (ga K "NothingToUndo")) := (glo_ok X G (d.fact 41 (f := .glo "NothingToUndo") rfl))
  have o_NothingToUndo : OexC K (ga K "NothingToUndo") := oexB_ok (ex_at c.more 39 rfl)
  have z_NothingToUndo : Cx0 K mg "NothingToUndo" (ga K "NothingToUndo") := ⟨(exc_ok (d.fact 85 (f := .exc "NothingToUndo") rfl)).1, g_NothingToUndo, (exc_ok (d.fact 85 (f := .exc "NothingToUndo") rfl)).2.1⟩
  have g_FloorError : mg "FloorError" = some (.ref (ga K "FloorError")) := (glo_ok X G (d.fact 18 (f := .glo "FloorError") rfl))
  have GX : ∀ C b, (C, b) ∈ [((ga K "Flat"), true), ((ga K "NotWithin"), false), ((ga K "NotPlain"), true), ((ga K "NoMarks"), false), ((ga K "NoWidth"), true), ((ga K "NothingToUndo"), false), ((ga K "BadNumber"), true), ((ga K "Clash"), false)] → ExcC K C ∧ PySem.W.kitOne K (.ref C) (.ref (ga K "FloorError")) = some true ∧ PySem.W.kitOne K (.ref C) (.type "ValueError") = some true ∧ PySem.W.kitAny K (.ref C) ([(ga K "Flat"), (ga K "NotPlain"), (ga K "NoWidth"), (ga K "BadNumber")].map Value.ref) = some b := by
    intro C b hm
    simp only [List.mem_cons, Prod.mk.injEq, List.mem_nil_iff, or_false, List.not_mem_nil] at hm
    rcases hm with ⟨rfl, rfl⟩ | ⟨rfl, rfl⟩ | ⟨rfl, rfl⟩ | ⟨rfl, rfl⟩ | ⟨rfl, rfl⟩ | ⟨rfl, rfl⟩ | ⟨rfl, rfl⟩ | ⟨rfl, rfl⟩
    · exact ⟨excCB_ok (ex_at c.more 40 rfl), of_decide_eq_true (ex_at c.more 41 rfl), of_decide_eq_true (ex_at c.more 42 rfl), of_decide_eq_true (ex_at c.more 43 rfl)⟩
    · exact ⟨excCB_ok (ex_at c.more 44 rfl), of_decide_eq_true (ex_at c.more 45 rfl), of_decide_eq_true (ex_at c.more 46 rfl), of_decide_eq_true (ex_at c.more 47 rfl)⟩
    · exact ⟨excCB_ok (ex_at c.more 48 rfl), of_decide_eq_true (ex_at c.more 49 rfl), of_decide_eq_true (ex_at c.more 50 rfl), of_decide_eq_true (ex_at c.more 51 rfl)⟩
    · exact ⟨excCB_ok (ex_at c.more 52 rfl), of_decide_eq_true (ex_at c.more 53 rfl), of_decide_eq_true (ex_at c.more 54 rfl), of_decide_eq_true (ex_at c.more 55 rfl)⟩
    · exact ⟨excCB_ok (ex_at c.more 56 rfl), of_decide_eq_true (ex_at c.more 57 rfl), of_decide_eq_true (ex_at c.more 58 rfl), of_decide_eq_true (ex_at c.more 59 rfl)⟩
    · exact ⟨excCB_ok (ex_at c.more 60 rfl), of_decide_eq_true (ex_at c.more 61 rfl), of_decide_eq_true (ex_at c.more 62 rfl), of_decide_eq_true (ex_at c.more 63 rfl)⟩
    · exact ⟨excCB_ok (ex_at c.more 64 rfl), of_decide_eq_true (ex_at c.more 65 rfl), of_decide_eq_true (ex_at c.more 66 rfl), of_decide_eq_true (ex_at c.more 67 rfl)⟩
    · exact ⟨excCB_ok (ex_at c.more 68 rfl), of_decide_eq_true (ex_at c.more 69 rfl), of_decide_eq_true (ex_at c.more 70 rfl), of_decide_eq_true (ex_at c.more 71 rfl)⟩
  have exF : ∀ C ∈ [(ga K "Flat"), (ga K "TooMany"), (ga K "Apart"), (ga K "Overlap"), (ga K "NothingToUndo")], PySem.W.exmOne K (.ref C) (.ref (ga K "FloorError")) = some true := by
    intro C hm
    simp only [List.mem_cons, List.mem_nil_iff, or_false, List.not_mem_nil] at hm
    rcases hm with rfl | rfl | rfl | rfl | rfl
    · exact exm_ok (d.fact 86 (f := .exm "Flat" "FloorError" true) rfl)
    · exact exm_ok (d.fact 87 (f := .exm "TooMany" "FloorError" true) rfl)
    · exact exm_ok (d.fact 88 (f := .exm "Apart" "FloorError" true) rfl)
    · exact exm_ok (d.fact 89 (f := .exm "Overlap" "FloorError" true) rfl)
    · exact exm_ok (d.fact 90 (f := .exm "NothingToUndo" "FloorError" true) rfl)
  obtain ⟨fd_BadNumber_init, F_BadNumber_init⟩ := d.def_ 8 (d := ⟨("BadNumber", some "__init__"), "__init__", "BadNumber.__init__", defArgs (inClass (top 2) 0), defBody (inClass (top 2) 0), defScope (inClass (top 2) 0), [], []⟩) rfl
  obtain ⟨fd_BadPoint_init, F_BadPoint_init⟩ := d.def_ 9 (d := ⟨("BadPoint", some "__init__"), "__init__", "BadPoint.__init__", defArgs (inClass (top 3) 0), defBody (inClass (top 3) 0), defScope (inClass (top 3) 0), [], []⟩) rfl
  obtain ⟨fd_TooMany_init, F_TooMany_init⟩ := d.def_ 10 (d := ⟨("TooMany", some "__init__"), "__init__", "TooMany.__init__", defArgs (inClass (top 5) 0), defBody (inClass (top 5) 0), defScope (inClass (top 5) 0), [], []⟩) rfl
  obtain ⟨fd_TooFar_init, F_TooFar_init⟩ := d.def_ 11 (d := ⟨("TooFar", some "__init__"), "__init__", "TooFar.__init__", defArgs (inClass (top 6) 0), defBody (inClass (top 6) 0), defScope (inClass (top 6) 0), [], []⟩) rfl
  obtain ⟨fd_NoSuch_init, F_NoSuch_init⟩ := d.def_ 12 (d := ⟨("NoSuch", some "__init__"), "__init__", "NoSuch.__init__", defArgs (inClass (top 7) 0), defBody (inClass (top 7) 0), defScope (inClass (top 7) 0), [], []⟩) rfl
  obtain ⟨fd_Apart_init, F_Apart_init⟩ := d.def_ 13 (d := ⟨("Apart", some "__init__"), "__init__", "Apart.__init__", defArgs (inClass (top 9) 0), defBody (inClass (top 9) 0), defScope (inClass (top 9) 0), [], []⟩) rfl
  obtain ⟨fd_NotPositive_init, F_NotPositive_init⟩ := d.def_ 14 (d := ⟨("NotPositive", some "__init__"), "__init__", "NotPositive.__init__", defArgs (inClass (top 10) 0), defBody (inClass (top 10) 0), defScope (inClass (top 10) 0), [], []⟩) rfl
  obtain ⟨fd_NoLetter_init, F_NoLetter_init⟩ := d.def_ 15 (d := ⟨("NoLetter", some "__init__"), "__init__", "NoLetter.__init__", defArgs (inClass (top 13) 0), defBody (inClass (top 13) 0), defScope (inClass (top 13) 0), [], []⟩) rfl
  obtain ⟨fd_Clash_init, F_Clash_init⟩ := d.def_ 16 (d := ⟨("Clash", some "__init__"), "__init__", "Clash.__init__", defArgs (inClass (top 14) 0), defBody (inClass (top 14) 0), defScope (inClass (top 14) 0), [], []⟩) rfl
  obtain ⟨fd_BadLetter_init, F_BadLetter_init⟩ := d.def_ 17 (d := ⟨("BadLetter", some "__init__"), "__init__", "BadLetter.__init__", defArgs (inClass (top 15) 0), defBody (inClass (top 15) 0), defScope (inClass (top 15) 0), [], []⟩) rfl
  obtain ⟨fd_Overlap_init, F_Overlap_init⟩ := d.def_ 18 (d := ⟨("Overlap", some "__init__"), "__init__", "Overlap.__init__", defArgs (inClass (top 16) 0), defBody (inClass (top 16) 0), defScope (inClass (top 16) 0), [], []⟩) rfl
  obtain ⟨fd_BadText_init, F_BadText_init⟩ := d.def_ 19 (d := ⟨("BadText", some "__init__"), "__init__", "BadText.__init__", defArgs (inClass (top 18) 0), defBody (inClass (top 18) 0), defScope (inClass (top 18) 0), [], []⟩) rfl
  obtain ⟨fd_NoFloor_init, F_NoFloor_init⟩ := d.def_ 20 (d := ⟨("NoFloor", some "__init__"), "__init__", "NoFloor.__init__", defArgs (inClass (top 19) 0), defBody (inClass (top 19) 0), defScope (inClass (top 19) 0), [], []⟩) rfl
  obtain ⟨fd_BadName_init, F_BadName_init⟩ := d.def_ 21 (d := ⟨("BadName", some "__init__"), "__init__", "BadName.__init__", defArgs (inClass (top 20) 0), defBody (inClass (top 20) 0), defScope (inClass (top 20) 0), [], []⟩) rfl
  obtain ⟨fd_Taken_init, F_Taken_init⟩ := d.def_ 22 (d := ⟨("Taken", some "__init__"), "__init__", "Taken.__init__", defArgs (inClass (top 21) 0), defBody (inClass (top 21) 0), defScope (inClass (top 21) 0), [], []⟩) rfl
  obtain ⟨fd_NoPromise_init, F_NoPromise_init⟩ := d.def_ 23 (d := ⟨("NoPromise", some "__init__"), "__init__", "NoPromise.__init__", defArgs (inClass (top 22) 0), defBody (inClass (top 22) 0), defScope (inClass (top 22) 0), [], []⟩) rfl
  obtain ⟨fd_Barred_init, F_Barred_init⟩ := d.def_ 24 (d := ⟨("Barred", some "__init__"), "__init__", "Barred.__init__", defArgs (inClass (top 23) 0), defBody (inClass (top 23) 0), defScope (inClass (top 23) 0), [], []⟩) rfl
  obtain ⟨fd__law_pen, F__law_pen⟩ := d.def_ 0 (d := ⟨("_law_pen", none), "_law_pen", "_law_pen", defArgs (top 26), defBody (top 26), defScope (top 26), [], []⟩) rfl
  obtain ⟨fd__law_draw, F__law_draw⟩ := d.def_ 1 (d := ⟨("_law_draw", none), "_law_draw", "_law_draw", defArgs (top 27), defBody (top 27), defScope (top 27), [], []⟩) rfl
  obtain ⟨fd__law_pick, F__law_pick⟩ := d.def_ 2 (d := ⟨("_law_pick", none), "_law_pick", "_law_pick", defArgs (top 28), defBody (top 28), defScope (top 28), [], []⟩) rfl
  obtain ⟨fd__law_alone, F__law_alone⟩ := d.def_ 3 (d := ⟨("_law_alone", none), "_law_alone", "_law_alone", defArgs (top 29), defBody (top 29), defScope (top 29), [], []⟩) rfl
  obtain ⟨fd__law_more, F__law_more⟩ := d.def_ 4 (d := ⟨("_law_more", none), "_law_more", "_law_more", defArgs (top 30), defBody (top 30), defScope (top 30), [], []⟩) rfl
  obtain ⟨fd__law_raise, F__law_raise⟩ := d.def_ 5 (d := ⟨("_law_raise", none), "_law_raise", "_law_raise", defArgs (top 31), defBody (top 31), defScope (top 31), [], []⟩) rfl
  obtain ⟨fd_law, F_law⟩ := d.def_ 7 (d := ⟨("law", none), "law", "law", defArgs (top 33), defBody (top 33), defScope (top 33), [], []⟩) rfl
  obtain ⟨fd__law_caught, F__law_caught⟩ := d.def_ 6 (d := ⟨("_law_caught", none), "_law_caught", "_law_caught", defArgs (top 32), defBody (top 32), defScope (top 32), [], []⟩) rfl
  refine ⟨fd_law, [], spLaw0 K, fun p hp => (nomatch hp), fun p hp => (nomatch hp), fun p hp => (nomatch hp), fun s u => ?_, fun H a ns hl _ hT hS => ⟨a, ns, rfl, hS, hl, fun _ => rfl⟩, fun base KB GB TT => ?_⟩
  · exact F_law.bindsA (ps := ["script"]) (fun _ _ _ _ _ _ us hl => match us, hl with | [_], _ => rfl) s [u] rfl
  have m_BadNumber := meth_ok (d.fact 42 (f := .meth "BadNumber" "__init__") rfl)
  have c_BadNumber : Cxv (PySem.Challenge.rw_overfloors_k00_errors_made_by_hand).prog w K mg base 1 "BadNumber" (ga K "BadNumber") ["value"] := ⟨o_BadNumber, g_BadNumber, ma K (ga K "BadNumber") "__init__", fd_BadNumber_init, m_BadNumber.at_, by have e := m_BadNumber.fn; unfold PySem.W.isFn at e; exact beq_iff_eq.mp e, ok_BadNumber_init F_BadNumber_init o_BadNumber n_BadNumber_value, by
      intro n hn
      match n, hn with
      | 0, _ => exact kb_of F_BadNumber_init fun _ _ _ _ _ _ us ws h1 h2 => match us, h1, ws, h2 with | [_], _, [_], _ => by rfl
      | 1, _ => exact kb_of F_BadNumber_init fun _ _ _ _ _ _ us ws h1 h2 => match us, h1, ws, h2 with | [_, _], _, [], _ => by rfl
      | n + 2, h => exact absurd h (by show ¬ (n + 2 ≤ 1); omega)⟩
  have m_BadPoint := meth_ok (d.fact 44 (f := .meth "BadPoint" "__init__") rfl)
  have c_BadPoint : Cxv (PySem.Challenge.rw_overfloors_k00_errors_made_by_hand).prog w K mg base 1 "BadPoint" (ga K "BadPoint") ["value"] := ⟨o_BadPoint, g_BadPoint, ma K (ga K "BadPoint") "__init__", fd_BadPoint_init, m_BadPoint.at_, by have e := m_BadPoint.fn; unfold PySem.W.isFn at e; exact beq_iff_eq.mp e, ok_BadPoint_init F_BadPoint_init o_BadPoint n_BadPoint_value, by
      intro n hn
      match n, hn with
      | 0, _ => exact kb_of F_BadPoint_init fun _ _ _ _ _ _ us ws h1 h2 => match us, h1, ws, h2 with | [_], _, [_], _ => by rfl
      | 1, _ => exact kb_of F_BadPoint_init fun _ _ _ _ _ _ us ws h1 h2 => match us, h1, ws, h2 with | [_, _], _, [], _ => by rfl
      | n + 2, h => exact absurd h (by show ¬ (n + 2 ≤ 1); omega)⟩
  have m_TooMany := meth_ok (d.fact 47 (f := .meth "TooMany" "__init__") rfl)
  have c_TooMany : Cxv (PySem.Challenge.rw_overfloors_k00_errors_made_by_hand).prog w K mg base 1 "TooMany" (ga K "TooMany") ["most"] := ⟨o_TooMany, g_TooMany, ma K (ga K "TooMany") "__init__", fd_TooMany_init, m_TooMany.at_, by have e := m_TooMany.fn; unfold PySem.W.isFn at e; exact beq_iff_eq.mp e, ok_TooMany_init F_TooMany_init o_TooMany n_TooMany_most, by
      intro n hn
      match n, hn with
      | 0, _ => exact kb_of F_TooMany_init fun _ _ _ _ _ _ us ws h1 h2 => match us, h1, ws, h2 with | [_], _, [_], _ => by rfl
      | 1, _ => exact kb_of F_TooMany_init fun _ _ _ _ _ _ us ws h1 h2 => match us, h1, ws, h2 with | [_, _], _, [], _ => by rfl
      | n + 2, h => exact absurd h (by show ¬ (n + 2 ≤ 1); omega)⟩
  have m_TooFar := meth_ok (d.fact 49 (f := .meth "TooFar" "__init__") rfl)
  have c_TooFar : Cxv (PySem.Challenge.rw_overfloors_k00_errors_made_by_hand).prog w K mg base 1 "TooFar" (ga K "TooFar") ["number"] := ⟨o_TooFar, g_TooFar, ma K (ga K "TooFar") "__init__", fd_TooFar_init, m_TooFar.at_, by have e := m_TooFar.fn; unfold PySem.W.isFn at e; exact beq_iff_eq.mp e, ok_TooFar_init F_TooFar_init o_TooFar n_TooFar_number, by
      intro n hn
      match n, hn with
      | 0, _ => exact kb_of F_TooFar_init fun _ _ _ _ _ _ us ws h1 h2 => match us, h1, ws, h2 with | [_], _, [_], _ => by rfl
      | 1, _ => exact kb_of F_TooFar_init fun _ _ _ _ _ _ us ws h1 h2 => match us, h1, ws, h2 with | [_, _], _, [], _ => by rfl
      | n + 2, h => exact absurd h (by show ¬ (n + 2 ≤ 1); omega)⟩
  have m_NoSuch := meth_ok (d.fact 51 (f := .meth "NoSuch" "__init__") rfl)
  have c_NoSuch : Cxv (PySem.Challenge.rw_overfloors_k00_errors_made_by_hand).prog w K mg base 1 "NoSuch" (ga K "NoSuch") ["number"] := ⟨o_NoSuch, g_NoSuch, ma K (ga K "NoSuch") "__init__", fd_NoSuch_init, m_NoSuch.at_, by have e := m_NoSuch.fn; unfold PySem.W.isFn at e; exact beq_iff_eq.mp e, ok_NoSuch_init F_NoSuch_init o_NoSuch n_NoSuch_number, by
      intro n hn
      match n, hn with
      | 0, _ => exact kb_of F_NoSuch_init fun _ _ _ _ _ _ us ws h1 h2 => match us, h1, ws, h2 with | [_], _, [_], _ => by rfl
      | 1, _ => exact kb_of F_NoSuch_init fun _ _ _ _ _ _ us ws h1 h2 => match us, h1, ws, h2 with | [_, _], _, [], _ => by rfl
      | n + 2, h => exact absurd h (by show ¬ (n + 2 ≤ 1); omega)⟩
  have m_Apart := meth_ok (d.fact 54 (f := .meth "Apart" "__init__") rfl)
  have c_Apart : Cxv (PySem.Challenge.rw_overfloors_k00_errors_made_by_hand).prog w K mg base 1 "Apart" (ga K "Apart") ["bar"] := ⟨o_Apart, g_Apart, ma K (ga K "Apart") "__init__", fd_Apart_init, m_Apart.at_, by have e := m_Apart.fn; unfold PySem.W.isFn at e; exact beq_iff_eq.mp e, ok_Apart_init F_Apart_init o_Apart n_Apart_bar, by
      intro n hn
      match n, hn with
      | 0, _ => exact kb_of F_Apart_init fun _ _ _ _ _ _ us ws h1 h2 => match us, h1, ws, h2 with | [_], _, [_], _ => by rfl
      | 1, _ => exact kb_of F_Apart_init fun _ _ _ _ _ _ us ws h1 h2 => match us, h1, ws, h2 with | [_, _], _, [], _ => by rfl
      | n + 2, h => exact absurd h (by show ¬ (n + 2 ≤ 1); omega)⟩
  have m_NotPositive := meth_ok (d.fact 56 (f := .meth "NotPositive" "__init__") rfl)
  have c_NotPositive : Cxv (PySem.Challenge.rw_overfloors_k00_errors_made_by_hand).prog w K mg base 1 "NotPositive" (ga K "NotPositive") ["a", "b", "c"] := ⟨o_NotPositive, g_NotPositive, ma K (ga K "NotPositive") "__init__", fd_NotPositive_init, m_NotPositive.at_, by have e := m_NotPositive.fn; unfold PySem.W.isFn at e; exact beq_iff_eq.mp e, ok_NotPositive_init F_NotPositive_init o_NotPositive n_NotPositive_a n_NotPositive_b n_NotPositive_c, by
      intro n hn
      match n, hn with
      | 0, _ => exact kb_of F_NotPositive_init fun _ _ _ _ _ _ us ws h1 h2 => match us, h1, ws, h2 with | [_], _, [_, _, _], _ => by rfl
      | 1, _ => exact kb_of F_NotPositive_init fun _ _ _ _ _ _ us ws h1 h2 => match us, h1, ws, h2 with | [_, _], _, [_, _], _ => by rfl
      | 2, _ => exact kb_of F_NotPositive_init fun _ _ _ _ _ _ us ws h1 h2 => match us, h1, ws, h2 with | [_, _, _], _, [_], _ => by rfl
      | 3, _ => exact kb_of F_NotPositive_init fun _ _ _ _ _ _ us ws h1 h2 => match us, h1, ws, h2 with | [_, _, _, _], _, [], _ => by rfl
      | n + 4, h => exact absurd h (by show ¬ (n + 4 ≤ 3); omega)⟩
  have m_NoLetter := meth_ok (d.fact 62 (f := .meth "NoLetter" "__init__") rfl)
  have c_NoLetter : Cxv (PySem.Challenge.rw_overfloors_k00_errors_made_by_hand).prog w K mg base 1 "NoLetter" (ga K "NoLetter") ["letter"] := ⟨o_NoLetter, g_NoLetter, ma K (ga K "NoLetter") "__init__", fd_NoLetter_init, m_NoLetter.at_, by have e := m_NoLetter.fn; unfold PySem.W.isFn at e; exact beq_iff_eq.mp e, ok_NoLetter_init F_NoLetter_init o_NoLetter n_NoLetter_letter, by
      intro n hn
      match n, hn with
      | 0, _ => exact kb_of F_NoLetter_init fun _ _ _ _ _ _ us ws h1 h2 => match us, h1, ws, h2 with | [_], _, [_], _ => by rfl
      | 1, _ => exact kb_of F_NoLetter_init fun _ _ _ _ _ _ us ws h1 h2 => match us, h1, ws, h2 with | [_, _], _, [], _ => by rfl
      | n + 2, h => exact absurd h (by show ¬ (n + 2 ≤ 1); omega)⟩
  have m_Clash := meth_ok (d.fact 64 (f := .meth "Clash" "__init__") rfl)
  have c_Clash : Cxv (PySem.Challenge.rw_overfloors_k00_errors_made_by_hand).prog w K mg base 1 "Clash" (ga K "Clash") ["letter", "other"] := ⟨o_Clash, g_Clash, ma K (ga K "Clash") "__init__", fd_Clash_init, m_Clash.at_, by have e := m_Clash.fn; unfold PySem.W.isFn at e; exact beq_iff_eq.mp e, ok_Clash_init F_Clash_init o_Clash n_Clash_letter n_Clash_other, by
      intro n hn
      match n, hn with
      | 0, _ => exact kb_of F_Clash_init fun _ _ _ _ _ _ us ws h1 h2 => match us, h1, ws, h2 with | [_], _, [_, _], _ => by rfl
      | 1, _ => exact kb_of F_Clash_init fun _ _ _ _ _ _ us ws h1 h2 => match us, h1, ws, h2 with | [_, _], _, [_], _ => by rfl
      | 2, _ => exact kb_of F_Clash_init fun _ _ _ _ _ _ us ws h1 h2 => match us, h1, ws, h2 with | [_, _, _], _, [], _ => by rfl
      | n + 3, h => exact absurd h (by show ¬ (n + 3 ≤ 2); omega)⟩
  have m_BadLetter := meth_ok (d.fact 67 (f := .meth "BadLetter" "__init__") rfl)
  have c_BadLetter : Cxv (PySem.Challenge.rw_overfloors_k00_errors_made_by_hand).prog w K mg base 1 "BadLetter" (ga K "BadLetter") ["value"] := ⟨o_BadLetter, g_BadLetter, ma K (ga K "BadLetter") "__init__", fd_BadLetter_init, m_BadLetter.at_, by have e := m_BadLetter.fn; unfold PySem.W.isFn at e; exact beq_iff_eq.mp e, ok_BadLetter_init F_BadLetter_init o_BadLetter n_BadLetter_value, by
      intro n hn
      match n, hn with
      | 0, _ => exact kb_of F_BadLetter_init fun _ _ _ _ _ _ us ws h1 h2 => match us, h1, ws, h2 with | [_], _, [_], _ => by rfl
      | 1, _ => exact kb_of F_BadLetter_init fun _ _ _ _ _ _ us ws h1 h2 => match us, h1, ws, h2 with | [_, _], _, [], _ => by rfl
      | n + 2, h => exact absurd h (by show ¬ (n + 2 ≤ 1); omega)⟩
  have m_Overlap := meth_ok (d.fact 69 (f := .meth "Overlap" "__init__") rfl)
  have c_Overlap : Cxv (PySem.Challenge.rw_overfloors_k00_errors_made_by_hand).prog w K mg base 1 "Overlap" (ga K "Overlap") ["first", "second"] := ⟨o_Overlap, g_Overlap, ma K (ga K "Overlap") "__init__", fd_Overlap_init, m_Overlap.at_, by have e := m_Overlap.fn; unfold PySem.W.isFn at e; exact beq_iff_eq.mp e, ok_Overlap_init F_Overlap_init o_Overlap n_Overlap_first n_Overlap_second, by
      intro n hn
      match n, hn with
      | 0, _ => exact kb_of F_Overlap_init fun _ _ _ _ _ _ us ws h1 h2 => match us, h1, ws, h2 with | [_], _, [_, _], _ => by rfl
      | 1, _ => exact kb_of F_Overlap_init fun _ _ _ _ _ _ us ws h1 h2 => match us, h1, ws, h2 with | [_, _], _, [_], _ => by rfl
      | 2, _ => exact kb_of F_Overlap_init fun _ _ _ _ _ _ us ws h1 h2 => match us, h1, ws, h2 with | [_, _, _], _, [], _ => by rfl
      | n + 3, h => exact absurd h (by show ¬ (n + 3 ≤ 2); omega)⟩
  have m_BadText := meth_ok (d.fact 73 (f := .meth "BadText" "__init__") rfl)
  have c_BadText : Cxv (PySem.Challenge.rw_overfloors_k00_errors_made_by_hand).prog w K mg base 1 "BadText" (ga K "BadText") ["index"] := ⟨o_BadText, g_BadText, ma K (ga K "BadText") "__init__", fd_BadText_init, m_BadText.at_, by have e := m_BadText.fn; unfold PySem.W.isFn at e; exact beq_iff_eq.mp e, ok_BadText_init F_BadText_init o_BadText n_BadText_index, by
      intro n hn
      match n, hn with
      | 0, _ => exact kb_of F_BadText_init fun _ _ _ _ _ _ us ws h1 h2 => match us, h1, ws, h2 with | [_], _, [_], _ => by rfl
      | 1, _ => exact kb_of F_BadText_init fun _ _ _ _ _ _ us ws h1 h2 => match us, h1, ws, h2 with | [_, _], _, [], _ => by rfl
      | n + 2, h => exact absurd h (by show ¬ (n + 2 ≤ 1); omega)⟩
  have m_NoFloor := meth_ok (d.fact 75 (f := .meth "NoFloor" "__init__") rfl)
  have c_NoFloor : Cxv (PySem.Challenge.rw_overfloors_k00_errors_made_by_hand).prog w K mg base 1 "NoFloor" (ga K "NoFloor") ["name"] := ⟨o_NoFloor, g_NoFloor, ma K (ga K "NoFloor") "__init__", fd_NoFloor_init, m_NoFloor.at_, by have e := m_NoFloor.fn; unfold PySem.W.isFn at e; exact beq_iff_eq.mp e, ok_NoFloor_init F_NoFloor_init o_NoFloor n_NoFloor_name, by
      intro n hn
      match n, hn with
      | 0, _ => exact kb_of F_NoFloor_init fun _ _ _ _ _ _ us ws h1 h2 => match us, h1, ws, h2 with | [_], _, [_], _ => by rfl
      | 1, _ => exact kb_of F_NoFloor_init fun _ _ _ _ _ _ us ws h1 h2 => match us, h1, ws, h2 with | [_, _], _, [], _ => by rfl
      | n + 2, h => exact absurd h (by show ¬ (n + 2 ≤ 1); omega)⟩
  have m_BadName := meth_ok (d.fact 77 (f := .meth "BadName" "__init__") rfl)
  have c_BadName : Cxv (PySem.Challenge.rw_overfloors_k00_errors_made_by_hand).prog w K mg base 1 "BadName" (ga K "BadName") ["value"] := ⟨o_BadName, g_BadName, ma K (ga K "BadName") "__init__", fd_BadName_init, m_BadName.at_, by have e := m_BadName.fn; unfold PySem.W.isFn at e; exact beq_iff_eq.mp e, ok_BadName_init F_BadName_init o_BadName n_BadName_value, by
      intro n hn
      match n, hn with
      | 0, _ => exact kb_of F_BadName_init fun _ _ _ _ _ _ us ws h1 h2 => match us, h1, ws, h2 with | [_], _, [_], _ => by rfl
      | 1, _ => exact kb_of F_BadName_init fun _ _ _ _ _ _ us ws h1 h2 => match us, h1, ws, h2 with | [_, _], _, [], _ => by rfl
      | n + 2, h => exact absurd h (by show ¬ (n + 2 ≤ 1); omega)⟩
  have m_Taken := meth_ok (d.fact 79 (f := .meth "Taken" "__init__") rfl)
  have c_Taken : Cxv (PySem.Challenge.rw_overfloors_k00_errors_made_by_hand).prog w K mg base 1 "Taken" (ga K "Taken") ["name"] := ⟨o_Taken, g_Taken, ma K (ga K "Taken") "__init__", fd_Taken_init, m_Taken.at_, by have e := m_Taken.fn; unfold PySem.W.isFn at e; exact beq_iff_eq.mp e, ok_Taken_init F_Taken_init o_Taken n_Taken_name, by
      intro n hn
      match n, hn with
      | 0, _ => exact kb_of F_Taken_init fun _ _ _ _ _ _ us ws h1 h2 => match us, h1, ws, h2 with | [_], _, [_], _ => by rfl
      | 1, _ => exact kb_of F_Taken_init fun _ _ _ _ _ _ us ws h1 h2 => match us, h1, ws, h2 with | [_, _], _, [], _ => by rfl
      | n + 2, h => exact absurd h (by show ¬ (n + 2 ≤ 1); omega)⟩
  have m_NoPromise := meth_ok (d.fact 81 (f := .meth "NoPromise" "__init__") rfl)
  have c_NoPromise : Cxv (PySem.Challenge.rw_overfloors_k00_errors_made_by_hand).prog w K mg base 1 "NoPromise" (ga K "NoPromise") ["name"] := ⟨o_NoPromise, g_NoPromise, ma K (ga K "NoPromise") "__init__", fd_NoPromise_init, m_NoPromise.at_, by have e := m_NoPromise.fn; unfold PySem.W.isFn at e; exact beq_iff_eq.mp e, ok_NoPromise_init F_NoPromise_init o_NoPromise n_NoPromise_name, by
      intro n hn
      match n, hn with
      | 0, _ => exact kb_of F_NoPromise_init fun _ _ _ _ _ _ us ws h1 h2 => match us, h1, ws, h2 with | [_], _, [_], _ => by rfl
      | 1, _ => exact kb_of F_NoPromise_init fun _ _ _ _ _ _ us ws h1 h2 => match us, h1, ws, h2 with | [_, _], _, [], _ => by rfl
      | n + 2, h => exact absurd h (by show ¬ (n + 2 ≤ 1); omega)⟩
  have m_Barred := meth_ok (d.fact 83 (f := .meth "Barred" "__init__") rfl)
  have c_Barred : Cxv (PySem.Challenge.rw_overfloors_k00_errors_made_by_hand).prog w K mg base 1 "Barred" (ga K "Barred") ["words"] := ⟨o_Barred, g_Barred, ma K (ga K "Barred") "__init__", fd_Barred_init, m_Barred.at_, by have e := m_Barred.fn; unfold PySem.W.isFn at e; exact beq_iff_eq.mp e, ok_Barred_init F_Barred_init o_Barred n_Barred_words, by
      intro n hn
      match n, hn with
      | 0, _ => exact kb_of F_Barred_init fun _ _ _ _ _ _ us ws h1 h2 => match us, h1, ws, h2 with | [_], _, [_], _ => by rfl
      | 1, _ => exact kb_of F_Barred_init fun _ _ _ _ _ _ us ws h1 h2 => match us, h1, ws, h2 with | [_, _], _, [], _ => by rfl
      | n + 2, h => exact absurd h (by show ¬ (n + 2 ≤ 1); omega)⟩
  have c__law_pen : Cl (PySem.Challenge.rw_overfloors_k00_errors_made_by_hand).prog w K mg base 1 "_law_pen" (spPen K) := mkCl F__law_pen (glo_ok X G (d.fact 10 (f := .glo "_law_pen") rfl)) (ok__law_pen F__law_pen TB) (F__law_pen.bindsN (ps := ["script"]) fun _ _ _ _ _ _ us hl => match us, hl with | [_], _ => rfl)
  have c__law_draw : Cl (PySem.Challenge.rw_overfloors_k00_errors_made_by_hand).prog w K mg base 1 "_law_draw" (spPDraw) := mkCl F__law_draw (glo_ok X G (d.fact 11 (f := .glo "_law_draw") rfl)) (ok__law_draw F__law_draw TB) (F__law_draw.bindsN (ps := ["pen", "many"]) fun _ _ _ _ _ _ us hl => match us, hl with | [_, _], _ => rfl)
  have c__law_pick : Cl (PySem.Challenge.rw_overfloors_k00_errors_made_by_hand).prog w K mg base 2 "_law_pick" (spPPick) := mkCl F__law_pick (glo_ok X G (d.fact 12 (f := .glo "_law_pick") rfl)) (ok__law_pick F__law_pick TB c__law_draw) (F__law_pick.bindsN (ps := ["pen", "items"]) fun _ _ _ _ _ _ us hl => match us, hl with | [_, _], _ => rfl)
  have c__law_alone : Cl (PySem.Challenge.rw_overfloors_k00_errors_made_by_hand).prog w K mg base 3 "_law_alone" (spAlone) := mkCl F__law_alone (glo_ok X G (d.fact 13 (f := .glo "_law_alone") rfl)) (ok__law_alone F__law_alone x_BadNumber n_BadNumber_value x_BadPoint n_BadPoint_value x_TooMany n_TooMany_most x_TooFar n_TooFar_number x_NoSuch n_NoSuch_number x_Apart n_Apart_bar x_NoLetter n_NoLetter_letter x_BadLetter n_BadLetter_value x_BadText n_BadText_index x_NoFloor n_NoFloor_name x_BadName n_BadName_value x_Taken n_Taken_name x_NoPromise n_NoPromise_name x_Barred n_Barred_words c_BadNumber c_BadPoint c_TooMany c_TooFar c_NoSuch c_Apart c_NoLetter c_BadLetter c_BadText c_NoFloor c_BadName c_Taken c_NoPromise c_Barred) (F__law_alone.bindsN (ps := ["mine"]) fun _ _ _ _ _ _ us hl => match us, hl with | [_], _ => rfl)
  have c__law_more : Cl (PySem.Challenge.rw_overfloors_k00_errors_made_by_hand).prog w K mg base 3 "_law_more" (spMore) := mkCl F__law_more (glo_ok X G (d.fact 14 (f := .glo "_law_more") rfl)) (ok__law_more F__law_more x_NotPositive n_NotPositive_a n_NotPositive_b n_NotPositive_c x_Clash n_Clash_letter n_Clash_other x_Overlap n_Overlap_first n_Overlap_second c_NotPositive c_Clash c_Overlap) (F__law_more.bindsN (ps := ["mine", "yours"]) fun _ _ _ _ _ _ us hl => match us, hl with | [_, _], _ => rfl)
  have c__law_raise : Cl (PySem.Challenge.rw_overfloors_k00_errors_made_by_hand).prog w K mg base 3 "_law_raise" (spRaise [(ga K "Flat"), (ga K "TooMany"), (ga K "Apart"), (ga K "Overlap"), (ga K "NothingToUndo")]) := mkCl F__law_raise (glo_ok X G (d.fact 15 (f := .glo "_law_raise") rfl)) (ok__law_raise F__law_raise o_Flat z_Flat o_TooMany o_Apart o_Overlap o_NothingToUndo z_NothingToUndo c_TooMany c_Apart c_Overlap) (F__law_raise.bindsN (ps := ["which", "mine"]) fun _ _ _ _ _ _ us hl => match us, hl with | [_, _], _ => rfl)
  have c__law_caught : Cl (PySem.Challenge.rw_overfloors_k00_errors_made_by_hand).prog w K mg base 4 "_law_caught" (spCaught) := mkCl F__law_caught (glo_ok X G (d.fact 16 (f := .glo "_law_caught") rfl)) (ok__law_caught F__law_caught g_FloorError c__law_raise exF) (F__law_caught.bindsN (ps := ["which", "mine"]) fun _ _ _ _ _ _ us hl => match us, hl with | [_, _], _ => rfl)
  exact ok_law F_law TB g_BadNumber GX g_Flat z_Flat z_NotWithin g_NotPlain z_NotPlain z_NoMarks g_NoWidth z_NoWidth z_NothingToUndo g_FloorError c_BadNumber c_Clash c__law_pen c__law_pick c__law_alone c__law_more c__law_caught
end
end Of
open PySem PySem.W PySem.Calls PyProof.Rows
theorem PySem.Challenge.cw_overfloors_k00_errors_made_by_hand_holds : PySem.Challenge.rw_overfloors_k00_errors_made_by_hand.Holds := by
  w_on; o_law
  refine HandSHeadRun.head_any (r := OpenLaw.row PySem.Challenge.rw_overfloors_k00_errors_made_by_hand) (q := view (OpenLaw.row PySem.Challenge.rw_overfloors_k00_errors_made_by_hand).prog [33]) (H := Of.hk) (ob := Of.ob) (M := 6000) (loose := Of.loose) (d := HandSHeadRun.topDef (OpenLaw.row PySem.Challenge.rw_overfloors_k00_errors_made_by_hand).prog 33) (kwd := []) Of.ob_eq
    (by kernel_rfl) (fun s => by kernel_rfl) Of.run (by kernel_rfl) (by kernel_rfl) (by kernel_rfl) (by rfl) (by first | assumption | decide +kernel) (by decide +kernel) ⟨rfl, rfl, rfl, rfl, rfl, by decide +kernel⟩ ?hw ?hc
  case hw => w_witness2
  case hc =>
    refine LamX.walk_ofTsE (l := PySem.Challenge.rw_overfloors_k00_errors_made_by_hand) (n := 63) (k := 5) (x := "script") (CX := fun w => L2.CX (PySem.Challenge.rw_overfloors_k00_errors_made_by_hand).prog w) rfl (by decide) (by kernel_rfl) ⟨rfl, by decide, by decide⟩ ?F (fun _ _ _ _ _ z => by obtain ⟨_, _, _, _, _, _, _, _, _, _, _, _, z⟩ := z; exact z)
    intro w mg fa h Y G hmg0
    obtain ⟨K, KX, c⟩ := Y
    have hmg : mg ("law" : PySem.Str) = some (.ref fa) := by
      have e : (HandSHeadRun.topDef (OpenLaw.row PySem.Challenge.rw_overfloors_k00_errors_made_by_hand).prog 33).name = ("law" : PySem.Str) := by kernel_rfl
      rw [← e]
      exact hmg0
    exact ⟨K, KX, Of.law_at KX G hmg c⟩
