/- Proved: for every text and number the law CrcEnds returns true (nothing but the four bytes of the sum opens what stands ahead of it), and its arguments read behind the call as they read before. No condition. -/
import Derived.Test.YteiafdokbhigoaaE
import Derived.ProofKit
import Derived.ShutString
import Derived.ChangeOld
namespace Go.Proofs.Yteiafdokbhigoaa.LCrcEnds
open Go.RowKit

theorem le4_inj (a b : Nat) (ha : a < 4294967296) (hb : b < 4294967296) (h : K.le4 a = K.le4 b) : a = b := by
  rw [← K.leN_le4 a ha, ← K.leN_le4 b hb, h]

set_option maxRecDepth 100000 in
set_option maxHeartbeats 400000 in
theorem walk (s : List UInt8) (m : Nat) (w : World) (hs : s.length ≤ 9223372036854775807) (hm : m < 4294967296) :
    Calls Try.prog 10 #[.string ⟨s.toArray⟩, .int .u32 m] w fun e w' => e = .returned (.bool true) ∧ Below w.heap.size w w' := by
  by_cases hl : 2000 < s.length
  · skip
    go_enter Try.func10, Try.ntmps10
    go_wp2_with fail
    refine (awake w).mono ?_
    rintro e w1 ⟨rfl, b1⟩
    go_wp2_with fail
    refine (awake w1).mono ?_
    rintro e w2 ⟨rfl, b2⟩
    go_wp2
    go_ret
    exact ⟨rfl, b1.trans b2⟩
  · have c16 := Lib.hid (refSum s (by omega))
    have happ := app_list s (K.le4 m)
    have hl4 := K.le4_len m
    have c12 := Lib.hid (opened (s ++ K.le4 m) (by rw [List.length_append]; omega))
    unfold openV at c12
    rw [K.open_add _ _ hl4] at c12
    have hcv := fun w => conv4 m hm w
    by_cases hq : K.le4 (K.sum s) = K.le4 m
    · rw [if_pos hq] at c12
      obtain rfl := le4_inj _ _ (K.sum_lt s) hm hq
      generalize K.le4 (K.sum s) = f at *
      generalize K.sum s = x at *
      clear hq
      go_enter Try.func10, Try.ntmps10
      go_wp2_with fail
      refine (awake w).mono ?_
      rintro e w1 ⟨rfl, b1⟩
      go_wp2_with fail
      refine (c12.out _).mono ?_
      rintro e w2 ⟨rfl, b2⟩
      go_wp2_with fail
      refine (c16.out w2).mono ?_
      rintro e w3 ⟨rfl, b3⟩
      have B3 := Lib.hid (((b1.alloc _).trans b2).trans b3)
      clear b1 b2 b3
      go_wp2
      go_ret
      exact ⟨rfl, B3.out⟩
    · rw [if_neg hq] at c12
      have hne : ((m : Int) == (K.sum s : Nat)) = false := beq_eq_false_iff_ne.2 fun h => hq (by rw [show K.sum s = m by omega])
      generalize K.le4 m = f at *
      generalize K.sum s = x at *
      clear hq
      go_enter Try.func10, Try.ntmps10
      go_wp2_with fail
      refine (awake w).mono ?_
      rintro e w1 ⟨rfl, b1⟩
      go_wp2_with fail
      refine (c12.out _).mono ?_
      rintro e w2 ⟨rfl, b2⟩
      go_wp2_with fail
      refine (c16.out w2).mono ?_
      rintro e w3 ⟨rfl, b3⟩
      have B3 := Lib.hid (((b1.alloc _).trans b2).trans b3)
      clear b1 b2 b3
      go_wp2
      go_ret
      exact ⟨rfl, B3.out⟩

open Go.ChangeShapes Go.WideShapes Go.ChangeAt
theorem own : ownKnob Try.prog.godebug = none := by kernel_rfl
theorem laidOut : laidOutB Try.prog = true := by kernel_rfl

set_option maxRecDepth 100000 in
theorem lifted (os : Os) (started : os.Started) (H : Type) (enc : TypeId × Value → H) :
    ReturnsInHanded {} Try.checked os 10 .any (Rows.crcEndsSpec.pre6 enc Try.prog Try.f10 Rows.crcEndsRow.domain false) (Rows.crcEndsSpec.post enc Try.prog Try.f10 false true false false) := by
  refine returnsInHanded_of_change (C := Try.checked) own started (by kernel_rfl) Try.func10
    (ChangeSpec.witness6 (enc := enc) (C := Try.checked) false ⟨#[], #[.string ⟨#[]⟩, .int .u32 0], []⟩ 8 (by kernel_rfl) (by kernel_rfl) (by kernel_rfl) (by kernel_rfl)) ?_
  intro W base args ds gs before hval0 hW hcnd _
  have hval : ∀ (j : Nat) t v, Try.f10.params[j]? = some t → args[j]? = some v → Value.okWide Try.prog W .any base t v := hval0
  have hW' := hW
  obtain ⟨p, q, hA0, hV, rfl, hfz, hnd⟩ := hW
  have hA : DataW.TrodAll enc Try.prog W 0 (fun _ => true) true Try.f10.params.toList args.toList ds p := hA0
  rw [Try.params10] at hA hval
  obtain ⟨v0, vs0, d0, ds0, p0, q0, hargs, rfl, rfl, h0, r0⟩ := trodAll_cons hA
  obtain ⟨v1, vs1, d1, ds1, p1, q1, rfl, rfl, rfl, h1, r1⟩ := trodAll_cons r0
  obtain ⟨rfl, rfl, rfl⟩ := trodAll_nil r1
  obtain rfl : args = #[v0, v1] := by cases args; simp_all
  obtain ⟨rfl, rfl⟩ := trodVars_none hV
  have k0 := h0
  have lt0 : ∀ x ∈ p0, x.block < W.heap.size := by obtain ⟨m, hm⟩ := k0; exact DataW.trod_lt m _ _ _ hm
  have k1 := h1
  have lt1 : ∀ x ∈ p1, x.block < W.heap.size := by obtain ⟨m, hm⟩ := k1; exact DataW.trod_lt m _ _ _ hm
  obtain ⟨a0, rfl, _, _, w0⟩ := Go.ChangeMaps.open_string Try.underlying9 (hval 0 9 v0 rfl rfl) h0
  obtain ⟨a1, rfl, _, _, w1⟩ := open_int Try.underlying29 (hval 1 29 v1 rfl rfl) h1
  have u1 := bounds_u32 w1
  obtain ⟨a1, rfl⟩ := Int.eq_ofNat_of_zero_le u1.1
  clear hA0 hval0
  refine (walk a0.data.toList a1 W (by simpa [maxLen] using w0) (by omega)).mono fun e W' ⟨he, bel⟩ => ?_
  subst he
  exact ⟨_, rfl, _, _, _, [], _, [], hW', trodAll_mk1 (shut_bool Try.underlying4 _), (trodAll_cons_mk (Below.trod laidOut (by kernel_rfl) (of_decide_eq_true (by kernel_rfl)) k0 bel lt0) (trodAll_cons_mk (Below.trod laidOut (by kernel_rfl) (of_decide_eq_true (by kernel_rfl)) k1 bel lt1) trodAll_mk0)), rfl, bel.frame _, fun h => by cases h⟩

theorem over : Rows.crcEndsRow.holds Try.pinned (OpenSpec.ofChange Rows.crcEndsSpec) :=
  OpenClaim.holds_of_wide 10 Try.f10 rfl rfl rfl rfl rfl rfl rfl ⟨rfl, rfl, rfl, rfl, rfl⟩ rfl rfl rfl rfl rfl (by kernel_rfl) Try.func10 (by kernel_rfl)
    (of_decide_eq_true (by kernel_rfl)) (by unfold Func.isWrapper; first | (rw [if_pos (by decide +kernel)]; kernel_rfl) | (rw [if_neg (by decide +kernel)]; exact ⟨rfl, rfl⟩))
    (fun os started H enc _ => lifted os started H enc)
end Go.Proofs.Yteiafdokbhigoaa.LCrcEnds

namespace Go.Proofs.Yteiafdokbhigoaa
theorem crcEnds_holds : Rows.CrcEndsSaid := LCrcEnds.over
#print axioms crcEnds_holds
end Go.Proofs.Yteiafdokbhigoaa

