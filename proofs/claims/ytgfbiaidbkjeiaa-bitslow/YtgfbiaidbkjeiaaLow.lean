/- Proved: for all numbers the law BitsLow returns true (bits are written from the lowest one of each byte on; as many as are asked for), and its arguments read behind the call as they read before. No condition. -/
import Derived.Test.YtgfbiaidbkjeiaaO
import Derived.ShutString
import Derived.ChangeOld
namespace Go.Proofs.Ytgfbiaidbkjeiaa.LLow
open Go.RowKit

theorem i64_and1 (n : Int) : bits .and .i64 n 1 = n % 2 := by
  have h1 : (BitVec.ofInt 64 1).toNat = 1 := by decide
  have low : (BitVec.ofInt 64 n &&& BitVec.ofInt 64 1).toNat = (n % ((2 ^ 64 : Nat) : Int)).toNat % 2 := by
    rw [BitVec.toNat_and, BitVec.toNat_ofInt, h1, Nat.and_one_is_mod]
  show IntKind.i64.wrap ((BitVec.ofInt 64 n &&& BitVec.ofInt 64 1).toNat : Nat) = n % 2
  rw [low, IntKind.wrap_i64]
  omega
theorem rem65 (a : Int) : ∃ A : Nat, wrap64 ((IntKind.u64.wrap a).tmod 65) = A ∧ A ≤ 64 := by
  have h : 0 ≤ IntKind.u64.wrap a := by rw [IntKind.wrap_u64]; omega
  rw [Int.tmod_eq_emod_of_nonneg h]
  generalize IntKind.u64.wrap a = z at *
  refine ⟨(z % 65).toNat, ?_, by omega⟩
  unfold wrap64
  omega
/-- The bits that the law has written. -/
def lowL (v A B : Nat) : List Bool := bitsL v A ++ bitsL v B
theorem lowL_len (v A B : Nat) : (lowL v A B).length = A + B := by simp [lowL, bitsL_len]
theorem lowL_get (v A B j : Nat) (h : j < A + B) : (lowL v A B)[j]? = some (v.testBit (if A ≤ j then j - A else j)) := by
  unfold lowL
  by_cases hj : A ≤ j
  · rw [List.getElem?_append_right (by rw [bitsL_len]; exact hj), bitsL_len, bitsL_get _ _ _ (by omega), if_pos hj]
  · rw [List.getElem?_append_left (by rw [bitsL_len]; omega), bitsL_get _ _ _ (by omega), if_neg hj]
theorem low_bit (v A B j : Nat) (h : j < A + B) (hi : j / 8 < (bytesL (lowL v A B)).length) : ((bytesL (lowL v A B))[j / 8]'hi).toNat.testBit (j % 8) = v.testBit (if A ≤ j then j - A else j) := by
  have h1 := ofL_get (bytesL (lowL v A B)) j hi
  obtain ⟨k, _, e⟩ := ofL_bytesL (lowL v A B)
  rw [e, List.getElem?_append_left (by rw [lowL_len]; exact h), lowL_get v A B j h] at h1
  injection h1 with h1
  exact h1.symm
theorem and_c (c k : Nat) (_hc : c < 256) : bits .and .i64 (wrap64 ((c : Int) / 2 ^ k)) 1 = ((c.testBit k).toNat : Nat) := by
  have h2 : c / 2 ^ k ≤ c := Nat.div_le_self _ _
  rw [i64_and1, bit_div, show ((c : Int) / 2 ^ k) = ((c / 2 ^ k : Nat) : Int) by simp]
  generalize c / 2 ^ k = z at *
  unfold wrap64
  omega
theorem and_v (v k : Nat) : bits .and .i64 (wrap64 ((v : Int) / 2 ^ k)) 1 = ((v.testBit k).toNat : Nat) := by
  rw [i64_and1, bit_div, show ((v : Int) / 2 ^ k) = ((v / 2 ^ k : Nat) : Int) by simp]
  generalize v / 2 ^ k = z at *
  unfold wrap64
  omega
def LRel (w : World) (n : Nat) (cv : Value) (wr : World) : Prop := ∃ j : Nat, cv = .int .i64 j ∧ j ≤ n ∧ Same w wr
set_option maxRecDepth 100000 in
set_option maxHeartbeats 1000000 in
theorem walk (v : Nat) (a b : Int) (w : World) (hv : v < 2 ^ 64) (_ha : (Lit.int .i64 a).wf = true) (_hb : (Lit.int .i64 b).wf = true) :
    Calls Try.prog 7 #[.int .u64 v, .int .i64 a, .int .i64 b] w fun e w' => e = .returned (.bool true) ∧ Below w.heap.size w w' := by
  obtain ⟨hz, hi⟩ := zero_of_info info27
  obtain ⟨n66, hn66⟩ : ∃ n, n = 66 := ⟨66, rfl⟩
  have hsz : ∀ w, (Go.sizeOf 27).run Try.prog w = .ok n66 w := fun w => by rw [hn66]; exact Try.sizeOf27 w
  have HW0 := Lib.hid (Wr.new w)
  have HS0 := Lib.hid (show Same w (w.alloc (.cells (wc (.pointer none) zl 0) 27)) from (Same.refl w).alloc _)
  have HV := Lib.hid hv
  clear hn66 hi hv
  obtain ⟨A, hA, hA64⟩ := rem65 a
  obtain ⟨B, hB, hB64⟩ := rem65 b
  go_enter Try.func7, Try.ntmps7
  go_wp2_with fail
  refine (wbits_at w.heap.size v A [] _ HV.out HW0.out (by simp)).mono ?_
  rintro e w1 ⟨rfl, hw1, ho1⟩
  rw [List.nil_append, show manyN (A : Int) = A by unfold manyN; omega] at hw1
  have HW1 := Lib.hid hw1
  have HS1 := Lib.hid (HS0.out.only ho1 (Nat.le_refl _))
  clear hw1 ho1 HW0 HS0 hz hsz
  generalize hbw : w.heap.size = bw at *
  have HBW := Lib.hid (show w.heap.size ≤ bw by omega)
  clear hbw
  go_wp2_with fail
  refine (wbits_at bw v B _ w1 HV.out HW1.out (by simp [bitsL_len]; omega)).mono ?_
  rintro e w2 ⟨rfl, hw2, ho2⟩
  rw [show manyN (B : Int) = B by unfold manyN; omega] at hw2
  have HW2 := Lib.hid (show Wr w2 bw (lowL v A B) from hw2)
  have HS2 := Lib.hid (HS1.out.only ho2 HBW.out)
  have hll := lowL_len v A B
  clear hw2 ho2 HW1 HS1
  go_wp2_with fail
  refine (wstring_at bw _ w2 HW2.out (by omega)).mono ?_
  rintro e w3 ⟨rfl, hs3⟩
  have HW3 := Lib.hid (HW2.out.same hs3)
  have HS3 := Lib.hid (HS2.out.trans hs3)
  clear hs3 HW2 HS2
  have hbl : (bytesL (lowL v A B)).length = (A + B + 7) / 8 := by rw [bytesL_len, hll]
  have Hbit := Lib.hid (low_bit v A B)
  have HLn := Lib.hid (wlen_at bw _ w3 HW3.out)
  rw [hll] at HLn
  clear hll
  generalize bytesL (lowL v A B) = S at *
  go_wp2_with fail
  refine HLn.out.mono ?_
  rintro e w3 ⟨rfl, rfl⟩
  clear hA hB
  go_wp2_with fail
  go_loopw [27] (fun cv wr => LRel w3 (A + B) cv wr) (fun cv _ => 200 - (intOf cv).toNat)
  case atStart => exact ⟨0, rfl, by omega, Same.refl _⟩
  case round =>
    obtain ⟨j, rfl, hj, hs⟩ := hrel
    have HSj := Lib.hid hs
    clear hs
    by_cases hjn : j < A + B
    · have hi8 : j / 8 < S.length := by omega
      have hix := index_at S (j / 8) hi8
      rw [show ((j / 8 : Nat) : Int) = (j : Int) / 8 by omega] at hix
      have hbt := Hbit.out j hjn hi8
      have hc := UInt8.toNat_lt (S[j / 8]'hi8)
      generalize (S[j / 8]'hi8).toNat = c at *
      have hac := and_c c (j % 8) hc
      rw [hbt] at hac
      have hjs : j < 129 := by omega
      by_cases hAj : A ≤ j
      · rw [if_pos hAj] at hac
        have hav := and_v v (j - A)
        clear hbt
        go_wp2_with fail
        go_region
        go_wp2
        go_roundw
        case rel => exact ⟨j + 1, by go_num, hjn, HSj.out.drew⟩
        case measure => simp [intOf]; omega
      · rw [if_neg hAj] at hac
        have hav := and_v v j
        clear hbt
        go_wp2_with fail
        go_region
        go_wp2
        go_roundw
        case rel => exact ⟨j + 1, by go_num, hjn, HSj.out.drew⟩
        case measure => simp [intOf]; omega
    · have AW := Lib.hid awake
      obtain rfl : j = A + B := by omega
      go_wp2_with fail
      refine (AW.out _).mono ?_
      rintro e w4 ⟨rfl, hs4⟩
      have HL4 := Lib.hid (wlen_at bw _ w4 ((HW3.out.same HSj.out).same hs4))
      rw [lowL_len] at HL4
      have HS4 := Lib.hid ((HS3.out.trans HSj.out).trans hs4)
      clear hs4 Hbit
      go_wp2_with fail
      refine HL4.out.mono ?_
      rintro e w4 ⟨rfl, rfl⟩
      go_wp2
      go_ret
      exact ⟨rfl, HS4.out⟩

open Go.ChangeShapes Go.WideShapes Go.ChangeAt
theorem own : ownKnob Try.prog.godebug = none := by kernel_rfl
theorem laidOut : laidOutB Try.prog = true := by kernel_rfl

set_option maxRecDepth 100000 in
theorem lifted (os : Os) (started : os.Started) (H : Type) (enc : TypeId × Value → H) :
    ReturnsInHanded {} Try.checked os 7 .any (Rows.bitsLowSpec.pre6 enc Try.prog Try.f7 Rows.bitsLowRow.domain false) (Rows.bitsLowSpec.post enc Try.prog Try.f7 false true false false) := by
  refine returnsInHanded_of_change (C := Try.checked) own started (by kernel_rfl) Try.func7
    (ChangeSpec.witness6 (enc := enc) (C := Try.checked) false ⟨#[], #[.int .u64 0, .int .i64 0, .int .i64 0], []⟩ 8 (by kernel_rfl) (by kernel_rfl) (by kernel_rfl) (by kernel_rfl)) ?_
  intro W base args ds gs before hval0 hW hcnd _
  have hval : ∀ (j : Nat) t v, Try.f7.params[j]? = some t → args[j]? = some v → Value.okWide Try.prog W .any base t v := hval0
  have hW' := hW
  obtain ⟨p, q, hA0, hV, rfl, hfz, hnd⟩ := hW
  have hA : DataW.TrodAll enc Try.prog W 0 (fun _ => true) true Try.f7.params.toList args.toList ds p := hA0

  rw [Try.params7] at hA hval
  obtain ⟨v0, vs0, d0, ds0, p0, q0, hargs, rfl, rfl, h0, r0⟩ := trodAll_cons hA
  obtain ⟨v1, vs1, d1, ds1, p1, q1, rfl, rfl, rfl, h1, r1⟩ := trodAll_cons r0
  obtain ⟨v2, vs2, d2, ds2, p2, q2, rfl, rfl, rfl, h2, r2⟩ := trodAll_cons r1
  obtain ⟨rfl, rfl, rfl⟩ := trodAll_nil r2
  obtain rfl : args = #[v0, v1, v2] := by cases args; simp_all
  obtain ⟨rfl, rfl⟩ := trodVars_none hV
  have k0 := h0
  have lt0 : ∀ x ∈ p0, x.block < W.heap.size := by obtain ⟨m, hm⟩ := k0; exact DataW.trod_lt m _ _ _ hm
  have k1 := h1
  have lt1 : ∀ x ∈ p1, x.block < W.heap.size := by obtain ⟨m, hm⟩ := k1; exact DataW.trod_lt m _ _ _ hm
  have k2 := h2
  have lt2 : ∀ x ∈ p2, x.block < W.heap.size := by obtain ⟨m, hm⟩ := k2; exact DataW.trod_lt m _ _ _ hm
  obtain ⟨a0, rfl, _, _, w0⟩ := open_int Try.underlying28 (hval 0 28 v0 rfl rfl) h0
  have u0 := bounds_u64 w0
  obtain ⟨a0, rfl⟩ := Int.eq_ofNat_of_zero_le u0.1
  obtain ⟨a1, rfl, _, _, w1⟩ := open_int Try.underlying3 (hval 1 3 v1 rfl rfl) h1
  obtain ⟨a2, rfl, _, _, w2⟩ := open_int Try.underlying3 (hval 2 3 v2 rfl rfl) h2
  clear hA0 hval0
  refine (walk a0 a1 a2 W (by omega) w1 w2).mono fun e W' ⟨he, bel⟩ => ?_
  subst he
  exact ⟨_, rfl, _, _, _, [], _, [], hW', trodAll_mk1 (shut_bool Try.underlying4 _), (trodAll_cons_mk (Below.trod laidOut (by kernel_rfl) (of_decide_eq_true (by kernel_rfl)) k0 bel lt0) (trodAll_cons_mk (Below.trod laidOut (by kernel_rfl) (of_decide_eq_true (by kernel_rfl)) k1 bel lt1) (trodAll_cons_mk (Below.trod laidOut (by kernel_rfl) (of_decide_eq_true (by kernel_rfl)) k2 bel lt2) trodAll_mk0))), rfl, bel.frame _, fun h => by cases h⟩

theorem over : Rows.bitsLowRow.holds Try.pinned (OpenSpec.ofChange Rows.bitsLowSpec) :=
  OpenClaim.holds_of_wide 7 Try.f7 rfl rfl rfl rfl rfl rfl rfl ⟨rfl, rfl, rfl, rfl, rfl⟩ rfl rfl rfl rfl rfl (by kernel_rfl) Try.func7 (by kernel_rfl)
    (of_decide_eq_true (by kernel_rfl)) (by unfold Func.isWrapper; first | (rw [if_pos (by decide +kernel)]; kernel_rfl) | (rw [if_neg (by decide +kernel)]; exact ⟨rfl, rfl⟩))
    (fun os started H enc _ => lifted os started H enc)
end Go.Proofs.Ytgfbiaidbkjeiaa.LLow

namespace Go.Proofs.Ytgfbiaidbkjeiaa
theorem bitsLow_holds : Rows.BitsLowSaid := LLow.over
#print axioms bitsLow_holds
end Go.Proofs.Ytgfbiaidbkjeiaa

