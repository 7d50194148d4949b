/- Proved: for every text, place and bits the law CrcBursts returns true (sealed bytes, of which some of up to 32 bits in a row are turned, are other bytes and are not opened), and its arguments read behind the call as they read before. No condition. -/
import Derived.Test.YteiafdokbhigoaaE
import Derived.ProofKit
import Derived.ShutString
import Derived.ChangeOld
namespace Go.Proofs.Yteiafdokbhigoaa.LCrcBursts
open Go.RowKit

theorem or_lt (b : Nat) (hb : b < 4294967296) : b ||| 1 < 4294967296 := Nat.or_lt_two_pow (n := 32) hb (by decide)
theorem or_bit (b : Nat) : (b ||| 1).testBit 0 = true := by simp
theorem orI (b : Nat) (hb : b < 4294967296) : bits .or .u32 (b : Int) 1 = ((b ||| 1 : Nat) : Int) := by
  have := u32_or_nat b 1 hb (by omega)
  exact this

set_option maxRecDepth 100000 in
set_option maxHeartbeats 400000 in
theorem walk (s : List UInt8) (p : Int) (b : Nat) (w : World) (hs : s.length ≤ 9223372036854775807) (hp : (Lit.int .i64 p).wf = true) (hb : b < 4294967296) :
    Calls Try.prog 4 #[.string ⟨s.toArray⟩, .int .i64 p, .int .u32 b] w fun e w' => e = .returned (.bool true) ∧ Below w.heap.size w w' := by
  by_cases hl : 3000 < s.length
  · clear hp
    go_enter Try.func4, Try.ntmps4
    go_wp2_with fail
    refine (awake w).mono ?_
    rintro e w1 ⟨rfl, b1⟩
    go_wp2_with fail
    refine (awake w1).mono ?_
    rintro e w2 ⟨rfl, b2⟩
    go_wp2
    go_ret
    exact ⟨rfl, b1.trans b2⟩
  · have c13 := Lib.hid (sealed s (by omega))
    have hlen := K.sealB_len s
    have hor := orI b hb
    have hol := or_lt b hb
    have hob := or_bit b
    obtain ⟨n, hn⟩ : ∃ n : Nat, (n : Int) = (p % 18446744073709551616) % ((8 * (s.length + 4) : Nat) : Int) := ⟨((p % 18446744073709551616) % ((8 * (s.length + 4) : Nat) : Int)).toNat, by
      have := Int.emod_nonneg (p % 18446744073709551616) (b := ((8 * (s.length + 4) : Nat) : Int)) (by omega)
      omega⟩
    have hn8 : n < 8 * (s.length + 4) := by
      have := Int.emod_lt_of_pos (p % 18446744073709551616) (b := ((8 * (s.length + 4) : Nat) : Int)) (by omega)
      omega
    have hn2 : wrap64 ((IntKind.u64.wrap p).tmod (8 * ((s.length : Int) + 4))) = (n : Int) := by
      rw [IntKind.wrap_u64, Int.tmod_eq_emod_of_nonneg (by omega), show (8 * ((s.length : Int) + 4)) = ((8 * (s.length + 4) : Nat) : Int) by omega, ← hn]
      unfold wrap64
      omega
    have c20 := Lib.hid (flip (K.sealB s) n (b ||| 1) (by omega) hol (by omega) (by omega))
    have c12 := Lib.hid (opened (K.xorN (K.sealB s) (K.big n (b ||| 1))) (by rw [K.xorN_len]; omega))
    have eb : K.big n (b ||| 1) = 2 ^ n * (b ||| 1) := by unfold K.big; rw [if_pos (by omega)]; rfl
    unfold openV at c12
    rw [eb] at c12 c20
    rw [K.open_burst s n (b ||| 1) 0 hol hob (by omega)] at c12
    have hne : (K.xorN (K.sealB s) (2 ^ n * (b ||| 1)) == K.sealB s) = false := beq_eq_false_iff_ne.2 (K.xorN_ne _ n _ 0 hob (by omega))
    clear hob eb
    generalize K.xorN (K.sealB s) (2 ^ n * (b ||| 1)) = u at *
    generalize K.sealB s = t at *
    generalize b ||| 1 = c at *
    clear hp hn
    go_enter Try.func4, Try.ntmps4
    go_wp2_with fail
    refine (awake w).mono ?_
    rintro e w1 ⟨rfl, b1⟩
    go_wp2_with fail
    refine (c13.out w1).mono ?_
    rintro e w2 ⟨rfl, b2⟩
    go_wp2_with fail
    refine (c20.out w2).mono ?_
    rintro e w3 ⟨rfl, b3⟩
    go_wp2_with fail
    refine (c12.out w3).mono ?_
    rintro e w4 ⟨rfl, b4⟩
    have B4 := Lib.hid (((b1.trans b2).trans b3).trans b4)
    clear b1 b2 b3 b4
    go_wp2
    go_ret
    exact ⟨rfl, B4.out⟩

open Go.ChangeShapes Go.WideShapes Go.ChangeAt
theorem own : ownKnob Try.prog.godebug = none := by kernel_rfl
theorem laidOut : laidOutB Try.prog = true := by kernel_rfl

set_option maxRecDepth 100000 in
theorem lifted (os : Os) (started : os.Started) (H : Type) (enc : TypeId × Value → H) :
    ReturnsInHanded {} Try.checked os 4 .any (Rows.crcBurstsSpec.pre6 enc Try.prog Try.f4 Rows.crcBurstsRow.domain false) (Rows.crcBurstsSpec.post enc Try.prog Try.f4 false true false false) := by
  refine returnsInHanded_of_change (C := Try.checked) own started (by kernel_rfl) Try.func4
    (ChangeSpec.witness6 (enc := enc) (C := Try.checked) false ⟨#[], #[.string ⟨#[]⟩, .int .i64 0, .int .u32 0], []⟩ 8 (by kernel_rfl) (by kernel_rfl) (by kernel_rfl) (by kernel_rfl)) ?_
  intro W base args ds gs before hval0 hW hcnd _
  have hval : ∀ (j : Nat) t v, Try.f4.params[j]? = some t → args[j]? = some v → Value.okWide Try.prog W .any base t v := hval0
  have hW' := hW
  obtain ⟨p, q, hA0, hV, rfl, hfz, hnd⟩ := hW
  have hA : DataW.TrodAll enc Try.prog W 0 (fun _ => true) true Try.f4.params.toList args.toList ds p := hA0
  rw [Try.params4] at hA hval
  obtain ⟨v0, vs0, d0, ds0, p0, q0, hargs, rfl, rfl, h0, r0⟩ := trodAll_cons hA
  obtain ⟨v1, vs1, d1, ds1, p1, q1, rfl, rfl, rfl, h1, r1⟩ := trodAll_cons r0
  obtain ⟨v2, vs2, d2, ds2, p2, q2, rfl, rfl, rfl, h2, r2⟩ := trodAll_cons r1
  obtain ⟨rfl, rfl, rfl⟩ := trodAll_nil r2
  obtain rfl : args = #[v0, v1, v2] := by cases args; simp_all
  obtain ⟨rfl, rfl⟩ := trodVars_none hV
  have k0 := h0
  have lt0 : ∀ x ∈ p0, x.block < W.heap.size := by obtain ⟨m, hm⟩ := k0; exact DataW.trod_lt m _ _ _ hm
  have k1 := h1
  have lt1 : ∀ x ∈ p1, x.block < W.heap.size := by obtain ⟨m, hm⟩ := k1; exact DataW.trod_lt m _ _ _ hm
  have k2 := h2
  have lt2 : ∀ x ∈ p2, x.block < W.heap.size := by obtain ⟨m, hm⟩ := k2; exact DataW.trod_lt m _ _ _ hm
  obtain ⟨a0, rfl, _, _, w0⟩ := Go.ChangeMaps.open_string Try.underlying9 (hval 0 9 v0 rfl rfl) h0
  obtain ⟨a1, rfl, _, _, w1⟩ := open_int Try.underlying3 (hval 1 3 v1 rfl rfl) h1
  obtain ⟨a2, rfl, _, _, w2⟩ := open_int Try.underlying29 (hval 2 29 v2 rfl rfl) h2
  have u2 := bounds_u32 w2
  obtain ⟨a2, rfl⟩ := Int.eq_ofNat_of_zero_le u2.1
  clear hA0 hval0
  refine (walk a0.data.toList a1 a2 W (by simpa [maxLen] using w0) w1 (by omega)).mono fun e W' ⟨he, bel⟩ => ?_
  subst he
  exact ⟨_, rfl, _, _, _, [], _, [], hW', trodAll_mk1 (shut_bool Try.underlying4 _), (trodAll_cons_mk (Below.trod laidOut (by kernel_rfl) (of_decide_eq_true (by kernel_rfl)) k0 bel lt0) (trodAll_cons_mk (Below.trod laidOut (by kernel_rfl) (of_decide_eq_true (by kernel_rfl)) k1 bel lt1) (trodAll_cons_mk (Below.trod laidOut (by kernel_rfl) (of_decide_eq_true (by kernel_rfl)) k2 bel lt2) trodAll_mk0))), rfl, bel.frame _, fun h => by cases h⟩

theorem over : Rows.crcBurstsRow.holds Try.pinned (OpenSpec.ofChange Rows.crcBurstsSpec) :=
  OpenClaim.holds_of_wide 4 Try.f4 rfl rfl rfl rfl rfl rfl rfl ⟨rfl, rfl, rfl, rfl, rfl⟩ rfl rfl rfl rfl rfl (by kernel_rfl) Try.func4 (by kernel_rfl)
    (of_decide_eq_true (by kernel_rfl)) (by unfold Func.isWrapper; first | (rw [if_pos (by decide +kernel)]; kernel_rfl) | (rw [if_neg (by decide +kernel)]; exact ⟨rfl, rfl⟩))
    (fun os started H enc _ => lifted os started H enc)
end Go.Proofs.Yteiafdokbhigoaa.LCrcBursts

namespace Go.Proofs.Yteiafdokbhigoaa
theorem crcBursts_holds : Rows.CrcBurstsSaid := LCrcBursts.over
#print axioms crcBursts_holds
end Go.Proofs.Yteiafdokbhigoaa

