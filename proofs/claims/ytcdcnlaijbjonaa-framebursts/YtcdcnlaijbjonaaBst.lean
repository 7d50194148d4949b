/- Proved: FrameBursts: a frame of which up to 32 bits in a row are turned, or that is cut off anywhere, or has more behind it, is none; for every frame, place, bits and text. Condition: none of our own. -/
import Derived.Test.YtcdcnlaijbjonaaAw
import Derived.ProofKit
import Derived.ChangeOld
import Derived.ShutString
import Derived.SizedLaws
namespace Go.Proofs.Ytcdcnlaijbjonaa.LFrameBursts
open Go.RowKit

theorem or_lt (b : Nat) (hb : b < 4294967296) : b ||| 1 < 4294967296 := Nat.or_lt_two_pow (n := 32) hb (by decide)
theorem or_bit (b : Nat) : (b ||| 1).testBit 0 = true := by simp
theorem orI (b : Nat) (hb : b < 4294967296) : bits .or .u32 (b : Int) 1 = ((b ||| 1 : Nat) : Int) := by
  have := u32_or_nat b 1 hb (by omega)
  exact this

set_option maxRecDepth 100000 in
set_option maxHeartbeats 2000000 in
theorem walk (f : Fr) (p : Int) (b : Nat) (m : List UInt8) (w : World) (hq : ArgF f) (_hp : (Lit.int .i64 p).wf = true) (hb : b < 4294967296) (hm : m.length ≤ 9223372036854775807) :
    Calls Try.prog 5 #[.agg (fc f), .int .i64 p, .int .u32 b, .string ⟨m.toArray⟩] w fun e w' => e = .returned (.bool true) ∧ Keep w w' := by
  have HA := Lib.hid awake
  have hF := FAt.new w f
  have HK := Lib.hid (show Keep w (w.alloc (.cells (fc f) 23)) from (Keep.refl w).alloc _)
  have HF := Lib.hid hF
  have hdl := hq.data
  obtain ⟨n, hn⟩ : ∃ n, n = 6 := ⟨6, rfl⟩
  have hsz : ∀ w, (Go.sizeOf 23).run Try.prog w = .ok n w := fun w => by rw [hn]; exact Try.sizeOf23 w
  have hn0 : ¬ n = 0 := by omega
  have HN := Lib.hid hn
  have HQ := Lib.hid (fun w => qright f hq.data w)
  clear hn hF
  by_cases hr : rightF f
  · rw [decide_eq_true hr] at HQ
    by_cases hbig : 2000 < f.data.length
    · have hbi : (f.data.length : Int) > 2000 := by omega
      clear hq hr _hp
      go_enter Try.func5, Try.ntmps5
      go_wp2_with fail
      refine (HA.out _).mono ?_
      rintro e w1 ⟨rfl, k1⟩
      have HF1 := Lib.hid (HF.out.keep k1)
      have hl1 := HF1.out.whole HN.out
      have HK1 := Lib.hid (HK.out.trans k1)
      clear k1 HF HK
      go_wp2_with fail
      refine (HQ.out _).mono ?_
      rintro e w2 ⟨rfl, k2⟩
      have HF2 := Lib.hid (HF1.out.keep k2)
      have hd2 := HF2.out.data
      have hl2 := HF2.out.whole HN.out
      have HK2 := Lib.hid (HK1.out.trans k2)
      clear k2 HF1 HK1 hl1
      go_wp2_with fail
      refine (HA.out _).mono ?_
      rintro e w3 ⟨rfl, k3⟩
      have HK3 := Lib.hid (HK2.out.trans k3)
      clear k3
      go_wp2
      go_ret
      exact ⟨rfl, HK3.out⟩
    · have hbi : ¬ (f.data.length : Int) > 2000 := by omega
      by_cases hlm : 100 < m.length
      · have hlmi : (m.length : Int) > 100 := by omega
        clear hq hr _hp
        go_enter Try.func5, Try.ntmps5
        go_wp2_with fail
        refine (HA.out _).mono ?_
        rintro e w1 ⟨rfl, k1⟩
        have HF1 := Lib.hid (HF.out.keep k1)
        have hl1 := HF1.out.whole HN.out
        have HK1 := Lib.hid (HK.out.trans k1)
        clear k1 HF HK
        go_wp2_with fail
        refine (HQ.out _).mono ?_
        rintro e w2 ⟨rfl, k2⟩
        have HF2 := Lib.hid (HF1.out.keep k2)
        have hd2 := HF2.out.data
        have hl2 := HF2.out.whole HN.out
        have HK2 := Lib.hid (HK1.out.trans k2)
        clear k2 HF1 HK1 hl1
        go_wp2_with fail
        refine (HA.out _).mono ?_
        rintro e w3 ⟨rfl, k3⟩
        have HK3 := Lib.hid (HK2.out.trans k3)
        clear k3
        go_wp2
        go_ret
        exact ⟨rfl, HK3.out⟩
      · have hlmi : ¬ (m.length : Int) > 100 := by omega
        by_cases hm0 : m = []
        · subst hm0
          clear hq hr _hp
          go_enter Try.func5, Try.ntmps5
          go_wp2_with fail
          refine (HA.out _).mono ?_
          rintro e w1 ⟨rfl, k1⟩
          have HF1 := Lib.hid (HF.out.keep k1)
          have hl1 := HF1.out.whole HN.out
          have HK1 := Lib.hid (HK.out.trans k1)
          clear k1 HF HK
          go_wp2_with fail
          refine (HQ.out _).mono ?_
          rintro e w2 ⟨rfl, k2⟩
          have HF2 := Lib.hid (HF1.out.keep k2)
          have hd2 := HF2.out.data
          have hl2 := HF2.out.whole HN.out
          have HK2 := Lib.hid (HK1.out.trans k2)
          clear k2 HF1 HK1 hl1
          go_wp2_with fail
          refine (HA.out _).mono ?_
          rintro e w3 ⟨rfl, k3⟩
          have HK3 := Lib.hid (HK2.out.trans k3)
          clear k3
          go_wp2
          go_ret
          exact ⟨rfl, HK3.out⟩
        · have hme : m.isEmpty = false := by simpa using hm0
          have HSZ := Lib.hid (fun f => (show (fc f).size = n by rw [HN.out]; rfl))
          obtain ⟨hz, _⟩ := zero_of_info infoF
          have HPN := Lib.hid put_new
          have HP := Lib.hid (fun w => dprint_ok f hr w)
          have hlen := bytesF_len f
          have hor := orI b hb
          have hol := or_lt b hb
          have hob := or_bit b
          obtain ⟨k, hk⟩ : ∃ k : Nat, (k : Int) = (p % 18446744073709551616) % ((8 * (bytesF f).length : Nat) : Int) := ⟨((p % 18446744073709551616) % ((8 * (bytesF f).length : Nat) : Int)).toNat, by
            have := Int.emod_nonneg (p % 18446744073709551616) (b := ((8 * (bytesF f).length : Nat) : Int)) (by omega)
            omega⟩
          have hk8 : k < 8 * (bytesF f).length := by
            have := Int.emod_lt_of_pos (p % 18446744073709551616) (b := ((8 * (bytesF f).length : Nat) : Int)) (by omega)
            omega
          have hk2 : wrap64 ((IntKind.u64.wrap p).tmod (8 * ((bytesF f).length : Int))) = (k : Int) := by
            rw [IntKind.wrap_u64, Int.tmod_eq_emod_of_nonneg (by omega), show (8 * ((bytesF f).length : Int)) = ((8 * (bytesF f).length : Nat) : Int) by omega, ← hk]
            unfold wrap64
            omega
          have c20 := (flip (bytesF f) k (b ||| 1) (by omega) hol (by omega) (by omega)).keep
          have eb : K.big k (b ||| 1) = 2 ^ k * (b ||| 1) := by unfold K.big; rw [if_pos (by omega)]; rfl
          rw [eb] at c20
          have HFl := Lib.hid c20
          have hG := read_burst f k (b ||| 1) 0 hol hob (by omega)
          have hC := read_cut f (by omega) (k / 8) (by omega)
          have hM := read_more f (by omega) m hm0
          have r1 := fun w => dread (K.xorN (bytesF f) (2 ^ k * (b ||| 1))) (by rw [K.xorN_len]; omega) w
          have r2 := fun w => dread ((bytesF f).take (k / 8)) (by rw [List.length_take]; omega) w
          have r3 := fun w => dread (bytesF f ++ m) (by rw [List.length_append]; omega) w
          rw [hM] at r3
          have hcE : ∃ c, readF ((bytesF f).take (k / 8)) = (zeroF, c) ∧ (c = 3 ∨ c = 4) := by
            rcases hC with h | h
            · exact ⟨3, h, .inl rfl⟩
            · exact ⟨4, h, .inr rfl⟩
          obtain ⟨c2, e2, hc2⟩ := hcE
          rw [e2] at r2
          have hx := ext_take (bytesF f) (k / 8)
          have ha := app_list (bytesF f) m
          have hki : (k : Int) / 8 ≤ ((bytesF f).length : Int) := by omega
          have hlb : (bytesF f).length ≤ 5000 := by omega
          have R1 := Lib.hid r1
          have R2 := Lib.hid r2
          have R3 := Lib.hid r3
          have HC2 := Lib.hid hc2
          clear hq hr _hp hlen hob eb c20 hC hM r1 r2 r3 e2 hc2 hk
          generalize (readF (K.xorN (bytesF f) (2 ^ k * (b ||| 1)))).1 = f1 at *
          generalize (readF (K.xorN (bytesF f) (2 ^ k * (b ||| 1)))).2 = c1 at *
          generalize K.xorN (bytesF f) (2 ^ k * (b ||| 1)) = U at *
          generalize (bytesF f).take (k / 8) = V at *
          generalize bytesF f ++ m = X at *
          generalize b ||| 1 = b1 at *
          have HG := Lib.hid hG
          clear hG
          go_enter Try.func5, Try.ntmps5
          generalize bytesF f = S at *
          go_wp2_with fail
          refine (HA.out _).mono ?_
          rintro e w1 ⟨rfl, k1⟩
          have HF1 := Lib.hid (HF.out.keep k1)
          have hl1 := HF1.out.whole HN.out
          have HK1 := Lib.hid (HK.out.trans k1)
          clear k1 HF HK
          go_wp2_with fail
          refine (HQ.out _).mono ?_
          rintro e w2 ⟨rfl, k2⟩
          have HF2 := Lib.hid (HF1.out.keep k2)
          have hd2 := HF2.out.data
          have hl2 := HF2.out.whole HN.out
          have HK2 := Lib.hid (HK1.out.trans k2)
          clear k2 HF1 HK1 hl1
          go_wp2_with fail
          refine (HP.out _).mono ?_
          rintro e w3 ⟨rfl, k3⟩
          have HK3 := Lib.hid (HK2.out.trans k3)
          clear k3 HK2 HF2 hd2 hl2
          go_wp2_with fail
          refine (HFl.out _).mono ?_
          rintro e w4 ⟨rfl, k4⟩
          have HK4 := Lib.hid (HK3.out.trans k4)
          clear k4 HK3
          go_wp2_with fail
          refine (R1.out _).mono ?_
          rintro e w5 ⟨rfl, k5⟩
          obtain ⟨hst5, _, q5⟩ := HPN.out w5 f1
          have hz5 := HSZ.out f1
          have HK5 := Lib.hid ((HK4.out.trans k5).trans q5)
          clear k5 q5 HK4
          go_wp2_with fail
          generalize (w5.alloc (.cells (fc zeroF) 23)).setRow w5.heap.size (fc f1) = wA at *
          generalize w5.heap.size = bA at *
          refine (R2.out _).mono ?_
          rintro e w6 ⟨rfl, k6⟩
          obtain ⟨hst6, _, q6⟩ := HPN.out w6 zeroF
          have hz6 := HSZ.out zeroF
          have HK6 := Lib.hid ((HK5.out.trans k6).trans q6)
          clear k6 q6 HK5 hst5
          go_wp2_with fail
          generalize (w6.alloc (.cells (fc zeroF) 23)).setRow w6.heap.size (fc zeroF) = wB at *
          generalize w6.heap.size = bB at *
          refine (R3.out _).mono ?_
          rintro e w7 ⟨rfl, k7⟩
          obtain ⟨hst7, _, q7⟩ := HPN.out w7 zeroF
          have HK7 := Lib.hid ((HK6.out.trans k7).trans q7)
          clear k7 q7 HK6 hst6
          rcases HG.out with g | g <;> rcases HC2.out with h | h <;> (subst g; subst h; go_wp2; go_ret; exact ⟨rfl, HK7.out⟩)
  · rw [decide_eq_false hr] at HQ
    clear hq hr _hp
    go_enter Try.func5, Try.ntmps5
    go_wp2_with fail
    refine (HA.out _).mono ?_
    rintro e w1 ⟨rfl, k1⟩
    have HF1 := Lib.hid (HF.out.keep k1)
    have hl1 := HF1.out.whole HN.out
    have HK1 := Lib.hid (HK.out.trans k1)
    clear k1 HF HK
    go_wp2_with fail
    refine (HQ.out _).mono ?_
    rintro e w2 ⟨rfl, k2⟩
    have HF2 := Lib.hid (HF1.out.keep k2)
    have hd2 := HF2.out.data
    have hl2 := HF2.out.whole HN.out
    have HK2 := Lib.hid (HK1.out.trans k2)
    clear k2 HF1 HK1 hl1
    go_wp2_with fail
    refine (HA.out _).mono ?_
    rintro e w3 ⟨rfl, k3⟩
    have HK3 := Lib.hid (HK2.out.trans k3)
    clear k3
    go_wp2
    go_ret
    exact ⟨rfl, HK3.out⟩

open Go.ChangeShapes Go.WideShapes Go.ChangeAt
theorem own : ownKnob Try.prog.godebug = none := by kernel_rfl
theorem laidOut : laidOutB Try.prog = true := by kernel_rfl

set_option maxRecDepth 100000 in
theorem lifted (os : Os) (started : os.Started) (H : Type) (enc : TypeId × Value → H) :
    ReturnsInHanded {} Try.checked os 5 .any (Rows.frameBurstsSpec.pre6 enc Try.prog Try.f5 Rows.frameBurstsRow.domain false) (Rows.frameBurstsSpec.post enc Try.prog Try.f5 false true false false) := by
  refine returnsInHanded_of_change (C := Try.checked) own started (by kernel_rfl) Try.func5
    (ChangeSpec.witness6 (enc := enc) (C := Try.checked) false ⟨#[], #[.agg (fc zeroF), .int .i64 0, .int .u32 0, .string ⟨#[]⟩], []⟩ 8 (by kernel_rfl) (by kernel_rfl) (by kernel_rfl) (by kernel_rfl)) ?_
  intro W base args ds gs before hval0 hW hcnd _
  have hval : ∀ (j : Nat) t v, Try.f5.params[j]? = some t → args[j]? = some v → Value.okWide Try.prog W .any base t v := hval0
  have hW' := hW
  obtain ⟨p, q, hA0, hV, rfl, hfz, hnd⟩ := hW
  have hA : DataW.TrodAll enc Try.prog W 0 (fun _ => true) true Try.f5.params.toList args.toList ds p := hA0

  rw [Try.params5] at hA hval
  obtain ⟨v0, vs0, d0, ds0, p0, q0, hargs, rfl, rfl, h0, r0⟩ := trodAll_cons hA
  obtain ⟨v1, vs1, d1, ds1, p1, q1, rfl, rfl, rfl, h1, r1⟩ := trodAll_cons r0
  obtain ⟨v2, vs2, d2, ds2, p2, q2, rfl, rfl, rfl, h2, r2⟩ := trodAll_cons r1
  obtain ⟨v3, vs3, d3, ds3, p3, q3, rfl, rfl, rfl, h3, r3⟩ := trodAll_cons r2
  obtain ⟨rfl, rfl, rfl⟩ := trodAll_nil r3
  obtain rfl : args = #[v0, v1, v2, v3] := by cases args; simp_all
  obtain ⟨rfl, rfl⟩ := trodVars_none hV
  have k0 := h0
  have lt0 : ∀ x ∈ p0, x.block < W.heap.size := by obtain ⟨m, hm⟩ := k0; exact DataW.trod_lt m _ _ _ hm
  have k1 := h1
  have lt1 : ∀ x ∈ p1, x.block < W.heap.size := by obtain ⟨m, hm⟩ := k1; exact DataW.trod_lt m _ _ _ hm
  have k2 := h2
  have lt2 : ∀ x ∈ p2, x.block < W.heap.size := by obtain ⟨m, hm⟩ := k2; exact DataW.trod_lt m _ _ _ hm
  have k3 := h3
  have lt3 : ∀ x ∈ p3, x.block < W.heap.size := by obtain ⟨m, hm⟩ := k3; exact DataW.trod_lt m _ _ _ hm
  obtain ⟨f0, rfl, q0⟩ := open_frame (hval 0 23 v0 rfl rfl) h0
  obtain ⟨a1, rfl, _, _, w1⟩ := open_int Try.underlying3 (hval 1 3 v1 rfl rfl) h1
  obtain ⟨a2, rfl, _, _, w2⟩ := open_int Try.underlying35 (hval 2 35 v2 rfl rfl) h2
  have u2 := bounds_u32 w2
  obtain ⟨a2, rfl⟩ := Int.eq_ofNat_of_zero_le u2.1
  obtain ⟨a3, rfl, _, _, w3⟩ := Go.ChangeMaps.open_string Try.underlying9 (hval 3 9 v3 rfl rfl) h3
  clear hA0 hval0
  refine (walk f0 a1 a2 a3.data.toList W q0 w1 (by omega) (by simpa [maxLen] using w3)).mono fun e W' ⟨he, bel⟩ => ?_
  subst he
  exact ⟨_, rfl, _, _, _, [], _, [], hW', trodAll_mk1 (shut_bool Try.underlying4 _), (trodAll_cons_mk (Below.trod laidOut (by kernel_rfl) (of_decide_eq_true (by kernel_rfl)) k0 bel lt0) (trodAll_cons_mk (Below.trod laidOut (by kernel_rfl) (of_decide_eq_true (by kernel_rfl)) k1 bel lt1) (trodAll_cons_mk (Below.trod laidOut (by kernel_rfl) (of_decide_eq_true (by kernel_rfl)) k2 bel lt2) (trodAll_cons_mk (Below.trod laidOut (by kernel_rfl) (of_decide_eq_true (by kernel_rfl)) k3 bel lt3) trodAll_mk0)))), rfl, bel.frame _, fun h => by cases h⟩

theorem over : Rows.frameBurstsRow.holds Try.pinned (OpenSpec.ofChange Rows.frameBurstsSpec) :=
  OpenClaim.holds_of_wide 5 Try.f5 rfl rfl rfl rfl rfl rfl rfl ⟨rfl, rfl, rfl, rfl, rfl⟩ rfl rfl rfl rfl rfl (by kernel_rfl) Try.func5 (by kernel_rfl)
    (of_decide_eq_true (by kernel_rfl)) (by unfold Func.isWrapper; first | (rw [if_pos (by decide +kernel)]; kernel_rfl) | (rw [if_neg (by decide +kernel)]; exact ⟨rfl, rfl⟩))
    (fun os started H enc _ => lifted os started H enc)
end Go.Proofs.Ytcdcnlaijbjonaa.LFrameBursts

namespace Go.Proofs.Ytcdcnlaijbjonaa
theorem frameBursts_holds : Rows.FrameBurstsSaid := LFrameBursts.over
#print axioms frameBursts_holds
end Go.Proofs.Ytcdcnlaijbjonaa

