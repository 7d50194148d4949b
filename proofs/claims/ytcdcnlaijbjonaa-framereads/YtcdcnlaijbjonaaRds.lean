/- Proved: FrameReads: any bytes are the frame that the document says, or are refused as it says; written again it is the same bytes; for every text. Condition: none of our own. -/
import Derived.Test.YtcdcnlaijbjonaaAw
import Derived.ProofKit
import Derived.ChangeOld
import Derived.ShutString
import Derived.SizedLaws
namespace Go.Proofs.Ytcdcnlaijbjonaa.LFrameReads
open Go.RowKit

set_option maxRecDepth 100000 in
set_option maxHeartbeats 2000000 in
theorem walk (s : List UInt8) (w : World) (hs : s.length ≤ 9223372036854775807) : Calls Try.prog 4 #[.string ⟨s.toArray⟩] w fun e w' => e = .returned (.bool true) ∧ Keep w w' := by
  have HA := Lib.hid awake
  by_cases hbig : 3000 < s.length
  · go_enter Try.func4, Try.ntmps4
    go_wp2_with fail
    refine (HA.out _).mono ?_
    rintro e w1 ⟨rfl, k1⟩
    have HK1 := Lib.hid k1
    clear k1
    go_wp2_with fail
    refine (HA.out _).mono ?_
    rintro e w2 ⟨rfl, k2⟩
    have HK2 := Lib.hid (HK1.out.trans k2)
    clear k2
    go_wp2
    go_ret
    exact ⟨rfl, HK2.out⟩
  · obtain ⟨n, hn⟩ : ∃ n, n = 6 := ⟨6, rfl⟩
    have hsz : ∀ w, (Go.sizeOf 23).run Try.prog w = .ok n w := fun w => by rw [hn]; exact Try.sizeOf23 w
    have hn0 : ¬ n = 0 := by omega
    have HN := Lib.hid hn
    obtain ⟨hz, _⟩ := zero_of_info infoF
    have hD := fun w => dread s (by omega) w
    have hQ := fun w => qread s (by omega) w
    have HPN := Lib.hid put_new
    have hall : (readF s).2 = 0 ∧ (∀ w, Calls Try.prog 9 #[.agg (fc (readF s).1)] w fun e w' => e = .returned (.tuple #[.string ⟨s.toArray⟩, .int .i64 0]) ∧ Keep w w') ∨ ((readF s).2 != 0) = true ∧ (∀ w, Calls Try.prog 9 #[.agg (fc (readF s).1)] w fun e w' => e = .returned (.tuple #[.string ⟨#[]⟩, .int .i64 1]) ∧ Keep w w') := by
      rcases read_cases s with h | h
      · obtain ⟨h1, h2, _⟩ := read_ok s h
        refine .inl ⟨h, fun w => ?_⟩
        have := dprint_ok _ h1 w
        rwa [h2] at this
      · rcases h with h | h | h | h <;> (rw [h]; exact .inr ⟨rfl, fun w => dprint_no zeroF zeroF_sq zeroF_no w⟩)
    have heq : ∀ w, (Op.equalIn 10000 23 (.agg (fc (readF s).1)) (.agg (fc (readF s).1))).run Try.prog w = .ok true w := fun w => by
      have := eq_fc 9997 (readF s).1 (readF s).1 w
      rwa [decide_eq_true rfl] at this
    have hzF : (fc (readF s).1).size = n := by rw [hn]; rfl
    generalize (readF s).1 = f at *
    generalize (readF s).2 = c at *
    have HD := Lib.hid hD
    have HQ := Lib.hid hQ
    clear hn hD hQ
    rcases hall with ⟨hc, hP⟩ | ⟨hc, hP⟩
    · subst hc
      have HP := Lib.hid hP
      clear hP
      go_enter Try.func4, Try.ntmps4
      go_wp2_with fail
      refine (HA.out _).mono ?_
      rintro e w1 ⟨rfl, k1⟩
      have HK1 := Lib.hid k1
      clear k1
      go_wp2_with fail
      refine (HD.out _).mono ?_
      rintro e w2 ⟨rfl, k2⟩
      obtain ⟨hst2, hA2, q2⟩ := HPN.out w2 f
      have HA2 := Lib.hid hA2
      have HK2 := Lib.hid ((HK1.out.trans k2).trans q2)
      clear k2 q2 hA2 HK1
      go_wp2_with fail
      generalize (w2.alloc (.cells (fc zeroF) 23)).setRow w2.heap.size (fc f) = wA at *
      generalize w2.heap.size = bA at *
      refine (HQ.out _).mono ?_
      rintro e w3 ⟨rfl, k3⟩
      obtain ⟨hst3, hA3, q3⟩ := HPN.out w3 f
      have HB3 := Lib.hid hA3
      have HA3 := Lib.hid ((HA2.out.keep k3).keep q3)
      have HK3 := Lib.hid ((HK2.out.trans k3).trans q3)
      have hl3 := HA3.out.whole HN.out
      have hl3b := hA3.whole HN.out
      clear k3 q3 hA3 HK2 HA2 hst2
      go_wp2_with fail
      generalize (w3.alloc (.cells (fc zeroF) 23)).setRow w3.heap.size (fc f) = wB at *
      generalize w3.heap.size = bB at *
      refine (HP.out _).mono ?_
      rintro e w6 ⟨rfl, k6⟩
      have HK6 := Lib.hid (HK3.out.trans k6)
      clear k6 HK3 HA3 HB3 hst3 hl3 hl3b
      go_wp2
      go_ret
      exact ⟨rfl, HK6.out⟩
    · have HP := Lib.hid hP
      clear hP
      go_enter Try.func4, Try.ntmps4
      go_wp2_with fail
      refine (HA.out _).mono ?_
      rintro e w1 ⟨rfl, k1⟩
      have HK1 := Lib.hid k1
      clear k1
      go_wp2_with fail
      refine (HD.out _).mono ?_
      rintro e w2 ⟨rfl, k2⟩
      obtain ⟨hst2, hA2, q2⟩ := HPN.out w2 f
      have HA2 := Lib.hid hA2
      have HK2 := Lib.hid ((HK1.out.trans k2).trans q2)
      clear k2 q2 hA2 HK1
      go_wp2_with fail
      generalize (w2.alloc (.cells (fc zeroF) 23)).setRow w2.heap.size (fc f) = wA at *
      generalize w2.heap.size = bA at *
      refine (HQ.out _).mono ?_
      rintro e w3 ⟨rfl, k3⟩
      obtain ⟨hst3, hA3, q3⟩ := HPN.out w3 f
      have HB3 := Lib.hid hA3
      have HA3 := Lib.hid ((HA2.out.keep k3).keep q3)
      have HK3 := Lib.hid ((HK2.out.trans k3).trans q3)
      have hl3 := HA3.out.whole HN.out
      have hl3b := hA3.whole HN.out
      clear k3 q3 hA3 HK2 HA2 hst2
      go_wp2_with fail
      generalize (w3.alloc (.cells (fc zeroF) 23)).setRow w3.heap.size (fc f) = wB at *
      generalize w3.heap.size = bB at *
      refine (HP.out _).mono ?_
      rintro e w6 ⟨rfl, k6⟩
      have HK6 := Lib.hid (HK3.out.trans k6)
      clear k6 HK3 HA3 HB3 hst3 hl3 hl3b
      go_wp2
      go_ret
      exact ⟨rfl, HK6.out⟩

open Go.ChangeShapes Go.WideShapes Go.ChangeAt
theorem own : ownKnob Try.prog.godebug = none := by kernel_rfl
theorem laidOut : laidOutB Try.prog = true := by kernel_rfl

set_option maxRecDepth 100000 in
theorem lifted (os : Os) (started : os.Started) (H : Type) (enc : TypeId × Value → H) :
    ReturnsInHanded {} Try.checked os 4 .any (Rows.frameReadsSpec.pre6 enc Try.prog Try.f4 Rows.frameReadsRow.domain false) (Rows.frameReadsSpec.post enc Try.prog Try.f4 false true false false) := by
  refine returnsInHanded_of_change (C := Try.checked) own started (by kernel_rfl) Try.func4
    (ChangeSpec.witness6 (enc := enc) (C := Try.checked) false ⟨#[], #[.string ⟨#[]⟩], []⟩ 8 (by kernel_rfl) (by kernel_rfl) (by kernel_rfl) (by kernel_rfl)) ?_
  intro W base args ds gs before hval0 hW hcnd _
  have hval : ∀ (j : Nat) t v, Try.f4.params[j]? = some t → args[j]? = some v → Value.okWide Try.prog W .any base t v := hval0
  have hW' := hW
  obtain ⟨p, q, hA0, hV, rfl, hfz, hnd⟩ := hW
  have hA : DataW.TrodAll enc Try.prog W 0 (fun _ => true) true Try.f4.params.toList args.toList ds p := hA0

  rw [Try.params4] at hA hval
  obtain ⟨v0, vs0, d0, ds0, p0, q0, hargs, rfl, rfl, h0, r0⟩ := trodAll_cons hA
  obtain ⟨rfl, rfl, rfl⟩ := trodAll_nil r0
  obtain rfl : args = #[v0] := by cases args; simp_all
  obtain ⟨rfl, rfl⟩ := trodVars_none hV
  have k0 := h0
  have lt0 : ∀ x ∈ p0, x.block < W.heap.size := by obtain ⟨m, hm⟩ := k0; exact DataW.trod_lt m _ _ _ hm
  obtain ⟨a0, rfl, _, _, w0⟩ := Go.ChangeMaps.open_string Try.underlying9 (hval 0 9 v0 rfl rfl) h0
  clear hA0 hval0
  refine (walk a0.data.toList W (by simpa [maxLen] using w0)).mono fun e W' ⟨he, bel⟩ => ?_
  subst he
  exact ⟨_, rfl, _, _, _, [], _, [], hW', trodAll_mk1 (shut_bool Try.underlying4 _), (trodAll_cons_mk (Below.trod laidOut (by kernel_rfl) (of_decide_eq_true (by kernel_rfl)) k0 bel lt0) trodAll_mk0), rfl, bel.frame _, fun h => by cases h⟩

theorem over : Rows.frameReadsRow.holds Try.pinned (OpenSpec.ofChange Rows.frameReadsSpec) :=
  OpenClaim.holds_of_wide 4 Try.f4 rfl rfl rfl rfl rfl rfl rfl ⟨rfl, rfl, rfl, rfl, rfl⟩ rfl rfl rfl rfl rfl (by kernel_rfl) Try.func4 (by kernel_rfl)
    (of_decide_eq_true (by kernel_rfl)) (by unfold Func.isWrapper; first | (rw [if_pos (by decide +kernel)]; kernel_rfl) | (rw [if_neg (by decide +kernel)]; exact ⟨rfl, rfl⟩))
    (fun os started H enc _ => lifted os started H enc)
end Go.Proofs.Ytcdcnlaijbjonaa.LFrameReads

namespace Go.Proofs.Ytcdcnlaijbjonaa
theorem frameReads_holds : Rows.FrameReadsSaid := LFrameReads.over
#print axioms frameReads_holds
end Go.Proofs.Ytcdcnlaijbjonaa

