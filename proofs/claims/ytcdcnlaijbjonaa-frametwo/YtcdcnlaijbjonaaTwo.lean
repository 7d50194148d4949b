/- Proved: FrameTwo: two frames, one behind the other, are no frame; for every two frames. Condition: none of our own. -/
import Derived.Test.YtcdcnlaijbjonaaAw
import Derived.ProofKit
import Derived.ChangeOld
import Derived.SizedLaws
namespace Go.Proofs.Ytcdcnlaijbjonaa.LFrameTwo
open Go.RowKit

theorem two_new (w : World) (f g : Fr) : FAt ((w.alloc (.cells (fc f) 23)).alloc (.cells (fc g) 23)) w.heap.size f ∧ FAt ((w.alloc (.cells (fc f) 23)).alloc (.cells (fc g) 23)) (w.heap.size + 1) g ∧ Keep w ((w.alloc (.cells (fc f) 23)).alloc (.cells (fc g) 23)) := by
  have s1 : (w.alloc (.cells (fc f) 23)).heap.size = w.heap.size + 1 := by simp
  refine ⟨(FAt.new w f).keep ((Keep.refl _).alloc _), ?_, ((Keep.refl w).alloc _).alloc _⟩
  rw [← s1]
  exact FAt.new _ g
set_option maxRecDepth 100000 in
set_option maxHeartbeats 2000000 in
theorem walk (f g : Fr) (w : World) (hqf : ArgF f) (hqg : ArgF g) :
    Calls Try.prog 7 #[.agg (fc f), .agg (fc g)] w fun e w' => e = .returned (.bool true) ∧ Keep w w' := by
  have HA := Lib.hid awake
  obtain ⟨hF, hG, hK⟩ := two_new w f g
  have HF := Lib.hid hF
  have HG := Lib.hid hG
  have HK := Lib.hid hK
  obtain ⟨n, hn⟩ : ∃ n, n = 6 := ⟨6, rfl⟩
  have hsz : ∀ w, (Go.sizeOf 23).run Try.prog w = .ok n w := fun w => by rw [hn]; exact Try.sizeOf23 w
  have hn0 : ¬ n = 0 := by omega
  have HN := Lib.hid hn
  have HQf := Lib.hid (fun w => qright f hqf.data w)
  have HQg := Lib.hid (fun w => qright g hqg.data w)
  clear hn hF hG hK
  by_cases hrf : rightF f
  · rw [decide_eq_true hrf] at HQf
    by_cases hrg : rightF g
    · rw [decide_eq_true hrg] at HQg
      have HSZ := Lib.hid (fun f => (show (fc f).size = n by rw [HN.out]; rfl))
      obtain ⟨hz, _⟩ := zero_of_info infoF
      have HPN := Lib.hid put_new
      have HPf := Lib.hid (fun w => dprint_ok f hrf w)
      have HPg := Lib.hid (fun w => dprint_ok g hrg w)
      have hlf := bytesF_len f
      have hlg := bytesF_len g
      have hdf : f.data.length ≤ 65000 := hrf.2.2.2.2.2
      have hdg : g.data.length ≤ 65000 := hrg.2.2.2.2.2
      have r1 := fun w => dread (bytesF f ++ bytesF g) (by rw [List.length_append]; omega) w
      rw [read_more f hdf (bytesF g) (fun h => by rw [h] at hlg; simp at hlg; omega)] at r1
      have R1 := Lib.hid r1
      have ha := app_list (bytesF f) (bytesF g)
      have hlf2 : (bytesF f).length ≤ 70000 := by omega
      have hlg2 : (bytesF g).length ≤ 70000 := by omega
      clear hqf hqg hrf hrg r1 hlf hlg
      go_enter Try.func7, Try.ntmps7
      generalize bytesF f = S at *
      generalize bytesF g = T at *
      generalize S ++ T = X at *
      go_wp2_with fail
      refine (HA.out _).mono ?_
      rintro e w1 ⟨rfl, k1⟩
      have HF1 := Lib.hid (HF.out.keep k1)
      have HG1 := Lib.hid (HG.out.keep k1)
      have hf1 := HF1.out.whole HN.out
      have HK1 := Lib.hid (HK.out.trans k1)
      clear k1 HF HG HK
      go_wp2_with fail
      refine (HQf.out _).mono ?_
      rintro e w2 ⟨rfl, k2⟩
      have HF2 := Lib.hid (HF1.out.keep k2)
      have HG2 := Lib.hid (HG1.out.keep k2)
      have hg2 := HG2.out.whole HN.out
      have HK2 := Lib.hid (HK1.out.trans k2)
      clear k2 HF1 HG1 HK1 hf1
      go_wp2_with fail
      refine (HQg.out _).mono ?_
      rintro e w3 ⟨rfl, k3⟩
      have HF3 := Lib.hid (HF2.out.keep k3)
      have HG3 := Lib.hid (HG2.out.keep k3)
      have hf3 := HF3.out.whole HN.out
      have hg3 := HG3.out.whole HN.out
      have HK3 := Lib.hid (HK2.out.trans k3)
      clear k3 HF2 HG2 HK2 hg2
      go_wp2_with fail
      refine (HPf.out _).mono ?_
      rintro e w4 ⟨rfl, k4⟩
      have HF4 := Lib.hid (HF3.out.keep k4)
      have HG4 := Lib.hid (HG3.out.keep k4)
      have HK4 := Lib.hid (HK3.out.trans k4)
      have hg4 := HG4.out.whole HN.out
      clear k4 HF3 HG3 HK3 hf3 hg3
      go_wp2_with fail
      refine (HPg.out _).mono ?_
      rintro e w5 ⟨rfl, k5⟩
      have HF5 := Lib.hid (HF4.out.keep k5)
      have HG5 := Lib.hid (HG4.out.keep k5)
      have HK5 := Lib.hid (HK4.out.trans k5)
      clear k5 HF4 HG4 HK4 hg4
      go_wp2_with fail
      refine (R1.out _).mono ?_
      rintro e w6 ⟨rfl, k6⟩
      obtain ⟨hst6, _, q6⟩ := HPN.out w6 zeroF
      have hz6 := HSZ.out zeroF
      have HK6 := Lib.hid ((HK5.out.trans k6).trans q6)
      clear k6 q6 HK5 HF5 HG5
      go_wp2
      go_ret
      exact ⟨rfl, HK6.out⟩
    · rw [decide_eq_false hrg] at HQg
      clear hqf hqg hrf hrg
      go_enter Try.func7, Try.ntmps7
      go_wp2_with fail
      refine (HA.out _).mono ?_
      rintro e w1 ⟨rfl, k1⟩
      have HF1 := Lib.hid (HF.out.keep k1)
      have HG1 := Lib.hid (HG.out.keep k1)
      have hf1 := HF1.out.whole HN.out
      have HK1 := Lib.hid (HK.out.trans k1)
      clear k1 HF HG HK
      go_wp2_with fail
      refine (HQf.out _).mono ?_
      rintro e w2 ⟨rfl, k2⟩
      have HF2 := Lib.hid (HF1.out.keep k2)
      have HG2 := Lib.hid (HG1.out.keep k2)
      have hg2 := HG2.out.whole HN.out
      have HK2 := Lib.hid (HK1.out.trans k2)
      clear k2 HF1 HG1 HK1 hf1
      go_wp2_with fail
      refine (HQg.out _).mono ?_
      rintro e w3 ⟨rfl, k3⟩
      have HF3 := Lib.hid (HF2.out.keep k3)
      have HG3 := Lib.hid (HG2.out.keep k3)
      have hf3 := HF3.out.whole HN.out
      have hg3 := HG3.out.whole HN.out
      have HK3 := Lib.hid (HK2.out.trans k3)
      clear k3 HF2 HG2 HK2 hg2
      go_wp2_with fail
      refine (HA.out _).mono ?_
      rintro e wz ⟨rfl, kz⟩
      have HKz := Lib.hid (HK3.out.trans kz)
      clear kz
      go_wp2
      go_ret
      exact ⟨rfl, HKz.out⟩
  · rw [decide_eq_false hrf] at HQf
    clear hqf hqg hrf
    go_enter Try.func7, Try.ntmps7
    go_wp2_with fail
    refine (HA.out _).mono ?_
    rintro e w1 ⟨rfl, k1⟩
    have HF1 := Lib.hid (HF.out.keep k1)
    have HG1 := Lib.hid (HG.out.keep k1)
    have hf1 := HF1.out.whole HN.out
    have HK1 := Lib.hid (HK.out.trans k1)
    clear k1 HF HG HK
    go_wp2_with fail
    refine (HQf.out _).mono ?_
    rintro e w2 ⟨rfl, k2⟩
    have HF2 := Lib.hid (HF1.out.keep k2)
    have HG2 := Lib.hid (HG1.out.keep k2)
    have hg2 := HG2.out.whole HN.out
    have HK2 := Lib.hid (HK1.out.trans k2)
    clear k2 HF1 HG1 HK1 hf1
    go_wp2_with fail
    refine (HA.out _).mono ?_
    rintro e wz ⟨rfl, kz⟩
    have HKz := Lib.hid (HK2.out.trans kz)
    clear kz
    go_wp2
    go_ret
    exact ⟨rfl, HKz.out⟩

open Go.ChangeShapes Go.WideShapes Go.ChangeAt
theorem own : ownKnob Try.prog.godebug = none := by kernel_rfl
theorem laidOut : laidOutB Try.prog = true := by kernel_rfl

set_option maxRecDepth 100000 in
theorem lifted (os : Os) (started : os.Started) (H : Type) (enc : TypeId × Value → H) :
    ReturnsInHanded {} Try.checked os 7 .any (Rows.frameTwoSpec.pre6 enc Try.prog Try.f7 Rows.frameTwoRow.domain false) (Rows.frameTwoSpec.post enc Try.prog Try.f7 false true false false) := by
  refine returnsInHanded_of_change (C := Try.checked) own started (by kernel_rfl) Try.func7
    (ChangeSpec.witness6 (enc := enc) (C := Try.checked) false ⟨#[], #[.agg (fc zeroF), .agg (fc zeroF)], []⟩ 8 (by kernel_rfl) (by kernel_rfl) (by kernel_rfl) (by kernel_rfl)) ?_
  intro W base args ds gs before hval0 hW hcnd _
  have hval : ∀ (j : Nat) t v, Try.f7.params[j]? = some t → args[j]? = some v → Value.okWide Try.prog W .any base t v := hval0
  have hW' := hW
  obtain ⟨p, q, hA0, hV, rfl, hfz, hnd⟩ := hW
  have hA : DataW.TrodAll enc Try.prog W 0 (fun _ => true) true Try.f7.params.toList args.toList ds p := hA0

  rw [Try.params7] at hA hval
  obtain ⟨v0, vs0, d0, ds0, p0, q0, hargs, rfl, rfl, h0, r0⟩ := trodAll_cons hA
  obtain ⟨v1, vs1, d1, ds1, p1, q1, rfl, rfl, rfl, h1, r1⟩ := trodAll_cons r0
  obtain ⟨rfl, rfl, rfl⟩ := trodAll_nil r1
  obtain rfl : args = #[v0, v1] := by cases args; simp_all
  obtain ⟨rfl, rfl⟩ := trodVars_none hV
  have k0 := h0
  have lt0 : ∀ x ∈ p0, x.block < W.heap.size := by obtain ⟨m, hm⟩ := k0; exact DataW.trod_lt m _ _ _ hm
  have k1 := h1
  have lt1 : ∀ x ∈ p1, x.block < W.heap.size := by obtain ⟨m, hm⟩ := k1; exact DataW.trod_lt m _ _ _ hm
  obtain ⟨f0, rfl, q0⟩ := open_frame (hval 0 23 v0 rfl rfl) h0
  obtain ⟨f1, rfl, q1⟩ := open_frame (hval 1 23 v1 rfl rfl) h1
  clear hA0 hval0
  refine (walk f0 f1 W q0 q1).mono fun e W' ⟨he, bel⟩ => ?_
  subst he
  exact ⟨_, rfl, _, _, _, [], _, [], hW', trodAll_mk1 (shut_bool Try.underlying4 _), (trodAll_cons_mk (Below.trod laidOut (by kernel_rfl) (of_decide_eq_true (by kernel_rfl)) k0 bel lt0) (trodAll_cons_mk (Below.trod laidOut (by kernel_rfl) (of_decide_eq_true (by kernel_rfl)) k1 bel lt1) trodAll_mk0)), rfl, bel.frame _, fun h => by cases h⟩

theorem over : Rows.frameTwoRow.holds Try.pinned (OpenSpec.ofChange Rows.frameTwoSpec) :=
  OpenClaim.holds_of_wide 7 Try.f7 rfl rfl rfl rfl rfl rfl rfl ⟨rfl, rfl, rfl, rfl, rfl⟩ rfl rfl rfl rfl rfl (by kernel_rfl) Try.func7 (by kernel_rfl)
    (of_decide_eq_true (by kernel_rfl)) (by unfold Func.isWrapper; first | (rw [if_pos (by decide +kernel)]; kernel_rfl) | (rw [if_neg (by decide +kernel)]; exact ⟨rfl, rfl⟩))
    (fun os started H enc _ => lifted os started H enc)
end Go.Proofs.Ytcdcnlaijbjonaa.LFrameTwo

namespace Go.Proofs.Ytcdcnlaijbjonaa
theorem frameTwo_holds : Rows.FrameTwoSaid := LFrameTwo.over
#print axioms frameTwo_holds
end Go.Proofs.Ytcdcnlaijbjonaa

