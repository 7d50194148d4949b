/- Proved: the laws' first line, awake, answers true and turns nothing that was there. No condition. -/
import Derived.Test.YtpimecnpdpcceaaGreatAw
namespace Go.Proofs.YtpimecnpdpcceaaGreat
open Go.RowKit

set_option maxRecDepth 100000 in
set_option maxHeartbeats 1000000 in
theorem awake : GivesK Tryz.prog 6 #[] (.bool true) := by
  intro w
  have HF1 := Lib.hid (four 10 0 8 (by omega) (by omega) (by omega))
  have HF2 := Lib.hid (four 10 1 16 (by omega) (by omega) (by omega))
  have HB1 := Lib.hid (fun w => build_way (fourP 10 0 8) (fourP_len _ _ _) 1 w)
  have HB2 := Lib.hid (fun w => build_way (fourP 10 1 16) (fourP_len _ _ _) 2 w)
  have HSL := Lib.hid (fun w => slice_two r1 r2 w)
  have HRow := Lib.hid (fun w => Row.two w r1 r2)
  have HNew := Lib.hid (fun w => new_of _ [r1, r2] [r1, r2] _ (Row.two w r1 r2).cells (by simp) new_12 sort_12 (List.Perm.refl _))
  have HPr := Lib.hid (fun (b : Nat) (w : World) (h : Tb w b [r1, r2]) => dprint (.pointer (some ⟨b, 0, none⟩)) [r1, r2] w (.inr ⟨b, rfl, h⟩) rok_12)
  have HPk := Lib.hid (fun (b : Nat) (w : World) (h : Tb w b [r1, r2]) => dpack (.pointer (some ⟨b, 0, none⟩)) [r1, r2] w (.inr ⟨b, rfl, h⟩) rok_12)
  have HRd := Lib.hid (fun w => dread_dump sort_12 rok_12 (by simp) w)
  have HUn := Lib.hid (fun (p : List UInt8) (hp : Packs (Dm.dumpL codP ([r1, r2].map rwOf)) p) w => dunpack_pack sort_12 rok_12 (by simp) hp w)
  have HSm := Lib.hid (fun (b c : Nat) (w : World) (h1 : Tb w b [r1, r2]) (h2 : Tb w c [r1, r2]) => same (.pointer (some ⟨b, 0, none⟩)) (.pointer (some ⟨c, 0, none⟩)) [r1, r2] [r1, r2] w (.inr ⟨b, rfl, h1⟩) (.inr ⟨c, rfl, h2⟩))
  have HR1 := Lib.hid (fun w => dread_no read_1 (by simp) w)
  have HR0 := Lib.hid (fun w => dread_no read_00 (by simp) w)
  have HNil := Lib.hid (fun w => dprint (.pointer none) [] w (.inl ⟨rfl, rfl⟩) (by simp))
  rw [dump_12] at HPr HRd
  rw [dump_nil] at HNil
  have e1 : (⟨fourP 10 0 8, 1, 0, fourP_len _ _ _⟩ : Rt) = r1 := rfl
  have e2 : (⟨fourP 10 1 16, 2, 0, fourP_len _ _ _⟩ : Rt) = r2 := rfl
  rw [e1] at HB1
  rw [e2] at HB2
  clear e1 e2
  go_enter Tryz.func6, Tryz.ntmps6
  go_wp2_with fail
  refine (HF1.out _).mono ?_
  rintro e w1 ⟨rfl, k1⟩
  go_wp2_with (first | (refine at_build [(0, .agg (pc (fourP 10 0 8))), (1, .int .i64 1)] rfl _ (HB1.out _) ?_) | fail)
  refine (HF2.out _).mono ?_
  rintro e w2 ⟨rfl, k2⟩
  have HK2 := Lib.hid ((k1.trans k2).alloc (.cells (flat rl [r1, r2]).toArray 44))
  clear k1 k2
  go_wp2_with (first | (refine at_build [(0, .agg (pc (fourP 10 1 16))), (1, .int .i64 2)] rfl _ (HB2.out _) ?_) | (refine at_slice [(0, .agg (rc r1)), (1, .agg (rc r2))] rfl _ (HSL.out _) ?_) | fail)
  refine (HNew.out w2).mono ?_
  rintro e w3 ⟨b, rfl, _, ht3, k3⟩
  have HK3 := Lib.hid (HK2.out.trans k3)
  have HT3 := Lib.hid ht3
  clear k3 ht3
  go_wp2_with fail
  refine (HPr.out b w3 HT3.out).mono ?_
  rintro e w4 ⟨rfl, k4⟩
  have HK4 := Lib.hid (HK3.out.trans k4)
  have HT4 := Lib.hid (HT3.out.keep k4)
  clear k4
  go_wp2_with fail
  refine (HRd.out w4).mono ?_
  rintro e w5 ⟨u, rfl, htu, k5⟩
  have HK5 := Lib.hid (HK4.out.trans k5)
  have HT5 := Lib.hid (HT4.out.keep k5)
  have HU5 := Lib.hid htu
  clear k5 htu
  go_wp2_with fail
  refine (HPk.out b w5 HT5.out).mono ?_
  rintro e w6 ⟨p, rfl, hp, k6⟩
  have HK6 := Lib.hid (HK5.out.trans k6)
  have HT6 := Lib.hid (HT5.out.keep k6)
  have HU6 := Lib.hid (HU5.out.keep k6)
  have HP := Lib.hid hp
  clear k6 hp
  go_wp2_with fail
  refine (HUn.out p HP.out w6).mono ?_
  rintro e w7 ⟨v, rfl, htv, k7⟩
  have HK7 := Lib.hid (HK6.out.trans k7)
  have HT7 := Lib.hid (HT6.out.keep k7)
  have HU7 := Lib.hid (HU6.out.keep k7)
  have HV7 := Lib.hid htv
  clear k7 htv
  go_wp2_with fail
  refine (HR1.out w7).mono ?_
  rintro e w8 ⟨rfl, k8⟩
  have HK8 := Lib.hid (HK7.out.trans k8)
  have HT8 := Lib.hid (HT7.out.keep k8)
  have HU8 := Lib.hid (HU7.out.keep k8)
  have HV8 := Lib.hid (HV7.out.keep k8)
  clear k8
  go_wp2_with fail
  refine (HR0.out w8).mono ?_
  rintro e w9 ⟨rfl, k9⟩
  have HK9 := Lib.hid (HK8.out.trans k9)
  have HT9 := Lib.hid (HT8.out.keep k9)
  have HU9 := Lib.hid (HU8.out.keep k9)
  have HV9 := Lib.hid (HV8.out.keep k9)
  clear k9
  go_wp2_with fail
  refine (HSm.out b u w9 HT9.out HU9.out).mono ?_
  rintro e wa ⟨rfl, ka⟩
  simp only [decide_true]
  have HKa := Lib.hid (HK9.out.trans ka)
  have HTa := Lib.hid (HT9.out.keep ka)
  have HVa := Lib.hid (HV9.out.keep ka)
  clear ka
  go_wp2_with fail
  refine (HSm.out b v wa HTa.out HVa.out).mono ?_
  rintro e wb ⟨rfl, kb⟩
  simp only [decide_true]
  have HKb := Lib.hid (HKa.out.trans kb)
  clear kb
  go_wp2_with fail
  refine (HNil.out wb).mono ?_
  rintro e wc ⟨rfl, kc⟩
  have HKc := Lib.hid (HKb.out.trans kc)
  clear kc
  go_wp2
  go_ret
  exact ⟨rfl, HKc.out⟩
end Go.Proofs.YtpimecnpdpcceaaGreat
