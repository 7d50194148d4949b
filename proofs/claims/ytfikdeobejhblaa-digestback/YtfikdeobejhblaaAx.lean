/- Proved: the laws' first line, awake, answers true and turns nothing that was there. No condition. -/
import Derived.Test.YtfikdeobejhblaaAw
namespace Go.Proofs.Ytfikdeobejhblaa
open Go.RowKit

set_option maxRecDepth 100000 in
set_option maxHeartbeats 4000000 in
theorem awake : GivesK Try.prog 10 #[] (.bool true) := by
  intro w
  have HI1 := Lib.hid (lroute 1 10 (by omega))
  have HI2 := Lib.hid (lroute 2 200 (by omega))
  have HI3 := Lib.hid (lroute 2 10 (by omega))
  have HSL1 := Lib.hid (fun w => slice_two (rA 10 1) (rA 200 2) w)
  have HSL2 := Lib.hid (fun w => slice_two (rA 10 2) (rA 200 2) w)
  have HRow1 := Lib.hid (fun w => (Row.two w (rA 10 1) (rA 200 2)).cells)
  have HRow2 := Lib.hid (fun w => (Row.two w (rA 10 2) (rA 200 2)).cells)
  rw [show [rA 10 1, rA 200 2] = tA 1 from rfl] at HSL1 HRow1
  rw [show [rA 10 2, rA 200 2] = tA 2 from rfl] at HSL2 HRow2
  have HN1 := Lib.hid (fun (v : Value) (w : World) (h : Cells rl w v (tA 1)) => new_of v (tA 1) (tA 1) w h (by simp [tA]) (tA_new 1 (by omega) (by omega)) (tA_sorted 1) (List.Perm.refl _))
  have HN2 := Lib.hid (fun (v : Value) (w : World) (h : Cells rl w v (tA 2)) => new_of v (tA 2) (tA 2) w h (by simp [tA]) (tA_new 2 (by omega) (by omega)) (tA_sorted 2) (List.Perm.refl _))
  have HAl := Lib.hid (fun (b : Nat) (w : World) (h : Tb w b (tA 1)) => dall (.pointer (some ⟨b, 0, none⟩)) (tA 1) w (.inr ⟨b, rfl, h⟩))
  have HBl := Lib.hid (fun (b : Nat) (w : World) (h : Tb w b (tA 2)) => dall (.pointer (some ⟨b, 0, none⟩)) (tA 2) w (.inr ⟨b, rfl, h⟩))
  have HDi := Lib.hid (fun (u v : Value) (w : World) (hu : Cells dl w u (allD (tA 1))) (hv : Cells dl w v (allD (tA 2))) => ddiffer u v (allD (tA 1)) (allD (tA 2)) w (Lg.of hu) (Lg.of hv) (by rw [allD_len]; omega) (by rw [allD_len]; omega))
  rw [dif_A] at HDi
  have HPa := Lib.hid (fun (b : Nat) (w : World) (h : Tb w b (tA 2)) => dpart (.pointer (some ⟨b, 0, none⟩)) (tA 2) 0 w (.inr ⟨b, rfl, h⟩))
  rw [part_A] at HPa
  have HR0 := Lib.hid (fun (b : Nat) (v : Value) (w : World) (h : Tb w b (tA 1)) (hv : Cells rl w v [rA 10 2]) => drepl_ok h hv (by simp) rep_0 (tA_sorted 2) rep_0p)
  have HR17 := Lib.hid (fun (b : Nat) (w : World) (h : Tb w b (tA 1)) => drepl_no (k := 17) (v := .slice none 0 0) h (Cells.nil w) (by simp) rep_17 (by decide))
  have HR1 := Lib.hid (fun (b : Nat) (v : Value) (w : World) (h : Tb w b (tA 1)) (hv : Cells rl w v [rA 10 2]) => drepl_no h hv (by simp) rep_1 (by decide))
  have HPr := Lib.hid (fun (v : Value) (w : World) (h : Cells dl w v (allD (tA 1))) => dprint v (allD (tA 1)) w (Lg.of h) (all_sq _ (by simp [tA])) (by rw [allD_len]; omega))
  have HRd := Lib.hid (fun (w : World) => dread_ok w (by have := printD_len (allD (tA 1)) (all_sq _ (by simp [tA])); rw [allD_len] at this; omega) (back_D (allD_len (tA 1)) (all_right _ (by simp [tA]))))
  rw [allD_len] at HRd
  have HSa := Lib.hid (fun (b c : Nat) (w : World) (h : Tb w b (tA 2)) (h' : Tb w c (tA 2)) => same (.pointer (some ⟨b, 0, none⟩)) (.pointer (some ⟨c, 0, none⟩)) (tA 2) (tA 2) w (.inr ⟨b, rfl, h⟩) (.inr ⟨c, rfl, h'⟩))
  rw [show decide (tA 2 = tA 2) = true from decide_eq_true rfl] at HSa
  have HIn := Lib.hid (fun (u v : Value) (w : World) (hu : Cells nl w u [0]) (hv : Cells nl w v [0]) => ints9 u v [0] [0] w (Lg.of hu) (Lg.of hv) (by simp) (by simp))
  rw [show decide (([0] : List Nat) = [0]) = true from rfl] at HIn
  have HLk := Lib.hid (fun (v : Value) (w : World) (h : Cells dl w v (allD (tA 1))) => like9 v (allD (tA 1)) w (Lg.of h) (by rw [allD_len]; omega))
  have HS9 := Lib.hid (fun (u v : Value) (w : World) (hu : Cells dl w u (allD (tA 1))) (hv : Cells dl w v (allD (tA 1))) => same9 u v (allD (tA 1)) (allD (tA 1)) w (Lg.of hu) (Lg.of hv) (by rw [allD_len]; omega) (by rw [allD_len]; omega))
  rw [show decide (allD (tA 1) = allD (tA 1)) = true from decide_eq_true rfl] at HS9
  have HM1 := Lib.hid (dmark (rA 10 1))
  have HM3 := Lib.hid (dmark (rA 10 2))
  have HDN := Lib.hid (fun (v : Value) (w : World) (hv : Cells dl w v (allD (tA 1))) => ddiffer (.slice none 0 0) v [] (allD (tA 1)) w (Lg.of (Cells.nil w)) (Lg.of hv) (by simp) (by rw [allD_len]; omega))
  rw [dif_no] at HDN
  have hmk : (markOf (rA 10 1) != markOf (rA 10 2)) = true := by simpa using mark_A
  have HBu := Lib.hid buckets
  have HD0 := Lib.hid (show (allD (tA 1))[0]? = some (dgOf (tA 1) 0) from allD_get _ 0 (by omega))
  have HDn := Lib.hid (show (dgOf (tA 1) 0).n = 1 by unfold dgOf dgR; rw [show ((0 : Nat) : Int) = 0 from rfl, part_A]; rfl)
  have HLl := Lib.hid (allD_len (tA 1))
  generalize markOf (rA 10 1) = m1 at *
  generalize markOf (rA 10 2) = m3 at *
  generalize dgOf (tA 1) 0 = d0 at *
  generalize allD (tA 1) = X1 at *
  generalize allD (tA 2) = X2 at *
  generalize tA 1 = T1 at *
  generalize tA 2 = T2 at *
  generalize rA 10 1 = A1 at *
  generalize rA 200 2 = A2 at *
  generalize rA 10 2 = A3 at *
  go_enter Try.func10, Try.ntmps10
  go_wp2_with fail
  refine (HI1.out _).mono ?_
  rintro e w1 ⟨rfl, k1⟩
  go_wp2_with fail
  refine (HI2.out _).mono ?_
  rintro e w2 ⟨rfl, k2⟩
  have HK2 := Lib.hid ((k1.trans k2).alloc (.cells (flat rl T1).toArray 37))
  clear k1 k2
  go_wp2_with ((with_reducible refine at_slice [(0, .agg (rc A1)), (1, .agg (rc A2))] ?_ (.slice (some ⟨w2.heap.size, 0, none⟩) 2 2) (HSL1.out w2) ?_); rfl)
  refine (HN1.out _ _ (HRow1.out w2)).mono ?_
  rintro e w3 ⟨b, rfl, _, ht3, k3⟩
  have HT3 := Lib.hid ht3
  have HK3 := Lib.hid (HK2.out.trans k3)
  clear k3 ht3 HK2
  go_wp2_with fail
  refine (HI3.out _).mono ?_
  rintro e w4 ⟨rfl, k4⟩
  go_wp2_with fail
  refine (HI2.out _).mono ?_
  rintro e w5 ⟨rfl, k5⟩
  have hk5 := (k4.trans k5).alloc (.cells (flat rl T2).toArray 37)
  have HT5 := Lib.hid (HT3.out.keep hk5)
  have HK5 := Lib.hid (HK3.out.trans hk5)
  clear k4 k5 hk5 HT3 HK3
  go_wp2_with ((with_reducible refine at_slice [(0, .agg (rc A3)), (1, .agg (rc A2))] ?_ (.slice (some ⟨w5.heap.size, 0, none⟩) 2 2) (HSL2.out w5) ?_); rfl)
  refine (HN2.out _ _ (HRow2.out w5)).mono ?_
  rintro e w6 ⟨c, rfl, _, hu6, k6⟩
  have HT6 := Lib.hid (HT5.out.keep k6)
  have HU6 := Lib.hid hu6
  have HK6 := Lib.hid (HK5.out.trans k6)
  clear k6 hu6 HT5 HK5
  go_wp2_with fail
  refine (HAl.out b w6 HT6.out).mono ?_
  rintro e w7 ⟨gx, rfl, o7, k7⟩
  have HX7 := Lib.hid (o7.row elD).cells
  have HT7 := Lib.hid (HT6.out.keep k7)
  have HU7 := Lib.hid (HU6.out.keep k7)
  have HK7 := Lib.hid (HK6.out.trans k7)
  clear o7 k7 HT6 HU6 HK6
  go_wp2_with fail
  refine (HBl.out c w7 HU7.out).mono ?_
  rintro e w8 ⟨gy, rfl, o8, k8⟩
  have HY8 := Lib.hid (o8.row elD).cells
  have HX8 := Lib.hid (HX7.out.keep k8)
  have HT8 := Lib.hid (HT7.out.keep k8)
  have HU8 := Lib.hid (HU7.out.keep k8)
  have HK8 := Lib.hid (HK7.out.trans k8)
  clear o8 k8 HT7 HU7 HK7 HX7
  go_wp2_with fail
  refine (HDi.out _ _ w8 HX8.out HY8.out).mono ?_
  rintro e w9 ⟨vl, rfl, o9, k9⟩
  have HL9 := Lib.hid (o9.row elN).cells
  have HX9 := Lib.hid (HX8.out.keep k9)
  have HT9 := Lib.hid (HT8.out.keep k9)
  have HU9 := Lib.hid (HU8.out.keep k9)
  have HK9 := Lib.hid (HK8.out.trans k9)
  clear o9 k9 HT8 HU8 HK8 HX8 HY8
  go_wp2_with fail
  refine (HPa.out c w9 HU9.out).mono ?_
  rintro e wa ⟨va, rfl, ra, ka⟩
  have HPa1 := Lib.hid ra.cells
  have HLa := Lib.hid (HL9.out.keep ka)
  have HXa := Lib.hid (HX9.out.keep ka)
  have HTa := Lib.hid (HT9.out.keep ka)
  have HUa := Lib.hid (HU9.out.keep ka)
  have HKa := Lib.hid (HK9.out.trans ka)
  clear ra ka HT9 HU9 HK9 HX9 HL9
  go_wp2_with fail
  refine (HR0.out b va wa HTa.out HPa1.out).mono ?_
  rintro e wb ⟨cc, rfl, _, hcb, kb⟩
  have HCb := Lib.hid hcb
  have HLb := Lib.hid (HLa.out.keep kb)
  have HXb := Lib.hid (HXa.out.keep kb)
  have HTb := Lib.hid (HTa.out.keep kb)
  have HUb := Lib.hid (HUa.out.keep kb)
  have HKb := Lib.hid (HKa.out.trans kb)
  clear hcb kb HTa HUa HKa HXa HLa HPa1
  go_wp2_with fail
  refine (HPr.out _ wb HXb.out).mono ?_
  rintro e wc ⟨rfl, kc⟩
  go_wp2_with fail
  refine (HRd.out wc).mono ?_
  rintro e wd ⟨gd, cd, rfl, od, kd⟩
  have hkd := kc.trans kd
  have HDd := Lib.hid (od.row elD).cells
  have HCd := Lib.hid (HCb.out.keep hkd)
  have HLd := Lib.hid (HLb.out.keep hkd)
  have HXd := Lib.hid (HXb.out.keep hkd)
  have HTd := Lib.hid (HTb.out.keep hkd)
  have HUd := Lib.hid (HUb.out.keep hkd)
  have HKd := Lib.hid (HKb.out.trans hkd)
  clear od kc kd hkd HCb HTb HUb HKb HXb HLb
  go_wp2_with fail
  refine (HR17.out b wd HTd.out).mono ?_
  rintro e we ⟨rfl, ke⟩
  have HDe := Lib.hid (HDd.out.keep ke)
  have HCe := Lib.hid (HCd.out.keep ke)
  have HLe := Lib.hid (HLd.out.keep ke)
  have HXe := Lib.hid (HXd.out.keep ke)
  have HTe := Lib.hid (HTd.out.keep ke)
  have HUe := Lib.hid (HUd.out.keep ke)
  have HKe := Lib.hid (HKd.out.trans ke)
  clear ke HDd HCd HTd HUd HKd HXd HLd
  go_wp2_with fail
  refine (HPa.out c we HUe.out).mono ?_
  rintro e wf ⟨vf, rfl, rf, kf⟩
  go_wp2_with fail
  refine (HR1.out b vf wf (HTe.out.keep kf) rf.cells).mono ?_
  rintro e wg ⟨rfl, kg⟩
  have hkg := kf.trans kg
  have HDg := Lib.hid (HDe.out.keep hkg)
  have HCg := Lib.hid (HCe.out.keep hkg)
  have HLg := Lib.hid (HLe.out.keep hkg)
  have HXg := Lib.hid (HXe.out.keep hkg)
  have HUg := Lib.hid (HUe.out.keep hkg)
  have HKg := Lib.hid (HKe.out.trans hkg)
  have hdn := (show Cells dl wg (.slice (some ⟨gx, 0, none⟩) X1.length 17) X1 from by rw [HLl.out]; exact HXg.out).dn rfl 0 d0 HD0.out
  rw [HDn.out] at hdn
  clear rf kf kg hkg HDe HCe HTe HUe HKe HXe HLe
  go_wp2_with fail
  have hkh : Keep wg (wg.alloc (.cells #[.int .i64 0] 3)) := (Keep.refl wg).alloc _
  refine (HIn.out vl _ _ (HLg.out.keep hkh) (show Cells nl (wg.alloc (.cells #[.int .i64 0] 3)) (.slice (some ⟨wg.heap.size, 0, none⟩) 1 1) [0] from Cells.one 0)).mono ?_
  rintro e wh ⟨rfl, kh⟩
  have hkh2 := hkh.trans kh
  have HDh := Lib.hid (HDg.out.keep hkh2)
  have HCh := Lib.hid (HCg.out.keep hkh2)
  have HXh := Lib.hid (HXg.out.keep hkh2)
  have HUh := Lib.hid (HUg.out.keep hkh2)
  have HKh := Lib.hid (HKg.out.trans hkh2)
  clear kh hkh hkh2 HDg HCg HUg HKg HXg HLg hdn
  go_wp2_with fail
  refine (HSa.out cc c wh HCh.out HUh.out).mono ?_
  rintro e wi ⟨rfl, ki⟩
  have HDi9 := Lib.hid (HDh.out.keep ki)
  have HXi := Lib.hid (HXh.out.keep ki)
  have HKi := Lib.hid (HKh.out.trans ki)
  clear ki HDh HCh HUh HKh HXh
  go_wp2_with fail
  refine (HLk.out _ wi HXi.out).mono ?_
  rintro e wj ⟨vj, rfl, oj, kj⟩
  go_wp2_with fail
  refine (HS9.out _ vj wj (HDi9.out.keep kj) (oj.row elQ).cells).mono ?_
  rintro e wk ⟨rfl, kk⟩
  have HXk := Lib.hid (HXi.out.keep (kj.trans kk))
  have HKk := Lib.hid (HKi.out.trans (kj.trans kk))
  clear oj kj kk HDi9 HXi HKi
  go_wp2_with fail
  refine (HBu.out wk).mono ?_
  rintro e wm ⟨rfl, km⟩
  go_wp2_with fail
  refine (HI1.out wm).mono ?_
  rintro e wn ⟨rfl, kn⟩
  go_wp2_with fail
  refine (HM1.out wn).mono ?_
  rintro e wo ⟨rfl, ko⟩
  go_wp2_with fail
  refine (HI3.out wo).mono ?_
  rintro e wp ⟨rfl, kp⟩
  go_wp2_with fail
  refine (HM3.out wp).mono ?_
  rintro e wq ⟨rfl, kq⟩
  have hkq := km.trans (kn.trans (ko.trans (kp.trans kq)))
  have HXq := Lib.hid (HXk.out.keep hkq)
  have HKq := Lib.hid (HKk.out.trans hkq)
  clear km kn ko kp kq hkq HXk HKk
  go_wp2_with fail
  refine (HDN.out _ wq HXq.out).mono ?_
  rintro e wr ⟨vr, rfl, or, kr⟩
  obtain ⟨ar, cr, er, _, _⟩ := (or.row elN).cells.form
  rw [List.length_range] at er
  subst er
  have HKr := Lib.hid (HKq.out.trans kr)
  clear or kr HXq HKq
  go_wp2
  go_ret
  exact ⟨rfl, HKr.out⟩
end Go.Proofs.Ytfikdeobejhblaa
