/- Proved: the laws' first line, awake, answers true and turns nothing that was there. No condition. -/
import Derived.Test.YtgkgpdlakamgiaaGreatAw
namespace Go.Proofs.YtgkgpdlakamgiaaGreat
open Go.RowKit

set_option maxRecDepth 100000 in
set_option maxHeartbeats 4000000 in
theorem awake : GivesK Tryz.prog 7 #[] (.bool true) := by
  intro w
  have HI1 := Lib.hid (iinc 1 3 5 (by omega))
  have HI2 := Lib.hid (iinc 3 0 5 (by omega))
  have HI3 := Lib.hid (iinc 1 1 1 (by omega))
  have HI4 := Lib.hid (iinc 2 2 2 (by omega))
  have HI5 := Lib.hid (iinc 2 2 1 (by omega))
  have HI6 := Lib.hid (iinc 1 2 1 (by omega))
  have HSL1 := Lib.hid (fun w => slice_inc2 (iA 1 5 3) (iA 3 5 0) w)
  have HSL2 := Lib.hid (fun w => slice_inc2 (iA 1 1 1) (iA 2 2 2) w)
  have HSL3 := Lib.hid (fun w => slice_inc (iA 1 1 1) w)
  have HSL4 := Lib.hid (fun w => slice_inc (iA 2 1 2) w)
  have HPr := Lib.hid (fun (v : Value) (w : World) (h : Cells il w v row1) => iprint v row1 w (Ls.of h) row1_sq (by simp [row1]))
  rw [row1_print] at HPr
  have HRd := Lib.hid (fun (w : World) => iread_ok w (by simp) row1_read)
  have HNew := Lib.hid (fun (w : World) => new_of (.slice none 0 0) [] [] w (Cells.nil w) (by simp) new_nil Sorted.nil (List.Perm.refl _))
  have HF1 := Lib.hid (fun (b : Nat) (v : Value) (w : World) (ht : Tb w b []) (h : Cells il w v row1) => ifold_ok ht (Ls.of h) (by simp [row1]) fold1)
  have HF2 := Lib.hid (fun (b : Nat) (v : Value) (w : World) (ht : Tb w b []) (h : Cells il w v row2) => ifold_no ht (Ls.of h) (by simp [row2]) fold2 (by decide))
  have HM1 := Lib.hid (fun (u v : Value) (w : World) (hu : Cells il w u [iA 1 1 1]) (hv : Cells il w v [iA 2 1 2]) => imerge_ok hu hv (by simp) mg1)
  have HM2 := Lib.hid (fun (u : Value) (w : World) (hu : Cells il w u row1) => imerge_ok hu (Cells.nil w) (by simp [row1]) mg2)
  have HM3 := Lib.hid (fun (u v : Value) (w : World) (hu : Cells il w u [iA 1 1 1]) (hv : Cells il w v [iA 1 1 1]) => imerge_no hu hv (by simp) mg3)
  have HLen := Lib.hid (fun (b : Nat) (w : World) (ht : Tb w b []) => len_at (.pointer (some ⟨b, 0, none⟩)) [] w (.inr ⟨b, rfl, ht⟩))
  rw [show (⟨1, rA 5 3⟩ : Ic) = iA 1 5 3 from rfl] at HI1
  rw [show (⟨3, rA 5 0⟩ : Ic) = iA 3 5 0 from rfl] at HI2
  rw [show (⟨1, rA 1 1⟩ : Ic) = iA 1 1 1 from rfl] at HI3
  rw [show (⟨2, rA 2 2⟩ : Ic) = iA 2 2 2 from rfl] at HI4
  rw [show (⟨2, rA 1 2⟩ : Ic) = iA 2 1 2 from rfl] at HI5
  rw [show (⟨1, rA 1 2⟩ : Ic) = iA 1 1 2 from rfl] at HI6
  obtain ⟨n, hn⟩ : ∃ n, n = 21 := ⟨21, rfl⟩
  have hsz : ∀ w, (Go.sizeOf 59).run Tryz.prog w = .ok n w := fun w => by rw [hn]; exact Tryz.sizeOf59 w
  have hn0 : ¬ n = 0 := by omega
  have HN := Lib.hid hn
  clear hn
  have heq : ∀ w, (Op.equalIn 10000 59 (.agg (ic (iA 1 1 2))) (.agg (ic (iA 1 1 2)))).run Tryz.prog w = .ok true w := fun w => by
    have := eq_ic 9994 (iA 1 1 2) (iA 1 1 2) w
    simpa using this
  have HRow1 := Lib.hid (fun w => (Row.inc2 w (iA 1 5 3) (iA 3 5 0)).cells)
  have HRow2 := Lib.hid (fun w => (Row.inc2 w (iA 1 1 1) (iA 2 2 2)).cells)
  have HRow3 := Lib.hid (fun w => (Row.inc w (iA 1 1 1)).cells)
  have HRow4 := Lib.hid (fun w => (Row.inc w (iA 2 1 2)).cells)
  have HE1 := Lib.hid (show [iA 1 5 3, iA 3 5 0] = row1 from rfl)
  have HE2 := Lib.hid (show [iA 1 1 1, iA 2 2 2] = row2 from rfl)
  rw [HE1.out] at HRow1 HSL1
  rw [HE2.out] at HRow2 HSL2
  have HLl := Lib.hid (show row1.length = 2 from rfl)
  have HLl2 := Lib.hid (show row2.length = 2 from rfl)
  generalize hw1 : row1 = R1 at *
  generalize hw2 : row2 = R2 at *
  have HMI1 := Lib.hid (fun (m : List Ic) (h : IsMg [⟨false, iA 2 1 2⟩] m) => mg1_is h)
  have HMI2 := Lib.hid (fun (m : List Ic) (h : IsMg [⟨false, iA 3 5 0⟩] m) => mg2_is h)
  generalize iA 1 5 3 = A1 at *
  generalize iA 3 5 0 = A2 at *
  generalize iA 1 1 1 = A3 at *
  generalize iA 2 2 2 = A4 at *
  generalize iA 2 1 2 = A5 at *
  generalize iA 1 1 2 = A6 at *
  clear hw1 hw2
  go_enter Tryz.func7, Tryz.ntmps7
  go_wp2_with fail
  refine (HI1.out _).mono ?_
  rintro e w1 ⟨rfl, k1⟩
  go_wp2_with fail
  refine (HI2.out _).mono ?_
  rintro e w2 ⟨rfl, k2⟩
  have HK2 := Lib.hid ((k1.trans k2).alloc (.cells (flat il R1).toArray 59))
  clear k1 k2
  go_wp2_with ((with_reducible refine at_slice [(0, .agg (ic A1)), (1, .agg (ic A2))] ?_ (.slice (some ⟨w2.heap.size, 0, none⟩) 2 2) (HSL1.out w2) ?_); rfl)
  refine (HPr.out _ _ (HRow1.out w2)).mono ?_
  rintro e w3 ⟨rfl, k3⟩
  have HK3 := Lib.hid (HK2.out.trans k3)
  clear k3 HK2
  go_wp2_with fail
  refine (HRd.out w3).mono ?_
  rintro e w4 ⟨vl, rfl, ol, k4⟩
  have HC4 := Lib.hid (ol.row elI).cells
  obtain ⟨la, lc, el, _, _⟩ := HC4.out.form
  rw [HLl.out] at el
  subst el
  have HK4 := Lib.hid (HK3.out.trans k4)
  clear k4 ol HK3
  go_wp2_with fail
  refine (HNew.out w4).mono ?_
  rintro e w5 ⟨b, rfl, _, ht5, k5⟩
  have HT5 := Lib.hid ht5
  have HC5 := Lib.hid (HC4.out.keep k5)
  have HK5 := Lib.hid (HK4.out.trans k5)
  clear k5 ht5 HK4 HC4
  go_wp2_with fail
  refine (HF1.out b _ w5 HT5.out HC5.out).mono ?_
  rintro e w6 ⟨c, rfl, _, hc6, k6⟩
  rw [HLl.out]
  have HT6 := Lib.hid (HT5.out.keep k6)
  have HC6 := Lib.hid (HC5.out.keep k6)
  have HU6 := Lib.hid hc6
  have HK6 := Lib.hid (HK5.out.trans k6)
  clear k6 hc6 HK5 HC5 HT5
  go_wp2_with fail
  refine (HI3.out _).mono ?_
  rintro e w7 ⟨rfl, k7⟩
  go_wp2_with fail
  refine (HI4.out _).mono ?_
  rintro e w8 ⟨rfl, k8⟩
  have hk8 := (k7.trans k8).alloc (.cells (flat il R2).toArray 59)
  have HT8 := Lib.hid (HT6.out.keep hk8)
  have HC8 := Lib.hid (HC6.out.keep hk8)
  have HU8 := Lib.hid (HU6.out.keep hk8)
  have HK8 := Lib.hid (HK6.out.trans hk8)
  clear k7 k8 hk8 HT6 HC6 HU6 HK6
  go_wp2_with ((with_reducible refine at_slice [(0, .agg (ic A3)), (1, .agg (ic A4))] ?_ (.slice (some ⟨w8.heap.size, 0, none⟩) 2 2) (HSL2.out w8) ?_); rfl)
  refine (HF2.out b _ _ HT8.out (HRow2.out w8)).mono ?_
  rintro e w9 ⟨rfl, k9⟩
  have HC9 := Lib.hid (HC8.out.keep k9)
  have HU9 := Lib.hid (HU8.out.keep k9)
  have HK9 := Lib.hid (HK8.out.trans k9)
  clear k9 HT8 HC8 HU8 HK8
  go_wp2_with fail
  refine (HI3.out _).mono ?_
  rintro e wa ⟨rfl, ka⟩
  have hka := ka.alloc (.cells (ic A3) 59)
  have HCa := Lib.hid (HC9.out.keep hka)
  have HUa := Lib.hid (HU9.out.keep hka)
  have HKa := Lib.hid (HK9.out.trans hka)
  have HXa := Lib.hid (HRow3.out wa)
  clear ka hka HC9 HU9 HK9
  go_wp2_with ((with_reducible refine at_slice [(0, .agg (ic A3))] ?_ (.slice (some ⟨wa.heap.size, 0, none⟩) 1 1) (HSL3.out wa) ?_); rfl)
  refine (HI5.out _).mono ?_
  rintro e wb ⟨rfl, kb⟩
  have hkb := kb.alloc (.cells (ic A5) 59)
  have HCb := Lib.hid (HCa.out.keep hkb)
  have HUb := Lib.hid (HUa.out.keep hkb)
  have HKb := Lib.hid (HKa.out.trans hkb)
  have HXb := Lib.hid (HXa.out.keep hkb)
  have HYb := Lib.hid (HRow4.out wb)
  clear kb hkb HCa HUa HKa HXa
  go_wp2_with ((with_reducible refine at_slice [(0, .agg (ic A5))] ?_ (.slice (some ⟨wb.heap.size, 0, none⟩) 1 1) (HSL4.out wb) ?_); rfl)
  refine (HM1.out _ _ _ HXb.out HYb.out).mono ?_
  rintro e wc ⟨z, m, rfl, hz, hm, kc⟩
  have hme := HMI1.out m hm
  subst hme
  have HZc := Lib.hid hz.cells
  have HCc := Lib.hid (HCb.out.keep kc)
  have HUc := Lib.hid (HUb.out.keep kc)
  have HKc := Lib.hid (HKb.out.trans kc)
  clear kc hz hm HCb HUb HKb HXb HYb
  obtain ⟨zg, zo, zc, ez, _, _, _⟩ := HZc.out.ptr 0 (by simp)
  simp only [List.length_cons, List.length_nil, Nat.zero_add] at ez
  subst ez
  go_wp2_with fail
  refine (HM2.out _ _ HCc.out).mono ?_
  rintro e wd ⟨z2, m2, rfl, hz2, hm2, kd⟩
  have hme2 := HMI2.out m2 hm2
  subst hme2
  obtain ⟨za, zca, ez2, _, _⟩ := hz2.cells.form
  simp only [List.length_nil] at ez2
  subst ez2
  have HZd := Lib.hid (HZc.out.keep kd)
  have HUd := Lib.hid (HUc.out.keep kd)
  have HKd := Lib.hid (HKc.out.trans kd)
  clear kd hz2 hm2 HZc HCc HUc HKc
  go_wp2_with fail
  refine (HI3.out _).mono ?_
  rintro e we ⟨rfl, ke⟩
  have hke := ke.alloc (.cells (ic A3) 59)
  have HZe := Lib.hid (HZd.out.keep hke)
  have HUe := Lib.hid (HUd.out.keep hke)
  have HKe := Lib.hid (HKd.out.trans hke)
  have HXe := Lib.hid (HRow3.out we)
  clear ke hke HZd HUd HKd
  go_wp2_with ((with_reducible refine at_slice [(0, .agg (ic A3))] ?_ (.slice (some ⟨we.heap.size, 0, none⟩) 1 1) (HSL3.out we) ?_); rfl)
  refine (HI3.out _).mono ?_
  rintro e wf ⟨rfl, kf⟩
  have hkf := kf.alloc (.cells (ic A3) 59)
  have HZf := Lib.hid (HZe.out.keep hkf)
  have HUf := Lib.hid (HUe.out.keep hkf)
  have HKf := Lib.hid (HKe.out.trans hkf)
  have HXf := Lib.hid (HXe.out.keep hkf)
  have HYf := Lib.hid (HRow3.out wf)
  clear kf hkf HZe HUe HKe HXe
  go_wp2_with ((with_reducible refine at_slice [(0, .agg (ic A3))] ?_ (.slice (some ⟨wf.heap.size, 0, none⟩) 1 1) (HSL3.out wf) ?_); rfl)
  refine (HM3.out _ _ _ HXf.out HYf.out).mono ?_
  rintro e wg ⟨rfl, kg⟩
  have HZg := Lib.hid (HZf.out.keep kg)
  have HUg := Lib.hid (HUf.out.keep kg)
  have HKg := Lib.hid (HKf.out.trans kg)
  clear kg HZf HUf HKf HXf HYf
  have HLk := Lib.hid (fun (w' : World) (k : Keep wg w') => HLen.out c w' (HUg.out.keep k))
  have hld : ∀ u : KW wg, (loadCellsFrom ⟨zg, zo, none⟩ 0 n #[]).run Tryz.prog u.1 = .ok (ic A6) u.1 := fun u => by
    have := Cells.ic (l := [A6]) (HZg.out.keep u.2) HN.out 0 A6 rfl
    simpa using this
  clear HUg HZg
  go_wp2_with fail
  refine wp_region_keep (Keep.refl _) (by kernel_rfl) (by kernel_rfl) ?_
  repeat (first | go_big_quiet_step (fail) | quiet_step (fail))
  first | go_big_quiet_step (exact keep_at HLk.out _) | quiet_step (exact keep_at HLk.out _)
  repeat (first | go_big_quiet_step (fail) | quiet_step (fail))
  first | go_big_quiet_step (exact HI6.out.at _) | quiet_step (exact HI6.out.at _)
  repeat (first | go_big_quiet_step (fail) | quiet_step (fail))
  refine wpQuiet_nil ?_
  rintro w6 ⟨⟨w7, b7⟩, rfl⟩
  have HKi := Lib.hid (HKg.out.trans b7)
  clear hld b7 HKg
  go_wp2
  go_ret
  exact ⟨rfl, HKi.out⟩
end Go.Proofs.YtgkgpdlakamgiaaGreat
