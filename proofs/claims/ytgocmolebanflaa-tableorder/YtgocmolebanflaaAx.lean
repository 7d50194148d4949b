/- Proved: the laws' first line (answers that the document fixes) answers true. No condition. -/
import Derived.Test.YtgocmolebanflaaAw
namespace Go.Proofs.Ytgocmolebanflaa
open Go.RowKit

def stA : Nat → List Rt
  | 0 => [rA 1 1, rA 2 2]
  | 1 => [rA 2 2]
  | 2 => [rA 2 3]
  | _ => [rA 2 3, rA 3 4]
def incA : List Ic := [⟨3, wd (rA 1 1)⟩, ⟨2, rA 2 3⟩, ⟨1, rA 3 4⟩]
theorem stA_step (k : Nat) (x : Ic) (h : incA[k]? = some x) : doS (stA k) x.kind x.route = (stA (k + 1), 0) := by
  match k, h with
  | 0, h => simp [incA] at h; subst h; exact do_1
  | 1, h => simp [incA] at h; subst h; exact do_2
  | 2, h => simp [incA] at h; subst h; exact do_3
  | k + 3, h => simp [incA] at h
theorem info43b : (Try.prog.info? 43).map (fun i => (i.zero, i.size)) = some (some (.agg (ic zeroI)), 21) := by kernel_rfl
theorem ic_one (i : Ic) : ∀ v ∈ (ic i).toList, v.oneCell' = true := by
  intro v hv
  exact il_one i v (by simpa [ic] using hv)
theorem IAt.store {w : World} {b : Nat} {z : Ic} (h : IAt w b z) (r : Ic) : (storeCells ⟨b, 0, none⟩ (ic r).toList).run Try.prog w = .ok () (w.setRow b (ic r)) := by
  have hsc := run_storeCells_from (P := Try.prog) b 43 (ic r).toList 0 (ic z) w h (by rw [ic_size z]; simp [ic_size r]) (ic_one r)
  rw [List.take_zero, List.nil_append, Array.toArray_toList] at hsc
  exact hsc
theorem IAt.put {w : World} {b : Nat} {z : Ic} (h : IAt w b z) (r : Ic) : IAt (w.setRow b (ic r)) b r := block_row h _
theorem Cells.ic {w : World} {g o cap n : Nat} {l : List Ic} (h : Cells il w (.slice (some ⟨g, o, none⟩) l.length cap) l) (hn : n = 21) (j : Nat) (x : Ic) (hx : l[j]? = some x) : (loadCellsFrom ⟨g, o + j * n, none⟩ 0 n #[]).run Try.prog w = .ok (Ytgocmolebanflaa.ic x) w := by
  have := h.load (P := Try.prog) (n := n) il_len j x hx 0 21 (il x) (by rw [List.drop_zero, List.take_of_length_le (by rw [il_len]; exact Nat.le_refl _)]) (by omega) hn
  rw [Nat.add_zero, ← hn] at this
  exact this
theorem Tp.of {w : World} {b : Nat} {l : List Rt} (h : Tb w b l) : Tp w (.pointer (some ⟨b, 0, none⟩)) l := .inr ⟨b, rfl, h⟩

def AwRel (W : World) (a b c : Nat) (v i : Value) (wr : World) : Prop := ∃ k : Nat, i = .int .i64 k ∧ k ≤ 3 ∧ Tb wr c (stA k) ∧ Tb wr a [rA 1 1, rA 2 2] ∧ Tb wr b [rA 2 3, rA 3 4] ∧ Row il 43 wr v incA ∧ Keep W wr

set_option maxRecDepth 100000 in
set_option maxHeartbeats 4000000 in
theorem awake : GivesK Try.prog 10 #[] (.bool true) := by
  intro w
  have F1 := Lib.hid (four 1 (by omega))
  have F2 := Lib.hid (four 2 (by omega))
  have F3 := Lib.hid (four 3 (by omega))
  have B22 := Lib.hid (build_way (fourP 2) (fourP_len 2) 2)
  have B11 := Lib.hid (build_way (fourP 1) (fourP_len 1) 1)
  have B23 := Lib.hid (build_way (fourP 2) (fourP_len 2) 3)
  have B34 := Lib.hid (build_way (fourP 3) (fourP_len 3) 4)
  have BB := Lib.hid (build_metric 65535)
  have SA := Lib.hid (slice_two (rA 2 2) (rA 1 1))
  have SB := Lib.hid (slice_two (rA 2 3) (rA 3 4))
  have SC := Lib.hid (slice_one rBig)
  have RA := Lib.hid (fun w => Row.two w (rA 2 2) (rA 1 1))
  have RB := Lib.hid (fun w => Row.two w (rA 2 3) (rA 3 4))
  have RC := Lib.hid (fun w => Row.one w rBig)
  rw [show (⟨fourP 2, 2, 0, fourP_len 2⟩ : Rt) = rA 2 2 from rfl] at B22
  rw [show (⟨fourP 1, 1, 0, fourP_len 1⟩ : Rt) = rA 1 1 from rfl] at B11
  rw [show (⟨fourP 2, 3, 0, fourP_len 2⟩ : Rt) = rA 2 3 from rfl] at B23
  rw [show (⟨fourP 3, 4, 0, fourP_len 3⟩ : Rt) = rA 3 4 from rfl] at B34
  rw [show (⟨zeroP, 65535, 0, zeroP_len⟩ : Rt) = rBig from rfl] at BB
  obtain ⟨P1, hP1⟩ : ∃ P, pc (fourP 1) = P := ⟨_, rfl⟩
  obtain ⟨P2, hP2⟩ : ∃ P, pc (fourP 2) = P := ⟨_, rfl⟩
  obtain ⟨P3, hP3⟩ : ∃ P, pc (fourP 3) = P := ⟨_, rfl⟩
  have HP1 := Lib.hid hP1
  have HP2 := Lib.hid hP2
  simp only [hP1] at F1 B11
  simp only [hP2] at F2 B22 B23
  simp only [hP3] at F3 B34
  clear hP1 hP2 hP3
  generalize rc (rA 2 2) = R22 at *
  generalize rc (rA 1 1) = R11 at *
  generalize rc (rA 2 3) = R23 at *
  generalize rc (rA 3 4) = R34 at *
  generalize rc rBig = RBg at *
  generalize (flat rl [rA 2 2, rA 1 1]).toArray = FA at *
  generalize (flat rl [rA 2 3, rA 3 4]).toArray = FB at *
  go_enter Try.func10, Try.ntmps10
  go_wp2_with fail
  refine (F2.out _).mono ?_
  rintro e w1 ⟨rfl, b1⟩
  go_wp2_with (refine at_build [(0, .agg P2), (1, .int .i64 2)] rfl _ (B22.out _) ?_)
  refine (F1.out _).mono ?_
  rintro e w2 ⟨rfl, b2⟩
  go_wp2_with (first | refine at_build [(0, .agg P1), (1, .int .i64 1)] rfl _ (B11.out _) ?_ | refine at_slice [(0, .agg R22), (1, .agg R11)] rfl _ (SA.out _) ?_)
  refine (new_of _ _ [rA 1 1, rA 2 2] _ (RA.out w2).cells (by simp) new_a sort_a (List.Perm.swap _ _ _)).mono ?_
  rintro e w3 ⟨a, rfl, ha, ta, b3⟩
  have haw : w.heap.size ≤ a := Nat.le_trans ((b1.trans b2).trans ((Keep.refl w2).alloc _)).size ha
  have HA := Lib.hid ta
  have HK3 := Lib.hid ((b1.trans b2).trans (((Keep.refl w2).alloc _).trans b3))
  clear ta b1 b2 b3 ha
  go_wp2_with fail
  refine (F2.out _).mono ?_
  rintro e w4 ⟨rfl, b4⟩
  go_wp2_with (refine at_build [(0, .agg P2), (1, .int .i64 3)] rfl _ (B23.out _) ?_)
  refine (F3.out _).mono ?_
  rintro e w5 ⟨rfl, b5⟩
  go_wp2_with (first | refine at_build [(0, .agg P3), (1, .int .i64 4)] rfl _ (B34.out _) ?_ | refine at_slice [(0, .agg R23), (1, .agg R34)] rfl _ (SB.out _) ?_)
  refine (new_of _ _ [rA 2 3, rA 3 4] _ (RB.out w5).cells (by simp) new_b sort_b (List.Perm.refl _)).mono ?_
  rintro e w6 ⟨b, rfl, hb, tb, b6⟩
  have hbk := Lib.hid ((b4.trans b5).trans (((Keep.refl w5).alloc _).trans b6))
  have HA6 := Lib.hid (HA.out.keep hbk.out)
  have HB6 := Lib.hid tb
  have HK6 := Lib.hid (HK3.out.trans hbk.out)
  clear tb b4 b5 b6 hb HA HK3 hbk
  go_wp2_with (first | refine at_build [(1, .int .i64 65535)] rfl _ (BB.out _) ?_ | refine at_slice [(0, .agg RBg)] rfl _ (SC.out _) ?_)
  refine (new_no _ [rBig] 1 _ (RC.out w6).cells (by simp) new_c (by decide)).mono ?_
  rintro e w7 ⟨rfl, b7⟩
  have hbk := Lib.hid (((Keep.refl w6).alloc _).trans b7)
  have HA7 := Lib.hid (HA6.out.keep hbk.out)
  have HB7 := Lib.hid (HB6.out.keep hbk.out)
  have HK7 := Lib.hid (HK6.out.trans hbk.out)
  clear b7 HA6 HB6 HK6 hbk B22 B11 B23 B34 BB SA SB SC RA RB RC F3
  go_wp2_with fail
  refine (changes _ _ _ _ _ (Tp.of HA7.out) (Tp.of HB7.out)).mono ?_
  rintro e w8 ⟨v, rfl, hv, b8⟩
  rw [chg_ab] at hv
  have HV8 := Lib.hid (show Row il 43 w8 v incA from hv)
  have HA8 := Lib.hid (HA7.out.keep b8)
  have HB8 := Lib.hid (HB7.out.keep b8)
  have HK8 := Lib.hid (HK7.out.trans b8)
  clear b8 hv HA7 HB7 HK7
  go_wp2_with fail
  refine (copy _ _ _ HA8.out).mono ?_
  rintro e w9 ⟨c, rfl, hc, tc, b9⟩
  have HV9 := Lib.hid (HV8.out.keep b9)
  have HA9 := Lib.hid (HA8.out.keep b9)
  have HB9 := Lib.hid (HB8.out.keep b9)
  have HC9 := Lib.hid tc
  have HK9 := Lib.hid (HK8.out.trans b9)
  have hac : a ≠ c := by obtain ⟨⟨_, h, _⟩, _, _⟩ := HA8.out; have := block_lt h; omega
  have hbc : b ≠ c := by obtain ⟨⟨_, h, _⟩, _, _⟩ := HB8.out; have := block_lt h; omega
  have hcw : w.heap.size ≤ c := Nat.le_trans HK8.out.size hc
  clear b9 tc HV8 HA8 HB8 HK8 hc
  obtain ⟨g, o, cap, hvf, hcap, _, _⟩ := HV9.out.cells.ptr 0 (by simp [incA])
  rw [show incA.length = 3 from rfl] at hvf hcap
  subst hvf
  obtain ⟨n, hn⟩ : ∃ n, n = 21 := ⟨21, rfl⟩
  have hsz : ∀ w, (Go.sizeOf 43).run Try.prog w = .ok n w := fun w => by rw [hn]; exact Try.sizeOf43 w
  have hn0 : ¬ n = 0 := by omega
  have HN := Lib.hid hn
  obtain ⟨hz, _⟩ := zero_of_info info43b
  have hzs : (ic zeroI).size = n := by rw [hn]; exact ic_size _
  clear hn
  go_wp2
  go_loopw [50] (fun i wr => AwRel w a b c (.slice (some ⟨g, o, none⟩) 3 cap) i wr) (fun i _ => 3 - (intOf i).toNat)
  case atStart => exact ⟨0, rfl, by omega, HC9.out, HA9.out, HB9.out, HV9.out, HK9.out⟩
  case round =>
    clear HC9 HA9 HB9 HV9 HK9
    obtain ⟨k, rfl, hk, tc, ta, tb, hv, hkp⟩ := hrel
    by_cases hlt : k < 3
    · obtain ⟨x, hx⟩ : ∃ x, incA[k]? = some x := ⟨_, List.getElem?_eq_getElem (by simpa [incA] using hlt)⟩
      have hst := stA_step k x hx
      have d1 := (show Cells il wr (.slice (some ⟨g, o, none⟩) incA.length cap) incA from hv.cells).ic HN.out k x hx
      have hI := IAt.new wr zeroI
      have hst2 := hI.store x
      have hl3 := (hI.put x).whole HN.out
      have hzx : (ic x).size = n := by rw [HN.out]; exact ic_size _
      have HKA := Lib.hid (show Keep wr ((wr.alloc (.cells (ic zeroI) 43)).setRow wr.heap.size (ic x)) from ((Keep.refl wr).alloc _).setRow _ _ (Nat.le_refl _))
      have HTC := Lib.hid (tc.keep HKA.out)
      have HTA := Lib.hid (ta.keep HKA.out)
      have HTB := Lib.hid (tb.keep HKA.out)
      have HVV := Lib.hid (hv.keep HKA.out)
      have HKK := Lib.hid (hkp.trans HKA.out)
      have HDO := Lib.hid (do_at c (stA k) x _ HTC.out)
      rw [hst] at HDO
      clear hI hx hst tc ta tb hv hkp HKA
      generalize ic x = X at *
      generalize (wr.alloc (.cells (ic zeroI) 43)).setRow wr.heap.size X = w3 at *
      go_wp2_with fail
      refine HDO.out.mono ?_
      rintro e w4 ⟨rfl, t4, o4⟩
      have HTA4 := Lib.hid (HTA.out.only HTC.out o4 hac)
      have HTB4 := Lib.hid (HTB.out.only HTC.out o4 hbc)
      have HVV4 := Lib.hid (Tb.row HVV.out HTC.out o4 (by decide))
      have HKK4 := Lib.hid (o4.made HKK.out hcw)
      have HT4 := Lib.hid t4
      clear o4 t4 d1 hst2 hl3 hzx
      go_wp2
      go_roundw
      case rel => exact ⟨k + 1, by go_num, by omega, HT4.out, HTA4.out, HTB4.out, HVV4.out, HKK4.out⟩
      case measure => simp [intOf]; omega
    · obtain rfl : k = 3 := by omega
      have HTC := Lib.hid (show Tb wr c [rA 2 3, rA 3 4] from tc)
      have HTA := Lib.hid ta
      have HTB := Lib.hid tb
      have HVV := Lib.hid hv
      have HKK := Lib.hid hkp
      obtain ⟨hz34, _⟩ := zero_of_info info34b
      obtain ⟨n2, hn2⟩ : ∃ n, n = 20 := ⟨20, rfl⟩
      have hsz2 : ∀ w, (Go.sizeOf 34).run Try.prog w = .ok n2 w := fun w => by rw [hn2]; exact Try.sizeOf34 w
      have hn20 : ¬ n2 = 0 := by omega
      have HN2 := Lib.hid hn2
      have hzs2 : (rc zeroR).size = n2 := by rw [hn2]; exact rc_size _
      have hzx2 : (rc (rA 1 1)).size = n2 := by rw [hn2]; exact rc_size _
      clear tc ta tb hv hkp hn2 hz hzs
      go_wp2_with fail
      refine (F1.out _).mono ?_
      rintro e w1 ⟨rfl, b1⟩
      have HG := Lib.hid (get _ _ (fourP 1) (fourP_len 1) w1 (Tp.of (HTA.out.keep b1)))
      rw [get_a.1, get_a.2, HP1.out] at HG
      go_wp2_with fail
      refine HG.out.mono ?_
      rintro e w2 ⟨rfl, b2⟩
      have hZ := RAt.new w2 zeroR
      have hst := hZ.store (rA 1 1)
      have HR3 := Lib.hid (hZ.put (rA 1 1))
      have HK3 := Lib.hid ((b1.trans b2).trans (((Keep.refl w2).alloc (.cells (rc zeroR) 34)).setRow w2.heap.size (rc (rA 1 1)) (Nat.le_refl _)))
      generalize rc (rA 1 1) = Q11 at *
      generalize (w2.alloc (.cells (rc zeroR) 34)).setRow w2.heap.size Q11 = w3 at *
      have hcl := HVV.out.cells.keep HK3.out
      have k0 : w3.cell? ⟨g, o, none⟩ = some (.int .i64 3) := by
        have := Cells.cell il_len (show Cells il w3 (.slice (some ⟨g, o, none⟩) incA.length cap) incA from hcl) 0 _ rfl 0 (by omega) (.int .i64 3) rfl
        simpa using this
      have k1 : w3.cell? ⟨g, o + n, none⟩ = some (.int .i64 2) := by
        have := Cells.cell il_len (show Cells il w3 (.slice (some ⟨g, o, none⟩) incA.length cap) incA from hcl) 1 _ rfl 0 (by omega) (.int .i64 2) rfl
        rw [HN.out]
        simpa using this
      have k2 : w3.cell? ⟨g, o + 2 * n, none⟩ = some (.int .i64 1) := by
        have := Cells.cell il_len (show Cells il w3 (.slice (some ⟨g, o, none⟩) incA.length cap) incA from hcl) 2 _ rfl 0 (by omega) (.int .i64 1) rfl
        rw [HN.out]
        simpa using this
      have HTC3 := Lib.hid (HTC.out.keep HK3.out)
      have HTA3 := Lib.hid (HTA.out.keep HK3.out)
      have HTB3 := Lib.hid (HTB.out.keep HK3.out)
      have HS1 := Lib.hid (same _ _ _ _ w3 (Tp.of HTC3.out) (Tp.of HTB3.out))
      rw [decide_eq_true rfl] at HS1
      have HKW := Lib.hid (HKK.out.trans HK3.out)
      clear b1 b2 hZ hcl HG HTC HTA HTB HVV HK3 HKK
      go_wp2_with fail
      refine HS1.out.mono ?_
      rintro e w4 ⟨rfl, b4⟩
      have HS2 := Lib.hid (same _ _ _ _ w4 (Tp.of (HTA3.out.keep b4)) (Tp.of (HTB3.out.keep b4)))
      rw [decide_eq_false ne_ab] at HS2
      clear hst k0 k1 k2
      go_wp2_with fail
      refine HS2.out.mono ?_
      rintro e w5 ⟨rfl, b5⟩
      have hme : w5.cell? ⟨w2.heap.size, 18, none⟩ = some (.int .i64 1) := ((HR3.out.keep (b4.trans b5)).metric)
      have HTA5 := Lib.hid (HTA3.out.keep (b4.trans b5))
      have HK5 := Lib.hid (HKW.out.trans (b4.trans b5))
      have HLN := Lib.hid (len_at _ _ w5 (Tp.of HTA5.out))
      clear b4 b5 HS1 HS2 HTC3 HTA3 HTB3 HKW HR3
      go_wp2_with fail
      refine HLN.out.mono ?_
      rintro e w6 ⟨rfl, b6⟩
      have HAL := Lib.hid (all _ _ w6 (Tp.of (HTA5.out.keep b6)))
      clear hme
      go_wp2_with fail
      refine HAL.out.mono ?_
      rintro e w7 ⟨va, rfl, oa, b7⟩
      obtain ⟨ga, oo, ca, hvf, hca, _, _⟩ := (oa.row elR).cells.ptr 0 (by simp)
      have hcl := (oa.row elR).cells
      subst hvf
      have hm7 : w7.cell? ⟨ga, oo + 18, none⟩ = some (.int .i64 1) := by
        have := Cells.cell rl_len hcl 0 (rA 1 1) rfl 18 (by omega) (.int .i64 1) (rl_metric (rA 1 1))
        simpa using this
      have HTA7 := Lib.hid (HTA5.out.keep (b6.trans b7))
      have HK7 := Lib.hid (HK5.out.trans (b6.trans b7))
      clear b6 b7 oa hcl HLN HAL HTA5 HK5
      go_wp2_with fail
      refine (F1.out _).mono ?_
      rintro e w8 ⟨rfl, b8⟩
      clear hm7
      go_wp2_with fail
      refine (F2.out _).mono ?_
      rintro e w9 ⟨rfl, b9⟩
      have HBT := Lib.hid (between _ _ (fourP 1) (fourP 2) (fourP_len 1) (fourP_len 2) w9 (Tp.of (HTA7.out.keep (b8.trans b9))))
      rw [HP1.out, HP2.out, bet_a] at HBT
      go_wp2_with fail
      refine HBT.out.mono ?_
      rintro e w10 ⟨vb, rfl, hvb, b10⟩
      obtain ⟨ab, cb, hvf, _, _⟩ := hvb.cells.form
      subst hvf
      have HTA10 := Lib.hid (HTA7.out.keep ((b8.trans b9).trans b10))
      have HK10 := Lib.hid (HK7.out.trans ((b8.trans b9).trans b10))
      clear b8 b9 b10 hvb HBT HTA7 HK7
      go_wp2_with fail
      refine (four 9 (by omega) _).mono ?_
      rintro e w11 ⟨rfl, b11⟩
      have HDR := Lib.hid (drop a _ (fourP 9) (fourP_len 9) w11 (HTA10.out.keep b11))
      rw [drop_a] at HDR
      go_wp2_with fail
      refine HDR.out.mono ?_
      rintro e w12 ⟨rfl, t12, o12⟩
      have HKF := Lib.hid (o12.made (HK10.out.trans b11) haw)
      clear t12 o12 b11
      go_wp2
      go_ret
      exact ⟨rfl, HKF.out⟩
end Go.Proofs.Ytgocmolebanflaa
