/- Proved: what the document's Changes answers. Condition: the lists are no longer than tables. -/
import Derived.Test.YtgocmolebanflaaSi
namespace Go.Proofs.Ytgocmolebanflaa
open Go.RowKit

/-- What has come together, and what is left. -/
def QcRel (W : World) (l m : List Rt) (s u v : Value) (wr : World) : Prop :=
  ∃ (out : List Ic) (i k : Nat), u = .int .i64 i ∧ v = .int .i64 k ∧ i ≤ l.length ∧ k ≤ m.length ∧ Own 43 21 il W.heap.size wr s out ∧ out ++ chg (l.drop i) (m.drop k) = chg l m ∧ out.length ≤ i + k ∧ Keep W wr
theorem qc_old {l m : List Rt} {out : List Ic} {i k : Nat} {a : Rt} (ha : l[i]? = some a) (he : out ++ chg (l.drop i) (m.drop k) = chg l m) (h : ahd (l.drop i) (m.drop k) < 0) : (out ++ [⟨3, wd a⟩]) ++ chg (l.drop (i + 1)) (m.drop k) = chg l m := by
  rw [drop_cons' ha] at he h
  exact step_old he h
theorem qc_new {l m : List Rt} {out : List Ic} {i k : Nat} {b : Rt} (hb : m[k]? = some b) (he : out ++ chg (l.drop i) (m.drop k) = chg l m) (h : 0 < ahd (l.drop i) (m.drop k)) : (out ++ [⟨1, b⟩]) ++ chg (l.drop i) (m.drop (k + 1)) = chg l m := by
  rw [drop_cons' hb] at he h
  exact step_new he h
theorem qc_same {l m : List Rt} {out : List Ic} {i k : Nat} {a b : Rt} (ha : l[i]? = some a) (hb : m[k]? = some b) (he : out ++ chg (l.drop i) (m.drop k) = chg l m) (h : cmpP a.to b.to = 0) : out ++ (if a = b then chg (l.drop (i + 1)) (m.drop (k + 1)) else ⟨2, b⟩ :: chg (l.drop (i + 1)) (m.drop (k + 1))) = chg l m := by
  rw [drop_cons' ha, drop_cons' hb, chg_same a b _ _ h] at he
  exact he
theorem ahd_two {l m : List Rt} {i k : Nat} {a b : Rt} (ha : l[i]? = some a) (hb : m[k]? = some b) : ahd (l.drop i) (m.drop k) = cmpP a.to b.to := by
  rw [drop_cons' ha, drop_cons' hb]
  rfl
theorem ahd_end {l m : List Rt} {i k : Nat} {a : Rt} (ha : l[i]? = some a) (hk : m.length ≤ k) : ahd (l.drop i) (m.drop k) = -1 := by
  rw [drop_cons' ha, List.drop_of_length_le hk]
  rfl
theorem ahd_out {l m : List Rt} {i k : Nat} (hi : l.length ≤ i) : ahd (l.drop i) (m.drop k) = 1 := by
  rw [List.drop_of_length_le hi]
  rfl

set_option maxRecDepth 100000 in
set_option maxHeartbeats 4000000 in
theorem qchanges (u v : Value) (l m : List Rt) (w : World) (hu : Row rl 34 w u l) (hv : Row rl 34 w v m) (hl : l.length ≤ 300) (hm : m.length ≤ 300) : Calls Try.prog 31 #[u, v] w fun e w' => ∃ v, e = .returned v ∧ Row il 43 w' v (chg l m) ∧ Keep w w' := by
  obtain ⟨n, hn⟩ : ∃ n, n = 20 := ⟨20, rfl⟩
  have hsz : ∀ w, (Go.sizeOf 34).run Try.prog w = .ok n w := fun w => by rw [hn]; exact Try.sizeOf34 w
  have hn0 : ¬ n = 0 := by omega
  obtain ⟨n2, hn2⟩ : ∃ n, n = 18 := ⟨18, rfl⟩
  have hsz2 : ∀ w, (Go.sizeOf 25).run Try.prog w = .ok n2 w := fun w => by rw [hn2]; exact Try.sizeOf25 w
  have hn20 : ¬ n2 = 0 := by omega
  have HN := Lib.hid hn
  have HN2 := Lib.hid hn2
  obtain ⟨a1, c1, e1, _, _⟩ := hu.cells.form
  obtain ⟨a2, c2, e2, _, _⟩ := hv.cells.form
  subst e1
  subst e2
  obtain ⟨L, hL⟩ : ∃ n, l.length = n := ⟨_, rfl⟩
  obtain ⟨M, hM⟩ : ∃ n, m.length = n := ⟨_, rfl⟩
  have HL := Lib.hid hL
  have HM := Lib.hid hM
  have HU := Lib.hid hu.cells
  have HV := Lib.hid hv.cells
  rw [hL] at hl ⊢
  rw [hM] at hm ⊢
  clear hu hv hn hn2 hL hM
  go_enter Try.func31, Try.ntmps31
  go_wp2
  go_loopw [5, 6, 7] (fun s u v wr => QcRel w l m s u v wr) (fun _ u v _ => (L - (intOf u).toNat) + (M - (intOf v).toNat))
  case atStart => exact ⟨[], 0, 0, rfl, rfl, Nat.zero_le _, Nat.zero_le _, Own.nil _ _, by simp, by simp, Keep.refl _⟩
  case round =>
    obtain ⟨out, i, k, rfl, rfl, hi, hk, ho, hc, hol, hkp⟩ := hrel
    rw [HL.out] at hi
    rw [HM.out] at hk
    have HO := Lib.hid ho
    have HC := Lib.hid hc
    have HKP := Lib.hid hkp
    clear ho hc hkp
    have hout : out.length + 1 ≤ 1000 := by omega
    have HOL := Lib.hid hol
    clear hol
    by_cases hkM : k < M
    · have hkMe : ((k : Int) == M) = false := by simp; omega
      obtain ⟨g2, o2, cap2, e2, _, _, _⟩ := HV.out.ptr k (by rw [HM.out]; exact hkM)
      simp at e2
      obtain ⟨rfl, rfl⟩ := e2
      obtain ⟨b, hb⟩ : ∃ x, m[k]? = some x := ⟨_, List.getElem?_eq_getElem (by rw [HM.out]; exact hkM)⟩
      have HB0 := Lib.hid hb
      by_cases hiL : i < L
      · have hiLe : ((i : Int) == L) = false := by simp; omega
        obtain ⟨g1, o1, cap1, e1, _, _, _⟩ := HU.out.ptr i (by rw [HL.out]; exact hiL)
        simp at e1
        obtain ⟨rfl, rfl⟩ := e1
        obtain ⟨a, ha⟩ : ∃ x, l[i]? = some x := ⟨_, List.getElem?_eq_getElem (by rw [HL.out]; exact hiL)⟩
        have HA1 := Lib.hid ha
        have d1 : ∀ u : KW wr, (loadCellsFrom ⟨g1, o1 + i * n, none⟩ 0 n2 #[]).run Try.prog u.1 = .ok (pc a.to) u.1 := fun u => (HU.out.keep (HKP.out.trans u.2)).to HN2.out HN.out i a ha
        have d2 : ∀ u : KW wr, (loadCellsFrom ⟨g2, o2 + k * n, none⟩ 0 n2 #[]).run Try.prog u.1 = .ok (pc b.to) u.1 := fun u => (HV.out.keep (HKP.out.trans u.2)).to HN2.out HN.out k b hb
        have HC1 := Lib.hid (qcompare a.to b.to a.ok b.ok).keep
        have HC2 := Lib.hid (qcompare b.to a.to b.ok a.ok).keep
        have hneg := cmp_neg b.ok a.ok
        have HAH := Lib.hid (ahd_two ha hb)
        have HSAME := Lib.hid (fun h => qc_same ha hb HC.out h)
        have HOLD := Lib.hid (fun h => qc_old ha HC.out h)
        have HNEW := Lib.hid (fun h => qc_new hb HC.out h)
        rw [HAH.out] at HOLD HNEW
        obtain ⟨z, hz⟩ : ∃ z, cmpP a.to b.to = z := ⟨_, rfl⟩
        obtain ⟨z2, hz2⟩ : ∃ z, cmpP b.to a.to = z := ⟨_, rfl⟩
        rw [hz, hz2] at hneg
        rw [hz] at HC1 HOLD HNEW HSAME
        rw [hz2] at HC2
        clear hz hz2 ha hb HAH
        by_cases hlt : z < 0
        · have HST := Lib.hid (HOLD.out hlt)
          have hltd : decide (z < 0) = true := decide_eq_true hlt
          generalize pc a.to = PA at *
          generalize pc b.to = PB at *
          go_wp2_with fail
          refine wp_region_keep (Keep.refl _) (by kernel_rfl) (by kernel_rfl) ?_
          repeat (first | go_big_quiet_step (fail) | quiet_step (fail))
          first | go_big_quiet_step (exact HC1.out.at _) | quiet_step (exact HC1.out.at _)
          repeat (first | go_big_quiet_step (fail) | quiet_step (fail))
          refine wpQuiet_nil ?_
          rintro w6 ⟨⟨w7, b7⟩, hw6⟩
          obtain rfl : w7 = w6 := hw6.symm
          clear hw6
          have HB7 := Lib.hid b7
          clear b7
          clear d1 d2
          have dx := (show Cells rl w7 (.slice (some ⟨g1, o1, none⟩) l.length c1) l from HU.out.keep (HKP.out.trans HB7.out)).to HN2.out HN.out i a HA1.out
          have HB1 := Lib.hid (build_to a.to a.ok)
          have HB2 := Lib.hid (build_inc 3 (wd a))
          have HB3 := Lib.hid (slice_inc ⟨3, wd a⟩)
          rw [show (⟨a.to, 0, 0, a.ok⟩ : Rt) = wd a from rfl] at HB1
          have HR5 := Lib.hid (fun w => Row.inc w ⟨3, wd a⟩)
          generalize pc a.to = AA at *
          generalize ic ⟨3, wd a⟩ = I at *
          generalize rc (wd a) = D at *
          have HK5 := Lib.hid (show Keep w7 (w7.alloc (.cells I 43)) from (Keep.refl w7).alloc _)
          have HW5 := Lib.hid (HKP.out.trans (HB7.out.trans HK5.out))
          have HO5 := Lib.hid (HO.out.keep (HB7.out.trans HK5.out))
          have hbase : w.heap.size ≤ (w7.alloc (.cells I 43)).heap.size := HW5.out.size
          go_wp2_with (first | (refine at_build [(0, .agg AA)] rfl _ (HB1.out _) ?_) | (refine at_build [(0, .int .i64 3), (1, .agg D)] rfl _ (HB2.out _) ?_) | (refine at_slice [(0, .agg I)] rfl _ (HB3.out _) ?_) | (at_builtin; refine wp_app elI rfl _ _ rfl w.heap.size _ _ out [⟨3, wd a⟩] rfl rfl HO5.out (HR5.out w7).cells ?aq1 ?aq2 ?aq3 ?_))
          case aq1 => simp; omega
          case aq2 => simp; omega
          case aq3 => exact hbase
          intro v9 w9 k1 k2
          have HK9 := Lib.hid (HO5.out.grown HW5.out (Nat.le_refl _) k2)
          have HO9 := Lib.hid k1
          clear k1 k2 dx hbase
          go_wp2
          go_roundw
          case rel => exact ⟨_, i + 1, k, by go_num, rfl, by rw [HL.out]; omega, by rw [HM.out]; omega, HO9.out, HST.out, by have := HOL.out; simp; omega, HK9.out⟩
          case measure => simp [intOf]; omega
        · have hltd : decide (z < 0) = false := decide_eq_false hlt
          by_cases hgt : 0 < z
          · have HST := Lib.hid (HNEW.out hgt)
            have h2 : z2 < 0 := by omega
            have h2d : decide (z2 < 0) = true := decide_eq_true h2
            generalize pc a.to = PA at *
            generalize pc b.to = PB at *
            go_wp2_with fail
            refine wp_region_keep (Keep.refl _) (by kernel_rfl) (by kernel_rfl) ?_
            repeat (first | go_big_quiet_step (fail) | quiet_step (fail))
            first | go_big_quiet_step (exact HC1.out.at _) | quiet_step (exact HC1.out.at _)
            repeat (first | go_big_quiet_step (fail) | quiet_step (fail))
            refine wpQuiet_nil ?_
            rintro w6 ⟨⟨w5, b5⟩, hw6⟩
            obtain rfl : w5 = w6 := hw6.symm
            clear hw6
            have HB5 := Lib.hid b5
            clear b5
            have d3 : ∀ u : KW w5, (loadCellsFrom ⟨g1, o1 + i * n, none⟩ 0 n2 #[]).run Try.prog u.1 = .ok PA u.1 := fun u => d1 ⟨u.1, HB5.out.trans u.2⟩
            have d4 : ∀ u : KW w5, (loadCellsFrom ⟨g2, o2 + k * n, none⟩ 0 n2 #[]).run Try.prog u.1 = .ok PB u.1 := fun u => d2 ⟨u.1, HB5.out.trans u.2⟩
            clear d1 d2
            go_wp2_with fail
            refine wp_region_keep (Keep.refl _) (by kernel_rfl) (by kernel_rfl) ?_
            repeat (first | go_big_quiet_step (fail) | quiet_step (fail))
            first | go_big_quiet_step (exact HC2.out.at _) | quiet_step (exact HC2.out.at _)
            repeat (first | go_big_quiet_step (fail) | quiet_step (fail))
            refine wpQuiet_nil ?_
            rintro w6 ⟨⟨w7, b7⟩, hw6⟩
            obtain rfl : w7 = w6 := hw6.symm
            clear hw6
            have HB7 := Lib.hid (HB5.out.trans b7)
            clear b7
            clear d3 d4
            have dx := (show Cells rl w7 (.slice (some ⟨g2, o2, none⟩) m.length c2) m from HV.out.keep (HKP.out.trans HB7.out)).rt HN.out k b HB0.out
            have HB2 := Lib.hid (build_inc 1 b)
            have HB3 := Lib.hid (slice_inc ⟨1, b⟩)
            have HR5 := Lib.hid (fun w => Row.inc w ⟨1, b⟩)
            generalize ic ⟨1, b⟩ = I at *
            generalize rc b = D at *
            have HK5 := Lib.hid (show Keep w7 (w7.alloc (.cells I 43)) from (Keep.refl w7).alloc _)
            have HW5 := Lib.hid (HKP.out.trans (HB7.out.trans HK5.out))
            have HO5 := Lib.hid (HO.out.keep (HB7.out.trans HK5.out))
            have hbase : w.heap.size ≤ (w7.alloc (.cells I 43)).heap.size := HW5.out.size
            go_wp2_with (first | (refine at_build [(0, .int .i64 1), (1, .agg D)] rfl _ (HB2.out _) ?_) | (refine at_slice [(0, .agg I)] rfl _ (HB3.out _) ?_) | (at_builtin; refine wp_app elI rfl _ _ rfl w.heap.size _ _ out [⟨1, b⟩] rfl rfl HO5.out (HR5.out w7).cells ?bq1 ?bq2 ?bq3 ?_))
            case bq1 => simp; omega
            case bq2 => simp; omega
            case bq3 => exact hbase
            intro v9 w9 k1 k2
            have HK9 := Lib.hid (HO5.out.grown HW5.out (Nat.le_refl _) k2)
            have HO9 := Lib.hid k1
            clear k1 k2 dx hbase
            go_wp2
            go_roundw
            case rel => exact ⟨_, i, k + 1, rfl, by go_num, by rw [HL.out]; omega, by rw [HM.out]; omega, HO9.out, HST.out, by have := HOL.out; simp; omega, HK9.out⟩
            case measure => simp [intOf]; omega
          · have hz0 : z = 0 := by omega
            have HZS := Lib.hid (HSAME.out hz0)
            have h2 : ¬ z2 < 0 := by omega
            have h2d : decide (z2 < 0) = false := decide_eq_false h2
            generalize pc a.to = PA at *
            generalize pc b.to = PB at *
            go_wp2_with fail
            refine wp_region_keep (Keep.refl _) (by kernel_rfl) (by kernel_rfl) ?_
            repeat (first | go_big_quiet_step (fail) | quiet_step (fail))
            first | go_big_quiet_step (exact HC1.out.at _) | quiet_step (exact HC1.out.at _)
            repeat (first | go_big_quiet_step (fail) | quiet_step (fail))
            refine wpQuiet_nil ?_
            rintro w6 ⟨⟨w5, b5⟩, hw6⟩
            obtain rfl : w5 = w6 := hw6.symm
            clear hw6
            have HB5 := Lib.hid b5
            clear b5
            have d3 : ∀ u : KW w5, (loadCellsFrom ⟨g1, o1 + i * n, none⟩ 0 n2 #[]).run Try.prog u.1 = .ok PA u.1 := fun u => d1 ⟨u.1, HB5.out.trans u.2⟩
            have d4 : ∀ u : KW w5, (loadCellsFrom ⟨g2, o2 + k * n, none⟩ 0 n2 #[]).run Try.prog u.1 = .ok PB u.1 := fun u => d2 ⟨u.1, HB5.out.trans u.2⟩
            clear d1 d2
            go_wp2_with fail
            refine wp_region_keep (Keep.refl _) (by kernel_rfl) (by kernel_rfl) ?_
            repeat (first | go_big_quiet_step (fail) | quiet_step (fail))
            first | go_big_quiet_step (exact HC2.out.at _) | quiet_step (exact HC2.out.at _)
            repeat (first | go_big_quiet_step (fail) | quiet_step (fail))
            refine wpQuiet_nil ?_
            rintro w6 ⟨⟨w4, b4⟩, hw6⟩
            obtain rfl : w4 = w6 := hw6.symm
            clear hw6
            have HB4 := Lib.hid (HB5.out.trans b4)
            clear b4
            clear d3 d4
            have d5 : ∀ u : KW w4, (loadCellsFrom ⟨g1, o1 + i * n, none⟩ 0 n #[]).run Try.prog u.1 = .ok (rc a) u.1 := fun u => (HU.out.keep (HKP.out.trans (HB4.out.trans u.2))).rt HN.out i a HA1.out
            have d6 : ∀ u : KW w4, (loadCellsFrom ⟨g2, o2 + k * n, none⟩ 0 n #[]).run Try.prog u.1 = .ok (rc b) u.1 := fun u => (HV.out.keep (HKP.out.trans (HB4.out.trans u.2))).rt HN.out k b HB0.out
            have heq : ∀ w, (Op.equalIn 10000 34 (.agg (rc a)) (.agg (rc b))).run Try.prog w = .ok (decide (a = b)) w := fun w => eq_rc 9995 a b w
            by_cases hab : a = b
            · simp only [decide_eq_true hab] at heq
              rw [if_pos hab] at HZS
              clear hab
              generalize rc a = RA at *
              generalize rc b = RB at *
              go_wp2_with fail
              refine wp_region_keep (Keep.refl _) (by kernel_rfl) (by kernel_rfl) ?_
              repeat (first | go_big_quiet_step (fail) | quiet_step (fail))
              refine wpQuiet_nil ?_
              rintro w6 ⟨⟨w7, b7⟩, hw6⟩
              obtain rfl : w7 = w6 := hw6.symm
              clear hw6
              have HB7 := Lib.hid (HB4.out.trans b7)
              clear b7
              clear d5 d6 heq
              go_wp2
              go_roundw
              case rel => exact ⟨_, i + 1, k + 1, by go_num, by go_num, by rw [HL.out]; omega, by rw [HM.out]; omega, HO.out.keep HB7.out, HZS.out, by have := HOL.out; omega, HKP.out.trans HB7.out⟩
              case measure => simp [intOf]; omega
            · simp only [decide_eq_false hab] at heq
              rw [if_neg hab] at HZS
              have HST := Lib.hid (show (out ++ [⟨2, b⟩]) ++ chg (l.drop (i + 1)) (m.drop (k + 1)) = chg l m from by rw [← HZS.out, List.append_assoc]; rfl)
              clear hab
              obtain ⟨RA, hRA⟩ : ∃ X, rc a = X := ⟨_, rfl⟩
              obtain ⟨RB, hRB⟩ : ∃ X, rc b = X := ⟨_, rfl⟩
              simp only [hRA] at d5 heq
              simp only [hRB] at d6 heq
              clear hRA hRB
              go_wp2_with fail
              refine wp_region_keep (Keep.refl _) (by kernel_rfl) (by kernel_rfl) ?_
              repeat (first | go_big_quiet_step (fail) | quiet_step (fail))
              refine wpQuiet_nil ?_
              rintro w6 ⟨⟨w7, b7⟩, hw6⟩
              obtain rfl : w7 = w6 := hw6.symm
              clear hw6
              have HB7 := Lib.hid (HB4.out.trans b7)
              clear b7
              clear d5 d6 heq
              have dx := (show Cells rl w7 (.slice (some ⟨g2, o2, none⟩) m.length c2) m from HV.out.keep (HKP.out.trans HB7.out)).rt HN.out k b HB0.out
              have HB2 := Lib.hid (build_inc 2 b)
              have HB3 := Lib.hid (slice_inc ⟨2, b⟩)
              have HR5 := Lib.hid (fun w => Row.inc w ⟨2, b⟩)
              generalize ic ⟨2, b⟩ = I at *
              generalize rc b = D at *
              have HK5 := Lib.hid (show Keep w7 (w7.alloc (.cells I 43)) from (Keep.refl w7).alloc _)
              have HW5 := Lib.hid (HKP.out.trans (HB7.out.trans HK5.out))
              have HO5 := Lib.hid (HO.out.keep (HB7.out.trans HK5.out))
              have hbase : w.heap.size ≤ (w7.alloc (.cells I 43)).heap.size := HW5.out.size
              go_wp2_with (first | (refine at_build [(0, .int .i64 2), (1, .agg D)] rfl _ (HB2.out _) ?_) | (refine at_slice [(0, .agg I)] rfl _ (HB3.out _) ?_) | (at_builtin; refine wp_app elI rfl _ _ rfl w.heap.size _ _ out [⟨2, b⟩] rfl rfl HO5.out (HR5.out w7).cells ?cq1 ?cq2 ?cq3 ?_))
              case cq1 => simp; omega
              case cq2 => simp; omega
              case cq3 => exact hbase
              intro v9 w9 k1 k2
              have HK9 := Lib.hid (HO5.out.grown HW5.out (Nat.le_refl _) k2)
              have HO9 := Lib.hid k1
              clear k1 k2 dx hbase
              go_wp2
              go_roundw
              case rel => exact ⟨_, i + 1, k + 1, by go_num, by go_num, by rw [HL.out]; omega, by rw [HM.out]; omega, HO9.out, HST.out, by have := HOL.out; simp; omega, HK9.out⟩
              case measure => simp [intOf]; omega
      · obtain rfl : i = L := by omega
        have hiLe : ((i : Int) == i) = true := by simp
        have HST := Lib.hid (qc_new hb HC.out (by rw [ahd_out (by rw [HL.out]; exact Nat.le_refl _)]; omega))
        clear hb
        go_wp2_with fail
        refine wp_region_keep (Keep.refl _) (by kernel_rfl) (by kernel_rfl) ?_
        repeat (first | go_big_quiet_step (fail) | quiet_step (fail))
        refine wpQuiet_nil ?_
        rintro w6 ⟨⟨w5, b5⟩, hw6⟩
        obtain rfl : w5 = w6 := hw6.symm
        clear hw6
        have HB5 := Lib.hid b5
        clear b5
        go_wp2_with fail
        refine wp_region_keep (Keep.refl _) (by kernel_rfl) (by kernel_rfl) ?_
        repeat (first | go_big_quiet_step (fail) | quiet_step (fail))
        refine wpQuiet_nil ?_
        rintro w6 ⟨⟨w7, b7⟩, hw6⟩
        obtain rfl : w7 = w6 := hw6.symm
        clear hw6
        have HB7 := Lib.hid (HB5.out.trans b7)
        clear b7
        have dx := (show Cells rl w7 (.slice (some ⟨g2, o2, none⟩) m.length c2) m from HV.out.keep (HKP.out.trans HB7.out)).rt HN.out k b HB0.out
        have HB2 := Lib.hid (build_inc 1 b)
        have HB3 := Lib.hid (slice_inc ⟨1, b⟩)
        have HR5 := Lib.hid (fun w => Row.inc w ⟨1, b⟩)
        generalize ic ⟨1, b⟩ = I at *
        generalize rc b = D at *
        have HK5 := Lib.hid (show Keep w7 (w7.alloc (.cells I 43)) from (Keep.refl w7).alloc _)
        have HW5 := Lib.hid (HKP.out.trans (HB7.out.trans HK5.out))
        have HO5 := Lib.hid (HO.out.keep (HB7.out.trans HK5.out))
        have hbase : w.heap.size ≤ (w7.alloc (.cells I 43)).heap.size := HW5.out.size
        go_wp2_with (first | (refine at_build [(0, .int .i64 1), (1, .agg D)] rfl _ (HB2.out _) ?_) | (refine at_slice [(0, .agg I)] rfl _ (HB3.out _) ?_) | (at_builtin; refine wp_app elI rfl _ _ rfl w.heap.size _ _ out [⟨1, b⟩] rfl rfl HO5.out (HR5.out w7).cells ?dq1 ?dq2 ?dq3 ?_))
        case dq1 => simp; omega
        case dq2 => simp; omega
        case dq3 => exact hbase
        intro v9 w9 k1 k2
        have HK9 := Lib.hid (HO5.out.grown HW5.out (Nat.le_refl _) k2)
        have HO9 := Lib.hid k1
        clear k1 k2 dx hbase
        go_wp2
        go_roundw
        case rel => exact ⟨_, i, k + 1, rfl, by go_num, by rw [HL.out]; omega, by rw [HM.out]; omega, HO9.out, HST.out, by have := HOL.out; simp; omega, HK9.out⟩
        case measure => simp [intOf]; omega
    · obtain rfl : k = M := by omega
      have hkMe : ((k : Int) == k) = true := by simp
      by_cases hiL : i < L
      · have hiLe : ((i : Int) == L) = false := by simp; omega
        obtain ⟨g1, o1, cap1, e1, _, _, _⟩ := HU.out.ptr i (by rw [HL.out]; exact hiL)
        simp at e1
        obtain ⟨rfl, rfl⟩ := e1
        obtain ⟨a, ha⟩ : ∃ x, l[i]? = some x := ⟨_, List.getElem?_eq_getElem (by rw [HL.out]; exact hiL)⟩
        have HA1 := Lib.hid ha
        have HST := Lib.hid (qc_old ha HC.out (by rw [ahd_end ha (by rw [HM.out]; exact Nat.le_refl _)]; omega))
        clear ha
        go_wp2_with fail
        refine wp_region_keep (Keep.refl _) (by kernel_rfl) (by kernel_rfl) ?_
        repeat (first | go_big_quiet_step (fail) | quiet_step (fail))
        refine wpQuiet_nil ?_
        rintro w6 ⟨⟨w7, b7⟩, hw6⟩
        obtain rfl : w7 = w6 := hw6.symm
        clear hw6
        have HB7 := Lib.hid b7
        clear b7
        have dx := (show Cells rl w7 (.slice (some ⟨g1, o1, none⟩) l.length c1) l from HU.out.keep (HKP.out.trans HB7.out)).to HN2.out HN.out i a HA1.out
        have HB1 := Lib.hid (build_to a.to a.ok)
        have HB2 := Lib.hid (build_inc 3 (wd a))
        have HB3 := Lib.hid (slice_inc ⟨3, wd a⟩)
        rw [show (⟨a.to, 0, 0, a.ok⟩ : Rt) = wd a from rfl] at HB1
        have HR5 := Lib.hid (fun w => Row.inc w ⟨3, wd a⟩)
        generalize pc a.to = AA at *
        generalize ic ⟨3, wd a⟩ = I at *
        generalize rc (wd a) = D at *
        have HK5 := Lib.hid (show Keep w7 (w7.alloc (.cells I 43)) from (Keep.refl w7).alloc _)
        have HW5 := Lib.hid (HKP.out.trans (HB7.out.trans HK5.out))
        have HO5 := Lib.hid (HO.out.keep (HB7.out.trans HK5.out))
        have hbase : w.heap.size ≤ (w7.alloc (.cells I 43)).heap.size := HW5.out.size
        go_wp2_with (first | (refine at_build [(0, .agg AA)] rfl _ (HB1.out _) ?_) | (refine at_build [(0, .int .i64 3), (1, .agg D)] rfl _ (HB2.out _) ?_) | (refine at_slice [(0, .agg I)] rfl _ (HB3.out _) ?_) | (at_builtin; refine wp_app elI rfl _ _ rfl w.heap.size _ _ out [⟨3, wd a⟩] rfl rfl HO5.out (HR5.out w7).cells ?eq1 ?eq2 ?eq3 ?_))
        case eq1 => simp; omega
        case eq2 => simp; omega
        case eq3 => exact hbase
        intro v9 w9 k1 k2
        have HK9 := Lib.hid (HO5.out.grown HW5.out (Nat.le_refl _) k2)
        have HO9 := Lib.hid k1
        clear k1 k2 dx hbase
        go_wp2
        go_roundw
        case rel => exact ⟨_, i + 1, k, by go_num, rfl, by rw [HL.out]; omega, by rw [HM.out]; omega, HO9.out, HST.out, by have := HOL.out; simp; omega, HK9.out⟩
        case measure => simp [intOf]; omega
      · obtain rfl : i = L := by omega
        have HR := Lib.hid (show Row il 43 wr _ (chg l m) from by
          have := HC.out
          rw [List.drop_of_length_le (by rw [HL.out]; exact Nat.le_refl _), List.drop_of_length_le (by rw [HM.out]; exact Nat.le_refl _), chg_nil, List.append_nil] at this
          rw [← this]
          exact HO.out.row elI)
        go_wp2
        go_ret
        exact ⟨_, rfl, HR.out, HKP.out⟩
end Go.Proofs.Ytgocmolebanflaa
