/- Proved: what the document's put of layer 8 answers. Condition: routes are in order, no more than a table has, and the prefix isn't there. -/
import Derived.Test.YtgkgpdlakamgiaaGreatJl
namespace Go.Proofs.YtgkgpdlakamgiaaGreat
open Go.RowKit

set_option maxRecDepth 100000 in
set_option maxHeartbeats 4000000 in
theorem qput8 (v : Value) (l : List Rt) (r : Rt) (w : World) (h : Row rl 57 w v l) (hs : Sorted l) (hl : l.length ≤ 300) (hh : hasP l r.to = false) : Calls Tryz.prog 53 #[v, .agg (rc r)] w (DropPost8 w (putL l r)) := by
  obtain ⟨w2, hw2⟩ : ∃ w2, w.alloc (.cells (rc r) 57) = w2 := ⟨_, rfl⟩
  have HA2 := Lib.hid (show RAt w2 w.heap.size r from by rw [← hw2]; exact RAt.new w r)
  have HK2 := Lib.hid (show Keep w w2 from by rw [← hw2]; exact (Keep.refl w).alloc _)
  obtain ⟨n, hn⟩ : ∃ n, n = 20 := ⟨20, rfl⟩
  have hsz : ∀ w, (Go.sizeOf 57).run Tryz.prog w = .ok n w := fun w => by rw [hn]; exact Tryz.sizeOf57 w
  have hn0 : ¬ n = 0 := by omega
  obtain ⟨n2, hn2⟩ : ∃ n, n = 18 := ⟨18, rfl⟩
  have hsz2 : ∀ w, (Go.sizeOf 54).run Tryz.prog w = .ok n2 w := fun w => by rw [hn2]; exact Tryz.sizeOf54 w
  have hn20 : ¬ n2 = 0 := by omega
  have HN := Lib.hid hn
  have HN2 := Lib.hid hn2
  obtain ⟨a, cap, e, hc1, hc2⟩ := h.cells.form
  subst e
  have HV2 := Lib.hid (h.keep HK2.out)
  obtain ⟨R, hR⟩ : ∃ R, rc r = R := ⟨_, rfl⟩
  have HRC := Lib.hid hR
  have HSL := Lib.hid (slice_one r)
  have HROW := Lib.hid (fun w => Row.one w r)
  rw [hR] at hw2 ⊢
  simp only [hR] at HSL HROW
  clear hR hn hn2 h
  obtain ⟨L, hL⟩ : ∃ n, l.length = n := ⟨_, rfl⟩
  have HL := Lib.hid hL
  rw [hL] at HV2 hl hc1 ⊢
  clear hL
  have HBH := Lib.hid (behind_no hs r.ok hh)
  have HTK := Lib.hid (take_rank hs r.ok)
  have hrk0 := rank_le l r.to
  rw [HL.out] at hrk0
  have HPL := Lib.hid (show putL l r = l.take (rank l r.to) ++ r :: l.drop (rank l r.to) from by unfold putL; rw [hh, if_neg (by simp)])
  clear hh hs
  generalize rank l r.to = K at *
  go_enter Tryz.func53, Tryz.ntmps53
  go_wp2
  go_loopw [5, 6, 7] (fun s d i wr => PtRel w2 l r K s d i wr) (fun _ _ i _ => L - (intOf i).toNat)
  case atStart => exact ⟨0, rfl, Nat.zero_le _, by simp, by unfold insU; rw [if_pos (Nat.zero_le _), List.take_zero]; exact Own.nil _ _, Keep.refl _⟩
  case round =>
    obtain ⟨k, rfl, hk, rfl, ho, hkp⟩ := hrel
    rw [HL.out] at hk
    have HO := Lib.hid ho
    have HKP := Lib.hid hkp
    clear ho hkp
    by_cases hlt : k < L
    · have hcl : Cells rl w2 (.slice a l.length cap) l := by rw [HL.out]; exact HV2.out.cells
      obtain ⟨g, o, cap', e, _, _, _⟩ := hcl.ptr k (by rw [HL.out]; exact hlt)
      rw [HL.out] at e
      simp at e
      obtain ⟨rfl, rfl⟩ := e
      obtain ⟨x, hx⟩ : ∃ x, l[k]? = some x := ⟨_, List.getElem?_eq_getElem (by rw [HL.out]; exact hlt)⟩
      have d2 : ∀ u : KW wr, (loadCellsFrom ⟨g, o + k * n, none⟩ 0 n2 #[]).run Tryz.prog u.1 = .ok (pc x.to) u.1 := fun u => (hcl.keep (HKP.out.trans u.2)).to HN2.out HN.out k x hx
      have d3 : ∀ u : KW wr, (loadCellsFrom ⟨w.heap.size, 0, none⟩ 0 n2 #[]).run Tryz.prog u.1 = .ok (pc r.to) u.1 := fun u => (show RAt u.1 w.heap.size r from HA2.out.keep (HKP.out.trans u.2)).to HN2.out
      have HCM := Lib.hid (qcompare r.to x.to r.ok x.ok).keep
      have HX1 := Lib.hid hx
      have HNX := Lib.hid (insU_next (r := r) (q := K) hx)
      have HSX := Lib.hid (slice_one x)
      have HRX := Lib.hid (fun w => Row.one w x)
      have hil : (insU l r K k).length ≤ 301 := by
        have := HL.out
        unfold insU
        split <;> simp <;> omega
      obtain ⟨XX, hXX⟩ : ∃ X, rc x = X := ⟨_, rfl⟩
      have HXX := Lib.hid hXX
      simp only [hXX] at HSX HRX
      clear hcl hXX
      by_cases hKk : K < k
      · rw [decide_eq_true hKk]
        clear hx
        go_wp2_with fail
        refine wp_region_keep (Keep.refl _) (by kernel_rfl) (by kernel_rfl) ?_
        repeat (first | go_big_quiet_step (fail) | quiet_step (fail))
        refine wpQuiet_nil ?_
        rintro w6 ⟨⟨w7, b7⟩, hw6⟩
        obtain rfl : w7 = w6 := hw6.symm
        clear hw6
        have HB7 := Lib.hid b7
        clear b7 d2 d3
        have HO7 := Lib.hid (HO.out.keep HB7.out)
        have dx := (show Cells rl w7 (.slice (some ⟨g, o, none⟩) l.length cap) l from by rw [HL.out]; exact HV2.out.cells.keep (HKP.out.trans HB7.out)).rt HN.out k x HX1.out
        rw [HXX.out] at dx
        have HKX := Lib.hid (show Keep w7 (w7.alloc (.cells XX 57)) from (Keep.refl _).alloc _)
        have HOX := Lib.hid (HO7.out.keep HKX.out)
        have HKXW := Lib.hid (Keep.trans (HKP.out.trans HB7.out) HKX.out)
        have hbx : w2.heap.size ≤ (w7.alloc (.cells XX 57)).heap.size := HKXW.out.size
        go_wp2_with (first | ((with_reducible refine at_slice [(0, .agg XX)] ?_ _ (HSX.out _) ?_); rfl) | (at_builtin; refine wp_app elR rfl _ _ rfl w2.heap.size _ _ _ [x] rfl rfl HOX.out (HRX.out w7).cells ?q1 ?q2 ?q3 ?_))
        case q1 => simp; omega
        case q2 => simp; omega
        case q3 => exact hbx
        intro v9 w9 k1 k2
        have HK9 := Lib.hid (HOX.out.grown HKXW.out (Nat.le_refl _) k2)
        have HO9 := Lib.hid k1
        clear k1 k2 dx hbx
        go_wp2
        go_roundw
        case rel => exact ⟨k + 1, by go_num, by rw [HL.out]; omega, by rw [decide_eq_true (show K < k + 1 by omega)], by rw [HNX.out, if_neg (by omega)]; exact HO9.out, HK9.out⟩
        case measure => simp [intOf]; omega
      · rw [decide_eq_false hKk]
        by_cases hKe : k = K
        · have hpos := HBH.out x (by rw [← hKe, drop_cons' hx]; simp)
          have hneg : cmpP r.to x.to < 0 := by rw [cmp_neg r.ok x.ok]; omega
          have HKE := Lib.hid hKe
          clear hx hpos hKe hKk
          generalize cmpP r.to x.to = z at *
          go_wp2_with fail
          refine wp_region_keep (Keep.refl _) (by kernel_rfl) (by kernel_rfl) ?_
          repeat (first | go_big_quiet_step (exact HCM.out.at _) | quiet_step (exact HCM.out.at _))
          refine wpQuiet_nil ?_
          rintro w6 ⟨⟨w7, b7⟩, hw6⟩
          obtain rfl : w7 = w6 := hw6.symm
          clear hw6
          have HB7 := Lib.hid b7
          clear b7 d2 d3
          have dr := (show RAt w7 w.heap.size r from HA2.out.keep (HKP.out.trans HB7.out)).whole HN.out
          rw [HRC.out] at dr
          have HKR := Lib.hid (show Keep w7 (w7.alloc (.cells R 57)) from (Keep.refl _).alloc _)
          have HOR := Lib.hid ((HO.out.keep HB7.out).keep HKR.out)
          have HKRW := Lib.hid ((HKP.out.trans HB7.out).trans HKR.out)
          have hbr : w2.heap.size ≤ (w7.alloc (.cells R 57)).heap.size := HKRW.out.size
          go_wp2_with (first | ((with_reducible refine at_slice [(0, .agg R)] ?_ _ (HSL.out _) ?_); rfl) | (at_builtin; refine wp_app elR rfl _ _ rfl w2.heap.size _ _ _ [r] rfl rfl HOR.out (HROW.out w7).cells ?r1 ?r2 ?r3 ?_))
          case r1 => simp; omega
          case r2 => simp; omega
          case r3 => exact hbr
          intro v8 w8 k1 k2
          have HK8 := Lib.hid (HOR.out.grown HKRW.out (Nat.le_refl _) k2)
          have HO8 := Lib.hid k1
          clear k1 k2 dr hbr
          have HO8' := Lib.hid (show Own 57 20 rl w2.heap.size w8 v8 (insU l r K k ++ [r]) from HO8.out)
          have dx := (show Cells rl w8 (.slice (some ⟨g, o, none⟩) l.length cap) l from by rw [HL.out]; exact HV2.out.cells.keep HK8.out).rt HN.out k x HX1.out
          rw [HXX.out] at dx
          have HKX := Lib.hid (show Keep w8 (w8.alloc (.cells XX 57)) from (Keep.refl _).alloc _)
          have HOX := Lib.hid (HO8'.out.keep HKX.out)
          have HKXW := Lib.hid (Keep.trans HK8.out HKX.out)
          have hbx : w2.heap.size ≤ (w8.alloc (.cells XX 57)).heap.size := HKXW.out.size
          go_wp2_with (first | ((with_reducible refine at_slice [(0, .agg XX)] ?_ _ (HSX.out _) ?_); rfl) | (at_builtin; refine wp_app elR rfl _ _ rfl w2.heap.size _ _ _ [x] rfl rfl HOX.out (HRX.out w8).cells ?s1 ?s2 ?s3 ?_))
          case s1 => simp; omega
          case s2 => simp; omega
          case s3 => exact hbx
          intro v9 w9 k1 k2
          have HK9 := Lib.hid (HOX.out.grown HKXW.out (Nat.le_refl _) k2)
          have HO9 := Lib.hid k1
          clear k1 k2 dx hbx
          go_wp2
          go_roundw
          case rel => exact ⟨k + 1, by go_num, by rw [HL.out]; omega, by rw [decide_eq_true (show K < k + 1 by rw [HKE.out]; omega)], by
            rw [HNX.out, if_pos HKE.out]
            have := HO9.out
            rw [show insU l r K k = l.take k from by unfold insU; rw [if_pos (by rw [HKE.out]; exact Nat.le_refl _)]] at this
            simpa using this, HK9.out⟩
          case measure => simp [intOf]; omega
        · have hneg : ¬ cmpP r.to x.to < 0 := by
            have := HTK.out x (by rw [List.mem_take_iff_getElem]; exact ⟨k, by rw [HL.out]; omega, (List.getElem?_eq_some_iff.1 hx).2⟩)
            rw [cmp_neg r.ok x.ok]
            omega
          clear hx
          generalize cmpP r.to x.to = z at *
          go_wp2_with fail
          refine wp_region_keep (Keep.refl _) (by kernel_rfl) (by kernel_rfl) ?_
          repeat (first | go_big_quiet_step (exact HCM.out.at _) | quiet_step (exact HCM.out.at _))
          refine wpQuiet_nil ?_
          rintro w6 ⟨⟨w7, b7⟩, hw6⟩
          obtain rfl : w7 = w6 := hw6.symm
          clear hw6
          have HB7 := Lib.hid b7
          clear b7 d2 d3
          have HO7 := Lib.hid (HO.out.keep HB7.out)
          have dx := (show Cells rl w7 (.slice (some ⟨g, o, none⟩) l.length cap) l from by rw [HL.out]; exact HV2.out.cells.keep (HKP.out.trans HB7.out)).rt HN.out k x HX1.out
          rw [HXX.out] at dx
          have HKX := Lib.hid (show Keep w7 (w7.alloc (.cells XX 57)) from (Keep.refl _).alloc _)
          have HOX := Lib.hid (HO7.out.keep HKX.out)
          have HKXW := Lib.hid (Keep.trans (HKP.out.trans HB7.out) HKX.out)
          have hbx : w2.heap.size ≤ (w7.alloc (.cells XX 57)).heap.size := HKXW.out.size
          go_wp2_with (first | ((with_reducible refine at_slice [(0, .agg XX)] ?_ _ (HSX.out _) ?_); rfl) | (at_builtin; refine wp_app elR rfl _ _ rfl w2.heap.size _ _ _ [x] rfl rfl HOX.out (HRX.out w7).cells ?t1 ?t2 ?t3 ?_))
          case t1 => simp; omega
          case t2 => simp; omega
          case t3 => exact hbx
          intro v9 w9 k1 k2
          have HK9 := Lib.hid (HOX.out.grown HKXW.out (Nat.le_refl _) k2)
          have HO9 := Lib.hid k1
          clear k1 k2 dx hbx
          go_wp2
          go_roundw
          case rel => exact ⟨k + 1, by go_num, by rw [HL.out]; omega, by rw [decide_eq_false (show ¬ K < k + 1 by omega)], by rw [HNX.out, if_neg hKe]; exact HO9.out, HK9.out⟩
          case measure => simp [intOf]; omega
    · obtain rfl : k = L := by omega
      by_cases hKL : K < k
      · rw [decide_eq_true hKL]
        have HRW := Lib.hid (show Row rl 57 wr u5 (putL l r) from by
          have := HO.out.row elR
          rw [show insU l r K k = putL l r from by unfold insU; rw [if_neg (by omega), HPL.out, List.take_of_length_le (l := l.drop K) (by rw [List.length_drop, HL.out]; omega)]] at this
          exact this)
        go_wp2
        go_ret
        exact ⟨_, rfl, HRW.out, HK2.out.trans HKP.out⟩
      · rw [decide_eq_false hKL]
        have dr := (show RAt wr w.heap.size r from HA2.out.keep HKP.out).whole HN.out
        rw [HRC.out] at dr
        have HKR := Lib.hid (show Keep wr (wr.alloc (.cells R 57)) from (Keep.refl _).alloc _)
        have HOR := Lib.hid (HO.out.keep HKR.out)
        have HKRW := Lib.hid (HKP.out.trans HKR.out)
        have hbr : w2.heap.size ≤ (wr.alloc (.cells R 57)).heap.size := HKRW.out.size
        have hil : (insU l r K k).length ≤ 301 := by
          have := HL.out
          unfold insU
          split <;> simp <;> omega
        go_wp2_with (first | ((with_reducible refine at_slice [(0, .agg R)] ?_ _ (HSL.out _) ?_); rfl) | (at_builtin; refine wp_app elR rfl _ _ rfl w2.heap.size _ _ _ [r] rfl rfl HOR.out (HROW.out wr).cells ?x1 ?x2 ?x3 ?_))
        case x1 => simp; omega
        case x2 => simp; omega
        case x3 => exact hbr
        intro v8 w8 k1 k2
        have HK8 := Lib.hid (HOR.out.grown HKRW.out (Nat.le_refl _) k2)
        have HRW := Lib.hid (show Row rl 57 w8 v8 (putL l r) from by
          have := k1.row elR
          rw [show insU l r K k ++ [r] = putL l r from by
            unfold insU
            rw [if_pos (by omega), HPL.out, show K = k by omega, List.drop_of_length_le (by rw [HL.out]; exact Nat.le_refl _)]] at this
          exact this)
        clear k1 k2 dr hbr
        go_wp2
        go_ret
        exact ⟨_, rfl, HRW.out, HK2.out.trans HK8.out⟩
end Go.Proofs.YtgkgpdlakamgiaaGreat
