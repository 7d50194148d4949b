/- Proved: what table's Changes answers. Condition: the tables lie in memory, or are none. -/
import Derived.Test.YtgocmolebanflaaY
namespace Go.Proofs.Ytgocmolebanflaa
open Go.RowKit

theorem Row.grown {α β : Type} {enc : α → List Value} {enc' : β → List Value} {t t' : TypeId} {w w' : World} {v s : Value} {l : List α} {m : List β} (h : Row enc t w v l) (o : Row enc' t' w s m) (ht : t ≠ t') (hg : w.grownBy w' s.ownBlock) : Row enc t w' v l := by
  have hb : ∀ g, v.ownBlock = some g → w'.heap[g]? = w.heap[g]? := fun g e => by
    refine hg.block g (h.cells.lt e) (fun e2 => ?_)
    obtain ⟨c1, f1, h1⟩ := h.tag g e
    obtain ⟨c2, f2, h2⟩ := o.tag g e2.symm
    rw [h1] at h2
    simp at h2
    exact ht h2.2.1
  exact ⟨h.cells.block hg.size hb, fun g e => by
    obtain ⟨c1, f1, h1⟩ := h.tag g e
    exact ⟨c1, f1, (hb g e).trans h1⟩⟩

def ChRel (W : World) (l m : List Rt) (s u v : Value) (wr : World) : Prop :=
  ∃ (out : List Ic) (old fresh : List Rt), Own 43 21 il W.heap.size wr s out ∧ Row rl 34 wr u old ∧ Row rl 34 wr v fresh ∧ out ++ chg old fresh = chg l m ∧ out.length + (old.length + fresh.length) ≤ l.length + m.length ∧ Keep W wr

/-- What is left. -/
theorem step_old {l m : List Rt} {out : List Ic} {a : Rt} {old fresh : List Rt} (he : out ++ chg (a :: old) fresh = chg l m) (h : ahd (a :: old) fresh < 0) : (out ++ [⟨3, wd a⟩]) ++ chg old fresh = chg l m := by
  rw [← he, chg_old a old fresh h, List.append_assoc]
  rfl
theorem step_new {l m : List Rt} {out : List Ic} {b : Rt} {old fresh : List Rt} (he : out ++ chg old (b :: fresh) = chg l m) (h : 0 < ahd old (b :: fresh)) : (out ++ [⟨1, b⟩]) ++ chg old fresh = chg l m := by
  rw [← he, chg_new b old fresh h, List.append_assoc]
  rfl
theorem ahd_neg {l m : List Rt} (h : ahd l m < 0) : ∃ a k, l = a :: k := by
  cases l with
  | nil => simp [ahd] at h
  | cons a k => exact ⟨a, k, rfl⟩
theorem ahd_pos {l m : List Rt} (h : 0 < ahd l m) (hne : ¬ (l = [] ∧ m = [])) : ∃ b k, m = b :: k := by
  cases m with
  | nil =>
    cases l with
    | nil => exact absurd ⟨rfl, rfl⟩ hne
    | cons a k => simp [ahd] at h
  | cons b k => exact ⟨b, k, rfl⟩
theorem ahd_zero {l m : List Rt} (h : ahd l m = 0) : ∃ a k b j, l = a :: k ∧ m = b :: j := by
  cases l with
  | nil => simp [ahd] at h
  | cons a k =>
    cases m with
    | nil => simp [ahd] at h
    | cons b j => exact ⟨a, k, b, j, rfl, rfl⟩

set_option maxRecDepth 100000 in
set_option maxHeartbeats 2000000 in
theorem changes (s t : Value) (l m : List Rt) (w : World) (h1 : Tp w s l) (h2 : Tp w t m) : Calls Try.prog 28 #[s, t] w fun e w' => ∃ v, e = .returned v ∧ Row il 43 w' v (chg l m) ∧ Keep w w' := by
  obtain ⟨u, hu, cu⟩ := rows_of h1
  obtain ⟨v, hv, cv⟩ := rows_of h2
  have HU := Lib.hid hu
  have HV := Lib.hid hv
  have CU := Lib.hid cu
  have CV := Lib.hid cv
  have f1 := h1.few
  have f2 := h2.few
  obtain ⟨n, hn⟩ : ∃ n, n = 20 := ⟨20, rfl⟩
  have hsz : ∀ w, (Go.sizeOf 34).run Try.prog w = .ok n w := fun w => by rw [hn]; exact Try.sizeOf34 w
  have hn0 : ¬ n = 0 := by omega
  obtain ⟨n2, hn2⟩ : ∃ n, n = 18 := ⟨18, rfl⟩
  have hsz2 : ∀ w, (Go.sizeOf 25).run Try.prog w = .ok n2 w := fun w => by rw [hn2]; exact Try.sizeOf25 w
  have hn20 : ¬ n2 = 0 := by omega
  have HN := Lib.hid hn
  have HN2 := Lib.hid hn2
  clear h1 h2 hu hv cu cv hn hn2
  go_enter Try.func28, Try.ntmps28
  go_wp2_with fail
  refine (CU.out w (Keep.refl _)).mono ?_
  rintro e w1 ⟨rfl, b1⟩
  go_wp2_with fail
  refine (CV.out w1 b1).mono ?_
  rintro e w2 ⟨rfl, b2⟩
  have HU2 := Lib.hid (HU.out.keep (b1.trans b2))
  have HV2 := Lib.hid (HV.out.keep (b1.trans b2))
  have HK := Lib.hid (b1.trans b2)
  clear b1 b2 CU CV HU HV
  go_wp2
  go_loopw [5, 6, 7] (fun s u v wr => ChRel w l m s u v wr) (fun _ u v _ => vlen u + vlen v)
  case atStart => exact ⟨[], l, m, Own.nil _ _, HU2.out, HV2.out, rfl, by simp, HK.out⟩
  case round =>
    clear HU2 HV2 HK
    obtain ⟨out, old, fresh, ho, hu, hv, hc, hl, hk⟩ := hrel
    have HO := Lib.hid ho
    have HU := Lib.hid hu
    have HV := Lib.hid hv
    have HC := Lib.hid hc
    have HL := Lib.hid hl
    have HK := Lib.hid hk
    have AH := Lib.hid (aheadOf _ _ old fresh wr hu.cells hv.cells)
    clear ho hu hv hc hl hk
    by_cases hend : old = [] ∧ fresh = []
    · obtain ⟨rfl, rfl⟩ := hend
      obtain ⟨a1, c1, rfl, _, _⟩ := HU.out.cells.form
      obtain ⟨a2, c2, rfl, _, _⟩ := HV.out.cells.form
      have HR := Lib.hid (show Row il 43 wr _ (chg l m) from by
        have := HC.out
        rw [chg_nil, List.append_nil] at this
        rw [← this]
        exact HO.out.row elI)
      simp only [List.length_nil] at *
      go_wp2
      go_ret
      exact ⟨_, rfl, HR.out, HK.out⟩
    · by_cases hneg : ahd old fresh < 0
      · obtain ⟨a, k, rfl⟩ := ahd_neg hneg
        obtain ⟨g1, o1, c1, rfl, _, _, _⟩ := HU.out.cells.ptr 0 (by simp)
        obtain ⟨vo, so, ro⟩ := cut_from HU.out 1 (by simp)
        obtain ⟨a2, c2, rfl, _, _⟩ := HV.out.cells.form
        have HST := Lib.hid (step_old HC.out hneg)
        obtain ⟨N1, hN1⟩ : ∃ n, (a :: k).length = n := ⟨_, rfl⟩
        obtain ⟨N2, hN2⟩ : ∃ n, fresh.length = n := ⟨_, rfl⟩
        have hp1 : (N1 : Int) > 0 := by rw [← hN1, List.length_cons]; omega
        have hp1n : 0 < N1 := by omega
        have so1 : ∀ w', (Instr.sliceAt 31 (.slice (some ⟨g1, o1, none⟩) N1 c1) (some (.int .i64 1)) none none).run Try.prog w' = .ok vo w' := fun w' => by rw [← hN1]; exact so w'
        have HRO := Lib.hid ro
        have HN1 := Lib.hid hN1
        have HN2L := Lib.hid hN2
        rw [hN1, hN2] at AH
        rw [hN1] at HU ⊢
        rw [hN2] at HV ⊢
        have z1 : ahd (a :: k) fresh ≤ 0 := by omega
        have z2 : ¬ ahd (a :: k) fresh ≥ 0 := by omega
        generalize ahd (a :: k) fresh = z at *
        clear so hend hN1 hN2
        go_wp2_with fail
        refine AH.out.mono ?_
        rintro e w4 ⟨rfl, b4⟩
        have d1 := (show Cells rl w4 (.slice (some ⟨g1, o1, none⟩) (a :: k).length c1) (a :: k) from by rw [HN1.out]; exact HU.out.cells.keep b4).to0 HN2.out
        have HB1 := Lib.hid (build_to a.to a.ok)
        have HB2 := Lib.hid (build_inc 3 (wd a))
        have HB3 := Lib.hid (slice_inc ⟨3, wd a⟩)
        rw [show (⟨a.to, 0, 0, a.ok⟩ : Rt) = wd a from rfl] at HB1
        have HK5 := Lib.hid (show Keep w4 (w4.alloc (.cells (ic ⟨3, wd a⟩) 43)) from (Keep.refl w4).alloc _)
        have HO5 := Lib.hid (HO.out.keep (b4.trans HK5.out))
        have HR5 := Lib.hid (Row.inc w4 ⟨3, wd a⟩)
        have HW5 := Lib.hid (HK.out.trans (b4.trans HK5.out))
        have hbase : w.heap.size ≤ (w4.alloc (.cells (ic ⟨3, wd a⟩) 43)).heap.size := HW5.out.size
        have HKP := Lib.hid (b4.trans HK5.out)
        have hout : out.length + 1 ≤ 1000 := by have := HL.out; simp at this; omega
        clear AH b4 HK5
        generalize ic ⟨3, wd a⟩ = I at *
        generalize rc (wd a) = D at *
        go_wp2_with (first | (refine at_build [(0, .agg (pc a.to))] rfl _ (HB1.out _) ?_) | (refine at_build [(0, .int .i64 3), (1, .agg D)] rfl _ (HB2.out _) ?_) | (refine at_slice [(0, .agg I)] rfl _ (HB3.out _) ?_) | (at_builtin; refine wp_app elI rfl _ _ rfl w.heap.size _ _ out [⟨3, wd a⟩] rfl rfl HO5.out HR5.out.cells ?q1 ?q2 ?q3 ?_))
        case q1 => simp; omega
        case q2 => simp; omega
        case q3 => exact hbase
        intro v' w' k1 k2
        have HKW := Lib.hid (HO5.out.grown HW5.out (Nat.le_refl _) k2)
        have HRO6 := Lib.hid ((HRO.out.keep HKP.out).grown (HO5.out.row elI) (by decide) k2)
        have HRV6 := Lib.hid ((HV.out.keep HKP.out).grown (HO5.out.row elI) (by decide) k2)
        obtain ⟨ao, co, eo, _, _⟩ := HRO.out.cells.form
        subst eo
        have HO6 := Lib.hid k1
        clear k1 k2 d1 HB1 HB2 HB3 hbase hout HO5 HR5 HW5 HKP
        go_wp2
        go_roundw
        case rel => exact ⟨_, _, _, HO6.out, HRO6.out, HRV6.out, HST.out, by have := HL.out; simp at this ⊢; omega, HKW.out⟩
        case measure =>
          have := HN1.out
          simp [vlen] at this ⊢
          omega
      · by_cases hpos : 0 < ahd old fresh
        · obtain ⟨b, j, rfl⟩ := ahd_pos hpos hend
          by_cases h0 : old.length = 0
          · obtain ⟨a1, c1, rfl, _, _⟩ := HU.out.cells.form
            obtain ⟨g2, o2, c2, rfl, _, _, _⟩ := HV.out.cells.ptr 0 (by simp)
            obtain ⟨vo, so, ro⟩ := cut_from HV.out 1 (by simp)
            have HST := Lib.hid (step_new HC.out hpos)
            obtain ⟨N1, hN1⟩ : ∃ n, old.length = n := ⟨_, rfl⟩
            obtain ⟨N2, hN2⟩ : ∃ n, (b :: j).length = n := ⟨_, rfl⟩
            have hp2 : (N2 : Int) > 0 := by rw [← hN2, List.length_cons]; omega
            have hp2n : 0 < N2 := by omega
            obtain rfl : N1 = 0 := by omega
            clear h0
            have so1 : ∀ w', (Instr.sliceAt 31 (.slice (some ⟨g2, o2, none⟩) N2 c2) (some (.int .i64 1)) none none).run Try.prog w' = .ok vo w' := fun w' => by rw [← hN2]; exact so w'
            have HRO := Lib.hid ro
            have HN1 := Lib.hid hN1
            have HN2L := Lib.hid hN2
            rw [hN1, hN2] at AH
            rw [hN1] at HU ⊢
            rw [hN2] at HV ⊢
            have z1 : ¬ ahd old (b :: j) ≤ 0 := by omega
            have z2 : ahd old (b :: j) ≥ 0 := by omega
            have z3 : ¬ ahd old (b :: j) < 0 := by omega
            have z4 : ahd old (b :: j) > 0 := by omega
            generalize ahd old (b :: j) = z at *
            clear so hend hneg hpos hN1 hN2
            go_wp2_with fail
            refine AH.out.mono ?_
            rintro e w4 ⟨rfl, b4⟩
            have d1 := (show Cells rl w4 (.slice (some ⟨g2, o2, none⟩) (b :: j).length c2) (b :: j) from by rw [HN2L.out]; exact HV.out.cells.keep b4).rt0 HN.out
            have HB2 := Lib.hid (build_inc 1 b)
            have HB3 := Lib.hid (slice_inc ⟨1, b⟩)
            have HK5 := Lib.hid (show Keep w4 (w4.alloc (.cells (ic ⟨1, b⟩) 43)) from (Keep.refl w4).alloc _)
            have HO5 := Lib.hid (HO.out.keep (b4.trans HK5.out))
            have HR5 := Lib.hid (Row.inc w4 ⟨1, b⟩)
            have HW5 := Lib.hid (HK.out.trans (b4.trans HK5.out))
            have hbase : w.heap.size ≤ (w4.alloc (.cells (ic ⟨1, b⟩) 43)).heap.size := HW5.out.size
            have HKP := Lib.hid (b4.trans HK5.out)
            have hout : out.length + 1 ≤ 1000 := by have := HL.out; simp at this; omega
            clear AH b4 HK5
            generalize ic ⟨1, b⟩ = I at *
            generalize rc b = D at *
            go_wp2_with (first | (refine at_build [(0, .int .i64 1), (1, .agg D)] rfl _ (HB2.out _) ?_) | (refine at_slice [(0, .agg I)] rfl _ (HB3.out _) ?_) | (at_builtin; refine wp_app elI rfl _ _ rfl w.heap.size _ _ out [⟨1, b⟩] rfl rfl HO5.out HR5.out.cells ?r1 ?r2 ?r3 ?_))
            case r1 => simp; omega
            case r2 => simp; omega
            case r3 => exact hbase
            intro v' w' k1 k2
            have HKW := Lib.hid (HO5.out.grown HW5.out (Nat.le_refl _) k2)
            have HRO6 := Lib.hid ((HRO.out.keep HKP.out).grown (HO5.out.row elI) (by decide) k2)
            have HRV6 := Lib.hid ((HU.out.keep HKP.out).grown (HO5.out.row elI) (by decide) k2)
            obtain ⟨ao, co, eo, _, _⟩ := HRO.out.cells.form
            subst eo
            have HO6 := Lib.hid k1
            clear k1 k2 d1 HB2 HB3 hbase hout HO5 HR5 HW5 HKP
            go_wp2
            go_roundw
            case rel => exact ⟨_, _, _, HO6.out, HRV6.out, HRO6.out, HST.out, by have := HL.out; simp at this ⊢; omega, HKW.out⟩
            case measure =>
              have := HN2L.out
              simp [vlen] at this ⊢
              omega
          · obtain ⟨a1, c1, rfl, _, _⟩ := HU.out.cells.form
            obtain ⟨g2, o2, c2, rfl, _, _, _⟩ := HV.out.cells.ptr 0 (by simp)
            obtain ⟨vo, so, ro⟩ := cut_from HV.out 1 (by simp)
            have HST := Lib.hid (step_new HC.out hpos)
            obtain ⟨N1, hN1⟩ : ∃ n, old.length = n := ⟨_, rfl⟩
            obtain ⟨N2, hN2⟩ : ∃ n, (b :: j).length = n := ⟨_, rfl⟩
            have hp2 : (N2 : Int) > 0 := by rw [← hN2, List.length_cons]; omega
            have hp2n : 0 < N2 := by omega
            have hs1 : (N1 : Int) > 0 := by omega
            clear h0
            have so1 : ∀ w', (Instr.sliceAt 31 (.slice (some ⟨g2, o2, none⟩) N2 c2) (some (.int .i64 1)) none none).run Try.prog w' = .ok vo w' := fun w' => by rw [← hN2]; exact so w'
            have HRO := Lib.hid ro
            have HN1 := Lib.hid hN1
            have HN2L := Lib.hid hN2
            rw [hN1, hN2] at AH
            rw [hN1] at HU ⊢
            rw [hN2] at HV ⊢
            have z1 : ¬ ahd old (b :: j) ≤ 0 := by omega
            have z2 : ahd old (b :: j) ≥ 0 := by omega
            have z3 : ¬ ahd old (b :: j) < 0 := by omega
            have z4 : ahd old (b :: j) > 0 := by omega
            generalize ahd old (b :: j) = z at *
            clear so hend hneg hpos hN1 hN2
            go_wp2_with fail
            refine AH.out.mono ?_
            rintro e w4 ⟨rfl, b4⟩
            have d1 := (show Cells rl w4 (.slice (some ⟨g2, o2, none⟩) (b :: j).length c2) (b :: j) from by rw [HN2L.out]; exact HV.out.cells.keep b4).rt0 HN.out
            have HB2 := Lib.hid (build_inc 1 b)
            have HB3 := Lib.hid (slice_inc ⟨1, b⟩)
            have HK5 := Lib.hid (show Keep w4 (w4.alloc (.cells (ic ⟨1, b⟩) 43)) from (Keep.refl w4).alloc _)
            have HO5 := Lib.hid (HO.out.keep (b4.trans HK5.out))
            have HR5 := Lib.hid (Row.inc w4 ⟨1, b⟩)
            have HW5 := Lib.hid (HK.out.trans (b4.trans HK5.out))
            have hbase : w.heap.size ≤ (w4.alloc (.cells (ic ⟨1, b⟩) 43)).heap.size := HW5.out.size
            have HKP := Lib.hid (b4.trans HK5.out)
            have hout : out.length + 1 ≤ 1000 := by have := HL.out; simp at this; omega
            clear AH b4 HK5
            generalize ic ⟨1, b⟩ = I at *
            generalize rc b = D at *
            go_wp2_with (first | (refine at_build [(0, .int .i64 1), (1, .agg D)] rfl _ (HB2.out _) ?_) | (refine at_slice [(0, .agg I)] rfl _ (HB3.out _) ?_) | (at_builtin; refine wp_app elI rfl _ _ rfl w.heap.size _ _ out [⟨1, b⟩] rfl rfl HO5.out HR5.out.cells ?s1 ?s2 ?s3 ?_))
            case s1 => simp; omega
            case s2 => simp; omega
            case s3 => exact hbase
            intro v' w' k1 k2
            have HKW := Lib.hid (HO5.out.grown HW5.out (Nat.le_refl _) k2)
            have HRO6 := Lib.hid ((HRO.out.keep HKP.out).grown (HO5.out.row elI) (by decide) k2)
            have HRV6 := Lib.hid ((HU.out.keep HKP.out).grown (HO5.out.row elI) (by decide) k2)
            obtain ⟨ao, co, eo, _, _⟩ := HRO.out.cells.form
            subst eo
            have HO6 := Lib.hid k1
            clear k1 k2 d1 HB2 HB3 hbase hout HO5 HR5 HW5 HKP
            go_wp2
            go_roundw
            case rel => exact ⟨_, _, _, HO6.out, HRV6.out, HRO6.out, HST.out, by have := HL.out; simp at this ⊢; omega, HKW.out⟩
            case measure =>
              have := HN2L.out
              simp [vlen] at this ⊢
              omega
        · have hz : ahd old fresh = 0 := by omega
          obtain ⟨a, k, b, j, rfl, rfl⟩ := ahd_zero hz
          obtain ⟨g1, o1, c1, rfl, _, _, _⟩ := HU.out.cells.ptr 0 (by simp)
          obtain ⟨g2, o2, c2, rfl, _, _, _⟩ := HV.out.cells.ptr 0 (by simp)
          obtain ⟨vo, so, ro⟩ := cut_from HU.out 1 (by simp)
          obtain ⟨vf, sf, rf⟩ := cut_from HV.out 1 (by simp)
          have HCS := Lib.hid (chg_same a b k j hz)
          obtain ⟨N1, hN1⟩ : ∃ n, (a :: k).length = n := ⟨_, rfl⟩
          obtain ⟨N2, hN2⟩ : ∃ n, (b :: j).length = n := ⟨_, rfl⟩
          have hp1 : (N1 : Int) > 0 := by rw [← hN1, List.length_cons]; omega
          have hp1n : 0 < N1 := by omega
          have hp2n : 0 < N2 := by rw [← hN2, List.length_cons]; omega
          have so1 : ∀ w', (Instr.sliceAt 31 (.slice (some ⟨g1, o1, none⟩) N1 c1) (some (.int .i64 1)) none none).run Try.prog w' = .ok vo w' := fun w' => by rw [← hN1]; exact so w'
          have so2 : ∀ w', (Instr.sliceAt 31 (.slice (some ⟨g2, o2, none⟩) N2 c2) (some (.int .i64 1)) none none).run Try.prog w' = .ok vf w' := fun w' => by rw [← hN2]; exact sf w'
          have HRO := Lib.hid ro
          have HRF := Lib.hid rf
          have HN1 := Lib.hid hN1
          have HN2L := Lib.hid hN2
          rw [hN1, hN2] at AH
          rw [hN1] at HU ⊢
          rw [hN2] at HV ⊢
          have heq : ∀ w, (Op.equalIn 10000 34 (.agg (rc a)) (.agg (rc b))).run Try.prog w = .ok (decide (a = b)) w := fun w => eq_rc 9995 a b w
          rw [hz] at AH
          clear so sf hend hneg hpos hN1 hN2 hz
          obtain ⟨ao, co, eo, _, _⟩ := HRO.out.cells.form
          subst eo
          obtain ⟨af, cf, ef, _, _⟩ := HRF.out.cells.form
          subst ef
          go_wp2_with fail
          refine AH.out.mono ?_
          rintro e w4 ⟨rfl, b4⟩
          have HU4 := Lib.hid (show Cells rl w4 (.slice (some ⟨g1, o1, none⟩) (a :: k).length c1) (a :: k) from by rw [HN1.out]; exact HU.out.cells.keep b4)
          have HV4 := Lib.hid (show Cells rl w4 (.slice (some ⟨g2, o2, none⟩) (b :: j).length c2) (b :: j) from by rw [HN2L.out]; exact HV.out.cells.keep b4)
          have d1 : ∀ u : KW w4, (loadCellsFrom ⟨g1, o1, none⟩ 0 n #[]).run Try.prog u.1 = .ok (rc a) u.1 := fun u => (HU4.out.keep u.2).rt0 HN.out
          have d2 : ∀ u : KW w4, (loadCellsFrom ⟨g2, o2, none⟩ 0 n #[]).run Try.prog u.1 = .ok (rc b) u.1 := fun u => (HV4.out.keep u.2).rt0 HN.out
          have HB4 := Lib.hid b4
          clear AH b4
          by_cases hab : a = b
          · simp only [decide_eq_true hab] at heq
            rw [if_pos hab] at HCS
            clear hab
            generalize rc a = A at *
            generalize rc b = B at *
            go_wp2_with fail
            refine wp_region_keep (Keep.refl _) (by kernel_rfl) (by kernel_rfl) ?_
            repeat (first | go_big_quiet_step (fail) | quiet_step (fail))
            refine wpQuiet_nil ?_
            rintro w6 ⟨⟨w7, b7⟩, rfl⟩
            have HB7 := Lib.hid (HB4.out.trans b7)
            clear b7 d1 d2 heq HU4 HV4
            go_wp2
            go_roundw
            case rel => exact ⟨_, _, _, HO.out.keep HB7.out, HRO.out.keep HB7.out, HRF.out.keep HB7.out, by rw [← HC.out, HCS.out]; rfl, by have := HL.out; simp at this ⊢; omega, HK.out.trans HB7.out⟩
            case measure =>
              have e1 := HN1.out
              have e2 := HN2L.out
              simp [vlen] at e1 e2 ⊢
              omega
          · simp only [decide_eq_false hab] at heq
            rw [if_neg hab] at HCS
            clear hab
            have HST := Lib.hid (show (out ++ [⟨2, b⟩]) ++ chg k j = chg l m from by rw [← HC.out, HCS.out, List.append_assoc]; rfl)
            have HRC := Lib.hid (fun w' (h : Keep w4 w') => (HV4.out.keep h).rt0 HN.out)
            have HB2 := Lib.hid (build_inc 2 b)
            have HB3 := Lib.hid (slice_inc ⟨2, b⟩)
            have HR5 := Lib.hid (fun w => Row.inc w ⟨2, b⟩)
            generalize rc a = A at *
            generalize rc b = B at *
            generalize ic ⟨2, b⟩ = I at *
            go_wp2_with fail
            refine wp_region_keep (Keep.refl _) (by kernel_rfl) (by kernel_rfl) ?_
            repeat (first | go_big_quiet_step (fail) | quiet_step (fail))
            refine wpQuiet_nil ?_
            rintro w6 ⟨⟨w7, b7⟩, hw6⟩
            obtain rfl : w7 = w6 := hw6.symm
            clear hw6
            have d3 := HRC.out w7 b7
            have HK5 := Lib.hid (show Keep w7 (w7.alloc (.cells I 43)) from (Keep.refl w7).alloc _)
            have HKP := Lib.hid ((HB4.out.trans b7).trans HK5.out)
            have HO5 := Lib.hid (HO.out.keep HKP.out)
            have HW5 := Lib.hid (HK.out.trans HKP.out)
            have hbase : w.heap.size ≤ (w7.alloc (.cells I 43)).heap.size := HW5.out.size
            have hout : out.length + 1 ≤ 1000 := by have := HL.out; simp at this; omega
            clear b7 d1 d2 heq HU4 HV4 HK5 HRC
            go_wp2_with (first | (refine at_build [(0, .int .i64 2), (1, .agg B)] rfl _ (HB2.out _) ?_) | (refine at_slice [(0, .agg I)] rfl _ (HB3.out _) ?_) | (at_builtin; refine wp_app elI rfl _ _ rfl w.heap.size _ _ out [⟨2, b⟩] rfl rfl HO5.out (HR5.out w7).cells ?t1 ?t2 ?t3 ?_))
            case t1 => simp; omega
            case t2 => simp; omega
            case t3 => exact hbase
            intro v' w' k1 k2
            have HKW := Lib.hid (HO5.out.grown HW5.out (Nat.le_refl _) k2)
            have HRO6 := Lib.hid ((HRO.out.keep HKP.out).grown (HO5.out.row elI) (by decide) k2)
            have HRV6 := Lib.hid ((HRF.out.keep HKP.out).grown (HO5.out.row elI) (by decide) k2)
            have HO6 := Lib.hid k1
            clear k1 k2 d3 HB2 HB3 hbase hout HO5 HR5 HW5 HKP
            go_wp2
            go_roundw
            case rel => exact ⟨_, _, _, HO6.out, HRO6.out, HRV6.out, HST.out, by have := HL.out; simp at this ⊢; omega, HKW.out⟩
            case measure =>
              have e1 := HN1.out
              have e2 := HN2L.out
              simp [vlen] at e1 e2 ⊢
              omega
end Go.Proofs.Ytgocmolebanflaa
