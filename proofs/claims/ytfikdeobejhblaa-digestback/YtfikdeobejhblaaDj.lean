/- Proved: what the laws' same, ints and like answer. Condition: lists are short enough for memory. -/
import Derived.Test.YtfikdeobejhblaaDi
namespace Go.Proofs.Ytfikdeobejhblaa
open Go.RowKit

def EgRel {α : Type} (W : World) (l m : List α) (i : Value) (wr : World) : Prop := ∃ k : Nat, i = .int .i64 k ∧ k ≤ l.length ∧ l.take k = m.take k ∧ Keep W wr
set_option maxRecDepth 100000 in
set_option maxHeartbeats 1000000 in
theorem same9 (u v : Value) (l m : List Dg) (w : World) (hu : Lg dl w u l) (hv : Lg dl w v m) (hl : l.length ≤ 1000000) (_hm : m.length ≤ 1000000) : Calls Try.prog 19 #[u, v] w fun e w' => e = .returned (.bool (decide (l = m))) ∧ Keep w w' := by
  obtain ⟨a1, c1, rfl⟩ := hu.form
  obtain ⟨a2, c2, rfl⟩ := hv.form
  obtain ⟨n, hn⟩ : ∃ n, n = 2 := ⟨2, rfl⟩
  have hsz : ∀ w, (Go.sizeOf 68).run Try.prog w = .ok n w := fun w => by rw [hn]; exact Try.sizeOf68 w
  have hsz2 : ∀ w, (Go.sizeOf 93).run Try.prog w = .ok n w := fun w => by rw [hn]; exact Try.sizeOf93 w
  have hn0 : ¬ n = 0 := by omega
  have HN := Lib.hid hn
  clear hn
  by_cases hlen : l.length = m.length
  · have hne : ((l.length : Int) != (m.length : Int)) = false := by simp [hlen]
    have HU := Lib.hid hu
    have HV := Lib.hid hv
    clear hu hv
    obtain ⟨N, hN⟩ : ∃ N, l.length = N := ⟨_, rfl⟩
    obtain ⟨M, hM⟩ : ∃ M, m.length = M := ⟨_, rfl⟩
    have HLN := Lib.hid hN
    have HMN := Lib.hid hM
    rw [hN] at hne hl hlen
    rw [hM] at hne _hm hlen
    rw [hN, hM]
    obtain ⟨D, hD⟩ : ∃ D, decide (l = m) = D := ⟨_, rfl⟩
    rw [hD]
    have HD := Lib.hid hD
    clear hN hM hD
    go_enter Try.func19, Try.ntmps19
    go_wp2
    go_loopw [13] (fun i wr => EgRel w l m i wr) (fun i _ => N - (intOf i).toNat)
    case atStart => exact ⟨0, rfl, Nat.zero_le _, rfl, Keep.refl _⟩
    case round =>
      obtain ⟨k, rfl, hk1, hk2, hk⟩ := hrel
      rw [HLN.out] at hk1
      by_cases hlt : k < N
      · have hltm : k < M := by omega
        obtain ⟨g1, o1, cap1, e1, _, _, _⟩ := (HU.out.at k (by rw [HLN.out]; exact hlt)).ptr k (by rw [HLN.out]; exact hlt)
        obtain ⟨g2, o2, cap2, e2, _, _, _⟩ := (HV.out.at k (by rw [HMN.out]; exact hltm)).ptr k (by rw [HMN.out]; exact hltm)
        simp at e1 e2
        obtain ⟨rfl, rfl⟩ := e1
        obtain ⟨rfl, rfl⟩ := e2
        obtain ⟨x, hx⟩ : ∃ x, l[k]? = some x := ⟨_, List.getElem?_eq_getElem (by rw [HLN.out]; exact hlt)⟩
        obtain ⟨y, hy⟩ : ∃ y, m[k]? = some y := ⟨_, List.getElem?_eq_getElem (by rw [HMN.out]; exact hltm)⟩
        have hc1 := HU.out.at k (by rw [HLN.out]; exact hlt)
        have hc2 := HV.out.at k (by rw [HMN.out]; exact hltm)
        have d1 : ∀ u : KW wr, u.1.cell? ⟨g1, o1 + k * n, none⟩ = some (.int .i64 x.n) := fun u => (hc1.keep (hk.trans u.2)).dn HN.out k x hx
        have d2 : ∀ u : KW wr, u.1.cell? ⟨g2, o2 + k * n, none⟩ = some (.int .i64 y.n) := fun u => (hc2.keep (hk.trans u.2)).dn HN.out k y hy
        have d3 : ∀ u : KW wr, u.1.cell? ⟨g1, o1 + k * n + 1, none⟩ = some (.int .u64 x.s) := fun u => (hc1.keep (hk.trans u.2)).ds HN.out k x hx
        have d4 : ∀ u : KW wr, u.1.cell? ⟨g2, o2 + k * n + 1, none⟩ = some (.int .u64 y.s) := fun u => (hc2.keep (hk.trans u.2)).ds HN.out k y hy
        have HX := Lib.hid hx
        have HY := Lib.hid hy
        have HK := Lib.hid hk
        have HTK := Lib.hid hk2
        clear hx hy hk hk2 hc1 hc2
        by_cases h1 : x.n = y.n
        · have hn1 : (x.n != y.n) = false := by simp [h1]
          by_cases h2 : x.s = y.s
          · have hs1 : (x.s != y.s) = false := by simp [h2]
            have HXY := Lib.hid (show x = y by cases x; cases y; simp only at h1 h2; rw [h1, h2])
            clear h1 h2
            go_wp2_with fail
            refine wp_region_keep (Keep.refl _) (by kernel_rfl) (by kernel_rfl) ?_
            repeat (first | go_big_quiet_step (fail) | quiet_step (fail))
            refine wpQuiet_nil ?_
            rintro w6 ⟨⟨w7, b7⟩, hw6⟩
            obtain rfl : w7 = w6 := hw6.symm
            have HK7 := Lib.hid (HK.out.trans b7)
            clear HK hw6 b7 d1 d2 d3 d4
            go_wp2
            go_roundw
            case rel => exact ⟨k + 1, by go_num, by rw [HLN.out]; omega, by rw [List.take_add_one, List.take_add_one, HTK.out, HX.out, HY.out, HXY.out], HK7.out⟩
            case measure => simp [intOf]; omega
          · have hs1 : (x.s != y.s) = true := by simp [h2]
            have HXY := Lib.hid (show ¬ x = y from fun e => h2 (by rw [e]))
            clear h1 h2
            go_wp2_with fail
            refine wp_region_keep (Keep.refl _) (by kernel_rfl) (by kernel_rfl) ?_
            repeat (first | go_big_quiet_step (fail) | quiet_step (fail))
            refine wpQuiet_nil ?_
            rintro w6 ⟨⟨w7, b7⟩, hw6⟩
            obtain rfl : w7 = w6 := hw6.symm
            have HK7 := Lib.hid (HK.out.trans b7)
            clear HK hw6 b7 d1 d2 d3 d4
            go_wp2
            go_ret
            refine ⟨?_, HK7.out⟩
            rw [← HD.out, decide_eq_false (fun e => HXY.out (by have h1 := HX.out; rw [e, HY.out] at h1; simpa using h1.symm))]
            rfl
        · have hn1 : (x.n != y.n) = true := by simp [h1]
          have HXY := Lib.hid (show ¬ x = y from fun e => h1 (by rw [e]))
          clear h1
          go_wp2_with fail
          refine wp_region_keep (Keep.refl _) (by kernel_rfl) (by kernel_rfl) ?_
          repeat (first | go_big_quiet_step (fail) | quiet_step (fail))
          refine wpQuiet_nil ?_
          rintro w6 ⟨⟨w7, b7⟩, hw6⟩
          obtain rfl : w7 = w6 := hw6.symm
          have HK7 := Lib.hid (HK.out.trans b7)
          clear HK hw6 b7 d1 d2 d3 d4
          go_wp2
          go_ret
          refine ⟨?_, HK7.out⟩
          rw [← HD.out, decide_eq_false (fun e => HXY.out (by have h1 := HX.out; rw [e, HY.out] at h1; simpa using h1.symm))]
          rfl
      · have hlm : l = m := by
          rw [List.take_of_length_le (by rw [HLN.out]; omega), List.take_of_length_le (by rw [HMN.out]; omega)] at hk2
          exact hk2
        have hDt : D = true := by rw [← HD.out]; exact decide_eq_true hlm
        have HDT := Lib.hid hDt
        have HK := Lib.hid hk
        clear hlm hk2 hDt hk
        go_wp2
        go_ret
        refine ⟨?_, HK.out⟩
        rw [HDT.out]
        rfl
  · have hne : ((l.length : Int) != (m.length : Int)) = true := by simp; omega
    obtain ⟨N, hN⟩ : ∃ N, l.length = N := ⟨_, rfl⟩
    obtain ⟨M, hM⟩ : ∃ M, m.length = M := ⟨_, rfl⟩
    rw [decide_eq_false (fun e => hlen (by rw [e]))]
    rw [hN, hM] at hne ⊢
    clear hu hv hlen hN hM hl _hm
    go_enter Try.func19, Try.ntmps19
    go_wp2
    go_ret
    exact ⟨rfl, Keep.refl _⟩
set_option maxRecDepth 100000 in
set_option maxHeartbeats 1000000 in
theorem ints9 (u v : Value) (l m : List Nat) (w : World) (hu : Lg nl w u l) (hv : Lg nl w v m) (hl : l.length ≤ 1000000) (_hm : m.length ≤ 1000000) : Calls Try.prog 35 #[u, v] w fun e w' => e = .returned (.bool (decide (l = m))) ∧ Keep w w' := by
  obtain ⟨a1, c1, rfl⟩ := hu.form
  obtain ⟨a2, c2, rfl⟩ := hv.form
  by_cases hlen : l.length = m.length
  · have hne : ((l.length : Int) != (m.length : Int)) = false := by simp [hlen]
    have HU := Lib.hid hu
    have HV := Lib.hid hv
    clear hu hv
    obtain ⟨N, hN⟩ : ∃ N, l.length = N := ⟨_, rfl⟩
    obtain ⟨M, hM⟩ : ∃ M, m.length = M := ⟨_, rfl⟩
    have HLN := Lib.hid hN
    have HMN := Lib.hid hM
    rw [hN] at hne hl hlen
    rw [hM] at hne _hm hlen
    rw [hN, hM]
    obtain ⟨D, hD⟩ : ∃ D, decide (l = m) = D := ⟨_, rfl⟩
    rw [hD]
    have HD := Lib.hid hD
    clear hN hM hD
    go_enter Try.func35, Try.ntmps35
    go_wp2
    go_loopw [13] (fun i wr => EgRel w l m i wr) (fun i _ => N - (intOf i).toNat)
    case atStart => exact ⟨0, rfl, Nat.zero_le _, rfl, Keep.refl _⟩
    case round =>
      obtain ⟨k, rfl, hk1, hk2, hk⟩ := hrel
      rw [HLN.out] at hk1
      by_cases hlt : k < N
      · have hltm : k < M := by omega
        obtain ⟨g1, o1, cap1, e1, _, _, _⟩ := (HU.out.at k (by rw [HLN.out]; exact hlt)).ptr k (by rw [HLN.out]; exact hlt)
        obtain ⟨g2, o2, cap2, e2, _, _, _⟩ := (HV.out.at k (by rw [HMN.out]; exact hltm)).ptr k (by rw [HMN.out]; exact hltm)
        simp at e1 e2
        obtain ⟨rfl, rfl⟩ := e1
        obtain ⟨rfl, rfl⟩ := e2
        obtain ⟨x, hx⟩ : ∃ x, l[k]? = some x := ⟨_, List.getElem?_eq_getElem (by rw [HLN.out]; exact hlt)⟩
        obtain ⟨y, hy⟩ : ∃ y, m[k]? = some y := ⟨_, List.getElem?_eq_getElem (by rw [HMN.out]; exact hltm)⟩
        have hc1 := HU.out.at k (by rw [HLN.out]; exact hlt)
        have hc2 := HV.out.at k (by rw [HMN.out]; exact hltm)
        have d1 : ∀ u : KW wr, u.1.cell? ⟨g1, o1 + k, none⟩ = some (.int .i64 x) := fun u => (hc1.keep (hk.trans u.2)).num k x hx
        have d2 : ∀ u : KW wr, u.1.cell? ⟨g2, o2 + k, none⟩ = some (.int .i64 y) := fun u => (hc2.keep (hk.trans u.2)).num k y hy
        have HX := Lib.hid hx
        have HY := Lib.hid hy
        have HK := Lib.hid hk
        have HTK := Lib.hid hk2
        clear hx hy hk hk2 hc1 hc2
        by_cases h1 : x = y
        · have hn1 : ((x : Int) != (y : Int)) = false := by simp [h1]
          have HXY := Lib.hid h1
          clear h1
          go_wp2_with fail
          refine wp_region_keep (Keep.refl _) (by kernel_rfl) (by kernel_rfl) ?_
          repeat (first | go_big_quiet_step (fail) | quiet_step (fail))
          refine wpQuiet_nil ?_
          rintro w6 ⟨⟨w7, b7⟩, hw6⟩
          obtain rfl : w7 = w6 := hw6.symm
          have HK7 := Lib.hid (HK.out.trans b7)
          clear HK hw6 b7 d1 d2
          go_wp2
          go_roundw
          case rel => exact ⟨k + 1, by go_num, by rw [HLN.out]; omega, by rw [List.take_add_one, List.take_add_one, HTK.out, HX.out, HY.out, HXY.out], HK7.out⟩
          case measure => simp [intOf]; omega
        · have hn1 : ((x : Int) != (y : Int)) = true := by simp; omega
          have HXY := Lib.hid h1
          clear h1
          go_wp2_with fail
          refine wp_region_keep (Keep.refl _) (by kernel_rfl) (by kernel_rfl) ?_
          repeat (first | go_big_quiet_step (fail) | quiet_step (fail))
          refine wpQuiet_nil ?_
          rintro w6 ⟨⟨w7, b7⟩, hw6⟩
          obtain rfl : w7 = w6 := hw6.symm
          have HK7 := Lib.hid (HK.out.trans b7)
          clear HK hw6 b7 d1 d2
          go_wp2
          go_ret
          refine ⟨?_, HK7.out⟩
          rw [← HD.out, decide_eq_false (fun e => HXY.out (by have h1 := HX.out; rw [e, HY.out] at h1; simpa using h1.symm))]
          rfl
      · have hlm : l = m := by
          rw [List.take_of_length_le (by rw [HLN.out]; omega), List.take_of_length_le (by rw [HMN.out]; omega)] at hk2
          exact hk2
        have hDt : D = true := by rw [← HD.out]; exact decide_eq_true hlm
        have HDT := Lib.hid hDt
        have HK := Lib.hid hk
        clear hlm hk2 hDt hk
        go_wp2
        go_ret
        refine ⟨?_, HK.out⟩
        rw [HDT.out]
        rfl
  · have hne : ((l.length : Int) != (m.length : Int)) = true := by simp; omega
    obtain ⟨N, hN⟩ : ∃ N, l.length = N := ⟨_, rfl⟩
    obtain ⟨M, hM⟩ : ∃ M, m.length = M := ⟨_, rfl⟩
    rw [decide_eq_false (fun e => hlen (by rw [e]))]
    rw [hN, hM] at hne ⊢
    clear hu hv hlen hN hM hl _hm
    go_enter Try.func35, Try.ntmps35
    go_wp2
    go_ret
    exact ⟨rfl, Keep.refl _⟩

theorem infoDb : (Try.prog.info? 68).map (fun i => (i.zero, i.size)) = some (some (.agg #[.int .i64 0, .int .u64 0]), 2) := by kernel_rfl
theorem Cells.oneQ {w : World} (t : TypeId) (d : Dg) : Cells dl (w.alloc (.cells #[.int .i64 d.n, .int .u64 d.s] t)) (.slice (some ⟨w.heap.size, 0, none⟩) 1 1) [d] := by
  refine .inr ⟨w.heap.size, 0, 1, rfl, by simp, by unfold maxLen; omega, by simp, fun j u hj => ?_⟩
  rw [Nat.zero_add, cell_of_row _ _ _ _ _ _ (heap_alloc_last w _)]
  have : flat dl [d] = [.int .i64 d.n, .int .u64 d.s] := rfl
  rw [this] at hj
  simpa using hj
def LkRel (w : World) (l : List Dg) (lv i : Value) (wr : World) : Prop := ∃ k : Nat, i = .int .i64 k ∧ k ≤ l.length ∧ Own 93 2 dl w.heap.size wr lv (l.take k) ∧ Keep w wr
set_option maxRecDepth 100000 in
set_option maxHeartbeats 1000000 in
theorem like9 (u : Value) (l : List Dg) (w : World) (hu : Lg dl w u l) (hl : l.length ≤ 1000000) : Calls Try.prog 34 #[u] w fun e w' => ∃ v', e = .returned v' ∧ Own 93 2 dl w.heap.size w' v' l ∧ Keep w w' := by
  obtain ⟨a1, c1, rfl⟩ := hu.form
  obtain ⟨hz, hi⟩ := zero_of_info infoDb
  have HU := Lib.hid hu
  obtain ⟨N, hN⟩ : ∃ N, l.length = N := ⟨_, rfl⟩
  have HL := Lib.hid hN
  rw [hN] at hl ⊢
  clear hu hN hi
  go_enter Try.func34, Try.ntmps34
  go_wp2
  go_loopw [3, 8] (fun lv i wr => LkRel w l lv i wr) (fun _ i _ => N - (intOf i).toNat)
  case atStart => exact ⟨0, rfl, Nat.zero_le _, Own.nil _ _, Keep.refl _⟩
  case round =>
    obtain ⟨k, rfl, hk1, ho, hk⟩ := hrel
    rw [HL.out] at hk1
    by_cases hlt : k < N
    · obtain ⟨g1, o1, cap1, e1, _, _, _⟩ := (HU.out.at k (by rw [HL.out]; exact hlt)).ptr k (by rw [HL.out]; exact hlt)
      simp at e1
      obtain ⟨rfl, rfl⟩ := e1
      obtain ⟨x, hx⟩ : ∃ x, l[k]? = some x := ⟨_, List.getElem?_eq_getElem (by rw [HL.out]; exact hlt)⟩
      have hc1 := HU.out.at k (by rw [HL.out]; exact hlt)
      have d1 := (hc1.keep hk).dn rfl k x hx
      have d2 := (hc1.keep hk).ds rfl k x hx
      have HX := Lib.hid hx
      have HO := Lib.hid ho
      have HK := Lib.hid hk
      clear hx ho hk hc1
      obtain ⟨xn, xs⟩ := x
      simp only at d1 d2
      have hkw : Keep wr ((wr.alloc (.cells #[.int .i64 xn, .int .u64 xs] 68)).alloc (.cells #[.int .i64 xn, .int .u64 xs] 93)) := ((Keep.refl wr).alloc _).alloc _
      have HO4 := Lib.hid (HO.out.keep hkw)
      have HK4 := Lib.hid (HK.out.trans hkw)
      have hb4 := HK4.out.size
      have HC4 : Hid (Cells dl ((wr.alloc (.cells #[.int .i64 xn, .int .u64 xs] 68)).alloc (.cells #[.int .i64 xn, .int .u64 xs] 93)) (.slice (some ⟨wr.heap.size + 1, 0, none⟩) 1 1) [⟨xn, xs⟩]) := Lib.hid (by
        have := Cells.oneQ (w := wr.alloc (.cells #[.int .i64 xn, .int .u64 xs] 68)) 93 ⟨xn, xs⟩
        simpa using this)
      have hll : (l.take k).length ≤ 1000000 := by rw [List.length_take]; omega
      clear hkw
      go_wp2_with (at_builtin; refine wp_app elQ rfl _ _ rfl w.heap.size _ _ _ [⟨xn, xs⟩] rfl rfl HO4.out HC4.out ?q1 ?q2 ?q3 ?_)
      case q1 => simp only [List.length_singleton, List.length_take]; omega
      case q2 => simp only [List.length_singleton, List.length_take]; omega
      case q3 => exact hb4
      intro v' w9 k1 k2
      have HRL := Lib.hid (show LkRel w l v' (.int .i64 ((k : Int) + 1)) w9 from ⟨k + 1, by go_num, by rw [HL.out]; omega, by rw [List.take_add_one, HX.out]; exact k1, HO4.out.grown HK4.out (Nat.le_refl _) k2⟩)
      clear k1 k2 hb4 d1 d2
      go_wp2
      go_roundw
      case rel => exact HRL.out
      case measure => simp [intOf]; omega
    · obtain rfl : k = N := by omega
      have HO := Lib.hid (show Own 93 2 dl w.heap.size wr _ l from by
        have := ho
        rwa [List.take_of_length_le (by rw [HL.out]; exact Nat.le_refl _)] at this)
      have HK := Lib.hid hk
      clear ho hk
      go_wp2
      go_ret
      exact ⟨_, rfl, HO.out, HK.out⟩
end Go.Proofs.Ytfikdeobejhblaa
