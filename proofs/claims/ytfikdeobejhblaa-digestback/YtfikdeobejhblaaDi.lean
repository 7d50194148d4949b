/- Proved: what Differ of digest and of the document answers; lists of digests, and of ints, compared. Condition: lists are short enough for memory. -/
import Derived.Test.YtfikdeobejhblaaDh
namespace Go.Proofs.Ytfikdeobejhblaa
open Go.RowKit

def dc (d : Dg) : Array Value := (dl d).toArray
theorem Cells.dg {w : World} {g o cap n : Nat} {l : List Dg} (h : Cells dl w (.slice (some ⟨g, o, none⟩) l.length cap) l) (hn : n = 2) (j : Nat) (x : Dg) (hx : l[j]? = some x) : (loadCellsFrom ⟨g, o + j * n, none⟩ 0 n #[]).run Try.prog w = .ok (dc x) w := by
  subst hn
  exact h.load (P := Try.prog) dl_len j x hx 0 2 (dl x) rfl (by omega) rfl
theorem Cells.dn {w : World} {g o cap n : Nat} {l : List Dg} (h : Cells dl w (.slice (some ⟨g, o, none⟩) l.length cap) l) (hn : n = 2) (j : Nat) (x : Dg) (hx : l[j]? = some x) : w.cell? ⟨g, o + j * n, none⟩ = some (.int .i64 x.n) := by
  subst hn
  exact h.cell dl_len j x hx 0 (by omega) _ rfl
theorem Cells.ds {w : World} {g o cap n : Nat} {l : List Dg} (h : Cells dl w (.slice (some ⟨g, o, none⟩) l.length cap) l) (hn : n = 2) (j : Nat) (x : Dg) (hx : l[j]? = some x) : w.cell? ⟨g, o + j * n + 1, none⟩ = some (.int .u64 x.s) := by
  subst hn
  exact h.cell dl_len j x hx 1 (by omega) _ rfl
theorem Cells.num {w : World} {g o cap : Nat} {l : List Nat} (h : Cells nl w (.slice (some ⟨g, o, none⟩) l.length cap) l) (j : Nat) (x : Nat) (hx : l[j]? = some x) : w.cell? ⟨g, o + j, none⟩ = some (.int .i64 x) := by
  have := h.cell (k := 1) (fun _ => rfl) j x hx 0 (by omega) (.int .i64 x) rfl
  simpa using this
theorem eq_dc (d : Nat) (a b : Dg) (w : World) : (Op.equalIn (d + 3) 68 (.agg (dc a)) (.agg (dc b))).run Try.prog w = .ok (decide (a = b)) w := by
  have e : decide (a = b) = (decide (a.n = b.n) && decide (a.s = b.s)) := by
    rw [Bool.eq_iff_iff]
    simp only [Bool.and_eq_true, decide_eq_true_eq]
    cases a; cases b; simp
  rw [run_equalIn_struct (P := Try.prog) w (d + 2) 68 _ _ (by kernel_rfl) (by kernel_rfl), e]
  have hf : (Try.prog.fieldsOf 68).toList = [{ name := "N", type := 3, offset := 0, embedded := false, tag := "", pkgPath := "", byteOffset := 0 }, { name := "Sum", type := 38, offset := 1, embedded := false, tag := "", pkgPath := "", byteOffset := 8 }] := by kernel_rfl
  rw [hf]
  simp only [Op.eqFields, dc, dl]
  go_simp
  by_cases h1 : a.n = b.n <;> by_cases h2 : a.s = b.s <;> simp [h1, h2]
theorem eq_dq (d : Nat) (a b : Dg) (w : World) : (Op.equalIn (d + 3) 93 (.agg (dc a)) (.agg (dc b))).run Try.prog w = .ok (decide (a = b)) w := by
  have e : decide (a = b) = (decide (a.n = b.n) && decide (a.s = b.s)) := by
    rw [Bool.eq_iff_iff]
    simp only [Bool.and_eq_true, decide_eq_true_eq]
    cases a; cases b; simp
  rw [run_equalIn_struct (P := Try.prog) w (d + 2) 93 _ _ (by kernel_rfl) (by kernel_rfl), e]
  have hf : (Try.prog.fieldsOf 93).toList = [{ name := "N", type := 3, offset := 0, embedded := false, tag := "", pkgPath := "", byteOffset := 0 }, { name := "Sum", type := 38, offset := 1, embedded := false, tag := "", pkgPath := "", byteOffset := 8 }] := by kernel_rfl
  rw [hf]
  simp only [Op.eqFields, dc, dl]
  go_simp
  by_cases h1 : a.n = b.n <;> by_cases h2 : a.s = b.s <;> simp [h1, h2]

def DiRel (w : World) (a b : List Dg) (lv i : Value) (wr : World) : Prop := ∃ k : Nat, i = .int .i64 k ∧ k ≤ 17 ∧ Own 3 1 nl w.heap.size wr lv ((List.range k).filter (difK a b)) ∧ Keep w wr
theorem Cells.one {w : World} (k : Nat) : Cells nl (w.alloc (.cells #[.int .i64 k] 3)) (.slice (some ⟨w.heap.size, 0, none⟩) 1 1) [k] := by
  refine .inr ⟨w.heap.size, 0, 1, rfl, by simp, by unfold maxLen; omega, by simp, fun j u hj => ?_⟩
  have : j = 0 := by
    have := (List.getElem?_eq_some_iff.1 hj).1
    simp [flat, nl] at this
    exact this
  subst this
  rw [Nat.add_zero, cell_of_row _ _ _ _ _ _ (heap_alloc_last w _)]
  exact hj
theorem range_keep {a b : List Dg} {k : Nat} (h : difK a b k = true) : (List.range (k + 1)).filter (difK a b) = (List.range k).filter (difK a b) ++ [k] := by
  rw [List.range_succ, List.filter_append]
  simp [h]
theorem range_skip {a b : List Dg} {k : Nat} (h : difK a b k = false) : (List.range (k + 1)).filter (difK a b) = (List.range k).filter (difK a b) := by
  rw [List.range_succ, List.filter_append]
  simp [h]
theorem range_len (a b : List Dg) (k : Nat) : ((List.range k).filter (difK a b)).length ≤ k := by
  have := List.length_filter_le (difK a b) (List.range k)
  simpa using this
set_option maxRecDepth 100000 in
set_option maxHeartbeats 1000000 in
theorem ddiffer (u v : Value) (a b : List Dg) (w : World) (ha : Lg dl w u a) (hb : Lg dl w v b) (hla : a.length ≤ 1000000) (hlb : b.length ≤ 1000000) : Calls Try.prog 28 #[u, v] w fun e w' => ∃ v', e = .returned v' ∧ Own 3 1 nl w.heap.size w' v' (diffD a b) ∧ Keep w w' := by
  obtain ⟨a1, c1, rfl⟩ := ha.form
  obtain ⟨a2, c2, rfl⟩ := hb.form
  by_cases h17 : a.length = 17 ∧ b.length = 17
  · obtain ⟨e1, e2⟩ := h17
    have hca := ha.at 0 (by omega)
    have hcb := hb.at 0 (by omega)
    obtain ⟨g1, o1, cap1, q1, _, _, _⟩ := hca.ptr 0 (by omega)
    obtain ⟨g2, o2, cap2, q2, _, _, _⟩ := hcb.ptr 0 (by omega)
    simp at q1 q2
    obtain ⟨rfl, rfl⟩ := q1
    obtain ⟨rfl, rfl⟩ := q2
    obtain ⟨n, hn⟩ : ∃ n, n = 2 := ⟨2, rfl⟩
    have hsz : ∀ w, (Go.sizeOf 68).run Try.prog w = .ok n w := fun w => by rw [hn]; exact Try.sizeOf68 w
    have hn0 : ¬ n = 0 := by omega
    have HN := Lib.hid hn
    have HA := Lib.hid hca
    have HB := Lib.hid hcb
    have HE1 := Lib.hid e1
    have HE2 := Lib.hid e2
    rw [e1] at ha hca ⊢
    rw [e2] at hb hcb ⊢
    clear ha hb hca hcb hn e1 e2 hla hlb
    go_enter Try.func28, Try.ntmps28
    go_wp2
    go_loopw [6, 16] (fun lv i wr => DiRel w a b lv i wr) (fun _ i _ => 17 - (intOf i).toNat)
    case atStart => exact ⟨0, rfl, by omega, Own.nil _ _, Keep.refl _⟩
    case round =>
      obtain ⟨k, rfl, hk, ho, hkp⟩ := hrel
      by_cases hlt : k < 17
      · obtain ⟨x, hx⟩ : ∃ x, a[k]? = some x := ⟨_, List.getElem?_eq_getElem (by rw [HE1.out]; exact hlt)⟩
        obtain ⟨y, hy⟩ : ∃ y, b[k]? = some y := ⟨_, List.getElem?_eq_getElem (by rw [HE2.out]; exact hlt)⟩
        have d1 : ∀ u : KW wr, (loadCellsFrom ⟨g1, o1 + k * n, none⟩ 0 n #[]).run Try.prog u.1 = .ok (dc x) u.1 := fun u => (HA.out.keep (hkp.trans u.2)).dg HN.out k x hx
        have d2 : ∀ u : KW wr, (loadCellsFrom ⟨g2, o2 + k * n, none⟩ 0 n #[]).run Try.prog u.1 = .ok (dc y) u.1 := fun u => (HB.out.keep (hkp.trans u.2)).dg HN.out k y hy
        have heq : ∀ w, (Op.equalIn 10000 68 (.agg (dc x)) (.agg (dc y))).run Try.prog w = .ok (decide (x = y)) w := fun w => eq_dc 9997 x y w
        have HD := Lib.hid (show difK a b k = decide (x ≠ y) by unfold difK; simp [HE1.out, HE2.out, hx, hy])
        have HO := Lib.hid ho
        have HK := Lib.hid hkp
        clear ho hkp hx hy
        by_cases hxy : x = y
        · simp only [decide_eq_true hxy] at heq
          have HXY := Lib.hid hxy
          clear hxy
          generalize dc x = X at *
          generalize dc y = Y at *
          have HDF := Lib.hid (show difK a b k = false by rw [HD.out]; simp [HXY.out])
          go_wp2_with fail
          refine wp_region_keep (Keep.refl _) (by kernel_rfl) (by kernel_rfl) ?_
          repeat (first | go_big_quiet_step (fail) | quiet_step (fail))
          refine wpQuiet_nil ?_
          rintro w6 ⟨⟨w7, b7⟩, hw6⟩
          obtain rfl : w7 = w6 := hw6.symm
          have HRL := Lib.hid (show DiRel w a b _ (.int .i64 ((k : Int) + 1)) w7 from ⟨k + 1, by go_num, by omega, by rw [range_skip HDF.out]; exact HO.out.keep b7, HK.out.trans b7⟩)
          clear hw6 b7 d1 d2 heq
          go_wp2
          go_roundw
          case rel => exact HRL.out
          case measure => simp [intOf]; omega
        · simp only [decide_eq_false hxy] at heq
          have HDT := Lib.hid (show difK a b k = true by rw [HD.out]; simp [hxy])
          clear hxy
          generalize dc x = X at *
          generalize dc y = Y at *
          go_wp2_with fail
          refine wp_region_keep (Keep.refl _) (by kernel_rfl) (by kernel_rfl) ?_
          repeat (first | go_big_quiet_step (fail) | quiet_step (fail))
          refine wpQuiet_nil ?_
          rintro w6 ⟨⟨w7, b7⟩, hw6⟩
          obtain rfl : w7 = w6 := hw6.symm
          have hw4 : Keep w7 (w7.alloc (.cells #[.int .i64 (k : Nat)] 3)) := (Keep.refl w7).alloc _
          have HO4 := Lib.hid ((HO.out.keep b7).keep hw4)
          have HK4 := Lib.hid (HK.out.trans (b7.trans hw4))
          have hb4 := HK4.out.size
          have HC4 : Hid (Cells nl (w7.alloc (.cells #[.int .i64 (k : Nat)] 3)) (.slice (some ⟨w7.heap.size, 0, none⟩) 1 1) [k]) := Lib.hid (Cells.one k)
          have hrl := range_len a b k
          clear hw4 hw6 b7 d1 d2 heq
          go_wp2_with (at_builtin; refine wp_app elN rfl _ _ rfl w.heap.size _ _ _ [k] rfl rfl HO4.out HC4.out ?q1 ?q2 ?q3 ?_)
          case q1 => simp only [List.length_singleton]; omega
          case q2 => simp only [List.length_singleton]; omega
          case q3 => exact hb4
          intro v' w9 k1 k2
          have HRL := Lib.hid (show DiRel w a b v' (.int .i64 ((k : Int) + 1)) w9 from ⟨k + 1, by go_num, by omega, by rw [range_keep HDT.out]; exact k1, HO4.out.grown HK4.out (Nat.le_refl _) k2⟩)
          clear k1 k2 hb4
          go_wp2
          go_roundw
          case rel => exact HRL.out
          case measure => simp [intOf]; omega
      · obtain rfl : k = 17 := by omega
        have HO := Lib.hid (show Own 3 1 nl w.heap.size wr _ (diffD a b) from ho)
        have HK := Lib.hid hkp
        clear ho hkp
        go_wp2
        go_ret
        exact ⟨_, rfl, HO.out, HK.out⟩
  · by_cases e1 : a.length = 17
    · have e2 : b.length ≠ 17 := fun e => h17 ⟨e1, e⟩
      have f1 : ((a.length : Int) != 17) = false := by simp; omega
      have f2 : ((b.length : Int) != 17) = true := by simp; omega
      obtain ⟨N, hN⟩ : ∃ N, a.length = N := ⟨_, rfl⟩
      obtain ⟨M, hM⟩ : ∃ M, b.length = M := ⟨_, rfl⟩
      have HE2 := Lib.hid e2
      rw [hN] at f1 hla ⊢
      rw [hM] at f2 hlb ⊢
      clear ha hb h17 e1 e2 hN hM
      have HDA := Lib.hid (show ∀ k, difK a b k = true from fun k => by unfold difK; simp [HE2.out])
      go_enter Try.func28, Try.ntmps28
      go_wp2
      go_loopw [6, 16] (fun lv i wr => DiRel w a b lv i wr) (fun _ i _ => 17 - (intOf i).toNat)
      case atStart => exact ⟨0, rfl, by omega, Own.nil _ _, Keep.refl _⟩
      case round =>
        obtain ⟨k, rfl, hk, ho, hkp⟩ := hrel
        by_cases hlt : k < 17
        · have HO := Lib.hid ho
          have HK := Lib.hid hkp
          have HDT := Lib.hid (HDA.out k)
          clear ho hkp
          go_wp2_with fail
          refine wp_region_keep (Keep.refl _) (by kernel_rfl) (by kernel_rfl) ?_
          repeat (first | go_big_quiet_step (fail) | quiet_step (fail))
          refine wpQuiet_nil ?_
          rintro w6 ⟨⟨w7, b7⟩, hw6⟩
          obtain rfl : w7 = w6 := hw6.symm
          have hw4 : Keep w7 (w7.alloc (.cells #[.int .i64 (k : Nat)] 3)) := (Keep.refl w7).alloc _
          have HO4 := Lib.hid ((HO.out.keep b7).keep hw4)
          have HK4 := Lib.hid (HK.out.trans (b7.trans hw4))
          have hb4 := HK4.out.size
          have HC4 : Hid (Cells nl (w7.alloc (.cells #[.int .i64 (k : Nat)] 3)) (.slice (some ⟨w7.heap.size, 0, none⟩) 1 1) [k]) := Lib.hid (Cells.one k)
          have hrl := range_len a b k
          clear hw4 hw6 b7
          go_wp2_with (at_builtin; refine wp_app elN rfl _ _ rfl w.heap.size _ _ _ [k] rfl rfl HO4.out HC4.out ?q1 ?q2 ?q3 ?_)
          case q1 => simp only [List.length_singleton]; omega
          case q2 => simp only [List.length_singleton]; omega
          case q3 => exact hb4
          intro v' w9 k1 k2
          have HRL := Lib.hid (show DiRel w a b v' (.int .i64 ((k : Int) + 1)) w9 from ⟨k + 1, by go_num, by omega, by rw [range_keep HDT.out]; exact k1, HO4.out.grown HK4.out (Nat.le_refl _) k2⟩)
          clear k1 k2 hb4
          go_wp2
          go_roundw
          case rel => exact HRL.out
          case measure => simp [intOf]; omega
        · obtain rfl : k = 17 := by omega
          have HO := Lib.hid (show Own 3 1 nl w.heap.size wr _ (diffD a b) from ho)
          have HK := Lib.hid hkp
          clear ho hkp
          go_wp2
          go_ret
          exact ⟨_, rfl, HO.out, HK.out⟩
    · have f1 : ((a.length : Int) != 17) = true := by simp; omega
      obtain ⟨N, hN⟩ : ∃ N, a.length = N := ⟨_, rfl⟩
      obtain ⟨M, hM⟩ : ∃ M, b.length = M := ⟨_, rfl⟩
      have HE1 := Lib.hid e1
      rw [hN] at f1 hla ⊢
      rw [hM] at hlb ⊢
      clear ha hb h17 e1 hN hM
      have HDA := Lib.hid (show ∀ k, difK a b k = true from fun k => by unfold difK; simp [HE1.out])
      go_enter Try.func28, Try.ntmps28
      go_wp2
      go_loopw [6, 16] (fun lv i wr => DiRel w a b lv i wr) (fun _ i _ => 17 - (intOf i).toNat)
      case atStart => exact ⟨0, rfl, by omega, Own.nil _ _, Keep.refl _⟩
      case round =>
        obtain ⟨k, rfl, hk, ho, hkp⟩ := hrel
        by_cases hlt : k < 17
        · have HO := Lib.hid ho
          have HK := Lib.hid hkp
          have HDT := Lib.hid (HDA.out k)
          clear ho hkp
          go_wp2_with fail
          refine wp_region_keep (Keep.refl _) (by kernel_rfl) (by kernel_rfl) ?_
          repeat (first | go_big_quiet_step (fail) | quiet_step (fail))
          refine wpQuiet_nil ?_
          rintro w6 ⟨⟨w7, b7⟩, hw6⟩
          obtain rfl : w7 = w6 := hw6.symm
          have hw4 : Keep w7 (w7.alloc (.cells #[.int .i64 (k : Nat)] 3)) := (Keep.refl w7).alloc _
          have HO4 := Lib.hid ((HO.out.keep b7).keep hw4)
          have HK4 := Lib.hid (HK.out.trans (b7.trans hw4))
          have hb4 := HK4.out.size
          have HC4 : Hid (Cells nl (w7.alloc (.cells #[.int .i64 (k : Nat)] 3)) (.slice (some ⟨w7.heap.size, 0, none⟩) 1 1) [k]) := Lib.hid (Cells.one k)
          have hrl := range_len a b k
          clear hw4 hw6 b7
          go_wp2_with (at_builtin; refine wp_app elN rfl _ _ rfl w.heap.size _ _ _ [k] rfl rfl HO4.out HC4.out ?q1 ?q2 ?q3 ?_)
          case q1 => simp only [List.length_singleton]; omega
          case q2 => simp only [List.length_singleton]; omega
          case q3 => exact hb4
          intro v' w9 k1 k2
          have HRL := Lib.hid (show DiRel w a b v' (.int .i64 ((k : Int) + 1)) w9 from ⟨k + 1, by go_num, by omega, by rw [range_keep HDT.out]; exact k1, HO4.out.grown HK4.out (Nat.le_refl _) k2⟩)
          clear k1 k2 hb4
          go_wp2
          go_roundw
          case rel => exact HRL.out
          case measure => simp [intOf]; omega
        · obtain rfl : k = 17 := by omega
          have HO := Lib.hid (show Own 3 1 nl w.heap.size wr _ (diffD a b) from ho)
          have HK := Lib.hid hkp
          clear ho hkp
          go_wp2
          go_ret
          exact ⟨_, rfl, HO.out, HK.out⟩
set_option maxRecDepth 100000 in
set_option maxHeartbeats 1000000 in
theorem qdiffer (u v : Value) (a b : List Dg) (w : World) (ha : Lg dl w u a) (hb : Lg dl w v b) (hla : a.length ≤ 1000000) (hlb : b.length ≤ 1000000) : Calls Try.prog 36 #[u, v] w fun e w' => ∃ v', e = .returned v' ∧ Own 3 1 nl w.heap.size w' v' (diffD a b) ∧ Keep w w' := by
  obtain ⟨a1, c1, rfl⟩ := ha.form
  obtain ⟨a2, c2, rfl⟩ := hb.form
  by_cases h17 : a.length = 17 ∧ b.length = 17
  · obtain ⟨e1, e2⟩ := h17
    have hca := ha.at 0 (by omega)
    have hcb := hb.at 0 (by omega)
    obtain ⟨g1, o1, cap1, q1, _, _, _⟩ := hca.ptr 0 (by omega)
    obtain ⟨g2, o2, cap2, q2, _, _, _⟩ := hcb.ptr 0 (by omega)
    simp at q1 q2
    obtain ⟨rfl, rfl⟩ := q1
    obtain ⟨rfl, rfl⟩ := q2
    obtain ⟨n, hn⟩ : ∃ n, n = 2 := ⟨2, rfl⟩
    have hsz : ∀ w, (Go.sizeOf 93).run Try.prog w = .ok n w := fun w => by rw [hn]; exact Try.sizeOf93 w
    have hn0 : ¬ n = 0 := by omega
    have HN := Lib.hid hn
    have HA := Lib.hid hca
    have HB := Lib.hid hcb
    have HE1 := Lib.hid e1
    have HE2 := Lib.hid e2
    rw [e1] at ha hca ⊢
    rw [e2] at hb hcb ⊢
    clear ha hb hca hcb hn e1 e2 hla hlb
    go_enter Try.func36, Try.ntmps36
    go_wp2
    go_loopw [5, 6] (fun lv i wr => DiRel w a b lv i wr) (fun _ i _ => 17 - (intOf i).toNat)
    case atStart => exact ⟨0, rfl, by omega, Own.nil _ _, Keep.refl _⟩
    case round =>
      obtain ⟨k, rfl, hk, ho, hkp⟩ := hrel
      by_cases hlt : k < 17
      · obtain ⟨x, hx⟩ : ∃ x, a[k]? = some x := ⟨_, List.getElem?_eq_getElem (by rw [HE1.out]; exact hlt)⟩
        obtain ⟨y, hy⟩ : ∃ y, b[k]? = some y := ⟨_, List.getElem?_eq_getElem (by rw [HE2.out]; exact hlt)⟩
        have d1 : ∀ u : KW wr, (loadCellsFrom ⟨g1, o1 + k * n, none⟩ 0 n #[]).run Try.prog u.1 = .ok (dc x) u.1 := fun u => (HA.out.keep (hkp.trans u.2)).dg HN.out k x hx
        have d2 : ∀ u : KW wr, (loadCellsFrom ⟨g2, o2 + k * n, none⟩ 0 n #[]).run Try.prog u.1 = .ok (dc y) u.1 := fun u => (HB.out.keep (hkp.trans u.2)).dg HN.out k y hy
        have heq : ∀ w, (Op.equalIn 10000 93 (.agg (dc x)) (.agg (dc y))).run Try.prog w = .ok (decide (x = y)) w := fun w => eq_dq 9997 x y w
        have HD := Lib.hid (show difK a b k = decide (x ≠ y) by unfold difK; simp [HE1.out, HE2.out, hx, hy])
        have HO := Lib.hid ho
        have HK := Lib.hid hkp
        clear ho hkp hx hy
        by_cases hxy : x = y
        · simp only [decide_eq_true hxy] at heq
          have HXY := Lib.hid hxy
          clear hxy
          generalize dc x = X at *
          generalize dc y = Y at *
          have HDF := Lib.hid (show difK a b k = false by rw [HD.out]; simp [HXY.out])
          go_wp2_with fail
          refine wp_region_keep (Keep.refl _) (by kernel_rfl) (by kernel_rfl) ?_
          repeat (first | go_big_quiet_step (fail) | quiet_step (fail))
          refine wpQuiet_nil ?_
          rintro w6 ⟨⟨w7, b7⟩, hw6⟩
          obtain rfl : w7 = w6 := hw6.symm
          have HRL := Lib.hid (show DiRel w a b _ (.int .i64 ((k : Int) + 1)) w7 from ⟨k + 1, by go_num, by omega, by rw [range_skip HDF.out]; exact HO.out.keep b7, HK.out.trans b7⟩)
          clear hw6 b7 d1 d2 heq
          go_wp2
          go_roundw
          case rel => exact HRL.out
          case measure => simp [intOf]; omega
        · simp only [decide_eq_false hxy] at heq
          have HDT := Lib.hid (show difK a b k = true by rw [HD.out]; simp [hxy])
          clear hxy
          generalize dc x = X at *
          generalize dc y = Y at *
          go_wp2_with fail
          refine wp_region_keep (Keep.refl _) (by kernel_rfl) (by kernel_rfl) ?_
          repeat (first | go_big_quiet_step (fail) | quiet_step (fail))
          refine wpQuiet_nil ?_
          rintro w6 ⟨⟨w7, b7⟩, hw6⟩
          obtain rfl : w7 = w6 := hw6.symm
          have hw4 : Keep w7 (w7.alloc (.cells #[.int .i64 (k : Nat)] 3)) := (Keep.refl w7).alloc _
          have HO4 := Lib.hid ((HO.out.keep b7).keep hw4)
          have HK4 := Lib.hid (HK.out.trans (b7.trans hw4))
          have hb4 := HK4.out.size
          have HC4 : Hid (Cells nl (w7.alloc (.cells #[.int .i64 (k : Nat)] 3)) (.slice (some ⟨w7.heap.size, 0, none⟩) 1 1) [k]) := Lib.hid (Cells.one k)
          have hrl := range_len a b k
          clear hw4 hw6 b7 d1 d2 heq
          go_wp2_with (at_builtin; refine wp_app elN rfl _ _ rfl w.heap.size _ _ _ [k] rfl rfl HO4.out HC4.out ?q1 ?q2 ?q3 ?_)
          case q1 => simp only [List.length_singleton]; omega
          case q2 => simp only [List.length_singleton]; omega
          case q3 => exact hb4
          intro v' w9 k1 k2
          have HRL := Lib.hid (show DiRel w a b v' (.int .i64 ((k : Int) + 1)) w9 from ⟨k + 1, by go_num, by omega, by rw [range_keep HDT.out]; exact k1, HO4.out.grown HK4.out (Nat.le_refl _) k2⟩)
          clear k1 k2 hb4
          go_wp2
          go_roundw
          case rel => exact HRL.out
          case measure => simp [intOf]; omega
      · obtain rfl : k = 17 := by omega
        have HO := Lib.hid (show Own 3 1 nl w.heap.size wr _ (diffD a b) from ho)
        have HK := Lib.hid hkp
        clear ho hkp
        go_wp2
        go_ret
        exact ⟨_, rfl, HO.out, HK.out⟩
  · by_cases e1 : a.length = 17
    · have e2 : b.length ≠ 17 := fun e => h17 ⟨e1, e⟩
      have f1 : ((a.length : Int) != 17) = false := by simp; omega
      have f2 : ((b.length : Int) != 17) = true := by simp; omega
      obtain ⟨N, hN⟩ : ∃ N, a.length = N := ⟨_, rfl⟩
      obtain ⟨M, hM⟩ : ∃ M, b.length = M := ⟨_, rfl⟩
      have HE2 := Lib.hid e2
      rw [hN] at f1 hla ⊢
      rw [hM] at f2 hlb ⊢
      clear ha hb h17 e1 e2 hN hM
      have HDA := Lib.hid (show ∀ k, difK a b k = true from fun k => by unfold difK; simp [HE2.out])
      go_enter Try.func36, Try.ntmps36
      go_wp2
      go_loopw [5, 6] (fun lv i wr => DiRel w a b lv i wr) (fun _ i _ => 17 - (intOf i).toNat)
      case atStart => exact ⟨0, rfl, by omega, Own.nil _ _, Keep.refl _⟩
      case round =>
        obtain ⟨k, rfl, hk, ho, hkp⟩ := hrel
        by_cases hlt : k < 17
        · have HO := Lib.hid ho
          have HK := Lib.hid hkp
          have HDT := Lib.hid (HDA.out k)
          clear ho hkp
          go_wp2_with fail
          refine wp_region_keep (Keep.refl _) (by kernel_rfl) (by kernel_rfl) ?_
          repeat (first | go_big_quiet_step (fail) | quiet_step (fail))
          refine wpQuiet_nil ?_
          rintro w6 ⟨⟨w7, b7⟩, hw6⟩
          obtain rfl : w7 = w6 := hw6.symm
          have hw4 : Keep w7 (w7.alloc (.cells #[.int .i64 (k : Nat)] 3)) := (Keep.refl w7).alloc _
          have HO4 := Lib.hid ((HO.out.keep b7).keep hw4)
          have HK4 := Lib.hid (HK.out.trans (b7.trans hw4))
          have hb4 := HK4.out.size
          have HC4 : Hid (Cells nl (w7.alloc (.cells #[.int .i64 (k : Nat)] 3)) (.slice (some ⟨w7.heap.size, 0, none⟩) 1 1) [k]) := Lib.hid (Cells.one k)
          have hrl := range_len a b k
          clear hw4 hw6 b7
          go_wp2_with (at_builtin; refine wp_app elN rfl _ _ rfl w.heap.size _ _ _ [k] rfl rfl HO4.out HC4.out ?q1 ?q2 ?q3 ?_)
          case q1 => simp only [List.length_singleton]; omega
          case q2 => simp only [List.length_singleton]; omega
          case q3 => exact hb4
          intro v' w9 k1 k2
          have HRL := Lib.hid (show DiRel w a b v' (.int .i64 ((k : Int) + 1)) w9 from ⟨k + 1, by go_num, by omega, by rw [range_keep HDT.out]; exact k1, HO4.out.grown HK4.out (Nat.le_refl _) k2⟩)
          clear k1 k2 hb4
          go_wp2
          go_roundw
          case rel => exact HRL.out
          case measure => simp [intOf]; omega
        · obtain rfl : k = 17 := by omega
          have HO := Lib.hid (show Own 3 1 nl w.heap.size wr _ (diffD a b) from ho)
          have HK := Lib.hid hkp
          clear ho hkp
          go_wp2
          go_ret
          exact ⟨_, rfl, HO.out, HK.out⟩
    · have f1 : ((a.length : Int) != 17) = true := by simp; omega
      obtain ⟨N, hN⟩ : ∃ N, a.length = N := ⟨_, rfl⟩
      obtain ⟨M, hM⟩ : ∃ M, b.length = M := ⟨_, rfl⟩
      have HE1 := Lib.hid e1
      rw [hN] at f1 hla ⊢
      rw [hM] at hlb ⊢
      clear ha hb h17 e1 hN hM
      have HDA := Lib.hid (show ∀ k, difK a b k = true from fun k => by unfold difK; simp [HE1.out])
      go_enter Try.func36, Try.ntmps36
      go_wp2
      go_loopw [5, 6] (fun lv i wr => DiRel w a b lv i wr) (fun _ i _ => 17 - (intOf i).toNat)
      case atStart => exact ⟨0, rfl, by omega, Own.nil _ _, Keep.refl _⟩
      case round =>
        obtain ⟨k, rfl, hk, ho, hkp⟩ := hrel
        by_cases hlt : k < 17
        · have HO := Lib.hid ho
          have HK := Lib.hid hkp
          have HDT := Lib.hid (HDA.out k)
          clear ho hkp
          go_wp2_with fail
          refine wp_region_keep (Keep.refl _) (by kernel_rfl) (by kernel_rfl) ?_
          repeat (first | go_big_quiet_step (fail) | quiet_step (fail))
          refine wpQuiet_nil ?_
          rintro w6 ⟨⟨w7, b7⟩, hw6⟩
          obtain rfl : w7 = w6 := hw6.symm
          have hw4 : Keep w7 (w7.alloc (.cells #[.int .i64 (k : Nat)] 3)) := (Keep.refl w7).alloc _
          have HO4 := Lib.hid ((HO.out.keep b7).keep hw4)
          have HK4 := Lib.hid (HK.out.trans (b7.trans hw4))
          have hb4 := HK4.out.size
          have HC4 : Hid (Cells nl (w7.alloc (.cells #[.int .i64 (k : Nat)] 3)) (.slice (some ⟨w7.heap.size, 0, none⟩) 1 1) [k]) := Lib.hid (Cells.one k)
          have hrl := range_len a b k
          clear hw4 hw6 b7
          go_wp2_with (at_builtin; refine wp_app elN rfl _ _ rfl w.heap.size _ _ _ [k] rfl rfl HO4.out HC4.out ?q1 ?q2 ?q3 ?_)
          case q1 => simp only [List.length_singleton]; omega
          case q2 => simp only [List.length_singleton]; omega
          case q3 => exact hb4
          intro v' w9 k1 k2
          have HRL := Lib.hid (show DiRel w a b v' (.int .i64 ((k : Int) + 1)) w9 from ⟨k + 1, by go_num, by omega, by rw [range_keep HDT.out]; exact k1, HO4.out.grown HK4.out (Nat.le_refl _) k2⟩)
          clear k1 k2 hb4
          go_wp2
          go_roundw
          case rel => exact HRL.out
          case measure => simp [intOf]; omega
        · obtain rfl : k = 17 := by omega
          have HO := Lib.hid (show Own 3 1 nl w.heap.size wr _ (diffD a b) from ho)
          have HK := Lib.hid hkp
          clear ho hkp
          go_wp2
          go_ret
          exact ⟨_, rfl, HO.out, HK.out⟩
end Go.Proofs.Ytfikdeobejhblaa
