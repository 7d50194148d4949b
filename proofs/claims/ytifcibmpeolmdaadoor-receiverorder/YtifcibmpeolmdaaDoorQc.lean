/- Proved: what the document's Behind of maps of chunks answers, a list of bools in memory; a list of bools made. Condition: the list has at most 256 bools. -/
import Derived.Test.YtifcibmpeolmdaaDoorQb
namespace Go.Proofs.YtifcibmpeolmdaaDoor
open Go.RowKit

theorem getD_behind (l : List Bool) (i : Nat) (h : ¬ i < l.length) : l.getD i false = false := getD_out l i (Nat.not_lt.1 h)
theorem make_bools (n : Nat) (hn : n ≤ 256) (w : World) : ∃ w', (Instr.makeSlice 37 (.int .i64 n) (.int .i64 n)).run Tryd.prog w = .ok (.slice (some ⟨w.heap.size, 0, none⟩) n n) w' ∧ OwnO w.heap.size w' (.slice (some ⟨w.heap.size, 0, none⟩) n n) (List.replicate n false) ∧ Keep w w' := by
  obtain ⟨i0, hi, hz0, hz1, hz2⟩ := info_parts info4
  obtain ⟨w', h1, h2, h3⟩ := run_make_full (P := Tryd.prog) w w.heap.size 37 4 i0 (.bool false) 1 Tryd.underlying37 hi hz0 hz1 .i64 .i64 n (by rw [hz2]; omega) (by unfold maxLen; omega) (Nat.le_refl _)
  refine ⟨w', h1, ?_, (Keep.refl w).grown h3 (fun k hk => by cases hk)⟩
  unfold OwnO Own
  have e : flat be (List.replicate n false) = (madeCells (Value.bool false).cells (n * 1)).toList := by
    rw [flat_be, Nat.mul_one, show (Value.bool false).cells = #[Value.bool false] from rfl, toList_madeCells_one, List.map_replicate]
  rw [e, List.length_replicate]
  exact h2

set_option maxRecDepth 100000 in
set_option maxHeartbeats 1000000 in
theorem qbehind (v : Value) (l : List Bool) (k : Int) (w : World) (h : CelO w v l) (hf : l.length ≤ 256) : Calls Tryd.prog 40 #[v, .int .i64 k] w fun e w' => e = .returned (.string ⟨(behB l k).toArray⟩) ∧ Keep w w' := by
  obtain ⟨q, cap, rfl, _, _⟩ := h.form
  have HC := Lib.hid h
  have HQ := Lib.hid (fun w1 (k1 : Keep w w1) => qbase _ l w1 (h.keep k1) hf)
  clear h
  obtain ⟨N, hN⟩ : ∃ N, l.length = N := ⟨_, rfl⟩
  have HN := Lib.hid hN
  have hbl := base_le l
  rw [hN] at hf HQ hbl ⊢
  clear hN
  obtain ⟨y, hy⟩ : ∃ y, max k 0 = y := ⟨_, rfl⟩
  obtain ⟨kk, hkk⟩ : ∃ kk, kN k = kk := ⟨_, rfl⟩
  have hk256 := kN_le k
  rw [hkk] at hk256
  have hmax : ∀ w ts t, (Builtin.max_ ts t #[.int .i64 k, .int .i64 0]).run Tryd.prog w = .ok (.int .i64 y) w := fun w ts t => by
    rw [run_max_int2, show (if (0 : Int) > k then 0 else k) = y by omega]
  have hmin : ∀ w ts t, (Builtin.min_ ts t #[.int .i64 y, .int .i64 256]).run Tryd.prog w = .ok (.int .i64 kk) w := fun w ts t => by
    rw [run_min_int2, show (if (256 : Int) < y then (256 : Int) else y) = kk by unfold kN at hkk; omega]
  obtain ⟨K, hK⟩ : ∃ K, (kk + 7) / 8 = K := ⟨_, rfl⟩
  have hmk := make_at K (by omega) w
  rw [show ((K : Nat) : Int) = ((kk : Int) + 7) / 8 by omega] at hmk
  have HB : Hid (behB l k = tolK l kk kk) := Lib.hid (by unfold behB; rw [hkk, tolK_full])
  have H0 := Lib.hid (show BhRel w l w.heap.size kk (.int .i64 0) (w.alloc (.cells (ac (List.replicate K 0)) 5)) from ⟨0, rfl, Nat.zero_le _, by rw [tolK_zero, hK]; exact heap_alloc_last w _, (Keep.refl w).alloc _⟩)
  have HKa := Lib.hid ((Keep.refl w).alloc (.cells (ac (List.replicate K 0)) 5))
  have HKK := Lib.hid hK
  have HB2 := Lib.hid hkk
  clear hy hkk hK
  go_enter Tryd.func40, Tryd.ntmps40
  go_wp2_with fail
  refine (HQ.out _ HKa.out).mono ?_
  rintro e w1 ⟨rfl, rfl⟩
  go_wp2
  generalize hgg : w.heap.size = g at *
  have HG := Lib.hid hgg
  clear hgg
  go_loopw [7] (fun i wr => BhRel w l g kk i wr) (fun i _ => kk - (intOf i).toNat)
  case atStart => exact H0.out
  case round =>
    obtain ⟨j, rfl, hj, hb, hk⟩ := hrel
    have HBk := Lib.hid hb
    have HK := Lib.hid hk
    clear hb hk H0 HKa hmk
    by_cases hlt : j < kk
    · by_cases hin : baseN l + 1 + j < N
      · have d1 : decide (((baseN l : Nat) : Int) + 1 + (j : Int) < (N : Int)) = true := decide_eq_true (by omega)
        obtain ⟨g1, o1, cap1, e, _, _, _⟩ := HC.out.ptr (baseN l + 1 + j) (by rw [HN.out]; exact hin)
        simp at e
        obtain ⟨rfl, rfl⟩ := e
        have hc1 := (HC.out.keep HK.out).bool (baseN l + 1 + j) (by rw [HN.out]; exact hin)
        cases hg : l.getD (baseN l + 1 + j) false
        · have HE := Lib.hid (tolK_no l kk j hlt hg)
          rw [hg] at hc1
          clear hg
          generalize baseN l = B at *
          go_wp2
          go_roundw
          case rel => exact ⟨j + 1, by go_num, hlt, by rw [HE.out]; exact HBk.out, HK.out⟩
          case measure => simp [intOf]; omega
        · have HE := Lib.hid (tolK_yes l kk j hg)
          rw [hg] at hc1
          have hl2 : j / 8 < (tolK l kk j).length := by rw [tolK_len]; omega
          have hget := tolK_get l kk j (j / 8) hl2
          obtain ⟨hor, hx⟩ := add_bit (byteN (behL l j) (j / 8)) (j % 8) (Nat.mod_lt _ (by omega)) (tol_last l j)
          have hc : wr.cell? ⟨g, j / 8, none⟩ = some (.int .u8 (byteN (behL l j) (j / 8) : Nat)) := by rw [← hget]; exact cell_obj HBk.out (ac_get _ _ hl2)
          have hfr : wr.frozen? ⟨g, j / 8, none⟩ = false := by simp [World.frozen?, HBk.out]
          have HP := Lib.hid (show (wr.setCell ⟨g, j / 8, none⟩ (.int .u8 (byteN (behL l j) (j / 8) + 2 ^ (j % 8) : Nat))).heap[g]? = some (.cells (ac (tolK l kk (j + 1))) 5 (0, 0)) by
            rw [block_set HBk.out, ac_set _ _ _ hx, HE.out])
          have hj8 : j / 8 < K := by have := HKK.out; omega
          generalize byteN (behL l j) (j / 8) + 2 ^ (j % 8) = y2 at *
          generalize byteN (behL l j) (j / 8) = x at *
          clear hget hl2 hx hg
          generalize baseN l = B at *
          go_wp2_with fail
          go_region
          go_wp2
          go_roundw
          case rel => exact ⟨j + 1, by go_num, hlt, HP.out, (HK.out.setCell _ _ _ (by rw [HG.out]; exact Nat.le_refl _)).drew⟩
          case measure => simp [intOf]; omega
      · have d1 : decide (((baseN l : Nat) : Int) + 1 + (j : Int) < (N : Int)) = false := decide_eq_false (by omega)
        have HE := Lib.hid (tolK_no l kk j hlt (getD_behind l _ (by rw [HN.out]; exact hin)))
        generalize baseN l = B at *
        go_wp2
        go_roundw
        case rel => exact ⟨j + 1, by go_num, hlt, by rw [HE.out]; exact HBk.out, HK.out⟩
        case measure => simp [intOf]; omega
    · obtain rfl : j = kk := by omega
      have hcv := conv_bytes _ HBk.out K K (by rw [tolK_len]; exact HKK.out.symm)
      generalize baseN l = B at *
      go_wp2
      go_ret
      rw [HB.out]
      exact ⟨rfl, HK.out⟩
end Go.Proofs.YtifcibmpeolmdaaDoor
