/- Proved: what prefix's Right answers. Condition: an address has sixteen bytes. -/
import Derived.Test.YtgocmolebanflaaU
namespace Go.Proofs.Ytgocmolebanflaa
open Go.RowKit

set_option maxRecDepth 100000 in
theorem right_at (p : Px) (hp : p.addr.length = 16) (w : World) : Calls Try.prog 44 #[.agg (pc p)] w fun e w' => e = .returned (.bool (decide (rightP p))) ∧ Same w w' := by
  have c0 := pc_six p
  have c17 := pc_len p hp
  have hm := Lib.hid (fits_at p.six p.len)
  obtain ⟨n, hn⟩ : ∃ n, n = 16 := ⟨16, rfl⟩
  have hsz : ∀ w, (Go.sizeOf 23).run Try.prog w = .ok n w := fun w => by rw [hn]; exact Try.sizeOf23 w
  have hn0 : ¬ n = 0 := by omega
  have hb0 : (w.alloc (.cells (pc p) 25)).heap[w.heap.size]? = some (.cells (pc p) 25) := heap_alloc_last w _
  have d1 : ∀ u : SW (w.alloc (.cells (pc p) 25)), (loadCellsFrom ⟨w.heap.size, 1, none⟩ 0 n #[]).run Try.prog u.1 = .ok (ac p.addr) u.1 := fun u => load_addr (P := Try.prog) (n := n) p (by omega) (u.block hb0)
  obtain ⟨R, hR⟩ : ∃ R, decide (rightP p) = R := ⟨_, rfl⟩
  rw [hR]
  have HR := Lib.hid hR
  clear hR
  generalize pc p = A at *
  have HN := Lib.hid hn
  clear hn
  have hs0 : Same w (w.alloc (.cells A 25)) := (Same.refl w).alloc _
  have d0 : ∀ u : SW (w.alloc (.cells A 25)), u.1.cell? ⟨w.heap.size, 0, none⟩ = some (.bool p.six) := fun u => cell_obj (u.block hb0) c0
  have d17 : ∀ u : SW (w.alloc (.cells A 25)), u.1.cell? ⟨w.heap.size, 17, none⟩ = some (.int .i64 p.len) := fun u => cell_obj (u.block hb0) c17
  have HS := Lib.hid hs0
  clear hb0 hs0 c0 c17
  by_cases h0 : fitsB p.six p.len = true
  · rw [h0] at hm
    obtain ⟨k, hk⟩ : ∃ k : Nat, p.len = k := ⟨p.len.toNat, by simp [fitsB] at h0; omega⟩
    have hk2 : k ≤ 128 := by have := sizeN_le p.six; simp [fitsB] at h0; omega
    have hcu := Lib.hid (show Gives Try.prog 56 #[.agg (ac p.addr), .int .i64 p.len] (.agg (ac (cutL p.addr k))) by rw [hk]; exact cut_at p.addr hp k hk2)
    have heq := fun w => eq_ac 9998 (cutL p.addr k) p.addr (cutL_len _ _) hp w
    have hcs := cutL_same p.addr k hp hk2
    have HCS := Lib.hid hcs
    clear hcs
    have HK := Lib.hid hk
    have HF := Lib.hid h0
    clear hk h0
    go_enter Try.func44, Try.ntmps44
    go_wp2_with fail
    refine wp_region_same (Same.refl _) (by kernel_rfl) (by kernel_rfl) ?_
    repeat (first | go_big_quiet_step (fail) | quiet_step (fail))
    first | go_big_quiet_step (exact hm.out.at _) | quiet_step (exact hm.out.at _)
    repeat (first | go_big_quiet_step (fail) | quiet_step (fail))
    first | go_big_quiet_step (exact hcu.out.at _) | quiet_step (exact hcu.out.at _)
    repeat (first | go_big_quiet_step (fail) | quiet_step (fail))
    refine wpQuiet_nil ?_
    rintro w6 ⟨⟨w7, b7⟩, rfl⟩
    go_wp2
    go_ret
    refine ⟨?_, HS.out.trans b7⟩
    have hr := HR.out
    rw [← hr, decide_eq_decide.2 (show rightP p ↔ cutL p.addr k = p.addr from by
      rw [HCS.out]
      have hf := HF.out
      simp only [fitsB, decide_eq_true_eq] at hf
      unfold rightP
      rw [HK.out] at hf ⊢
      simp only [Int.toNat_natCast]
      exact ⟨fun h => h.2.2, fun h => ⟨hf.1, hf.2, h⟩⟩)]
    rfl
  · rw [show fitsB p.six p.len = false by simpa using h0] at hm
    go_enter Try.func44, Try.ntmps44
    go_wp2_with fail
    refine wp_region_same (Same.refl _) (by kernel_rfl) (by kernel_rfl) ?_
    repeat (first | go_big_quiet_step (exact hm.out.at _) | quiet_step (exact hm.out.at _))
    refine wpQuiet_nil ?_
    rintro w6 ⟨⟨w7, b7⟩, rfl⟩
    go_wp2
    go_ret
    have hr := HR.out
    rw [decide_eq_false (by intro h; exact h0 (by unfold rightP at h; simp [fitsB]; omega))] at hr
    exact ⟨by rw [← hr]; rfl, HS.out.trans b7⟩
end Go.Proofs.Ytgocmolebanflaa
