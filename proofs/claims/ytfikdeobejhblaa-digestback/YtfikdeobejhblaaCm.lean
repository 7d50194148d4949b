/- Proved: changes in memory: read, written, set anew; a list's change. No condition. -/
import Derived.Test.YtfikdeobejhblaaOi
import Derived.Test.YtfikdeobejhblaaDh
import Derived.Deep.RegionHeld
namespace Go.Proofs.Ytfikdeobejhblaa
open Go.RowKit

theorem info43b : (Try.prog.info? 52).map (fun i => (i.zero, i.size)) = some (some (.agg (ic zeroI)), 21) := by kernel_rfl
theorem ic_one (i : Ic) : ∀ v ∈ (ic i).toList, v.oneCell' = true := by
  intro v hv
  exact il_one i v (by simpa [ic] using hv)
theorem IAt.store {w : World} {b : Nat} {z : Ic} (h : IAt w b z) (i : Ic) : (storeCells ⟨b, 0, none⟩ (ic i).toList).run Try.prog w = .ok () (w.setRow b (ic i)) := by
  have hsc := run_storeCells_from (P := Try.prog) b 52 (ic i).toList 0 (ic z) w h (by rw [ic_size z]; simp [ic_size i]) (ic_one i)
  rw [List.take_zero, List.nil_append, Array.toArray_toList] at hsc
  exact hsc
theorem IAt.put {w : World} {b : Nat} {z : Ic} (h : IAt w b z) (i : Ic) : IAt (w.setRow b (ic i)) b i := block_row h _
theorem IAt.free {w : World} {b : Nat} {i : Ic} (h : IAt w b i) (j : Nat) : w.frozen? ⟨b, j, none⟩ = false := by
  unfold IAt at h
  simp [World.frozen?, h]
theorem IAt.setKind {w : World} {b : Nat} {i : Ic} (h : IAt w b i) (k : Int) : IAt (w.setCell ⟨b, 0, none⟩ (.int .i64 k)) b ⟨k, i.route⟩ := by
  have h1 := block_set h 0 (.int .i64 k)
  unfold IAt
  rw [h1]
  congr 2
theorem Cells.ic {w : World} {g o cap n : Nat} {l : List Ic} (h : Cells il w (.slice (some ⟨g, o, none⟩) l.length cap) l) (hn : n = 21) (j : Nat) (x : Ic) (hx : l[j]? = some x) : (loadCellsFrom ⟨g, o + j * n, none⟩ 0 n #[]).run Try.prog w = .ok (ic x) w := by
  have := h.load (P := Try.prog) (n := n) il_len j x hx 0 21 (il x) (by rw [List.drop_zero, List.take_of_length_le (by rw [il_len]; exact Nat.le_refl _)]) (by omega) hn
  rw [Nat.add_zero, ← hn] at this
  exact this
end Go.Proofs.Ytfikdeobejhblaa
