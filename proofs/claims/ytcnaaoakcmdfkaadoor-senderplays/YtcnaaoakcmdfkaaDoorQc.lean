/- Proved: what the document's Behind of maps of chunks answers, a list of bools in memory; a list of bools made. Condition: the list has at most 256 bools. -/
import Derived.Test.YtcnaaoakcmdfkaaDoorQb
namespace Go.Proofs.YtcnaaoakcmdfkaaDoor
open Go.RowKit

theorem getD_behind (l : List Bool) (i : Nat) (h : ¬ i < l.length) : l.getD i false = false := getD_out l i (Nat.not_lt.1 h)
theorem make_bools (n : Nat) (hn : n ≤ 256) (w : World) : ∃ w', (Instr.makeSlice 48 (.int .i64 n) (.int .i64 n)).run Tryd.prog w = .ok (.slice (some ⟨w.heap.size, 0, none⟩) n n) w' ∧ OwnO w.heap.size w' (.slice (some ⟨w.heap.size, 0, none⟩) n n) (List.replicate n false) ∧ Keep w w' := by
  obtain ⟨i0, hi, hz0, hz1, hz2⟩ := info_parts info4
  obtain ⟨w', h1, h2, h3⟩ := run_make_full (P := Tryd.prog) w w.heap.size 48 4 i0 (.bool false) 1 Tryd.underlying48 hi hz0 hz1 .i64 .i64 n (by rw [hz2]; omega) (by unfold maxLen; omega) (Nat.le_refl _)
  refine ⟨w', h1, ?_, (Keep.refl w).grown h3 (fun k hk => by cases hk)⟩
  unfold OwnO Own
  have e : flat be (List.replicate n false) = (madeCells (Value.bool false).cells (n * 1)).toList := by
    rw [flat_be, Nat.mul_one, show (Value.bool false).cells = #[Value.bool false] from rfl, toList_madeCells_one, List.map_replicate]
  rw [e, List.length_replicate]
  exact h2

end Go.Proofs.YtcnaaoakcmdfkaaDoor
