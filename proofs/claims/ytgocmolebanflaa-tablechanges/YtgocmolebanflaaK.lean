/- Proved: a prefix in memory. Condition: addresses have sixteen bytes; numbers fit. -/
import Derived.Test.YtgocmolebanflaaT
namespace Go.Proofs.Ytgocmolebanflaa
open Go.RowKit

/-- A prefix lies in block b. -/
structure At (w : World) (b : Nat) (p : Px) : Prop where
  block : w.heap[b]? = some (.cells (pc p) 25 (0, 0))
  len : p.addr.length = 16
theorem At.mono {w w' : World} {b : Nat} {p : Px} (h : At w b p) (k : Same w w') : At w' b p := ⟨k.obj h.block, h.len⟩
theorem At.six {w : World} {b : Nat} {p : Px} (h : At w b p) : w.cell? ⟨b, 0, none⟩ = some (.bool p.six) := cell_obj h.block (pc_six p)
theorem At.bits {w : World} {b : Nat} {p : Px} (h : At w b p) : w.cell? ⟨b, 17, none⟩ = some (.int .i64 p.len) := cell_obj h.block (pc_len p h.len)
theorem At.byte {w : World} {b : Nat} {p : Px} (h : At w b p) (i : Nat) (hi : i < 16) : w.cell? ⟨b, 1 + i, none⟩ = some (.int .u8 ((p.addr.getD i 0).toNat : Nat)) := by
  have hl := h.len
  rw [cell_obj h.block (pc_get p i (by omega))]
  simp [show i < p.addr.length by omega]
theorem At.whole {w : World} {b n : Nat} {p : Px} (h : At w b p) (hn : n = 18) : (loadCellsFrom ⟨b, 0, none⟩ 0 n #[]).run Try.prog w = .ok (pc p) w := load_block n (by rw [pc_size p h.len, hn]) h.block
theorem At.addr {w : World} {b n : Nat} {p : Px} (h : At w b p) (hn : n = 16) : (loadCellsFrom ⟨b, 1, none⟩ 0 n #[]).run Try.prog w = .ok (ac p.addr) w := load_addr p (by rw [h.len, hn]) h.block
theorem one_at (w : World) (p : Px) (hp : p.addr.length = 16) : At (w.alloc (.cells (pc p) 25)) w.heap.size p ∧ Same w (w.alloc (.cells (pc p) 25)) :=
  ⟨⟨heap_alloc_last w _, hp⟩, (Same.refl w).alloc _⟩
theorem two_at (w : World) (p q : Px) (hp : p.addr.length = 16) (hq : q.addr.length = 16) : At ((w.alloc (.cells (pc p) 25)).alloc (.cells (pc q) 25)) w.heap.size p ∧ At ((w.alloc (.cells (pc p) 25)).alloc (.cells (pc q) 25)) (w.heap.size + 1) q ∧ Same w ((w.alloc (.cells (pc p) 25)).alloc (.cells (pc q) 25)) := by
  have hs : (w.alloc (.cells (pc p) 25)).heap.size = w.heap.size + 1 := by simp
  refine ⟨⟨alloc_old (heap_alloc_last w _) _, hp⟩, ⟨?_, hq⟩, ((Same.refl w).alloc _).alloc _⟩
  rw [← hs]
  exact heap_alloc_last _ _

theorem right (p : Px) (hp : p.addr.length = 16) : Gives Try.prog 44 #[.agg (pc p)] (.bool (decide (rightP p))) := right_at p hp
theorem qright (p : Px) (hp : p.addr.length = 16) : Gives Try.prog 42 #[.agg (pc p)] (.bool (decide (rightP p))) := qright_at p hp

end Go.Proofs.Ytgocmolebanflaa
