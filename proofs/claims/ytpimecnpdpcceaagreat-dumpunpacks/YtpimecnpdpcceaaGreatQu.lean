/- Proved: what the document's Tokens of layer 5 answers. Condition: the text has at most 10^8 bytes. -/
import Derived.Test.YtpimecnpdpcceaaGreatQt
import Derived.Test.YtpimecnpdpcceaaGreatBm
namespace Go.Proofs.YtpimecnpdpcceaaGreat
open Go.RowKit

theorem build_rd (s : ByteArray) (w : World) : (Instr.build 152 #[(0, .string s)]).run Tryz.prog w = .ok (.agg #[.string s, .int .i64 0]) w := by kernel_rfl
theorem qd_new (w : World) (l : List Bool) (hl : l.length ≤ 1000000000) : Bit.Qd (w.alloc (.cells #[.string ⟨(Bit.strL l).toArray⟩, .int .i64 0] 152)) w.heap.size l 0 := ⟨heap_alloc_last w _, hl⟩
theorem Qd_keep {w w' : World} {b : Nat} {l : List Bool} {x : Int} (h : Bit.Qd w b l x) (k : Keep w w') : Bit.Qd w' b l x := h.same (kb k)
theorem Qd_app {α : Type} {t k : Nat} {enc : α → List Value} {B b : Nat} {l : List Bool} {x : Int} {w w' : World} {v : Value} {m : List α} (h : Bit.Qd w b l x) (ho : Own t k enc B w v m) (hb : b < B) (hg : w.grownBy w' v.ownBlock) : Bit.Qd w' b l x := by
  refine ⟨?_, h.len⟩
  rw [hg.block b (Bit.lt_of_block h.block) fun e => by
    have := (World.ownsRow.lt ho b e.symm).1
    omega]
  exact h.block
theorem build_copyQ (x y : Nat) (w : World) : (Instr.build 155 #[(1, .int .i64 x), (2, .int .i64 y)]).run Tryz.prog w = .ok (.agg (tc ⟨0, x, y⟩)) w := by kernel_rfl
theorem build_byteQ (c : UInt8) (w : World) : (Instr.build 155 #[(0, .int .u8 (c.toNat : Nat))]).run Tryz.prog w = .ok (.agg (tc ⟨c, 0, 0⟩)) w := by kernel_rfl
theorem slice_tokQ (t : Lz.Tk) (w : World) : (Instr.buildSlice 129 1 #[(0, .agg (tc t))]).run Tryz.prog w = .ok (.slice (some ⟨w.heap.size, 0, none⟩) 1 1) (w.alloc (.cells (tc t) 155)) := by
  obtain ⟨b, x, y⟩ := t
  kernel_rfl
theorem Row.tokQ (w : World) (t : Lz.Tk) : Row tl 155 (w.alloc (.cells (tc t) 155)) (.slice (some ⟨w.heap.size, 0, none⟩) 1 1) [t] := by
  have hb : (w.alloc (.cells (tc t) 155)).heap[w.heap.size]? = some (.cells (tc t) 155 (0, 0)) := heap_alloc_last w _
  refine ⟨.inr ⟨w.heap.size, 0, 1, rfl, by simp, by unfold maxLen; omega, by simp, fun j u hj => ?_⟩, fun g hg => ?_⟩
  · refine cell_obj hb ?_
    rw [flat_one] at hj
    simpa [tc] using hj
  · simp [Value.ownBlock] at hg
    subst hg
    exact ⟨_, _, hb⟩

set_option maxRecDepth 100000 in
theorem qcode5 (b : Nat) (l : List Bool) (x : Int) (w : World) (h : Bit.Qd w b l x) : Calls Tryz.prog 96 #[.pointer (some ⟨b, 0, none⟩)] w (Bit.QdPost b w (.int .u64 ((Bit.codeF l x).1 : Nat)) (Bit.codeF l x).2.1 (Bit.codeF l x).2.2) := by
  have HC := Lib.hid (Bit.qcode_at b l x w h)
  go_enter Tryz.func96, Tryz.ntmps96
  go_wp2_with fail
  refine HC.out.mono ?_
  rintro e w1 ⟨rfl, r1, o1⟩
  go_wp2
  go_ret
  exact ⟨rfl, r1, o1⟩
end Go.Proofs.YtpimecnpdpcceaaGreat
