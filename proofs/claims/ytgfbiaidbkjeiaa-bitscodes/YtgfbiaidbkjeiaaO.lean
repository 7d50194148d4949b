/- An argument that is a list of Op, opened: its cells, and that its numbers fit. No condition. -/
import Derived.Test.YtgfbiaidbkjeiaaN
import Derived.ProofKit
import Derived.Lib.SmallJoins
import Derived.Deep.Slices
namespace Go.Proofs.Ytgfbiaidbkjeiaa
open Go.RowKit Go.ChangeShapes Go.WideShapes Go.Joins Go.Deep

structure Opv where
  kd : Int
  n : Int
  u : Nat
instance : Inhabited Opv := ⟨⟨0, 0, 0⟩⟩

structure OpvOk (o : Opv) : Prop where
  kd : (Lit.int .i64 o.kd).wf = true
  n : (Lit.int .i64 o.n).wf = true
  u : o.u < 2 ^ 64

structure OpCells (w : World) (b off : Nat) (o : Opv) : Prop where
  kd : w.cell? ⟨b, off, none⟩ = some (.int .i64 o.kd)
  n : w.cell? ⟨b, off + 1, none⟩ = some (.int .i64 o.n)
  u : w.cell? ⟨b, off + 2, none⟩ = some (.int .u64 o.u)

structure OpsAt (w : World) (a : Option Addr) (len : Nat) (o : Nat → Opv) : Prop where
  cells : ∀ i, i < len → ∃ b off, a = some ⟨b, off, none⟩ ∧ b < w.heap.size ∧ OpCells w b (off + i * 3) (o i)
  ok : ∀ i, i < len → OpvOk (o i)

theorem OpsAt.same {w w' : World} {a : Option Addr} {len : Nat} {o : Nat → Opv} (h : OpsAt w a len o) (k : Same w w') : OpsAt w' a len o := by
  refine ⟨fun i hi => ?_, h.ok⟩
  obtain ⟨b, off, ha, hb, hc⟩ := h.cells i hi
  exact ⟨b, off, ha, Nat.lt_of_lt_of_le hb k.size, ⟨(Below.cell k hb).trans hc.kd, (Below.cell k hb).trans hc.n, (Below.cell k hb).trans hc.u⟩⟩

theorem cells30 : Try.prog.cellsOf 30 = 3 := by kernel_rfl

theorem opsCells_lt {w : World} {b off : Nat} {v : Value} (h : w.cell? ⟨b, off, none⟩ = some v) : b < w.heap.size := World.block_lt_of_cell? w ⟨b, off, none⟩ h

theorem open_ops {H : Type} {enc : TypeId × Value → H} {W : World} {r : Reach} {b0 : Nat} {v : Value} {d : DataW H} {p : List MemPlace}
    (hv : Value.okWide Try.prog W r b0 22 v) (h : DataW.Trod enc Try.prog W 0 (fun _ => true) true 22 v d p) :
    ∃ (a : Option Addr) (len cap : Nat) (o : Nat → Opv), v = .slice a len cap ∧ OpsAt W a len o := by
  obtain ⟨a0, len, cap, rfl⟩ := okWide_slice Try.underlying22 hv
  obtain ⟨fuel, hf⟩ := h
  rcases open_slice Try.underlying22 hf with ⟨hcs, _⟩ | ⟨x, l, c, m, n, D, Pl, hcs, hb, hl, hm, hmm, _, hi⟩
  · simp [Value.cells] at hcs
    obtain ⟨rfl, rfl, rfl⟩ := hcs
    exact ⟨none, 0, 0, fun _ => default, rfl, ⟨fun i hi => by omega, fun i hi => by omega⟩⟩
  · simp [Value.cells] at hcs
    obtain ⟨rfl, rfl, rfl⟩ := hcs
    have hm2 : len ≤ m := by rw [hmm]; simp; omega
    obtain ⟨o, ho⟩ := choose_lt (α := Opv) (n := len) (p := fun i o => (∃ b off, some x = some (⟨b, off, none⟩ : Addr) ∧ b < W.heap.size ∧ OpCells W b (off + i * 3) o) ∧ OpvOk o) (fun i hi' => by
      obtain ⟨cs, hc, ht⟩ := hi i (by omega)
      rw [cells30] at hc
      obtain ⟨_, hlen, hat⟩ := World.cells?_some hc
      match cs, hlen with
      | [c0, c1, c2], _ =>
        obtain ⟨y0, y1, y2, n', _, _, g0, g1, g2⟩ := trod_struct3 Try.underlying30 ht
        have t3 : Try.prog.cellsOf 3 = 1 := by kernel_rfl
        have t28 : Try.prog.cellsOf 28 = 1 := by kernel_rfl
        simp only [t3, t28, List.drop_succ_cons, List.drop_zero, List.take_succ_cons, List.take_zero] at g0 g1 g2
        obtain ⟨kd, e0, _, w0⟩ := DataW.trod_int Try.underlying3 g0
        obtain ⟨nn, e1, _, w1⟩ := DataW.trod_int Try.underlying3 g1
        obtain ⟨u, e2, _, w2⟩ := DataW.trod_int Try.underlying28 g2
        simp at e0 e1 e2
        subst e0 e1 e2
        have hub := bounds_u64 w2
        obtain ⟨u, rfl⟩ := Int.eq_ofNat_of_zero_le hub.1
        have a0 := hat 0 (by omega)
        have a1 := hat 1 (by omega)
        have a2 := hat 2 (by omega)
        obtain ⟨b, off, spot⟩ := x
        have hspot : spot = none := by
          by_cases hz : i * 3 = 0
          · rw [hz] at a0; simpa [Addr.add] using World.cell?_spot a0
          · have b0 := hi 0 (by omega)
            obtain ⟨cs0, hc0, _⟩ := b0
            rw [cells30] at hc0
            obtain ⟨_, hlen0, hat0⟩ := World.cells?_some hc0
            match cs0, hlen0 with
            | [q0, q1, q2], _ => simpa [Addr.add] using World.cell?_spot (hat0 0 (by omega))
        subst hspot
        rw [add_plain, add_plain] at a0 a1 a2
        exact ⟨⟨kd, nn, u⟩, ⟨b, off, rfl, opsCells_lt a0, ⟨a0, a1, a2⟩⟩, ⟨w0, w1, (by show u < 2 ^ 64; omega)⟩⟩)
    exact ⟨some x, len, cap, o, rfl, ⟨fun i hi => (ho i hi).1, fun i hi => (ho i hi).2⟩⟩

/-- A copy of an Op lies in block g. -/
structure OpBox (w : World) (g : Nat) (o : Opv) : Prop where
  block : w.heap[g]? = some (.cells #[.int .i64 o.kd, .int .i64 o.n, .int .u64 o.u] 30 (0, 0))
theorem OpBox.kd {w : World} {g : Nat} {o : Opv} (h : OpBox w g o) : w.cell? ⟨g, 0, none⟩ = some (.int .i64 o.kd) := cell_obj h.block rfl
theorem OpBox.n {w : World} {g : Nat} {o : Opv} (h : OpBox w g o) : w.cell? ⟨g, 1, none⟩ = some (.int .i64 o.n) := cell_obj h.block rfl
theorem OpBox.u {w : World} {g : Nat} {o : Opv} (h : OpBox w g o) : w.cell? ⟨g, 2, none⟩ = some (.int .u64 o.u) := cell_obj h.block rfl
theorem OpBox.same {w w' : World} {g : Nat} {o : Opv} (h : OpBox w g o) (k : Same w w') : OpBox w' g o := ⟨k.obj h.block⟩
theorem OpBox.only {w w' : World} {g b : Nat} {o : Opv} (h : OpBox w g o) (k : Only b w w') (hb : g ≠ b) : OpBox w' g o := ⟨by rw [k.block g (lt_of_block h.block) hb]; exact h.block⟩
theorem OpBox.new (w : World) (o : Opv) : OpBox (w.alloc (.cells #[.int .i64 o.kd, .int .i64 o.n, .int .u64 o.u] 30)) w.heap.size o := ⟨heap_alloc_last w _⟩
end Go.Proofs.Ytgfbiaidbkjeiaa
