/- Proved: a map of chunks in memory: its cells, what of them is read, what a store makes of them; the library's table. No condition. -/
import Derived.Test.YtifcibmpeolmdaaDoorA2
import Derived.Test.YtifcibmpeolmdaaDoorSw
import Derived.Laws.BitsAllLaws
import Derived.Laws.Bits64b
import Derived.Lib.LaidTab
import Derived.Lib.SmallJoins
import Derived.Deep.WholeRow
namespace Go.Proofs.YtifcibmpeolmdaaDoor
open Go.RowKit

/-- The library's table is as its text lays it. -/
def tabZ : List Int := Lib.deBruijn64tab.map fun z : Nat => (z : Int)
def Tab (w : World) : Prop := Lib.TabIs Tryd.prog w "math/bits.deBruijn64tab" .u8 tabZ
theorem gvar : Tryd.prog.globalNamed "math/bits.deBruijn64tab" = some 0 := by kernel_rfl
theorem Tab.cell {w : World} (h : Tab w) (i : Nat) (hi : i < 64) : w.cell? ⟨0, i, none⟩ = some (.int .u8 (Lib.deBruijn64tab.getD i 0 : Nat)) := by
  have hl : tabZ.length = 64 := rfl
  have := Lib.TabIs.cell h gvar i (by omega)
  rw [this]
  congr 2
  unfold tabZ
  rw [List.getD_eq_getElem?_getD, List.getElem?_map, List.getD_eq_getElem?_getD]
  have hi2 : i < Lib.deBruijn64tab.length := hi
  rw [List.getElem?_eq_getElem hi2]
  rfl
theorem Tab.pos {w : World} (h : Tab w) : 0 < w.heap.size := by
  have := h.cell 0 (by omega)
  rcases Nat.eq_zero_or_pos w.heap.size with h0 | h0
  · unfold World.cell? at this
    rw [Array.getElem?_eq_none (by show w.heap.size ≤ 0; omega)] at this
    cases this
  · exact h0
theorem Tab.of_block {w w' : World} (h : Tab w) (hb : w'.heap[0]? = w.heap[0]?) : Tab w' := by
  unfold Tab Lib.TabIs World.var? at *
  rw [gvar] at h ⊢
  simp only [Option.bind_some] at h ⊢
  rw [hb]
  exact h
theorem Tab.keep {w w' : World} (h : Tab w) (k : Keep w w') : Tab w' := h.of_block (k.block 0 h.pos)
theorem Tab.only {w w' : World} {b : Nat} (h : Tab w) (k : Only b w w') (hb : 0 < b) : Tab w' := h.of_block (k.block 0 h.pos (by omega))

/-- A map's cells. -/
def mc (l : List Bool) : Array Value := #[.int .i64 l.length, .int .u64 (wd l 0 : Nat), .int .u64 (wd l 1 : Nat), .int .u64 (wd l 2 : Nat), .int .u64 (wd l 3 : Nat)]
def wc (l : List Bool) : Array Value := #[.int .u64 (wd l 0 : Nat), .int .u64 (wd l 1 : Nat), .int .u64 (wd l 2 : Nat), .int .u64 (wd l 3 : Nat)]
theorem mc_size (l : List Bool) : (mc l).size = 5 := rfl
theorem wc_size (l : List Bool) : (wc l).size = 4 := rfl
theorem mc_one (l : List Bool) : ∀ v ∈ (mc l).toList, v.oneCell' = true := by
  intro v hv
  simp only [mc, List.mem_cons, List.not_mem_nil, or_false] at hv
  rcases hv with rfl | rfl | rfl | rfl | rfl <;> rfl
theorem mc_word (l : List Bool) (k : Nat) (hk : k < 4) : (mc l)[1 + k]? = some (.int .u64 (wd l k : Nat)) := by
  rcases (show k = 0 ∨ k = 1 ∨ k = 2 ∨ k = 3 by omega) with rfl | rfl | rfl | rfl <;> rfl
theorem wc_word (l : List Bool) (k : Nat) (hk : k < 4) : (wc l)[k]? = some (.int .u64 (wd l k : Nat)) := by
  rcases (show k = 0 ∨ k = 1 ∨ k = 2 ∨ k = 3 by omega) with rfl | rfl | rfl | rfl <;> rfl
theorem mc_set (l : List Bool) (i : Nat) (h : i < l.length) (hf : l.length ≤ 256) : (mc l).setIfInBounds (1 + i / 64) (.int .u64 (wd l (i / 64) ||| 2 ^ (i % 64) : Nat)) = mc (l.set i true) := by
  rw [← wd_set l i h]
  have hk : i / 64 < 4 := by omega
  have hn : (l.set i true).length = l.length := by simp
  have ho := fun k => wd_other l i k h
  have ho0 := ho 0
  have ho1 := ho 1
  have ho2 := ho 2
  have ho3 := ho 3
  unfold mc
  rw [hn]
  generalize i / 64 = q at *
  rcases (show q = 0 ∨ q = 1 ∨ q = 2 ∨ q = 3 by omega) with rfl | rfl | rfl | rfl
  · rw [ho1 (by omega), ho2 (by omega), ho3 (by omega)]; rfl
  · rw [ho0 (by omega), ho2 (by omega), ho3 (by omega)]; rfl
  · rw [ho0 (by omega), ho1 (by omega), ho3 (by omega)]; rfl
  · rw [ho0 (by omega), ho1 (by omega), ho2 (by omega)]; rfl
theorem mc_zero : mc [] = #[.int .i64 0, .int .u64 0, .int .u64 0, .int .u64 0, .int .u64 0] := rfl
theorem mc_new (n : Nat) : mc (List.replicate n false) = #[.int .i64 n, .int .u64 0, .int .u64 0, .int .u64 0, .int .u64 0] := by
  unfold mc
  rw [wd_zero, wd_zero, wd_zero, wd_zero, List.length_replicate]
  rfl

/-- A map lies in block b: which are there. -/
structure M (w : World) (b : Nat) (l : List Bool) : Prop where
  block : w.heap[b]? = some (.cells (mc l) 86 (0, 0))
  pos : 0 < b
  few : l.length ≤ 256
  tab : Tab w
theorem M.keep {w w' : World} {b : Nat} {l : List Bool} (h : M w b l) (k : Keep w w') : M w' b l := ⟨k.obj h.block, h.pos, h.few, h.tab.keep k⟩
theorem M.only {w w' : World} {b c : Nat} {l : List Bool} (h : M w b l) (k : Only c w w') (hb : b ≠ c) (hc : 0 < c) : M w' b l := ⟨k.obj h.block hb, h.pos, h.few, h.tab.only k hc⟩
theorem M.lt {w : World} {b : Nat} {l : List Bool} (h : M w b l) : b < w.heap.size := block_lt h.block
theorem M.n {w : World} {b : Nat} {l : List Bool} (h : M w b l) : w.cell? ⟨b, 0, none⟩ = some (.int .i64 l.length) := cell_obj h.block rfl
theorem M.word {w : World} {b : Nat} {l : List Bool} (h : M w b l) (k : Nat) (hk : k < 4) : w.cell? ⟨b, 1 + k, none⟩ = some (.int .u64 (wd l k : Nat)) := cell_obj h.block (mc_word l k hk)
theorem M.free {w : World} {b : Nat} {l : List Bool} (h : M w b l) (i : Nat) : w.frozen? ⟨b, i, none⟩ = false := by simp [World.frozen?, h.block]
theorem load_part {P : Program} {w : World} {b o n : Nat} {c : Array Value} {t : TypeId} {fz : Nat × Nat} (l : List Value) (hn : l.length = n) (h : w.heap[b]? = some (.cells c t fz)) (hl : ∀ j v, l[j]? = some v → c[o + j]? = some v) :
    (loadCellsFrom ⟨b, o, none⟩ 0 n #[]).run P w = .ok l.toArray w := by
  subst hn
  have := run_loadCells_list (P := P) w ⟨b, o, none⟩ l (fun j v hv => by
    have hadd : (⟨b, o, none⟩ : Addr).add j = ⟨b, o + j, none⟩ := by unfold Addr.add; split <;> simp_all
    rw [hadd, cell_of_row _ _ _ c t fz h]
    exact hl j v hv)
  simpa [loadCells] using this
theorem M.words {w : World} {b n : Nat} {l : List Bool} (h : M w b l) (hn : n = 4) : (loadCellsFrom ⟨b, 1, none⟩ 0 n #[]).run Tryd.prog w = .ok (wc l) w := by
  have := load_part (P := Tryd.prog) (o := 1) (n := n) (wc l).toList (by rw [hn]; rfl) h.block (fun j v hv => by
    have hj : j < 4 := by have := (List.getElem?_eq_some_iff.1 hv).1; simpa [wc_size] using this
    rw [mc_word l j hj, ← wc_word l j hj]
    simpa using hv)
  simpa using this
theorem M.whole {w : World} {b n : Nat} {l : List Bool} (h : M w b l) (hn : n = 5) : (loadCellsFrom ⟨b, 0, none⟩ 0 n #[]).run Tryd.prog w = .ok (mc l) w := by
  have := load_part (P := Tryd.prog) (o := 0) (n := n) (mc l).toList (by rw [hn]; rfl) h.block (fun j v hv => by
    rw [Nat.zero_add]
    simpa using hv)
  simpa using this
theorem block_set {w : World} {b : Nat} {c : Array Value} {t : TypeId} {fz : Nat × Nat} (h : w.heap[b]? = some (.cells c t fz)) (i : Nat) (v : Value) : (w.setCell ⟨b, i, none⟩ v).heap[b]? = some (.cells (c.setIfInBounds i v) t fz) := by
  simp only [World.setCell, Array.getElem?_modify, if_true, h, Option.map_some]
  rfl
theorem block_row {w : World} {b : Nat} {c : Array Value} {t : TypeId} {fz : Nat × Nat} (h : w.heap[b]? = some (.cells c t fz)) (c' : Array Value) : (w.setRow b c').heap[b]? = some (.cells c' t fz) := by
  simp only [World.setRow, Array.getElem?_modify, if_true, h, Option.map_some]
theorem Only.drew {b : Nat} {u v : World} (h : Only b u v) : Only b u v.drew := ⟨h.os, h.tape, h.output, h.size, h.block⟩
theorem M.set {w : World} {b : Nat} {l : List Bool} (h : M w b l) (i : Nat) (hi : i < l.length) : M (w.setCell ⟨b, 1 + i / 64, none⟩ (.int .u64 (wd l (i / 64) ||| 2 ^ (i % 64) : Nat))) b (l.set i true) :=
  ⟨by rw [block_set h.block, mc_set l i hi h.few], h.pos, by rw [List.length_set]; exact h.few, h.tab.only (Only.setCell b _ w _) h.pos⟩
theorem M.store {w : World} {b : Nat} {z : List Bool} (h : w.heap[b]? = some (.cells (mc z) 86 (0, 0))) (l : List Bool) : (storeCells ⟨b, 0, none⟩ (mc l).toList).run Tryd.prog w = .ok () (w.setRow b (mc l)) := by
  have hsc := run_storeCells_from (P := Tryd.prog) b 86 (mc l).toList 0 (mc z) w h (by rw [mc_size]; simp [mc_size]) (mc_one l)
  rw [List.take_zero, List.nil_append, Array.toArray_toList] at hsc
  exact hsc

/-! ### Arithmetic of words -/
theorem and64 (x y : Nat) (hx : x < 18446744073709551616) (hy : y < 18446744073709551616) : bits .and .u64 (x : Int) (y : Int) = ((x &&& y : Nat) : Int) := bits_and_u64_nat x y hx hy
theorem pow_lt64 (k : Nat) (h : k < 64) : 2 ^ k < 18446744073709551616 := Nat.pow_lt_pow_right (a := 2) (by omega) (show k < 64 from h)
theorem not64 (x : Nat) (hx : x < 18446744073709551616) : bits .xor .u64 IntKind.u64.max (x : Int) = ((18446744073709551615 - x : Nat) : Int) := by
  have h := u64_xor_nat 18446744073709551615 x (by omega) hx
  have e : 18446744073709551615 ^^^ x = 18446744073709551615 - x := by
    refine Nat.eq_of_testBit_eq fun j => ?_
    rw [Nat.testBit_xor, show (18446744073709551615 : Nat) = 2 ^ 64 - 1 from rfl, Nat.testBit_two_pow_sub_one, show 2 ^ 64 - 1 - x = 2 ^ 64 - (x + 1) by omega, Nat.testBit_two_pow_sub_succ hx]
    by_cases hj : j < 64
    · simp [hj]
    · rw [decide_eq_false hj]
      have : x.testBit j = false := Nat.testBit_lt_two_pow (Nat.lt_of_lt_of_le hx (Nat.pow_le_pow_right (n := 2) (by omega) (show 64 ≤ j by omega)))
      rw [this]; rfl
  rw [← e]
  exact h
end Go.Proofs.YtifcibmpeolmdaaDoor
