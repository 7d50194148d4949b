/- Proved: which blocks a call may have turned (Turn); lists of bools, of ints, of texts as whole blocks. No condition. -/
import Derived.Test.YtifcibmpeolmdaaDoorRi
namespace Go.Proofs.YtifcibmpeolmdaaDoor
open Go.RowKit

/-- Nothing but some blocks, of what was there, may have turned. -/
structure Turn (K : List Nat) (w w' : World) : Prop where
  os : w'.os = w.os
  tape : w'.tape = w.tape
  output : w'.output = w.output
  size : w.heap.size ≤ w'.heap.size
  block : ∀ k, k < w.heap.size → k ∉ K → w'.heap[k]? = w.heap[k]?
section
variable {K K' : List Nat} {u v w : World}
theorem Turn.refl (K : List Nat) (w : World) : Turn K w w := ⟨rfl, rfl, rfl, Nat.le_refl _, fun _ _ _ => rfl⟩
theorem Turn.trans (h : Turn K u v) (k : Turn K v w) : Turn K u w :=
  ⟨k.os.trans h.os, k.tape.trans h.tape, k.output.trans h.output, Nat.le_trans h.size k.size, fun i hi hb => (k.block i (Nat.lt_of_lt_of_le hi h.size) hb).trans (h.block i hi hb)⟩
theorem Turn.mono (h : Turn K u v) (hs : ∀ k, k ∈ K → k ∈ K') : Turn K' u v := ⟨h.os, h.tape, h.output, h.size, fun i hi hb => h.block i hi (fun hk => hb (hs i hk))⟩
theorem Turn.keep (K : List Nat) (k : Keep u v) : Turn K u v := ⟨k.1, k.2, k.3, k.4, fun i hi _ => k.5 i hi⟩
theorem Turn.only {b : Nat} (k : Only b u v) (hb : b ∈ K) : Turn K u v := ⟨k.os, k.tape, k.output, k.size, fun i hi hk => k.block i hi (fun e => hk (by rw [e]; exact hb))⟩
theorem Turn.drew (h : Turn K u v) : Turn K u v.drew := ⟨h.os, h.tape, h.output, h.size, h.block⟩
theorem Turn.thenKeep (h : Turn K u v) (k : Keep v w) : Turn K u w := h.trans (Turn.keep K k)
theorem Turn.ofKeep (h : Keep u v) (k : Turn K v w) : Turn K u w := (Turn.keep K h).trans k
/-- What is done to blocks that weren't there. -/
theorem Turn.made (h : Keep u v) (k : Turn K v w) (hb : ∀ b ∈ K, u.heap.size ≤ b) : Keep u w :=
  ⟨k.os.trans h.1, k.tape.trans h.2, k.output.trans h.3, Nat.le_trans h.size k.size, fun i hi => (k.block i (Nat.lt_of_lt_of_le hi h.size) (fun hk => by have := hb i hk; omega)).trans (h.block i hi)⟩
theorem Turn.obj {g : Nat} (k : Turn K u v) {o : Obj} (h : u.heap[g]? = some o) (hg : g ∉ K) : v.heap[g]? = some o := (k.block g (block_lt h) hg).trans h
theorem Turn.cells {α : Type} {enc : α → List Value} {x : Value} {l : List α} (k : Turn K u v) (h : Cells enc u x l) (hb : ∀ g, x.ownBlock = some g → g ∉ K) : Cells enc v x l :=
  h.block k.size fun g hg => k.block g (h.lt hg) (hb g hg)
theorem M.turn {b : Nat} {l : List Bool} (h : M u b l) (k : Turn K u v) (hb : b ∉ K) (h0 : 0 ∉ K) : M v b l :=
  ⟨k.obj h.block hb, h.pos, h.few, h.tab.of_block (k.block 0 h.tab.pos h0)⟩
end

theorem Turn.setCell {K : List Nat} (w : World) (b o : Nat) (v : Value) (hb : b ∈ K) : Turn K w (w.setCell ⟨b, o, none⟩ v) := Turn.only (Only.setCell b o w v) hb

/-! ### Lists as blocks -/
def nc (l : List Nat) : Array Value := (l.map fun z : Nat => Value.int .i64 z).toArray
theorem nc_get (l : List Nat) (i : Nat) (x : Nat) (h : l[i]? = some x) : (nc l)[i]? = some (.int .i64 x) := by
  unfold nc
  rw [List.getElem?_toArray, List.getElem?_map, h]; rfl
theorem nc_set (l : List Nat) (i x : Nat) : (nc l).setIfInBounds i (.int .i64 x) = nc (l.set i x) := by
  unfold nc
  apply Array.ext'
  rw [Array.toList_setIfInBounds, List.map_set]
def bc8 (l : List Bool) : Array Value := (l.map Value.bool).toArray
theorem mk_bools (n : Nat) (hn : n ≤ 256) (w : World) : (Instr.makeSlice 37 (.int .i64 n) (.int .i64 n)).run Tryd.prog w = .ok (.slice (some ⟨w.heap.size, 0, none⟩) n n) (w.alloc (.cells (bc8 (List.replicate n false)) 4)) := by
  obtain ⟨i0, hi, hz0, hz1, hz2⟩ := info_parts info4
  have h := run_make (P := Tryd.prog) w 37 4 i0 (.bool false) Tryd.underlying37 hi hz0 .i64 .i64 n n (by omega) (Int.le_refl _) (by rw [hz2]; omega) (by omega)
  rw [h, hz1, Int.toNat_natCast]
  have e : madeCells (Value.bool false).cells (n * 1) = bc8 (List.replicate n false) := by
    apply Array.ext'
    rw [Nat.mul_one, show (Value.bool false).cells = #[Value.bool false] from rfl, toList_madeCells_one]
    simp [bc8]
  rw [e]
theorem mk_ints (n : Nat) (hn : n ≤ 256) (w : World) : (Instr.makeSlice 39 (.int .i64 n) (.int .i64 n)).run Tryd.prog w = .ok (.slice (some ⟨w.heap.size, 0, none⟩) n n) (w.alloc (.cells (nc (List.replicate n 0)) 3)) := by
  obtain ⟨i0, hi, hz0, hz1, hz2⟩ := info_parts info3
  have h := run_make (P := Tryd.prog) w 39 3 i0 (.int .i64 0) Tryd.underlying39 hi hz0 .i64 .i64 n n (by omega) (Int.le_refl _) (by rw [hz2]; omega) (by omega)
  rw [h, hz1, Int.toNat_natCast]
  have e : madeCells (Value.int .i64 0).cells (n * 1) = nc (List.replicate n 0) := by
    apply Array.ext'
    rw [Nat.mul_one, show (Value.int .i64 0).cells = #[Value.int .i64 0] from rfl, toList_madeCells_one]
    simp [nc]
  rw [e]
theorem cel_bools (w : World) (g n : Nat) (h : w.heap[g]? = some (.cells (bc8 (List.replicate n false)) 4 (0, 0))) (hn : n ≤ 256) : CelO w (.slice (some ⟨g, 0, none⟩) n n) (List.replicate n false) := by
  refine .inr ⟨g, 0, n, by rw [List.length_replicate], by rw [List.length_replicate]; exact Nat.le_refl _, by unfold maxLen; omega, block_lt h, fun j u hj => ?_⟩
  rw [flat_be] at hj
  refine cell_obj h ?_
  unfold bc8
  rw [Nat.zero_add, List.getElem?_toArray]
  exact hj
theorem alloc3 (u : World) (A B C : Obj) : (((u.alloc A).alloc B).alloc C).heap[u.heap.size]? = some A ∧ (((u.alloc A).alloc B).alloc C).heap[u.heap.size + 1]? = some B ∧ (((u.alloc A).alloc B).alloc C).heap[u.heap.size + 1 + 1]? = some C := by
  have k1 : Keep (u.alloc A) (((u.alloc A).alloc B).alloc C) := ((Keep.refl _).alloc B).alloc C
  have k2 : Keep ((u.alloc A).alloc B) (((u.alloc A).alloc B).alloc C) := (Keep.refl _).alloc C
  have z1 : (u.alloc A).heap.size = u.heap.size + 1 := by simp
  have z2 : ((u.alloc A).alloc B).heap.size = u.heap.size + 1 + 1 := by simp
  have h1 := heap_alloc_last u A
  have h2 := heap_alloc_last (u.alloc A) B
  have h3 := heap_alloc_last ((u.alloc A).alloc B) C
  rw [z1] at h2
  rw [z2] at h3
  exact ⟨k1.obj h1, k2.obj h2, h3⟩

def tc (l : List (List UInt8)) : Array Value := (l.map fun s => Value.string ⟨s.toArray⟩).toArray
theorem tc_get (l : List (List UInt8)) (i : Nat) (h : i < l.length) : (tc l)[i]? = some (.string ⟨(l.getD i []).toArray⟩) := by
  unfold tc
  rw [List.getElem?_toArray, List.getElem?_map, List.getD_eq_getElem?_getD, List.getElem?_eq_getElem h]; rfl
theorem tc_set (l : List (List UInt8)) (i : Nat) (s : List UInt8) : (tc l).setIfInBounds i (.string ⟨s.toArray⟩) = tc (l.set i s) := by
  unfold tc
  apply Array.ext'
  rw [Array.toList_setIfInBounds, List.map_set]
theorem bc_get (l : List Bool) (i : Nat) (h : i < l.length) : (bc8 l)[i]? = some (.bool (l.getD i false)) := by
  unfold bc8
  rw [List.getElem?_toArray, List.getElem?_map, List.getD_eq_getElem?_getD, List.getElem?_eq_getElem h]; rfl
theorem bc_set (l : List Bool) (i : Nat) (x : Bool) : (bc8 l).setIfInBounds i (.bool x) = bc8 (l.set i x) := by
  unfold bc8
  apply Array.ext'
  rw [Array.toList_setIfInBounds, List.map_set]
theorem flat_se (l : List (List UInt8)) : flat se l = l.map fun s => Value.string ⟨s.toArray⟩ := by
  induction l with
  | nil => rfl
  | cons x l ih => rw [flat_cons, ih]; rfl
theorem cel_texts {w : World} {g : Nat} {fz : Nat × Nat} (l : List (List UInt8)) (h : w.heap[g]? = some (.cells (tc l) 9 fz)) (hn : l.length ≤ 256) : TexS w (.slice (some ⟨g, 0, none⟩) l.length l.length) l := by
  refine .inr ⟨g, 0, l.length, rfl, Nat.le_refl _, by unfold maxLen; omega, block_lt h, fun j u hj => ?_⟩
  rw [flat_se] at hj
  refine cell_obj h ?_
  unfold tc
  rw [Nat.zero_add, List.getElem?_toArray]
  exact hj
theorem cel_bool {w : World} {g : Nat} {fz : Nat × Nat} (l : List Bool) (h : w.heap[g]? = some (.cells (bc8 l) 4 fz)) (hn : l.length ≤ 256) : CelO w (.slice (some ⟨g, 0, none⟩) l.length l.length) l := by
  refine .inr ⟨g, 0, l.length, rfl, Nat.le_refl _, by unfold maxLen; omega, block_lt h, fun j u hj => ?_⟩
  rw [flat_be] at hj
  refine cell_obj h ?_
  unfold bc8
  rw [Nat.zero_add, List.getElem?_toArray]
  exact hj
theorem mk_texts (n : Nat) (hn : n ≤ 256) (w : World) : (Instr.makeSlice 38 (.int .i64 n) (.int .i64 n)).run Tryd.prog w = .ok (.slice (some ⟨w.heap.size, 0, none⟩) n n) (w.alloc (.cells (tc (List.replicate n [])) 9)) := by
  obtain ⟨i0, hi, hz0, hz1, hz2⟩ := info_all 9 _ _ _ infoS
  have h := run_make (P := Tryd.prog) w 38 9 i0 (.string ⟨#[]⟩) (by kernel_rfl) hi hz0 .i64 .i64 n n (by omega) (Int.le_refl _) (by rw [hz2]; omega) (by omega)
  rw [h, hz1, Int.toNat_natCast]
  have e : madeCells (Value.string ⟨#[]⟩).cells (n * 1) = tc (List.replicate n []) := by
    apply Array.ext'
    rw [Nat.mul_one, show (Value.string ⟨#[]⟩).cells = #[Value.string ⟨#[]⟩] from rfl, toList_madeCells_one]
    simp [tc]
  rw [e]
end Go.Proofs.YtifcibmpeolmdaaDoor
