/- Proved: what crc's byShifts, Table, byTable, More and Sum, and the document's own Sum answer. Condition: numbers of 32 bits; a text's length fits. -/
import Derived.Test.YtbakmfeikkpmjaaKa
import Derived.Deep.WholeRow
namespace Go.Proofs.Ytbakmfeikkpmjaa
open Go.RowKit

theorem xorC (n : Nat) (c : UInt8) (hn : n < 4294967296) : bits .xor .u32 (n : Int) ((c.toNat : Int) % 4294967296) = ((n ^^^ c.toNat : Nat) : Int) := by
  have hc := c.toNat_lt
  rw [show ((c.toNat : Int) % 4294967296) = (c.toNat : Int) by omega]
  exact u32_xor_nat n c.toNat hn (by omega)
theorem xorC_lt (n : Nat) (c : UInt8) (hn : n < 4294967296) : n ^^^ c.toNat < 4294967296 := Nat.xor_lt_two_pow (n := 32) hn (by have := c.toNat_lt; omega)
theorem run_one (n : Nat) (c : UInt8) : K.run n (K.byteBits c) = K.Sn 8 (n ^^^ c.toNat) := by
  rw [K.run_pad, K.pad_byte]
  rfl
theorem drop_bits (s : List UInt8) (k : Nat) (h : k < s.length) : K.bitsOf (s.drop k) = K.byteBits s[k] ++ K.bitsOf (s.drop (k + 1)) := by
  rw [List.drop_eq_getElem_cons h, K.bitsOf]
theorem run_drop (n : Nat) (s : List UInt8) (k : Nat) (h : k < s.length) : K.run n (K.bitsOf (s.drop k)) = K.run (K.Sn 8 (n ^^^ s[k].toNat)) (K.bitsOf (s.drop (k + 1))) := by
  rw [drop_bits s k h, K.run_append, run_one]
theorem Sn_lt (n : Nat) : ∀ x, x < 4294967296 → K.Sn n x < 4294967296 := by
  induction n with
  | zero => intro x h; exact h
  | succ n ih => intro x h; exact ih _ (K.S_lt x h)

def ShRel (r : Nat) (s : List UInt8) (w : World) (a i : Value) (wr : World) : Prop :=
  wr = w ∧ ∃ k n : Nat, i = .int .i64 k ∧ a = .int .u32 n ∧ n < 4294967296 ∧ k ≤ s.length ∧ K.run n (K.bitsOf (s.drop k)) = K.run r (K.bitsOf s)

def tabN (n k : Nat) : Array Value := ((List.range n).map fun j => Value.int .u32 (if j < k then (K.Sn 8 j : Nat) else 0)).toArray
theorem tabN_zero (n : Nat) : Array.replicate n (Value.int .u32 0) = tabN n 0 := by
  unfold tabN
  apply Array.ext'
  simp only [Array.toList_replicate]
  apply List.ext_getElem?
  intro i
  by_cases h : i < n
  · simp [h]
  · simp [h]
theorem tabN_size (n k : Nat) : (tabN n k).size = n := by simp [tabN]
theorem tabN_get (n k j : Nat) (h : j < n) : (tabN n k)[j]? = some (Value.int .u32 (if j < k then (K.Sn 8 j : Nat) else 0)) := by
  simp [tabN, h]
theorem tabN_set (n k : Nat) (_hk : k < n) : (tabN n k).setIfInBounds k (.int .u32 (K.Sn 8 k : Nat)) = tabN n (k + 1) := by
  apply Array.ext'
  apply List.ext_getElem?
  intro j
  by_cases h : j < n
  · by_cases h2 : k = j
    · subst h2
      simp [tabN, h]
    · have h3 : (j < k) ↔ (j < k + 1) := by omega
      simp [tabN, h, h2, h3]
  · simp [tabN, h]
/-- The table's cells, so far as they are made. -/
def tabCells (k : Nat) : Array Value := tabN 256 k
theorem tabCells_zero : Array.replicate 256 (Value.int .u32 0) = tabCells 0 := tabN_zero 256
theorem tabCells_size (k : Nat) : (tabCells k).size = 256 := tabN_size 256 k
theorem tabCells_get (k j : Nat) (h : j < 256) : (tabCells k)[j]? = some (Value.int .u32 (if j < k then (K.Sn 8 j : Nat) else 0)) := tabN_get 256 k j h
theorem tabCells_set (k : Nat) (hk : k < 256) : (tabCells k).setIfInBounds k (.int .u32 (K.Sn 8 k : Nat)) = tabCells (k + 1) := tabN_set 256 k hk
theorem load_block {P : Program} {w : World} {b : Nat} {c : Array Value} {t : TypeId} {fz : Nat × Nat} (n : Nat) (hn : c.size = n) (h : w.heap[b]? = some (.cells c t fz)) :
    (loadCellsFrom ⟨b, 0, none⟩ 0 n #[]).run P w = .ok c w := by
  subst hn
  have := run_loadCells_list (P := P) w ⟨b, 0, none⟩ c.toList (fun j v hv => by
    have hadd : (⟨b, 0, none⟩ : Addr).add j = ⟨b, j, none⟩ := by unfold Addr.add; split <;> simp_all
    rw [hadd, cell_of_row _ _ j c t fz h]
    simpa using hv)
  simpa [loadCells] using this
theorem block_set {w : World} {b : Nat} {c : Array Value} {t : TypeId} {fz : Nat × Nat} (h : w.heap[b]? = some (.cells c t fz)) (i : Nat) (v : Value) : (w.setCell ⟨b, i, none⟩ v).heap[b]? = some (.cells (c.setIfInBounds i v) t fz) := by
  simp only [World.setCell, Array.getElem?_modify, if_true, h, Option.map_some]
  rfl
theorem block_row {w : World} {b : Nat} {c : Array Value} {t : TypeId} {fz : Nat × Nat} (h : w.heap[b]? = some (.cells c t fz)) (c' : Array Value) : (w.setRow b c').heap[b]? = some (.cells c' t fz) := by
  simp only [World.setRow, Array.getElem?_modify, if_true, h, Option.map_some]
theorem Same.setCell {w w' : World} (h : Same w w') (b i : Nat) (v : Value) (hb : w.heap.size ≤ b) : Same w (w'.setCell ⟨b, i, none⟩ v) :=
  ⟨⟨h.os, h.tape, h.output, by have := h.size; simpa [World.setCell] using this, fun k hk => (Below.heap_setCell _ _ _ _ (by show k ≠ b; omega)).trans (h.block k hk)⟩, h.drawn⟩
theorem Same.setRow {w w' : World} (h : Same w w') (b : Nat) (c : Array Value) (hb : w.heap.size ≤ b) : Same w (w'.setRow b c) :=
  ⟨⟨h.os, h.tape, h.output, by have := h.size; simpa [World.setRow] using this, fun k hk => by
    rw [← h.block k hk]
    simp only [World.setRow, Array.getElem?_modify]
    rw [if_neg (by omega)]⟩, h.drawn⟩

theorem tab_one (k : Nat) : ∀ v ∈ (tabCells k).toList, v.oneCell' = true := by
  intro v hv
  unfold tabCells tabN at hv
  rw [List.mem_map] at hv
  obtain ⟨j, _, rfl⟩ := hv
  rfl

theorem two_alloc (w : World) (o1 o2 : Obj) : ((w.alloc o1).alloc o2).heap[w.heap.size]? = some o1 ∧ ((w.alloc o1).alloc o2).heap[w.heap.size + 1]? = some o2 := by
  have hs : (w.alloc o1).heap.size = w.heap.size + 1 := by simp
  constructor
  · rw [Below.heap_alloc _ _ _ (by omega)]
    exact heap_alloc_last w o1
  · rw [← hs]
    exact heap_alloc_last _ o2

/-- One byte, by the table. -/
theorem run_tab (n : Nat) (c : UInt8) : K.Sn 8 (n % 256 ^^^ c.toNat) ^^^ n / 256 = K.Sn 8 (n ^^^ c.toNat) := by
  have h := K.run_byte n c
  rw [run_one, (K.xor_byte n c.toNat c.toNat_lt).1, (K.xor_byte n c.toNat c.toNat_lt).2] at h
  exact h.symm
theorem xor8 (n : Nat) (c : UInt8) : bits .xor .u8 ((n : Int) % 256) (c.toNat : Int) = ((n % 256 ^^^ c.toNat : Nat) : Int) := by
  have hc := c.toNat_lt
  have := u8_xor_nat (n % 256) c.toNat (by omega) (by omega)
  simpa using this
theorem xor8_lt (n : Nat) (c : UInt8) : n % 256 ^^^ c.toNat < 256 := Nat.xor_lt_two_pow (n := 8) (by omega) c.toNat_lt
theorem xorT (x n : Nat) (hx : x < 4294967296) (hn : n < 4294967296) : bits .xor .u32 (x : Int) ((n : Int) / 256) = ((x ^^^ n / 256 : Nat) : Int) := by
  have := u32_xor_nat x (n / 256) hx (by omega)
  simpa using this

def ByRel (r : Nat) (s : List UInt8) (w0 w : World) (a i : Value) (wr : World) : Prop :=
  wr = w ∧ Same w0 wr ∧ ∃ k n : Nat, i = .int .i64 k ∧ a = .int .u32 n ∧ n < 4294967296 ∧ k ≤ s.length ∧ K.run n (K.bitsOf (s.drop k)) = K.run r (K.bitsOf s)

end Go.Proofs.Ytbakmfeikkpmjaa
