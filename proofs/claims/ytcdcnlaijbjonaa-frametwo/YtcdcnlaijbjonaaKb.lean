/- Proved: what crc's byShifts, Table, byTable, More and Sum, and the document's own Sum answer. Condition: numbers of 32 bits; a text's length fits. -/
import Derived.Test.YtcdcnlaijbjonaaKa
import Derived.Deep.WholeRow
namespace Go.Proofs.Ytcdcnlaijbjonaa
open Go.RowKit

theorem xorC (n : Nat) (c : UInt8) (hn : n < 4294967296) : bits .xor .u32 (n : Int) ((c.toNat : Int) % 4294967296) = ((n ^^^ c.toNat : Nat) : Int) := by
  have hc := c.toNat_lt
  rw [show ((c.toNat : Int) % 4294967296) = (c.toNat : Int) by omega]
  exact u32_xor_nat n c.toNat hn (by omega)
theorem xorC_lt (n : Nat) (c : UInt8) (hn : n < 4294967296) : n ^^^ c.toNat < 4294967296 := Nat.xor_lt_two_pow (n := 32) hn (by have := c.toNat_lt; omega)
theorem run_one (n : Nat) (c : UInt8) : K.run n (K.byteBits c) = K.Sn 8 (n ^^^ c.toNat) := by
  rw [K.run_pad, K.pad_byte]
  rfl
theorem drop_bits (s : List UInt8) (k : Nat) (h : k < s.length) : K.bitsOf (s.drop k) = K.byteBits s[k] ++ K.bitsOf (s.drop (k + 1)) := by
  rw [List.drop_eq_getElem_cons h, K.bitsOf]
theorem run_drop (n : Nat) (s : List UInt8) (k : Nat) (h : k < s.length) : K.run n (K.bitsOf (s.drop k)) = K.run (K.Sn 8 (n ^^^ s[k].toNat)) (K.bitsOf (s.drop (k + 1))) := by
  rw [drop_bits s k h, K.run_append, run_one]
theorem Sn_lt (n : Nat) : ∀ x, x < 4294967296 → K.Sn n x < 4294967296 := by
  induction n with
  | zero => intro x h; exact h
  | succ n ih => intro x h; exact ih _ (K.S_lt x h)

def ShRel (r : Nat) (s : List UInt8) (w : World) (a i : Value) (wr : World) : Prop :=
  wr = w ∧ ∃ k n : Nat, i = .int .i64 k ∧ a = .int .u32 n ∧ n < 4294967296 ∧ k ≤ s.length ∧ K.run n (K.bitsOf (s.drop k)) = K.run r (K.bitsOf s)

set_option maxRecDepth 100000 in
theorem byShifts_at (r : Nat) (s : List UInt8) (w : World) (hr : r < 4294967296) (hs : s.length ≤ 9223372036854775807) :
    Calls Try.prog 32 #[.int .u32 r, .string ⟨s.toArray⟩] w fun e w' => e = .returned (.int .u32 (K.run r (K.bitsOf s))) ∧ w' = w := by
  go_enter Try.func32, Try.ntmps32
  go_wp2
  go_loopw [0, 8] (fun a i wr => ShRel r s w a i wr) (fun _ i _ => s.length - (intOf i).toNat)
  case atStart => exact ⟨rfl, 0, r, rfl, rfl, hr, by omega, rfl⟩
  case round =>
    obtain ⟨rfl, k, n, rfl, rfl, hn, hk, he⟩ := hrel
    have He := Lib.hid he
    clear he
    by_cases hk2 : k < s.length
    · go_wp2_with fail
      rw [show (({ data := s.toArray } : ByteArray)[k]'hk2) = s[k] from rfl, xorC n s[k] hn]
      refine (eight_at _ _ (xorC_lt n s[k] hn)).mono ?_
      rintro e w' ⟨rfl, rfl⟩
      go_wp2
      go_roundw
      case rel =>
        exact ⟨rfl, k + 1, K.Sn 8 (n ^^^ s[k].toNat), by go_num, rfl, Sn_lt 8 _ (xorC_lt n s[k] hn), by omega, by rw [← run_drop n s k hk2]; exact He.out⟩
      case measure => simp [intOf]; omega
    · go_wp2
      go_ret
      obtain rfl : k = s.length := by omega
      have := He.out
      rw [List.drop_length] at this
      rw [← this]
      exact ⟨rfl, rfl⟩

theorem info31 : (Try.prog.info? 60).map (fun i => (i.zero, i.size)) = some (some (.agg (Array.replicate 256 (.int .u32 0))), 256) := by kernel_rfl
def tabN (n k : Nat) : Array Value := ((List.range n).map fun j => Value.int .u32 (if j < k then (K.Sn 8 j : Nat) else 0)).toArray
theorem tabN_zero (n : Nat) : Array.replicate n (Value.int .u32 0) = tabN n 0 := by
  unfold tabN
  apply Array.ext'
  simp only [Array.toList_replicate]
  apply List.ext_getElem?
  intro i
  by_cases h : i < n
  · simp [h]
  · simp [h]
theorem tabN_size (n k : Nat) : (tabN n k).size = n := by simp [tabN]
theorem tabN_get (n k j : Nat) (h : j < n) : (tabN n k)[j]? = some (Value.int .u32 (if j < k then (K.Sn 8 j : Nat) else 0)) := by
  simp [tabN, h]
theorem tabN_set (n k : Nat) (_hk : k < n) : (tabN n k).setIfInBounds k (.int .u32 (K.Sn 8 k : Nat)) = tabN n (k + 1) := by
  apply Array.ext'
  apply List.ext_getElem?
  intro j
  by_cases h : j < n
  · by_cases h2 : k = j
    · subst h2
      simp [tabN, h]
    · have h3 : (j < k) ↔ (j < k + 1) := by omega
      simp [tabN, h, h2, h3]
  · simp [tabN, h]
/-- The table's cells, so far as they are made. -/
def tabCells (k : Nat) : Array Value := tabN 256 k
theorem tabCells_zero : Array.replicate 256 (Value.int .u32 0) = tabCells 0 := tabN_zero 256
theorem tabCells_size (k : Nat) : (tabCells k).size = 256 := tabN_size 256 k
theorem tabCells_get (k j : Nat) (h : j < 256) : (tabCells k)[j]? = some (Value.int .u32 (if j < k then (K.Sn 8 j : Nat) else 0)) := tabN_get 256 k j h
theorem tabCells_set (k : Nat) (hk : k < 256) : (tabCells k).setIfInBounds k (.int .u32 (K.Sn 8 k : Nat)) = tabCells (k + 1) := tabN_set 256 k hk
theorem load_block {P : Program} {w : World} {b : Nat} {c : Array Value} {t : TypeId} {fz : Nat × Nat} (n : Nat) (hn : c.size = n) (h : w.heap[b]? = some (.cells c t fz)) :
    (loadCellsFrom ⟨b, 0, none⟩ 0 n #[]).run P w = .ok c w := by
  subst hn
  have := run_loadCells_list (P := P) w ⟨b, 0, none⟩ c.toList (fun j v hv => by
    have hadd : (⟨b, 0, none⟩ : Addr).add j = ⟨b, j, none⟩ := by unfold Addr.add; split <;> simp_all
    rw [hadd, cell_of_row _ _ j c t fz h]
    simpa using hv)
  simpa [loadCells] using this
theorem block_set {w : World} {b : Nat} {c : Array Value} {t : TypeId} {fz : Nat × Nat} (h : w.heap[b]? = some (.cells c t fz)) (i : Nat) (v : Value) : (w.setCell ⟨b, i, none⟩ v).heap[b]? = some (.cells (c.setIfInBounds i v) t fz) := by
  simp only [World.setCell, Array.getElem?_modify, if_true, h, Option.map_some]
  rfl
theorem block_row {w : World} {b : Nat} {c : Array Value} {t : TypeId} {fz : Nat × Nat} (h : w.heap[b]? = some (.cells c t fz)) (c' : Array Value) : (w.setRow b c').heap[b]? = some (.cells c' t fz) := by
  simp only [World.setRow, Array.getElem?_modify, if_true, h, Option.map_some]
theorem Same.setCell {w w' : World} (h : Same w w') (b i : Nat) (v : Value) (hb : w.heap.size ≤ b) : Same w (w'.setCell ⟨b, i, none⟩ v) :=
  ⟨⟨h.os, h.tape, h.output, by have := h.size; simpa [World.setCell] using this, fun k hk => (Below.heap_setCell _ _ _ _ (by show k ≠ b; omega)).trans (h.block k hk)⟩, h.drawn⟩
theorem Same.setRow {w w' : World} (h : Same w w') (b : Nat) (c : Array Value) (hb : w.heap.size ≤ b) : Same w (w'.setRow b c) :=
  ⟨⟨h.os, h.tape, h.output, by have := h.size; simpa [World.setRow] using this, fun k hk => by
    rw [← h.block k hk]
    simp only [World.setRow, Array.getElem?_modify]
    rw [if_neg (by omega)]⟩, h.drawn⟩

theorem tab_one (k : Nat) : ∀ v ∈ (tabCells k).toList, v.oneCell' = true := by
  intro v hv
  unfold tabCells tabN at hv
  rw [List.mem_map] at hv
  obtain ⟨j, _, rfl⟩ := hv
  rfl

theorem two_alloc (w : World) (o1 o2 : Obj) : ((w.alloc o1).alloc o2).heap[w.heap.size]? = some o1 ∧ ((w.alloc o1).alloc o2).heap[w.heap.size + 1]? = some o2 := by
  have hs : (w.alloc o1).heap.size = w.heap.size + 1 := by simp
  constructor
  · rw [Below.heap_alloc _ _ _ (by omega)]
    exact heap_alloc_last w o1
  · rw [← hs]
    exact heap_alloc_last _ o2

def TabRel (T : Nat → Array Value) (w : World) (s : Value) (wr : World) : Prop :=
  ∃ i : Nat, i ≤ 256 ∧ s = .int .i64 i ∧ Same w wr ∧ wr.heap[w.heap.size]? = some (.cells (T 0) 60 (0, 0)) ∧ wr.heap[w.heap.size + 1]? = some (.cells (T i) 60 (0, 0))

set_option maxRecDepth 100000 in
theorem table_at (w : World) : Calls Try.prog 35 #[] w fun e w' => e = .returned (.agg (tabCells 256)) ∧ Same w w' := by
  obtain ⟨hz, hi⟩ := zero_of_info info31
  have T0 := tabCells_zero
  have Tget := Lib.hid tabCells_get
  have Tset := Lib.hid tabCells_set
  have Tsize := Lib.hid tabCells_size
  have Tone := Lib.hid tab_one
  generalize tabCells = T at *
  go_enter Try.func35, Try.ntmps35
  go_wp2
  go_loopw [3] (fun s3 wr => TabRel T w s3 wr) (fun s3 _ => 257 - (intOf s3).toNat)
  case atStart => exact ⟨0, by omega, rfl, ((Same.refl w).alloc _).alloc _, (two_alloc w _ _).1, (two_alloc w _ _).2⟩
  case round =>
    obtain ⟨i, hi256, rfl, hsame, h0, h1⟩ := hrel
    have H0 := Lib.hid h0
    have H1 := Lib.hid h1
    have HS := Lib.hid hsame
    clear h0 h1 hsame hz hi T0
    by_cases h : i < 256
    · have hc : wr.cell? ⟨w.heap.size + 1, i, none⟩ = some (.int .u32 0) := by rw [cell_of_row _ _ _ _ _ _ H1.out, Tget.out _ _ h]; simp
      have hf : wr.frozen? ⟨w.heap.size + 1, i, none⟩ = false := by simp [World.frozen?, H1.out]
      go_wp2_with fail
      refine (eight_at i _ (by omega)).mono ?_
      rintro e w' ⟨rfl, rfl⟩
      go_wp2
      go_roundw
      case rel =>
        refine ⟨i + 1, by omega, by go_num, HS.out.setCell _ _ _ (by omega), ?_, ?_⟩
        · rw [Below.heap_setCell _ _ _ _ (by simp)]
          exact H0.out
        · rw [block_set H1.out, Tset.out i h]
      case measure => simp [intOf]; omega
    · obtain rfl : i = 256 := by omega
      obtain ⟨n, hn⟩ : ∃ n, n = 256 := ⟨256, rfl⟩
      have hsz : ∀ w, (Go.sizeOf 60).run Try.prog w = .ok n w := fun w => by rw [hn]; exact Try.sizeOf60 w
      have hn2 : (T 256).size = n := by rw [hn]; exact Tsize.out 256
      have hlc := load_block (P := Try.prog) n hn2 H1.out
      have hsc := run_storeCells_from (P := Try.prog) w.heap.size 60 (T 256).toList 0 (T 0) wr H0.out (by simp [Tsize.out]) (Tone.out 256)
      rw [List.take_zero, List.nil_append, Array.toArray_toList] at hsc
      have HN := Lib.hid hn
      clear hn
      have hl2 := load_block (P := Try.prog) n hn2 (block_row H0.out (T 256))
      go_wp2
      refine bodyPost_ret (v := .agg (T 256)) ?_ rfl ⟨rfl, HS.out.setRow _ _ (Nat.le_refl _)⟩
      simp [results, Try.results35, go_sem, hsz, hl2]

theorem table : Gives Try.prog 35 #[] (.agg (tabCells 256)) := table_at

/-- One byte, by the table. -/
theorem run_tab (n : Nat) (c : UInt8) : K.Sn 8 (n % 256 ^^^ c.toNat) ^^^ n / 256 = K.Sn 8 (n ^^^ c.toNat) := by
  have h := K.run_byte n c
  rw [run_one, (K.xor_byte n c.toNat c.toNat_lt).1, (K.xor_byte n c.toNat c.toNat_lt).2] at h
  exact h.symm
theorem xor8 (n : Nat) (c : UInt8) : bits .xor .u8 ((n : Int) % 256) (c.toNat : Int) = ((n % 256 ^^^ c.toNat : Nat) : Int) := by
  have hc := c.toNat_lt
  have := u8_xor_nat (n % 256) c.toNat (by omega) (by omega)
  simpa using this
theorem xor8_lt (n : Nat) (c : UInt8) : n % 256 ^^^ c.toNat < 256 := Nat.xor_lt_two_pow (n := 8) (by omega) c.toNat_lt
theorem xorT (x n : Nat) (hx : x < 4294967296) (hn : n < 4294967296) : bits .xor .u32 (x : Int) ((n : Int) / 256) = ((x ^^^ n / 256 : Nat) : Int) := by
  have := u32_xor_nat x (n / 256) hx (by omega)
  simpa using this

def ByRel (r : Nat) (s : List UInt8) (w0 w : World) (a i : Value) (wr : World) : Prop :=
  wr = w ∧ Same w0 wr ∧ ∃ k n : Nat, i = .int .i64 k ∧ a = .int .u32 n ∧ n < 4294967296 ∧ k ≤ s.length ∧ K.run n (K.bitsOf (s.drop k)) = K.run r (K.bitsOf s)

set_option maxRecDepth 100000 in
theorem byTable_at (r : Nat) (s : List UInt8) (w : World) (hr : r < 4294967296) (hs : s.length ≤ 9223372036854775807) :
    Calls Try.prog 33 #[.int .u32 r, .string ⟨s.toArray⟩] w fun e w' => e = .returned (.int .u32 (K.run r (K.bitsOf s))) ∧ Same w w' := by
  obtain ⟨hz, hi⟩ := zero_of_info info31
  have Htab := Lib.hid table
  have T0 := tabCells_zero
  have Tget := Lib.hid tabCells_get
  have Tsize := Lib.hid tabCells_size
  have Tone := Lib.hid tab_one
  generalize tabCells = T at *
  obtain ⟨n, hn⟩ : ∃ n, n = 256 := ⟨256, rfl⟩
  have hsz : ∀ w, (Go.sizeOf 60).run Try.prog w = .ok n w := fun w => by rw [hn]; exact Try.sizeOf60 w
  have hn2 : (T 256).size = n := by rw [hn]; exact Tsize.out 256
  go_enter Try.func33, Try.ntmps33
  go_wp2_with fail
  refine (Htab.out w).mono ?_
  rintro e w1 ⟨rfl, b1⟩
  have hw1 : (w1.alloc (.cells (T 0) 60 (0, 0))).heap[w1.heap.size]? = some (.cells (T 0) 60 (0, 0)) := heap_alloc_last w1 _
  have hsc := run_storeCells_from (P := Try.prog) w1.heap.size 60 (T 256).toList 0 (T 0) _ hw1 (by simp [Tsize.out]) (Tone.out 256)
  rw [List.take_zero, List.nil_append, Array.toArray_toList] at hsc
  have Hrow := Lib.hid (block_row hw1 (T 256))
  have Hsame := Lib.hid ((b1.alloc (.cells (T 0) 60 (0, 0))).setRow w1.heap.size (T 256) b1.size)
  have HN := Lib.hid hn
  clear hn hw1 b1
  go_wp2
  generalize (w1.alloc (.cells (T 0) 60 (0, 0))).setRow w1.heap.size (T 256) = w2 at *
  generalize w1.heap.size = b at *
  clear hsc hz T0
  go_loopw [0, 10] (fun a i wr => ByRel r s w w2 a i wr) (fun _ i _ => s.length - (intOf i).toNat)
  case atStart => exact ⟨rfl, Hsame.out, 0, r, rfl, rfl, hr, by omega, rfl⟩
  case round =>
    obtain ⟨rfl, hsame, k, n, rfl, rfl, hn, hk, he⟩ := hrel
    have He := Lib.hid he
    have HS := Lib.hid hsame
    clear he hsame
    by_cases hk2 : k < s.length
    · have hx8 := xor8 n s[k]
      have hlt8 := xor8_lt n s[k]
      have hc : wr.cell? ⟨b, n % 256 ^^^ s[k].toNat, none⟩ = some (.int .u32 (K.Sn 8 (n % 256 ^^^ s[k].toNat) : Nat)) := by
        rw [cell_of_row _ _ _ _ _ _ Hrow.out, Tget.out _ _ hlt8, if_pos hlt8]
      have hxT := xorT (K.Sn 8 (n % 256 ^^^ s[k].toNat)) n (Sn_lt 8 _ (by omega)) hn
      rw [run_tab] at hxT
      have hge : ∀ h, (({ data := s.toArray } : ByteArray)[k]'h) = s[k] := fun _ => rfl
      go_wp2
      go_roundw
      case rel =>
        exact ⟨rfl, HS.out, k + 1, K.Sn 8 (n ^^^ s[k].toNat), by go_num, rfl, Sn_lt 8 _ (xorC_lt n s[k] hn), by omega, by rw [← run_drop n s k hk2]; exact He.out⟩
      case measure => simp [intOf]; omega
    · go_wp2
      go_ret
      obtain rfl : k = s.length := by omega
      have := He.out
      rw [List.drop_length] at this
      rw [← this]
      exact ⟨rfl, HS.out⟩
end Go.Proofs.Ytcdcnlaijbjonaa
