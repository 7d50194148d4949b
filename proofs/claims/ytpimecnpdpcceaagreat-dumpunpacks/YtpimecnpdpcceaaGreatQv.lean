/- Proved: what the document's Tokens of layer 5 answers. Condition: the text has at most 10^8 bytes. -/
import Derived.Test.YtpimecnpdpcceaaGreatQu
namespace Go.Proofs.YtpimecnpdpcceaaGreat
open Go.RowKit

/-! ### Tokens of any numbers -/
def t3 (x : UInt8 × Int × Int) : List Value := [.int .u8 (x.1.toNat : Nat), .int .i64 x.2.1, .int .i64 x.2.2]
def e3 (t : Lz.Tk) : UInt8 × Int × Int := (t.b, (t.back : Nat), (t.len : Nat))
theorem t3_len (x : UInt8 × Int × Int) : (t3 x).length = 3 := rfl
theorem t3_one (x : UInt8 × Int × Int) : ∀ v ∈ t3 x, v.oneCell' = true := by
  intro v hv
  simp [t3] at hv
  rcases hv with rfl | rfl | rfl <;> rfl
theorem elQ3 : El 129 155 3 24 t3 := ⟨by kernel_rfl, by
  obtain ⟨it, h1, h2, h3, h4⟩ := info_all 155 _ _ _ infoQ
  exact ⟨it, _, h1, h2, h3, h4, rfl⟩, t3_len, t3_one, by omega⟩
theorem flat_e3 (T : List Lz.Tk) : flat t3 (T.map e3) = flat tl T := by
  unfold flat
  induction T with
  | nil => rfl
  | cons t T ih => simpa [t3, e3, tl] using ih
theorem Own.as3 {t B : Nat} {w : World} {v : Value} {T : List Lz.Tk} (h : Own t 3 tl B w v T) : Own t 3 t3 B w v (T.map e3) := by
  unfold Own at h ⊢
  rw [flat_e3, List.length_map]
  exact h
theorem build_3 (x y : Int) (w : World) : (Instr.build 155 #[(1, .int .i64 x), (2, .int .i64 y)]).run Tryz.prog w = .ok (.agg #[.int .u8 0, .int .i64 x, .int .i64 y]) w := by kernel_rfl
theorem slice_3 (x y : Int) (w : World) : (Instr.buildSlice 129 1 #[(0, .agg #[.int .u8 0, .int .i64 x, .int .i64 y])]).run Tryz.prog w = .ok (.slice (some ⟨w.heap.size, 0, none⟩) 1 1) (w.alloc (.cells #[.int .u8 0, .int .i64 x, .int .i64 y] 155)) := by kernel_rfl
theorem Row.tok3 (w : World) (x y : Int) : Row t3 155 (w.alloc (.cells #[.int .u8 0, .int .i64 x, .int .i64 y] 155)) (.slice (some ⟨w.heap.size, 0, none⟩) 1 1) [(0, x, y)] := by
  have hb : (w.alloc (.cells #[.int .u8 0, .int .i64 x, .int .i64 y] 155)).heap[w.heap.size]? = some (.cells #[.int .u8 0, .int .i64 x, .int .i64 y] 155 (0, 0)) := heap_alloc_last w _
  refine ⟨.inr ⟨w.heap.size, 0, 1, rfl, by simp, by unfold maxLen; omega, by simp, fun j u hj => ?_⟩, fun g hg => ?_⟩
  · refine cell_obj hb ?_
    rw [flat_one] at hj
    simpa [t3] using hj
  · simp [Value.ownBlock] at hg
    subst hg
    exact ⟨_, _, hb⟩
theorem one_bit (l : List Bool) (h : (Bit.bitsF l 0 1).2.2 = 0) : (Bit.bitsF l 0 1).1 = 0 ∨ (Bit.bitsF l 0 1).1 = 1 := by
  unfold Bit.bitsF at h ⊢
  rw [if_neg (by simp), if_neg (by omega)] at h ⊢
  by_cases hl : (l.length : Int) < 1
  · rw [if_pos hl] at h
    simp at h
  · rw [if_neg hl]
    have := Bit.val_le l 1 (by omega)
    simp only [Int.toNat_one]
    omega
theorem bit_err (l : List Bool) (h : ¬ (Bit.bitsF l 0 1).2.2 = 0) : (Bit.bitsF l 0 1).1 = 0 := by
  unfold Bit.bitsF at h ⊢
  rw [if_neg (by simp), if_neg (by omega)] at h ⊢
  by_cases hl : (l.length : Int) < 1
  · rw [if_pos hl]
  · rw [if_neg hl] at h
    simp at h
theorem code_wrong (l : List Bool) (x : Int) (h : ¬ (Bit.codeF l x).2.2 = 0) : (Bit.codeF l x).1 = 0 := by
  unfold Bit.codeF at h ⊢
  split
  · rfl
  · split
    · rfl
    · split
      · rfl
      · rename_i h1 h2 h3
        rw [if_neg h1, if_neg h2, if_neg h3] at h
        simp at h
theorem bits_wrong (l : List Bool) (x : Int) (hx : x ≠ 0) (n : Int) : Bit.bitsF l x n = (0, l, x) := by unfold Bit.bitsF; rw [if_pos hx]

/-- What a round takes, as the document's Tokens takes it. -/
theorem take_bit0 {has n : Nat} {l l1 : List Bool} {bit : Nat} (h : Bit.bitsF l 0 1 = (bit, l1, 0)) (hb : bit = 0) : Lz.takeF has n l = if (Bit.bitsF l1 0 8).2.2 ≠ 0 then (⟨0, 0, 0⟩, (Bit.bitsF l1 0 8).2.1, (Bit.bitsF l1 0 8).2.2) else (⟨UInt8.ofNat (Bit.bitsF l1 0 8).1, 0, 0⟩, (Bit.bitsF l1 0 8).2.1, 0) := by
  rw [takeF_eq, h, if_neg (by simp [hb])]
theorem take_bit1 {has n : Nat} {l l1 : List Bool} {bit : Nat} (h : Bit.bitsF l 0 1 = (bit, l1, 0)) (hb : bit = 1) : Lz.takeF has n l = copyF has n l1 0 := by
  rw [takeF_eq, h, if_pos hb]
theorem take_wrong {has n : Nat} {l l1 : List Bool} {bit : Nat} {x : Int} (h : Bit.bitsF l 0 1 = (bit, l1, x)) (hx : x ≠ 0) : Lz.takeF has n l = (⟨0, 0, 0⟩, l1, x) := by
  have hb := bit_err l (by rw [h]; exact hx)
  rw [h] at hb
  simp only at hb
  rw [takeF_eq, h, if_neg (by simp [hb]), bits_wrong l1 x hx, if_pos hx]
def QoRel (w : World) (N : Nat) (l0 : List Bool) (lv hv : Value) (wr : World) : Prop :=
  ∃ (has f : Nat) (l : List Bool) (T : List Lz.Tk), hv = .int .u64 has ∧ has ≤ N ∧ T.length ≤ has ∧ N - has ≤ f ∧ Lz.takesF N N 0 l0 [] = Lz.takesF N f has l T ∧ Own 155 3 tl (w.heap.size + 1) wr lv T ∧ Bit.Qd wr w.heap.size l 0 ∧ Keep w wr
def QoPost (w : World) (r : List Lz.Tk × Nat × Int) (e : Ending) (w' : World) : Prop :=
  ∃ v, e = .returned (.tuple #[v, .int .i64 (r.2.1 : Nat), .int .i64 r.2.2]) ∧ Row tl 155 w' v r.1 ∧ Keep w w'
end Go.Proofs.YtpimecnpdpcceaaGreat
