/- Proved: frames of a list that came in, in memory; counts of twenty errors, summed up. No condition. -/
import Derived.Test.YtifcibmpeolmdaaDoorOp
namespace Go.Proofs.YtifcibmpeolmdaaDoor
open Go.RowKit

theorem whole_fq {w : World} {g o cap n : Nat} {l : List Fq} (h : Cells fq w (.slice (some ⟨g, o, none⟩) l.length cap) l) (hn : n = 6) (j : Nat) (x : Fq) (hx : l[j]? = some x) : (loadCellsFrom ⟨g, o + j * n, none⟩ 0 n #[]).run Tryd.prog w = .ok (fc x.f) w := by
  have := Cells.load (P := Tryd.prog) fq_len h j x hx 0 6 (fl x.f) (by simp [fq, fl]) (by omega) hn
  rw [Nat.add_zero, ← hn] at this
  exact this
/-- A frame is stored into new memory. -/
theorem frame_new (v : World) (f : Fr) : (storeCells ⟨v.heap.size, 0, none⟩ (fc f).toList).run Tryd.prog (v.alloc (.cells (fc zeroF) 32)) = .ok () ((v.alloc (.cells (fc zeroF) 32)).setRow v.heap.size (fc f)) ∧
    FAt ((v.alloc (.cells (fc zeroF) 32)).setRow v.heap.size (fc f)) v.heap.size f ∧ Keep v ((v.alloc (.cells (fc zeroF) 32)).setRow v.heap.size (fc f)) :=
  ⟨(FAt.new v zeroF).store f, (FAt.new v zeroF).put f, ((Keep.refl v).alloc (.cells (fc zeroF) 32)).setRow v.heap.size (fc f) (Nat.le_refl _)⟩
theorem same_fc (f : Fr) : ∀ w, (Op.equalIn 10000 32 (.agg (fc f)) (.agg (fc f))).run Tryd.prog w = .ok true w := fun w => by
  have := eq_fc 9997 f f w
  rw [decide_eq_true rfl] at this
  exact this
theorem field_kind (a b c d e : Int) (s : ByteArray) (w : World) : (Instr.field 32 (.agg #[.int .i64 a, .int .i64 b, .int .i64 c, .int .i64 d, .int .i64 e, .string s]) 0).run Tryd.prog w = .ok (.int .i64 a) w := by kernel_rfl
theorem field_total (a b c d e : Int) (s : ByteArray) (w : World) : (Instr.field 32 (.agg #[.int .i64 a, .int .i64 b, .int .i64 c, .int .i64 d, .int .i64 e, .string s]) 4).run Tryd.prog w = .ok (.int .i64 e) w := by kernel_rfl
theorem texts_ne {x y : List UInt8} (h : x ≠ y) : ((⟨x.toArray⟩ : ByteArray) == ⟨y.toArray⟩) = false := by
  cases hh : ((⟨x.toArray⟩ : ByteArray) == ⟨y.toArray⟩) with
  | false => rfl
  | true =>
    have := (MapKept.bytes_beq _ _).1 hh
    exact absurd (by simpa using this) h
/-- The first so many counts together. -/
def sumD (d : Int → Nat) : Nat → Nat
  | 0 => 0
  | j + 1 => sumD d j + d (j : Int)
theorem sumD_le (d : Int → Nat) (N : Nat) (h : ∀ e, d e ≤ N) : ∀ j, sumD d j ≤ N * j
  | 0 => by simp [sumD]
  | j + 1 => by
    have h1 := sumD_le d N h j
    have h2 := h (j : Int)
    rw [sumD, Nat.mul_succ]
    omega
theorem sumD_count (r : Rv) (e : Nat) : ∀ j, sumD (r.count e).d j = sumD r.d j + if e < j then 1 else 0
  | 0 => by simp [sumD]
  | j + 1 => by
    rw [sumD, sumD, sumD_count r e j]
    show _ + (if ((j : Nat) : Int) = (e : Int) then r.d (j : Int) + 1 else r.d (j : Int)) = _
    by_cases h : j = e
    · subst h
      rw [if_neg (Nat.lt_irrefl j), if_pos rfl, if_pos (Nat.lt_succ_self j)]
      omega
    · have h3 : ¬ ((j : Nat) : Int) = (e : Int) := by omega
      rw [if_neg h3]
      by_cases h2 : e < j
      · rw [if_pos h2, if_pos (show e < j + 1 by omega)]; omega
      · rw [if_neg h2, if_neg (show ¬ e < j + 1 by omega)]; omega
theorem sumD_take (r : Rv) (f : Fr) : sumD (r.take f).d 20 = sumD r.d 20 + if r.wrong f = 0 then 0 else 1 := by
  by_cases h : r.wrong f = 0
  · rw [take_yes h, if_pos h]; rfl
  · rw [if_neg h]
    have h1 := (take_no h).2
    rw [h1, sumD_count, if_pos (wrong_lt r f)]
def SmRel (d : Int → Nat) (w : World) (nv jv : Value) (wr : World) : Prop := wr = w ∧ ∃ j : Nat, jv = .int .i64 j ∧ j ≤ 20 ∧ nv = .int .i64 (sumD d j : Nat)
end Go.Proofs.YtifcibmpeolmdaaDoor
