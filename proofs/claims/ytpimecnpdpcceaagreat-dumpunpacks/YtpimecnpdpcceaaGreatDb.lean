/- Proved: what dump's Print answers. Condition: the table lies in memory, or is none; its routes may be. -/
import Derived.Test.YtpimecnpdpcceaaGreatDa
import Derived.Test.YtpimecnpdpcceaaGreatDp
import Derived.Test.YtpimecnpdpcceaaGreatMv
import Derived.Test.YtpimecnpdpcceaaGreatMt
import Derived.Test.YtpimecnpdpcceaaGreatLf
namespace Go.Proofs.YtpimecnpdpcceaaGreat
open Go.RowKit

/-! ### Plainly -/
def lastB (last : List UInt8) : List (Dm.Rw Px) → List UInt8
  | [] => last
  | r :: l => lastB (codP.pb r.p) l
theorem goD_snoc : ∀ (l : List (Dm.Rw Px)) (last : List UInt8) (r : Dm.Rw Px), Dm.goD codP last (l ++ [r]) = Dm.goD codP last l ++ Dm.putR codP (lastB last l) r
  | [], last, r => by simp [Dm.goD, lastB]
  | x :: l, last, r => by
    rw [List.cons_append, Dm.goD, Dm.goD, goD_snoc l, List.append_assoc]
    rfl
theorem lastB_snoc : ∀ (l : List (Dm.Rw Px)) (last : List UInt8) (r : Dm.Rw Px), lastB last (l ++ [r]) = codP.pb r.p
  | [], _, _ => rfl
  | _ :: l, _, r => lastB_snoc l _ r
theorem enc10 {n : Nat} (h : n < 2 ^ 64) : (V.enc n).length ≤ 10 := V.enc_len10 n h
theorem put_short (last : List UInt8) (r : Dm.Rw Px) (h1 : r.m < 2 ^ 64) (h2 : r.q < 2 ^ 64) : (Dm.putR codP last r).length ≤ 40 := by
  rw [Dm.put_len]
  have := codP.short r.p
  have := enc10 h1
  have := enc10 h2
  omega
theorem lastB_short : ∀ (l : List (Dm.Rw Px)) (last : List UInt8), last.length ≤ 17 → (lastB last l).length ≤ 17
  | [], _, h => h
  | r :: l, _, _ => lastB_short l _ (codP.short r.p)
theorem cut_fromS (s : List UInt8) (a : Nat) (ha : a ≤ s.length) (w : World) : (Instr.sliceAt 9 (.string ⟨s.toArray⟩) (some (.int .i64 (a : Nat))) none none).run Tryz.prog w = .ok (.string ⟨(s.drop a).toArray⟩) w := by
  have hlen : (⟨s.toArray⟩ : ByteArray).size = s.length := by simp [ByteArray.size]
  have h5 := run_slice_string_l (P := Tryz.prog) w 9 ⟨s.toArray⟩ (by kernel_rfl) .i64 (a : Int) (by omega) (by rw [hlen]; omega)
  rw [Int.toNat_natCast, ext_mid, hlen, List.take_of_length_le (by rw [List.length_drop]; exact Nat.le_refl _)] at h5
  exact (run_sliceAt_string (P := Tryz.prog) (w := w) 9 (.string ⟨s.toArray⟩) (some (.int .i64 (a : Nat))) none none (by kernel_rfl)).trans h5
def NewVw (w : World) : World := w.alloc (.cells #[.string ⟨#[]⟩, .string ⟨#[]⟩, .string ⟨#[]⟩, .string ⟨#[]⟩, .string ⟨#[]⟩] 75)
theorem NewVw.wr (w : World) : Wr (NewVw w) w.heap.size [] := by
  refine ⟨fun _ => [], ⟨fun k hk => ?_, fun k hk => ?_⟩, rfl⟩
  · unfold NewVw
    rcases (by omega : k = 0 ∨ k = 1 ∨ k = 2 ∨ k = 3 ∨ k = 4) with rfl | rfl | rfl | rfl | rfl <;> go_simp
  · unfold NewVw
    rcases (by omega : k = 0 ∨ k = 1 ∨ k = 2 ∨ k = 3 ∨ k = 4) with rfl | rfl | rfl | rfl | rfl <;> go_simp
theorem Wr.keep {w w' : World} {b : Nat} {t : List UInt8} (h : Wr w b t) (k : Keep w w') : Wr w' b t := h.below k
def DpRel (w : World) (N : Nat) (R : List (Dm.Rw Px)) (av iv : Value) (wr : World) : Prop :=
  ∃ k : Nat, iv = .int .i64 k ∧ k ≤ R.length ∧ av = .string ⟨(lastB [] (R.take k)).toArray⟩ ∧ Wr wr w.heap.size (V.enc N ++ Dm.goD codP [] (R.take k)) ∧ (V.enc N ++ Dm.goD codP [] (R.take k)).length ≤ 10 + 40 * k ∧ Keep w wr
end Go.Proofs.YtpimecnpdpcceaaGreat
