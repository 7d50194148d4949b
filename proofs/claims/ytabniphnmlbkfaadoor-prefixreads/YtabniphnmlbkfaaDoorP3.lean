/- Proved: plain mathematics of two addresses' first bits in common, bit by bit and byte by byte. No condition but lengths. -/
import Derived.Test.YtabniphnmlbkfaaDoorP2
import Derived.Lib.BitFns
namespace Go.Proofs.YtabniphnmlbkfaaDoor

/-- How many bits from place k on are the same, of at most n. -/
def comm (l m : List UInt8) : Nat → Nat → Nat
  | 0, k => k
  | n + 1, k => if bitOf l k = bitOf m k then comm l m n (k + 1) else k
theorem comm_le (l m : List UInt8) : ∀ n k, k ≤ comm l m n k ∧ comm l m n k ≤ k + n
  | 0, k => by simp [comm]
  | n + 1, k => by
    have := comm_le l m n (k + 1)
    unfold comm
    split <;> omega
theorem comm_min (l m : List UInt8) : ∀ n a k, comm l m n k = min (comm l m (n + a) k) (k + n)
  | 0, a, k => by
    have := comm_le l m (0 + a) k
    simp only [comm, Nat.add_zero]
    omega
  | n + 1, a, k => by
    have h := comm_min l m n a (k + 1)
    rw [show n + 1 + a = (n + a) + 1 by omega]
    unfold comm
    split
    · rw [h]; omega
    · omega
theorem comm_run (l m : List UInt8) : ∀ z n k, (∀ j, j < z → bitOf l (k + j) = bitOf m (k + j)) → comm l m (z + n) k = comm l m n (k + z)
  | 0, n, k, _ => by simp
  | z + 1, n, k, h => by
    rw [show z + 1 + n = (z + n) + 1 by omega]
    have h0 : bitOf l k = bitOf m k := by simpa using h 0 (by omega)
    rw [comm, if_pos h0, comm_run l m z n (k + 1) (fun j hj => by have := h (j + 1) (by omega); rwa [show k + (j + 1) = k + 1 + j by omega] at this)]
    rw [show k + 1 + z = k + (z + 1) by omega]
theorem comm_stop (l m : List UInt8) (z n k : Nat) (h : ∀ j, j < z → bitOf l (k + j) = bitOf m (k + j)) (hz : bitOf l (k + z) ≠ bitOf m (k + z)) : comm l m (z + (n + 1)) k = k + z := by
  rw [comm_run l m z (n + 1) k h]
  unfold comm
  rw [if_neg hz]

theorem len_bits : ∀ x : Fin 256, Lib.bitLen x.val ≤ 8 ∧ (∀ j : Fin 8, j.val < 8 - Lib.bitLen x.val → x.val.testBit (7 - j.val) = false) ∧ (0 < Lib.bitLen x.val → x.val.testBit (Lib.bitLen x.val - 1) = true) := by decide +kernel
theorem xor_bit (c d j : Nat) : (c ^^^ d).testBit j = false ↔ c / 2 ^ j % 2 = d / 2 ^ j % 2 := by
  rw [div_test, div_test, Nat.testBit_xor]
  cases c.testBit j <;> cases d.testBit j <;> simp
def zer (c d : Nat) : Nat := 8 - Lib.bitLen (c ^^^ d)
theorem xor_lt8 (c d : Nat) (hc : c < 256) (hd : d < 256) : c ^^^ d < 256 := Nat.xor_lt_two_pow (n := 8) hc hd
theorem zer_le (c d : Nat) : zer c d ≤ 8 := by unfold zer; omega
theorem zer_len (c d : Nat) (hc : c < 256) (hd : d < 256) : Lib.bitLen (c ^^^ d) ≤ 8 := (len_bits ⟨_, xor_lt8 c d hc hd⟩).1
theorem zer_same (c d j : Nat) (hc : c < 256) (hd : d < 256) (hj : j < zer c d) : c / 2 ^ (7 - j) % 2 = d / 2 ^ (7 - j) % 2 := by
  rw [← xor_bit]
  have := zer_le c d
  exact (len_bits ⟨_, xor_lt8 c d hc hd⟩).2.1 ⟨j, by omega⟩ hj
theorem zer_stop (c d : Nat) (hc : c < 256) (hd : d < 256) (h : zer c d < 8) : c / 2 ^ (7 - zer c d) % 2 ≠ d / 2 ^ (7 - zer c d) % 2 := by
  rw [Ne, ← xor_bit]
  have h1 := zer_len c d hc hd
  have h2 := (len_bits ⟨_, xor_lt8 c d hc hd⟩).2.2
  unfold zer at h ⊢
  simp only at h2
  rw [show 7 - (8 - Lib.bitLen (c ^^^ d)) = Lib.bitLen (c ^^^ d) - 1 by omega, h2 (by omega)]
  simp
/-- One byte more is the same. -/
theorem comm_byte (l m : List UInt8) (i : Nat) (hi : i < 16) (h : zer (l.getD i 0).toNat (m.getD i 0).toNat = 8) : comm l m (128 - 8 * i) (8 * i) = comm l m (128 - 8 * (i + 1)) (8 * (i + 1)) := by
  have := comm_run l m 8 (128 - 8 * (i + 1)) (8 * i) (fun j hj => by
    unfold bitOf
    rw [show (8 * i + j) / 8 = i by omega, show (8 * i + j) % 8 = j by omega]
    exact zer_same _ _ j (UInt8.toNat_lt _) (UInt8.toNat_lt _) (by omega))
  rw [show 128 - 8 * i = 8 + (128 - 8 * (i + 1)) by omega, this]
  rfl
theorem comm_byte_stop (l m : List UInt8) (i : Nat) (hi : i < 16) (h : zer (l.getD i 0).toNat (m.getD i 0).toNat < 8) : comm l m (128 - 8 * i) (8 * i) = 8 * i + zer (l.getD i 0).toNat (m.getD i 0).toNat := by
  have hs := zer_stop _ _ (UInt8.toNat_lt _) (UInt8.toNat_lt _) h
  have := comm_stop l m (zer (l.getD i 0).toNat (m.getD i 0).toNat) (127 - 8 * i - zer (l.getD i 0).toNat (m.getD i 0).toNat) (8 * i) (fun j hj => by
    unfold bitOf
    rw [show (8 * i + j) / 8 = i by omega, show (8 * i + j) % 8 = j by omega]
    exact zer_same _ _ j (UInt8.toNat_lt _) (UInt8.toNat_lt _) hj) (by
    unfold bitOf
    rw [show (8 * i + zer (l.getD i 0).toNat (m.getD i 0).toNat) / 8 = i by omega, show (8 * i + zer (l.getD i 0).toNat (m.getD i 0).toNat) % 8 = zer (l.getD i 0).toNat (m.getD i 0).toNat by omega]
    exact hs)
  rw [← this]
  congr 1
  omega
theorem comm_at_most (l m : List UInt8) (n : Nat) (hn : n ≤ 128) : comm l m n 0 = min (comm l m 128 0) n := by
  have := comm_min l m n (128 - n) 0
  rw [show n + (128 - n) = 128 by omega, Nat.zero_add] at this
  exact this
end Go.Proofs.YtabniphnmlbkfaaDoor
