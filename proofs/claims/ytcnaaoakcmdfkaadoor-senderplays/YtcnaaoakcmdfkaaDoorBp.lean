/- Proved: plain mathematics of bits, with no program in it: bits of numbers and of bytes, as functions on lists. No condition. -/
namespace Go.Proofs.YtcnaaoakcmdfkaaDoor

/-- The n lowest bits of v, the lowest first. -/
def bitsL (v n : Nat) : List Bool := (List.range n).map v.testBit
/-- The number that bits make. -/
def valL : List Bool → Nat
  | [] => 0
  | b :: l => b.toNat + 2 * valL l
/-- The byte at place j. -/
def byteN (l : List Bool) (j : Nat) : Nat := valL ((l.drop (8 * j)).take 8)
/-- The first n bytes of bits. -/
def bytesN (l : List Bool) (n : Nat) : List UInt8 := (List.range n).map fun j => UInt8.ofNat (byteN l j)
/-- Bits as bytes. -/
def bytesL (l : List Bool) : List UInt8 := bytesN l ((l.length + 7) / 8)
/-- The bits of bytes. -/
def ofL (s : List UInt8) : List Bool := s.flatMap fun c => bitsL c.toNat 8
theorem bitsL_len (v n : Nat) : (bitsL v n).length = n := by simp [bitsL]
theorem bitsL_zero (v : Nat) : bitsL v 0 = [] := rfl
theorem bitsL_succ (v n : Nat) : bitsL v (n + 1) = bitsL v n ++ [v.testBit n] := by simp [bitsL, List.range_succ]
theorem bitsL_cons (v n : Nat) : bitsL v (n + 1) = decide (v % 2 = 1) :: bitsL (v / 2) n := by
  simp only [bitsL, List.range_succ_eq_map, List.map_cons, List.map_map, Nat.testBit_zero]
  congr 1
  exact List.map_congr_left fun i _ => by simp [Nat.testBit_succ]
theorem bitsL_get (v n i : Nat) (h : i < n) : (bitsL v n)[i]? = some (v.testBit i) := by
  simp [bitsL, h]
theorem bitsL_of_zero (n : Nat) : bitsL 0 n = List.replicate n false := by
  refine List.ext_getElem? fun i => ?_
  by_cases h : i < n
  · rw [bitsL_get 0 n i h]; simp [h]
  · simp [bitsL, h]
theorem valL_lt : ∀ l : List Bool, valL l < 2 ^ l.length
  | [] => by simp [valL]
  | b :: l => by
    have := valL_lt l
    simp only [valL, List.length_cons, Nat.pow_succ]
    cases b <;> simp <;> omega
theorem valL_append : ∀ l m : List Bool, valL (l ++ m) = valL l + 2 ^ l.length * valL m
  | [], m => by simp [valL]
  | b :: l, m => by
    simp only [List.cons_append, valL, valL_append l m, List.length_cons, Nat.pow_succ]
    rw [Nat.mul_add, Nat.add_assoc, ← Nat.mul_assoc, Nat.mul_comm 2 (2 ^ l.length)]
theorem valL_snoc (l : List Bool) (c : Bool) : valL (l ++ [c]) = valL l + c.toNat * 2 ^ l.length := by
  rw [valL_append]; simp [valL, Nat.mul_comm]
theorem valL_noughts (n : Nat) : valL (List.replicate n false) = 0 := by
  induction n with
  | zero => rfl
  | succ n ih => simp [List.replicate_succ, valL, ih]
theorem valL_bitsL : ∀ n v : Nat, valL (bitsL v n) = v % 2 ^ n
  | 0, v => by simp [bitsL, valL, Nat.mod_one]
  | n + 1, v => by
    rw [bitsL_cons]
    simp only [valL, valL_bitsL n (v / 2), Nat.pow_succ]
    rw [Nat.mul_comm (2 ^ n) 2, Nat.mod_mul]
    by_cases h : v % 2 = 1
    · simp [h]
    · have : v % 2 = 0 := by omega
      simp [this]
theorem valL_bit : ∀ (l : List Bool) (i : Nat), (valL l).testBit i = l.getD i false
  | [], i => by simp [valL]
  | b :: l, 0 => by cases b <;> simp [valL, Nat.testBit_zero] <;> omega
  | b :: l, i + 1 => by
    rw [Nat.testBit_succ]
    simp only [valL]
    have : (b.toNat + 2 * valL l) / 2 = valL l := by cases b <;> simp <;> omega
    rw [this, valL_bit l i]; simp
theorem bitsL_valL (l : List Bool) (n : Nat) (h : l.length ≤ n) : bitsL (valL l) n = l ++ List.replicate (n - l.length) false := by
  refine List.ext_getElem? fun i => ?_
  by_cases hi : i < n
  · rw [bitsL_get _ n i hi, valL_bit]
    by_cases h2 : i < l.length
    · simp [List.getElem?_append_left, h2]
    · rw [List.getElem?_append_right (by omega), List.getElem?_replicate, if_pos (by omega)]
      simp [h2]
  · rw [List.getElem?_eq_none (by simp [bitsL]; omega), List.getElem?_eq_none (by simp; omega)]

theorem byteN_lt (l : List Bool) (j : Nat) : byteN l j < 256 := by
  have h := valL_lt ((l.drop (8 * j)).take 8)
  have h2 : 2 ^ ((l.drop (8 * j)).take 8).length ≤ 2 ^ 8 := Nat.pow_le_pow_right (by omega) (by simp; omega)
  unfold byteN; omega
theorem byteN_out (l : List Bool) (j : Nat) (h : l.length ≤ 8 * j) : byteN l j = 0 := by
  unfold byteN; rw [List.drop_eq_nil_of_le h]; rfl
theorem byteN_last_lt (l : List Bool) : byteN l (l.length / 8) < 2 ^ (l.length % 8) := by
  have h := valL_lt ((l.drop (8 * (l.length / 8))).take 8)
  have h2 : ((l.drop (8 * (l.length / 8))).take 8).length = l.length % 8 := by simp; omega
  rw [h2] at h; exact h
theorem byteN_snoc (l : List Bool) (c : Bool) : byteN (l ++ [c]) (l.length / 8) = byteN l (l.length / 8) + c.toNat * 2 ^ (l.length % 8) := by
  unfold byteN
  have h2 : (l.drop (8 * (l.length / 8))).length = l.length % 8 := by simp; omega
  rw [List.drop_append, show 8 * (l.length / 8) - l.length = 0 by omega, List.drop_zero, List.take_of_length_le (by simp; omega), List.take_of_length_le (by omega), valL_snoc, h2]
theorem byteN_snoc_other (l : List Bool) (c : Bool) (j : Nat) (h : j ≠ l.length / 8) : byteN (l ++ [c]) j = byteN l j := by
  unfold byteN
  by_cases hj : j < l.length / 8
  · rw [List.drop_append, show 8 * j - l.length = 0 by omega, List.drop_zero, List.take_append_of_le_length (by simp; omega)]
  · rw [List.drop_eq_nil_of_le (by simp; omega), List.drop_eq_nil_of_le (by omega)]
theorem bytesN_len (l : List Bool) (n : Nat) : (bytesN l n).length = n := by simp [bytesN]
theorem bytesL_len (l : List Bool) : (bytesL l).length = (l.length + 7) / 8 := bytesN_len _ _
theorem bytesN_get (l : List Bool) (n i : Nat) (h : i < n) : (bytesN l n)[i]? = some (UInt8.ofNat (byteN l i)) := by simp [bytesN, h]
theorem bytesN_snoc (l : List Bool) (c : Bool) (n : Nat) : bytesN (l ++ [c]) n = (bytesN l n).set (l.length / 8) (UInt8.ofNat (byteN l (l.length / 8) + c.toNat * 2 ^ (l.length % 8))) := by
  refine List.ext_getElem? fun i => ?_
  rw [List.getElem?_set]
  by_cases hi : i < n
  · rw [bytesN_get _ n i hi]
    by_cases h : l.length / 8 = i
    · rw [if_pos h, bytesN_len, if_pos (by omega), ← byteN_snoc, h]
    · rw [if_neg h, bytesN_get _ n i hi, byteN_snoc_other l c i (by omega)]
  · rw [List.getElem?_eq_none (by rw [bytesN_len]; omega)]
    by_cases h : l.length / 8 = i
    · rw [if_pos h, bytesN_len, if_neg (by omega)]
    · rw [if_neg h, List.getElem?_eq_none (by rw [bytesN_len]; omega)]
theorem bytesN_more (l : List Bool) (n k : Nat) (h : l.length ≤ 8 * n) : bytesN l (n + k) = bytesN l n ++ List.replicate k 0 := by
  refine List.ext_getElem? fun i => ?_
  by_cases hi : i < n + k
  · rw [bytesN_get _ _ i hi]
    by_cases h2 : i < n
    · rw [List.getElem?_append_left (by rw [bytesN_len]; omega), bytesN_get _ _ i h2]
    · rw [List.getElem?_append_right (by rw [bytesN_len]; omega), byteN_out l i (by omega), List.getElem?_replicate, if_pos (by rw [bytesN_len]; omega)]
      rfl
  · rw [List.getElem?_eq_none (by rw [bytesN_len]; omega), List.getElem?_eq_none (by simp [bytesN_len]; omega)]
theorem bytesN_take (l : List Bool) (n k : Nat) (h : k ≤ n) : (bytesN l n).take k = bytesN l k := by
  simp [bytesN, ← List.map_take, List.take_range, Nat.min_eq_left h]
theorem bytesN_nil (n : Nat) : bytesN [] n = List.replicate n 0 := by
  have := bytesN_more [] 0 n (by simp)
  simpa [bytesN] using this

theorem ofL_nil : ofL [] = [] := rfl
theorem ofL_snoc (s : List UInt8) (c : UInt8) : ofL (s ++ [c]) = ofL s ++ bitsL c.toNat 8 := by simp [ofL]
theorem ofL_append (s t : List UInt8) : ofL (s ++ t) = ofL s ++ ofL t := by simp [ofL]
theorem ofL_cons (c : UInt8) (s : List UInt8) : ofL (c :: s) = bitsL c.toNat 8 ++ ofL s := by simp [ofL]
theorem ofL_len : ∀ s : List UInt8, (ofL s).length = 8 * s.length
  | [] => rfl
  | c :: s => by rw [ofL_cons, List.length_append, bitsL_len, ofL_len s, List.length_cons]; omega
theorem ofL_get : ∀ (s : List UInt8) (i : Nat) (h : i / 8 < s.length), (ofL s)[i]? = some ((s[i / 8]'h).toNat.testBit (i % 8))
  | [], i, h => by simp at h
  | c :: s, i, h => by
    rw [ofL_cons]
    by_cases hi : i < 8
    · rw [List.getElem?_append_left (by rw [bitsL_len]; omega), bitsL_get _ _ _ hi]
      have e : i / 8 = 0 := by omega
      have e2 : i % 8 = i := by omega
      simp [e, e2]
    · obtain ⟨k, rfl⟩ : ∃ k, i = k + 8 := ⟨i - 8, by omega⟩
      have e : (k + 8) / 8 = k / 8 + 1 := by omega
      have e2 : (k + 8) % 8 = k % 8 := by omega
      rw [List.getElem?_append_right (by rw [bitsL_len]; omega), bitsL_len, Nat.add_sub_cancel, ofL_get s k (by simp at h; omega)]
      simp [e2]
theorem ofL_bytesN (l : List Bool) : ∀ n, ofL (bytesN l n) = l.take (8 * n) ++ List.replicate (8 * n - l.length) false
  | 0 => by simp [bytesN, ofL]
  | n + 1 => by
    have e : bytesN l (n + 1) = bytesN l n ++ [UInt8.ofNat (byteN l n)] := by simp [bytesN, List.range_succ]
    rw [e, ofL_snoc, ofL_bytesN l n, UInt8.toNat_ofNat_of_lt' (byteN_lt l n)]
    unfold byteN
    rw [bitsL_valL _ 8 (by simp; omega)]
    by_cases h : 8 * n ≤ l.length
    · rw [show 8 * n - l.length = 0 by omega, List.replicate_zero, List.append_nil, ← List.append_assoc]
      have e2 : l.take (8 * (n + 1)) = l.take (8 * n) ++ (l.drop (8 * n)).take 8 := by
        rw [show 8 * (n + 1) = 8 * n + 8 by omega, List.take_add]
      rw [e2]
      congr 2
      simp; omega
    · rw [List.drop_eq_nil_of_le (by omega), List.take_nil, List.nil_append, List.take_of_length_le (by omega), List.take_of_length_le (by omega), List.append_assoc, List.replicate_append_replicate]
      congr 2
      simp; omega
theorem ofL_bytesL (l : List Bool) : ∃ k, k < 8 ∧ ofL (bytesL l) = l ++ List.replicate k false := by
  refine ⟨8 * ((l.length + 7) / 8) - l.length, by omega, ?_⟩
  unfold bytesL
  rw [ofL_bytesN, List.take_of_length_le (by omega)]

end Go.Proofs.YtcnaaoakcmdfkaaDoor
