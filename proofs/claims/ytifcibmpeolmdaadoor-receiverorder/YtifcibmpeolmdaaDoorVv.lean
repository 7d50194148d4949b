/- Proved: plain mathematics of the varint layer, with no program in it: what a reader's calls take of some bytes, as functions on lists of bytes; a number's bytes are read as the number. Condition: numbers fit in 64 bits where they are read. -/
namespace Go.Proofs.YtifcibmpeolmdaaDoor.V

/-- Raw: what is taken, what is left, what was wrong. -/
def rawF (l : List UInt8) (x n : Int) : List UInt8 × List UInt8 × Int :=
  if x ≠ 0 then ([], l, x) else if n < 0 then ([], l, 1) else if (l.length : Int) < n then ([], l, 3) else (l.take n.toNat, l.drop n.toNat, 0)

def byteF (l : List UInt8) (x : Int) : UInt8 × List UInt8 × Int :=
  if x ≠ 0 then (0, l, x) else match l with | [] => (0, [], 3) | c :: r => (c, r, 0)

/-- A number: f more bytes may come, k came, that make n. -/
def uintL : Nat → Nat → Nat → List UInt8 → Int → Nat × List UInt8 × Int
  | 0, _, _, l, x => (0, l, x)
  | f + 1, k, n, l, x =>
    if (byteF l x).2.2 ≠ 0 then (0, (byteF l x).2.1, (byteF l x).2.2)
    else if (0 < k ∧ (byteF l x).1.toNat = 0) ∨ (k = 9 ∧ 1 < (byteF l x).1.toNat) then (0, (byteF l x).2.1, 4)
    else if (byteF l x).1.toNat < 128 then (n + (byteF l x).1.toNat % 128 * 2 ^ (7 * k), (byteF l x).2.1, 0)
    else uintL f (k + 1) (n + (byteF l x).1.toNat % 128 * 2 ^ (7 * k)) (byteF l x).2.1 0

def uintF (l : List UInt8) (x : Int) : Nat × List UInt8 × Int := uintL 10 0 0 l x

def intOfN (n : Nat) : Int := if n % 2 = 1 then -(n / 2 : Nat) - 1 else (n / 2 : Nat)

def intF (l : List UInt8) (x : Int) : Int × List UInt8 × Int := (intOfN (uintF l x).1, (uintF l x).2.1, (uintF l x).2.2)

def textF (l : List UInt8) (x most : Int) : List UInt8 × List UInt8 × Int :=
  if (uintF l x).2.2 ≠ 0 then ([], (uintF l x).2.1, (uintF l x).2.2)
  else if most < 0 ∨ most < (uintF l x).1 then ([], (uintF l x).2.1, 7)
  else rawF (uintF l x).2.1 0 (uintF l x).1

def doneF (l : List UInt8) (x : Int) : Int := if x ≠ 0 then x else if 0 < l.length then 4 else 0

theorem byteF_len (l : List UInt8) (x : Int) : (byteF l x).2.1.length ≤ l.length := by
  unfold byteF; split
  · simp
  · split <;> simp

theorem byte_raw (l : List UInt8) (x : Int) : rawF l x 1 = (if (byteF l x).2.2 = 0 then [(byteF l x).1] else [], (byteF l x).2.1, (byteF l x).2.2) := by
  unfold rawF byteF
  split
  · rename_i h; simp
  · cases l with
    | nil => simp
    | cons c r => simp; omega

theorem byteF_zero (l : List UInt8) (x : Int) (h : (byteF l x).2.2 ≠ 0) : (byteF l x).1 = 0 := by
  unfold byteF at h ⊢
  split
  · rfl
  · rename_i hx
    rw [if_neg hx] at h
    cases l with
    | nil => rfl
    | cons c r => simp at h

theorem rawF_len (l : List UInt8) (x n : Int) : (rawF l x n).2.1.length ≤ l.length := by
  unfold rawF; split
  · simp
  · split
    · simp
    · split <;> simp

theorem uintL_len (f : Nat) : ∀ (k n : Nat) (l : List UInt8) (x : Int), (uintL f k n l x).2.1.length ≤ l.length := by
  induction f with
  | zero => intro k n l x; simp [uintL]
  | succ f ih =>
    intro k n l x
    have hb := byteF_len l x
    unfold uintL
    split
    · exact hb
    · split
      · exact hb
      · split
        · exact hb
        · exact Nat.le_trans (ih _ _ _ _) hb

theorem uintF_len (l : List UInt8) (x : Int) : (uintF l x).2.1.length ≤ l.length := uintL_len _ _ _ _ _

theorem uintL_lt (f : Nat) : ∀ (k n : Nat) (l : List UInt8) (x : Int), f + k = 10 → n < 2 ^ (7 * k) → (uintL f k n l x).1 < 2 ^ 64 := by
  induction f with
  | zero => intro k n l x _ _; simp [uintL]
  | succ f ih =>
    intro k n l x hk hn
    have hc : (byteF l x).1.toNat < 256 := by have := (byteF l x).1.toNat_lt; omega
    have hp : 2 ^ (7 * (k + 1)) = 128 * 2 ^ (7 * k) := by rw [show 7 * (k + 1) = 7 * k + 7 from by omega, Nat.pow_add]; omega
    have hmul : (byteF l x).1.toNat % 128 * 2 ^ (7 * k) ≤ 127 * 2 ^ (7 * k) := Nat.mul_le_mul_right _ (by omega)
    unfold uintL
    split
    · simp
    · split
      · simp
      · rename_i h2
        split
        · show n + (byteF l x).1.toNat % 128 * 2 ^ (7 * k) < 2 ^ 64
          by_cases h9 : k = 9
          · subst h9
            have : (byteF l x).1.toNat % 128 * 2 ^ (7 * 9) ≤ 1 * 2 ^ (7 * 9) := Nat.mul_le_mul_right _ (by omega)
            simp only [Nat.reduceMul, Nat.reducePow] at *
            omega
          · have : 2 ^ (7 * k) ≤ 2 ^ 56 := Nat.pow_le_pow_right (by omega) (by omega)
            simp only [Nat.reducePow] at *
            omega
        · by_cases h9 : k = 9
          · omega
          · exact ih (k + 1) _ _ _ (by omega) (by rw [hp]; omega)

theorem uintF_lt (l : List UInt8) (x : Int) : (uintF l x).1 < 2 ^ 64 := uintL_lt 10 0 0 l x rfl (by simp)

/-- A number's bytes. -/
def enc : Nat → List UInt8
  | n => if h : n < 128 then [UInt8.ofNat n] else UInt8.ofNat (n % 128 + 128) :: enc (n / 128)
  termination_by n => n
  decreasing_by omega

theorem enc_lt (n : Nat) (h : n < 128) : enc n = [UInt8.ofNat n] := by rw [enc, dif_pos h]
theorem enc_ge (n : Nat) (h : ¬ n < 128) : enc n = UInt8.ofNat (n % 128 + 128) :: enc (n / 128) := by rw [enc, dif_neg h]

def zig (n : Int) : Nat := if n < 0 then (-(n + 1)).toNat * 2 + 1 else n.toNat * 2

theorem intOfN_zig (n : Int) : intOfN (zig n) = n := by
  unfold intOfN zig
  split <;> split <;> omega

/-- Numbers of at most k seven-bit groups have at most k bytes. -/
theorem enc_len (k : Nat) : ∀ n, n < 2 ^ (7 * k + 7) → (enc n).length ≤ k + 1 := by
  induction k with
  | zero => intro n hn; rw [enc_lt n (by simpa using hn)]; simp
  | succ k ih =>
    intro n hn
    by_cases h : n < 128
    · rw [enc_lt n h]; simp
    · rw [enc_ge n h]
      have := ih (n / 128) (by rw [Nat.div_lt_iff_lt_mul (by omega)]; have : 2 ^ (7 * (k + 1) + 7) = 2 ^ (7 * k + 7) * 128 := by rw [show 7 * (k + 1) + 7 = (7 * k + 7) + 7 from by omega, Nat.pow_add]
                               omega)
      simp; omega

theorem enc_pos (n : Nat) : 1 ≤ (enc n).length := by
  by_cases h : n < 128
  · rw [enc_lt n h]; simp
  · rw [enc_ge n h]; simp

theorem enc_len10 (n : Nat) (h : n < 2 ^ 64) : (enc n).length ≤ 10 := enc_len 9 n (Nat.lt_of_lt_of_le h (by decide))

theorem toNat_ofNat (n : Nat) (h : n < 256) : (UInt8.ofNat n).toNat = n := by simp [UInt8.toNat_ofNat']; omega

theorem byteF_cons (c : UInt8) (r : List UInt8) : byteF (c :: r) 0 = (c, r, 0) := rfl
theorem byteF_nil : byteF [] 0 = (0, [], 3) := rfl

theorem uintL_cons (f k n : Nat) (c : UInt8) (r : List UInt8) : uintL (f + 1) k n (c :: r) 0 =
    if (0 < k ∧ c.toNat = 0) ∨ (k = 9 ∧ 1 < c.toNat) then (0, r, 4)
    else if c.toNat < 128 then (n + c.toNat % 128 * 2 ^ (7 * k), r, 0)
    else uintL f (k + 1) (n + c.toNat % 128 * 2 ^ (7 * k)) r 0 := by
  rw [uintL, byteF_cons, if_neg (by simp)]

theorem uintL_nil (f k n : Nat) : uintL (f + 1) k n [] 0 = (0, [], 3) := by
  rw [uintL, byteF_nil, if_pos (by simp)]

/-- What is written is read as it was, whatever stands behind it: from the k-th byte on. -/
theorem uintL_enc (f : Nat) : ∀ (k n m : Nat) (r : List UInt8), f + k = 10 → 0 < f → n < 2 ^ (64 - 7 * k) → (0 < k → 0 < n) → uintL f k m (enc n ++ r) 0 = (m + n * 2 ^ (7 * k), r, 0) := by
  induction f with
  | zero => intro k n m r _ h; omega
  | succ f ih =>
    intro k n m r hk _ hn hp
    by_cases h : n < 128
    · rw [enc_lt n h]
      have e1 : (UInt8.ofNat n).toNat = n := toNat_ofNat n (by omega)
      rw [List.cons_append, List.nil_append, uintL_cons, e1, if_neg ?_, if_pos h, Nat.mod_eq_of_lt h]
      rintro (⟨a, b⟩ | ⟨a, b⟩)
      · have := hp a; omega
      · subst a; simp at hn; omega
    · rw [enc_ge n h]
      have e1 : (UInt8.ofNat (n % 128 + 128)).toNat = n % 128 + 128 := toNat_ofNat _ (by omega)
      have hk9 : k ≠ 9 := by rintro rfl; simp at hn; omega
      rw [List.cons_append, uintL_cons, e1, if_neg ?_, if_neg (by omega)]
      · rw [ih (k + 1) (n / 128) _ r (by omega) (by omega) ?_ (fun _ => by omega)]
        · congr 1
          have : 2 ^ (7 * (k + 1)) = 128 * 2 ^ (7 * k) := by rw [show 7 * (k + 1) = 7 * k + 7 from by omega, Nat.pow_add]; omega
          rw [this]
          have h3 : (n % 128 + 128) % 128 = n % 128 := by omega
          rw [h3, ← Nat.mul_assoc, Nat.add_assoc, ← Nat.add_mul]
          congr 2
          omega
        · rw [Nat.div_lt_iff_lt_mul (by omega)]
          have : 2 ^ (64 - 7 * k) = 2 ^ (64 - 7 * (k + 1)) * 128 := by rw [show 64 - 7 * k = (64 - 7 * (k + 1)) + 7 from by omega, Nat.pow_add]
          omega
      · rintro (⟨a, b⟩ | ⟨a, b⟩)
        · omega
        · exact hk9 a

theorem uintF_enc (n : Nat) (r : List UInt8) (h : n < 2 ^ 64) : uintF (enc n ++ r) 0 = (n, r, 0) := by
  unfold uintF; rw [uintL_enc 10 0 n 0 r rfl (by omega) (by simpa using h) (fun h => by omega)]; simp

theorem uintF_err (l : List UInt8) (x : Int) (h : x ≠ 0) : uintF l x = (0, l, x) := by
  unfold uintF
  rw [uintL]
  have : byteF l x = (0, l, x) := by unfold byteF; rw [if_pos h]
  rw [this, if_pos h]

end Go.Proofs.YtifcibmpeolmdaaDoor.V
