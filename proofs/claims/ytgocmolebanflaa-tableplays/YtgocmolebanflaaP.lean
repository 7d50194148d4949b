/- Proved: plain mathematics of prefixes, with no program in it: an address as a number, its bits, the order, what a prefix contains. No condition. -/
namespace Go.Proofs.Ytgocmolebanflaa.X

/-- An address as a number, the first byte the highest. -/
def num : List UInt8 → Nat
  | [] => 0
  | c :: l => c.toNat * 2 ^ (8 * l.length) + num l
theorem num_lt (l : List UInt8) : num l < 2 ^ (8 * l.length) := by
  induction l with
  | nil => decide
  | cons c l ih =>
    have hc := c.toNat_lt
    have hp := Nat.pow_pos (a := 2) (n := 8 * l.length) (by omega)
    rw [num, List.length_cons, Nat.mul_add, Nat.pow_add, Nat.mul_comm (2 ^ (8 * l.length))]
    calc c.toNat * 2 ^ (8 * l.length) + num l < c.toNat * 2 ^ (8 * l.length) + 2 ^ (8 * l.length) := by omega
      _ = (c.toNat + 1) * 2 ^ (8 * l.length) := by rw [Nat.add_mul, Nat.one_mul]
      _ ≤ 2 ^ (8 * 1) * 2 ^ (8 * l.length) := Nat.mul_le_mul_right _ (by omega)

theorem num_div (c : UInt8) (l : List UInt8) : num (c :: l) / 2 ^ (8 * l.length) = c.toNat := by
  rw [num, Nat.mul_comm, Nat.mul_add_div (Nat.pow_pos (by omega)), Nat.div_eq_of_lt (num_lt l), Nat.add_zero]
theorem num_mod (c : UInt8) (l : List UInt8) : num (c :: l) % 2 ^ (8 * l.length) = num l := by
  rw [num, Nat.mul_comm, Nat.mul_add_mod, Nat.mod_eq_of_lt (num_lt l)]

theorem num_inj : ∀ l m : List UInt8, l.length = m.length → num l = num m → l = m
  | [], [], _, _ => rfl
  | [], _ :: _, h, _ => by simp at h
  | _ :: _, [], h, _ => by simp at h
  | c :: l, d :: m, h, e => by
    have hl : l.length = m.length := by simpa using h
    have h1 := num_div c l
    have h2 := num_mod c l
    rw [e, hl, num_div] at h1
    rw [e, hl, num_mod] at h2
    rw [num_inj l m hl h2.symm, UInt8.toNat_inj.1 h1.symm]

/-- Byte by byte. -/
def lex : List UInt8 → List UInt8 → Int
  | c :: l, d :: m => if c.toNat < d.toNat then -1 else if d.toNat < c.toNat then 1 else lex l m
  | _, _ => 0
def cmpI (x y : Int) : Int := if x < y then -1 else if y < x then 1 else 0
theorem lex_num : ∀ l m : List UInt8, l.length = m.length → lex l m = cmpI (num l) (num m)
  | [], [], _ => by simp [lex, cmpI]
  | [], _ :: _, h => by simp at h
  | _ :: _, [], h => by simp at h
  | c :: l, d :: m, h => by
    have hl : l.length = m.length := by simpa using h
    have ih := lex_num l m hl
    have b1 := num_lt l
    have b2 := num_lt m
    rw [lex, ih, num, num, hl]
    rw [hl] at b1
    generalize 2 ^ (8 * m.length) = P at *
    generalize num l = x at *
    generalize num m = y at *
    unfold cmpI
    have mono : ∀ u v : Nat, u < v → u * P + P ≤ v * P := fun u v huv => by
      calc u * P + P = (u + 1) * P := by rw [Nat.add_mul, Nat.one_mul]
        _ ≤ v * P := Nat.mul_le_mul_right _ huv
    by_cases h1 : c.toNat < d.toNat
    · have := mono _ _ h1
      rw [if_pos h1, if_pos (by omega)]
    · rw [if_neg h1]
      by_cases h2 : d.toNat < c.toNat
      · have := mono _ _ h2
        rw [if_pos h2, if_neg (by omega), if_pos (by omega)]
      · rw [if_neg h2, show c.toNat = d.toNat by omega]
        generalize d.toNat * P = z
        have k1 : (((z + x : Nat) : Int) < ((z + y : Nat) : Int)) ↔ ((x : Int) < y) := by omega
        have k2 : (((z + y : Nat) : Int) < ((z + x : Nat) : Int)) ↔ ((y : Int) < x) := by omega
        simp only [k1, k2]

/-- Bit i of 128, the highest first. -/
def bitN (x i : Nat) : Nat := x / 2 ^ (127 - i) % 2
theorem bit_any : ∀ (l : List UInt8) (j : Nat) (h : j / 8 < l.length), num l / 2 ^ (8 * l.length - 1 - j) % 2 = (l[j / 8]'h).toNat / 2 ^ (7 - j % 8) % 2
  | [], j, h => by simp at h
  | c :: l, j, h => by
    by_cases h8 : j < 8
    · have e0 : j / 8 = 0 := by omega
      have e1 : 8 * (c :: l).length - 1 - j = 8 * l.length + (7 - j % 8) := by rw [List.length_cons]; omega
      have e2 : (c :: l)[j / 8]'h = c := by simp [e0]
      rw [e1, e2, Nat.pow_add, ← Nat.div_div_eq_div_mul, num_div]
    · obtain ⟨k, rfl⟩ : ∃ k, j = k + 8 := ⟨j - 8, by omega⟩
      have hk : k / 8 < l.length := by rw [List.length_cons] at h; omega
      have e2 : (c :: l)[(k + 8) / 8]'h = l[k / 8]'hk := by
        simp only [show (k + 8) / 8 = k / 8 + 1 by omega, List.getElem_cons_succ]
      rw [e2, show (k + 8) % 8 = k % 8 by omega, ← bit_any l k hk]
      have e1 : 8 * (c :: l).length - 1 - (k + 8) = 8 * l.length - 1 - k := by rw [List.length_cons]; omega
      rw [e1, num]
      obtain ⟨e, he⟩ : ∃ e, e = 8 * l.length - 1 - k := ⟨_, rfl⟩
      have hs : 8 * l.length = e + (1 + k) := by omega
      rw [← he]
      have hp : c.toNat * 2 ^ (8 * l.length) = 2 ^ e * (2 * (c.toNat * 2 ^ k)) := by
        rw [hs, Nat.pow_add, Nat.pow_add, Nat.pow_one, Nat.mul_left_comm, Nat.mul_left_comm (c.toNat)]
      rw [hp, Nat.mul_add_div (Nat.pow_pos (by omega))]
      omega
theorem bit_num (l : List UInt8) (hl : l.length = 16) (i : Nat) (hi : i < 128) : bitN (num l) i = (l[i / 8]'(by omega)).toNat / 2 ^ (7 - i % 8) % 2 := by
  rw [← bit_any l i (by omega), hl]
  rfl

theorem bitN_test (x i : Nat) : bitN x i = (x.testBit (127 - i)).toNat := by
  unfold bitN
  rw [Nat.testBit_eq_decide_div_mod_eq]
  rcases Nat.mod_two_eq_zero_or_one (x / 2 ^ (127 - i)) with h | h <;> simp [h]
/-- The bits from a on are 0. -/
theorem tail_zero (x a : Nat) (ha : a ≤ 128) : (∀ j, a ≤ j → j < 128 → bitN x j = 0) ↔ x % 2 ^ (128 - a) = 0 := by
  constructor
  · intro h
    apply Nat.eq_of_testBit_eq
    intro i
    rw [Nat.testBit_mod_two_pow, Nat.zero_testBit]
    by_cases hi : i < 128 - a
    · have := h (127 - i) (by omega) (by omega)
      rw [bitN_test, show 127 - (127 - i) = i by omega] at this
      cases hb : x.testBit i
      · simp
      · rw [hb] at this; simp at this
    · simp [hi]
  · intro h j h1 h2
    have := congrArg (fun y => y.testBit (127 - j)) h
    simp only [Nat.testBit_mod_two_pow, Nat.zero_testBit, show 127 - j < 128 - a by omega, decide_true, Bool.true_and] at this
    rw [bitN_test, this]
    rfl

/-- The first k bits are the same. -/
def same (x y k : Nat) : Prop := x / 2 ^ (128 - k) = y / 2 ^ (128 - k)
theorem same_zero (x y : Nat) (hx : x < 2 ^ 128) (hy : y < 2 ^ 128) : same x y 0 := by
  unfold same
  rw [Nat.div_eq_of_lt hx, Nat.div_eq_of_lt hy]
theorem div_half (x k : Nat) (hk : k < 128) : x / 2 ^ (128 - k) = x / 2 ^ (127 - k) / 2 := by
  rw [Nat.div_div_eq_div_mul, show 2 ^ (127 - k) * 2 = 2 ^ (128 - k) by rw [← Nat.pow_succ]; congr 1; omega]
theorem same_succ (x y k : Nat) (hk : k < 128) : same x y (k + 1) ↔ same x y k ∧ bitN x k = bitN y k := by
  unfold same bitN
  rw [div_half x k hk, div_half y k hk, show 128 - (k + 1) = 127 - k by omega]
  generalize x / 2 ^ (127 - k) = u
  generalize y / 2 ^ (127 - k) = v
  omega
theorem same_le (x y k : Nat) : ∀ d, k + d ≤ 128 → same x y (k + d) → same x y k := by
  intro d
  induction d with
  | zero => intro _ h; exact h
  | succ d ih => intro hk h; exact ih (by omega) ((same_succ x y (k + d) (by omega)).1 h).1
theorem same_mono (x y : Nat) {k m : Nat} (h : k ≤ m) (hm : m ≤ 128) (hs : same x y m) : same x y k :=
  same_le x y k (m - k) (by omega) (by rwa [show k + (m - k) = m by omega])

/-- How many first bits are the same, at most m. -/
def common (x y : Nat) : Nat → Nat → Nat
  | 0, k => k
  | n + 1, k => if bitN x k = bitN y k then common x y n (k + 1) else k
theorem common_same (x y : Nat) : ∀ n k, k + n ≤ 128 → same x y k → same x y (common x y n k) ∧ k ≤ common x y n k ∧ common x y n k ≤ k + n
  | 0, k, _, h => ⟨h, Nat.le_refl _, by simp [common]⟩
  | n + 1, k, hk, h => by
    rw [common]
    split
    · rename_i hb
      have := common_same x y n (k + 1) (by omega) ((same_succ x y k (by omega)).2 ⟨h, hb⟩)
      exact ⟨this.1, by omega, by omega⟩
    · exact ⟨h, Nat.le_refl _, by omega⟩
theorem common_most (x y : Nat) : ∀ n k m, k + n ≤ 128 → m ≤ k + n → same x y m → k ≤ m → m ≤ common x y n k
  | 0, k, m, _, h, _, _ => by rw [common]; omega
  | n + 1, k, m, hk, h, hs, hkm => by
    rw [common]
    by_cases hm : m = k
    · subst hm
      split
      · rename_i hb
        by_cases h128 : m + 1 ≤ m + 1 + n
        · have h2 : ∀ n k, k ≤ common x y n k := fun n => by
            induction n with
            | zero => intro k; rw [common]; exact Nat.le_refl _
            | succ n ih => intro k; rw [common]; split
                           · exact Nat.le_trans (by omega) (ih (k + 1))
                           · exact Nat.le_refl _
          exact Nat.le_trans (by omega) (h2 n (m + 1))
        · omega
      · exact Nat.le_refl _
    · have hb := ((same_succ x y k (by omega)).1 (same_mono x y (by omega) (by omega) hs)).2
      rw [if_pos hb]
      exact common_most x y n (k + 1) m (by omega) (by omega) hs (by omega)

/-! ### Prefixes: kind, address, length -/
structure P where
  six : Bool
  n : Nat
  len : Int
def most (six : Bool) : Int := if six then 128 else 32
def P.right (p : P) : Prop := 0 ≤ p.len ∧ p.len ≤ most p.six ∧ p.n % 2 ^ (128 - p.len.toNat) = 0
def cmp (a b : P) : Int := if a.six ≠ b.six then (if b.six then -1 else 1) else if a.n ≠ b.n then cmpI a.n b.n else cmpI a.len b.len
def P.has (a b : P) : Prop := a.right ∧ b.right ∧ a.six = b.six ∧ a.len ≤ b.len ∧ same a.n b.n a.len.toNat

theorem cmp_neg (a b : P) : cmp a b = - cmp b a := by
  obtain ⟨s, n, l⟩ := a
  obtain ⟨t, m, k⟩ := b
  unfold cmp cmpI
  cases s <;> cases t <;> simp <;> (repeat' split) <;> omega
theorem cmp_zero (a b : P) : cmp a b = 0 ↔ a = b := by
  obtain ⟨s, n, l⟩ := a
  obtain ⟨t, m, k⟩ := b
  unfold cmp cmpI
  cases s <;> cases t <;> simp <;> (repeat' split) <;> omega
theorem cmp_trans (a b c : P) (h1 : cmp a b ≤ 0) (h2 : cmp b c ≤ 0) : cmp a c ≤ 0 := by
  obtain ⟨s, n, l⟩ := a
  obtain ⟨t, m, k⟩ := b
  obtain ⟨u, o, j⟩ := c
  unfold cmp cmpI at *
  cases s <;> cases t <;> cases u <;> simp at * <;> (repeat' split at h1) <;> (repeat' split at h2) <;> (repeat' split) <;> omega
theorem cmp_trans' (a b c : P) (h1 : 0 ≤ cmp a b) (h2 : 0 ≤ cmp b c) : 0 ≤ cmp a c := by
  have h := cmp_trans c b a (by rw [cmp_neg]; omega) (by rw [cmp_neg]; omega)
  rw [cmp_neg] at h
  omega
theorem cmp_le (a b : P) : cmp a b ≤ 0 ↔ (a.six = false ∧ b.six = true) ∨ (a.six = b.six ∧ (a.n < b.n ∨ (a.n = b.n ∧ a.len ≤ b.len))) := by
  obtain ⟨s, n, l⟩ := a
  obtain ⟨t, m, k⟩ := b
  unfold cmp cmpI
  cases s <;> cases t <;> simp <;> (repeat' split) <;> omega

theorem most_le (s : Bool) : most s ≤ 128 := by unfold most; split <;> omega

/-- A prefix comes ahead of all that it contains. -/
theorem has_le (a c : P) (h : a.has c) : cmp a c ≤ 0 := by
  obtain ⟨⟨a1, a2, a3⟩, ⟨c1, c2, c3⟩, hs, hl, hb⟩ := h
  rw [cmp_le]
  refine .inr ⟨hs, ?_⟩
  have e1 := Nat.div_add_mod a.n (2 ^ (128 - a.len.toNat))
  have e2 := Nat.div_add_mod c.n (2 ^ (128 - a.len.toNat))
  unfold same at hb
  rw [hb, a3] at e1
  generalize 2 ^ (128 - a.len.toNat) * (c.n / 2 ^ (128 - a.len.toNat)) = z at e1 e2
  omega
/-- What stands between a prefix and one that it contains it contains, too. -/
theorem has_between (a b c : P) (h : a.has c) (hb : b.right) (h1 : cmp a b ≤ 0) (h2 : cmp b c ≤ 0) : a.has b := by
  obtain ⟨⟨a1, a2, a3⟩, ⟨c1, c2, c3⟩, hs, hl, hsame⟩ := h
  obtain ⟨b1, b2, b3⟩ := hb
  have hm := most_le a.six
  have hmb := most_le b.six
  rw [cmp_le] at h1 h2
  have hsix : a.six = b.six := by
    rcases h1 with ⟨x1, x2⟩ | ⟨x1, _⟩
    · rcases h2 with ⟨y1, y2⟩ | ⟨y1, _⟩
      · rw [x2] at y1; cases y1
      · rw [hs, ← y1]
    · exact x1
  have hn1 : a.n ≤ b.n := by rcases h1 with ⟨x1, x2⟩ | ⟨_, h | ⟨h, _⟩⟩ <;> first | omega | (rw [hsix, x2] at x1; cases x1)
  have hn2 : b.n ≤ c.n := by
    rcases h2 with ⟨x1, x2⟩ | ⟨_, h | ⟨h, _⟩⟩ <;> first | omega | (rw [← hs, hsix, x1] at x2; cases x2)
  have hsab : same a.n b.n a.len.toNat := by
    unfold same at *
    have d1 := Nat.div_le_div_right (c := 2 ^ (128 - a.len.toNat)) hn1
    have d2 := Nat.div_le_div_right (c := 2 ^ (128 - a.len.toNat)) hn2
    omega
  refine ⟨⟨a1, a2, a3⟩, ⟨b1, b2, b3⟩, hsix, ?_, hsab⟩
  by_cases hlen : a.len ≤ b.len
  · exact hlen
  · exfalso
    have e1 := Nat.div_add_mod a.n (2 ^ (128 - a.len.toNat))
    have e2 := Nat.div_add_mod b.n (2 ^ (128 - a.len.toNat))
    have hz : b.n % 2 ^ (128 - a.len.toNat) = 0 := by
      have hd : 2 ^ (128 - a.len.toNat) ∣ 2 ^ (128 - b.len.toNat) := Nat.pow_dvd_pow 2 (by omega)
      exact Nat.mod_eq_zero_of_dvd (Nat.dvd_trans hd (Nat.dvd_of_mod_eq_zero b3))
    unfold same at hsab
    rw [hsab, a3] at e1
    rw [hz] at e2
    have heq : a.n = b.n := by omega
    rcases h1 with ⟨x1, x2⟩ | ⟨_, h | ⟨_, h⟩⟩
    · rw [hsix, x2] at x1; cases x1
    · omega
    · omega

end Go.Proofs.Ytgocmolebanflaa.X
