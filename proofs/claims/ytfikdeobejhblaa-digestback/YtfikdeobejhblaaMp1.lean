/- Proved: several texts in one: plain mathematics of prefixes, with no program in it: an address as a number, its bits, the order, what a prefix contains; plain mathematics of addresses' bits, with no program in it: an address's first bits; rules of the walk: a function whose body jumps back to one label; a region that draws its order, whose calls make memory but turn nothing that was there; nothing of its own: what the texts of this seat import; how prefixes and addresses lie in memory; what prefix's size, fits and need, and the document's most and bit answer; what prefix's cut and Right answer; two addresses, two prefixes compared by the language's own '=='; what prefix's Right answers; a prefix in memory; what Compare of prefix and of the document answer; what Make of prefix answers; frames of memory: nothing that was there has turned (Keep); nothing but one block of it may have turned (Only); a region that draws its order, whose calls keep what was there. Each with its conditions where it stands. -/
import Derived.WalkKit
import Derived.Deep.QuietTactic
import Derived.BigQuiet
import Derived.Deep.RegionWith
import Derived.ScopeJumps
import Derived.Lib.Hide
import Derived.Test.YtfikdeobejhblaaRows
import Derived.WalkSpells
import Derived.WalkLawsBesides
import Derived.Handy
import Derived.Deep.WholeRow
import Derived.Laws.BitsAllLaws
import Derived.Laws.CopyRow
import Derived.Stop.BytesEq
import Derived.Lib.BytesEntry
import Derived.Lib.Bytealg
import Derived.Lib.BufferWrite

/- Proved: plain mathematics of prefixes, with no program in it: an address as a number, its bits, the order, what a prefix contains. No condition. -/
namespace Go.Proofs.Ytfikdeobejhblaa.X

/-- An address as a number, the first byte the highest. -/
def num : List UInt8 → Nat
  | [] => 0
  | c :: l => c.toNat * 2 ^ (8 * l.length) + num l
theorem num_lt (l : List UInt8) : num l < 2 ^ (8 * l.length) := by
  induction l with
  | nil => decide
  | cons c l ih =>
    have hc := c.toNat_lt
    have hp := Nat.pow_pos (a := 2) (n := 8 * l.length) (by omega)
    rw [num, List.length_cons, Nat.mul_add, Nat.pow_add, Nat.mul_comm (2 ^ (8 * l.length))]
    calc c.toNat * 2 ^ (8 * l.length) + num l < c.toNat * 2 ^ (8 * l.length) + 2 ^ (8 * l.length) := by omega
      _ = (c.toNat + 1) * 2 ^ (8 * l.length) := by rw [Nat.add_mul, Nat.one_mul]
      _ ≤ 2 ^ (8 * 1) * 2 ^ (8 * l.length) := Nat.mul_le_mul_right _ (by omega)

theorem num_div (c : UInt8) (l : List UInt8) : num (c :: l) / 2 ^ (8 * l.length) = c.toNat := by
  rw [num, Nat.mul_comm, Nat.mul_add_div (Nat.pow_pos (by omega)), Nat.div_eq_of_lt (num_lt l), Nat.add_zero]
theorem num_mod (c : UInt8) (l : List UInt8) : num (c :: l) % 2 ^ (8 * l.length) = num l := by
  rw [num, Nat.mul_comm, Nat.mul_add_mod, Nat.mod_eq_of_lt (num_lt l)]

theorem num_inj : ∀ l m : List UInt8, l.length = m.length → num l = num m → l = m
  | [], [], _, _ => rfl
  | [], _ :: _, h, _ => by simp at h
  | _ :: _, [], h, _ => by simp at h
  | c :: l, d :: m, h, e => by
    have hl : l.length = m.length := by simpa using h
    have h1 := num_div c l
    have h2 := num_mod c l
    rw [e, hl, num_div] at h1
    rw [e, hl, num_mod] at h2
    rw [num_inj l m hl h2.symm, UInt8.toNat_inj.1 h1.symm]

/-- Byte by byte. -/
def lex : List UInt8 → List UInt8 → Int
  | c :: l, d :: m => if c.toNat < d.toNat then -1 else if d.toNat < c.toNat then 1 else lex l m
  | _, _ => 0
def cmpI (x y : Int) : Int := if x < y then -1 else if y < x then 1 else 0
theorem lex_num : ∀ l m : List UInt8, l.length = m.length → lex l m = cmpI (num l) (num m)
  | [], [], _ => by simp [lex, cmpI]
  | [], _ :: _, h => by simp at h
  | _ :: _, [], h => by simp at h
  | c :: l, d :: m, h => by
    have hl : l.length = m.length := by simpa using h
    have ih := lex_num l m hl
    have b1 := num_lt l
    have b2 := num_lt m
    rw [lex, ih, num, num, hl]
    rw [hl] at b1
    generalize 2 ^ (8 * m.length) = P at *
    generalize num l = x at *
    generalize num m = y at *
    unfold cmpI
    have mono : ∀ u v : Nat, u < v → u * P + P ≤ v * P := fun u v huv => by
      calc u * P + P = (u + 1) * P := by rw [Nat.add_mul, Nat.one_mul]
        _ ≤ v * P := Nat.mul_le_mul_right _ huv
    by_cases h1 : c.toNat < d.toNat
    · have := mono _ _ h1
      rw [if_pos h1, if_pos (by omega)]
    · rw [if_neg h1]
      by_cases h2 : d.toNat < c.toNat
      · have := mono _ _ h2
        rw [if_pos h2, if_neg (by omega), if_pos (by omega)]
      · rw [if_neg h2, show c.toNat = d.toNat by omega]
        generalize d.toNat * P = z
        have k1 : (((z + x : Nat) : Int) < ((z + y : Nat) : Int)) ↔ ((x : Int) < y) := by omega
        have k2 : (((z + y : Nat) : Int) < ((z + x : Nat) : Int)) ↔ ((y : Int) < x) := by omega
        simp only [k1, k2]

/-- Bit i of 128, the highest first. -/
def bitN (x i : Nat) : Nat := x / 2 ^ (127 - i) % 2
theorem bit_any : ∀ (l : List UInt8) (j : Nat) (h : j / 8 < l.length), num l / 2 ^ (8 * l.length - 1 - j) % 2 = (l[j / 8]'h).toNat / 2 ^ (7 - j % 8) % 2
  | [], j, h => by simp at h
  | c :: l, j, h => by
    by_cases h8 : j < 8
    · have e0 : j / 8 = 0 := by omega
      have e1 : 8 * (c :: l).length - 1 - j = 8 * l.length + (7 - j % 8) := by rw [List.length_cons]; omega
      have e2 : (c :: l)[j / 8]'h = c := by simp [e0]
      rw [e1, e2, Nat.pow_add, ← Nat.div_div_eq_div_mul, num_div]
    · obtain ⟨k, rfl⟩ : ∃ k, j = k + 8 := ⟨j - 8, by omega⟩
      have hk : k / 8 < l.length := by rw [List.length_cons] at h; omega
      have e2 : (c :: l)[(k + 8) / 8]'h = l[k / 8]'hk := by
        simp only [show (k + 8) / 8 = k / 8 + 1 by omega, List.getElem_cons_succ]
      rw [e2, show (k + 8) % 8 = k % 8 by omega, ← bit_any l k hk]
      have e1 : 8 * (c :: l).length - 1 - (k + 8) = 8 * l.length - 1 - k := by rw [List.length_cons]; omega
      rw [e1, num]
      obtain ⟨e, he⟩ : ∃ e, e = 8 * l.length - 1 - k := ⟨_, rfl⟩
      have hs : 8 * l.length = e + (1 + k) := by omega
      rw [← he]
      have hp : c.toNat * 2 ^ (8 * l.length) = 2 ^ e * (2 * (c.toNat * 2 ^ k)) := by
        rw [hs, Nat.pow_add, Nat.pow_add, Nat.pow_one, Nat.mul_left_comm, Nat.mul_left_comm (c.toNat)]
      rw [hp, Nat.mul_add_div (Nat.pow_pos (by omega))]
      omega
theorem bit_num (l : List UInt8) (hl : l.length = 16) (i : Nat) (hi : i < 128) : bitN (num l) i = (l[i / 8]'(by omega)).toNat / 2 ^ (7 - i % 8) % 2 := by
  rw [← bit_any l i (by omega), hl]
  rfl

theorem bitN_test (x i : Nat) : bitN x i = (x.testBit (127 - i)).toNat := by
  unfold bitN
  rw [Nat.testBit_eq_decide_div_mod_eq]
  rcases Nat.mod_two_eq_zero_or_one (x / 2 ^ (127 - i)) with h | h <;> simp [h]
/-- The bits from a on are 0. -/
theorem tail_zero (x a : Nat) (ha : a ≤ 128) : (∀ j, a ≤ j → j < 128 → bitN x j = 0) ↔ x % 2 ^ (128 - a) = 0 := by
  constructor
  · intro h
    apply Nat.eq_of_testBit_eq
    intro i
    rw [Nat.testBit_mod_two_pow, Nat.zero_testBit]
    by_cases hi : i < 128 - a
    · have := h (127 - i) (by omega) (by omega)
      rw [bitN_test, show 127 - (127 - i) = i by omega] at this
      cases hb : x.testBit i
      · simp
      · rw [hb] at this; simp at this
    · simp [hi]
  · intro h j h1 h2
    have := congrArg (fun y => y.testBit (127 - j)) h
    simp only [Nat.testBit_mod_two_pow, Nat.zero_testBit, show 127 - j < 128 - a by omega, decide_true, Bool.true_and] at this
    rw [bitN_test, this]
    rfl

/-- The first k bits are the same. -/
def same (x y k : Nat) : Prop := x / 2 ^ (128 - k) = y / 2 ^ (128 - k)
theorem same_zero (x y : Nat) (hx : x < 2 ^ 128) (hy : y < 2 ^ 128) : same x y 0 := by
  unfold same
  rw [Nat.div_eq_of_lt hx, Nat.div_eq_of_lt hy]
theorem div_half (x k : Nat) (hk : k < 128) : x / 2 ^ (128 - k) = x / 2 ^ (127 - k) / 2 := by
  rw [Nat.div_div_eq_div_mul, show 2 ^ (127 - k) * 2 = 2 ^ (128 - k) by rw [← Nat.pow_succ]; congr 1; omega]
theorem same_succ (x y k : Nat) (hk : k < 128) : same x y (k + 1) ↔ same x y k ∧ bitN x k = bitN y k := by
  unfold same bitN
  rw [div_half x k hk, div_half y k hk, show 128 - (k + 1) = 127 - k by omega]
  generalize x / 2 ^ (127 - k) = u
  generalize y / 2 ^ (127 - k) = v
  omega
theorem same_le (x y k : Nat) : ∀ d, k + d ≤ 128 → same x y (k + d) → same x y k := by
  intro d
  induction d with
  | zero => intro _ h; exact h
  | succ d ih => intro hk h; exact ih (by omega) ((same_succ x y (k + d) (by omega)).1 h).1
theorem same_mono (x y : Nat) {k m : Nat} (h : k ≤ m) (hm : m ≤ 128) (hs : same x y m) : same x y k :=
  same_le x y k (m - k) (by omega) (by rwa [show k + (m - k) = m by omega])

/-- How many first bits are the same, at most m. -/
def common (x y : Nat) : Nat → Nat → Nat
  | 0, k => k
  | n + 1, k => if bitN x k = bitN y k then common x y n (k + 1) else k
theorem common_same (x y : Nat) : ∀ n k, k + n ≤ 128 → same x y k → same x y (common x y n k) ∧ k ≤ common x y n k ∧ common x y n k ≤ k + n
  | 0, k, _, h => ⟨h, Nat.le_refl _, by simp [common]⟩
  | n + 1, k, hk, h => by
    rw [common]
    split
    · rename_i hb
      have := common_same x y n (k + 1) (by omega) ((same_succ x y k (by omega)).2 ⟨h, hb⟩)
      exact ⟨this.1, by omega, by omega⟩
    · exact ⟨h, Nat.le_refl _, by omega⟩
theorem common_most (x y : Nat) : ∀ n k m, k + n ≤ 128 → m ≤ k + n → same x y m → k ≤ m → m ≤ common x y n k
  | 0, k, m, _, h, _, _ => by rw [common]; omega
  | n + 1, k, m, hk, h, hs, hkm => by
    rw [common]
    by_cases hm : m = k
    · subst hm
      split
      · rename_i hb
        by_cases h128 : m + 1 ≤ m + 1 + n
        · have h2 : ∀ n k, k ≤ common x y n k := fun n => by
            induction n with
            | zero => intro k; rw [common]; exact Nat.le_refl _
            | succ n ih => intro k; rw [common]; split
                           · exact Nat.le_trans (by omega) (ih (k + 1))
                           · exact Nat.le_refl _
          exact Nat.le_trans (by omega) (h2 n (m + 1))
        · omega
      · exact Nat.le_refl _
    · have hb := ((same_succ x y k (by omega)).1 (same_mono x y (by omega) (by omega) hs)).2
      rw [if_pos hb]
      exact common_most x y n (k + 1) m (by omega) (by omega) hs (by omega)

/-! ### Prefixes: kind, address, length -/
structure P where
  six : Bool
  n : Nat
  len : Int
def most (six : Bool) : Int := if six then 128 else 32
def P.right (p : P) : Prop := 0 ≤ p.len ∧ p.len ≤ most p.six ∧ p.n % 2 ^ (128 - p.len.toNat) = 0
def cmp (a b : P) : Int := if a.six ≠ b.six then (if b.six then -1 else 1) else if a.n ≠ b.n then cmpI a.n b.n else cmpI a.len b.len
def P.has (a b : P) : Prop := a.right ∧ b.right ∧ a.six = b.six ∧ a.len ≤ b.len ∧ same a.n b.n a.len.toNat

theorem cmp_neg (a b : P) : cmp a b = - cmp b a := by
  obtain ⟨s, n, l⟩ := a
  obtain ⟨t, m, k⟩ := b
  unfold cmp cmpI
  cases s <;> cases t <;> simp <;> (repeat' split) <;> omega
theorem cmp_zero (a b : P) : cmp a b = 0 ↔ a = b := by
  obtain ⟨s, n, l⟩ := a
  obtain ⟨t, m, k⟩ := b
  unfold cmp cmpI
  cases s <;> cases t <;> simp <;> (repeat' split) <;> omega
theorem cmp_trans (a b c : P) (h1 : cmp a b ≤ 0) (h2 : cmp b c ≤ 0) : cmp a c ≤ 0 := by
  obtain ⟨s, n, l⟩ := a
  obtain ⟨t, m, k⟩ := b
  obtain ⟨u, o, j⟩ := c
  unfold cmp cmpI at *
  cases s <;> cases t <;> cases u <;> simp at * <;> (repeat' split at h1) <;> (repeat' split at h2) <;> (repeat' split) <;> omega
theorem cmp_trans' (a b c : P) (h1 : 0 ≤ cmp a b) (h2 : 0 ≤ cmp b c) : 0 ≤ cmp a c := by
  have h := cmp_trans c b a (by rw [cmp_neg]; omega) (by rw [cmp_neg]; omega)
  rw [cmp_neg] at h
  omega
theorem cmp_le (a b : P) : cmp a b ≤ 0 ↔ (a.six = false ∧ b.six = true) ∨ (a.six = b.six ∧ (a.n < b.n ∨ (a.n = b.n ∧ a.len ≤ b.len))) := by
  obtain ⟨s, n, l⟩ := a
  obtain ⟨t, m, k⟩ := b
  unfold cmp cmpI
  cases s <;> cases t <;> simp <;> (repeat' split) <;> omega

theorem most_le (s : Bool) : most s ≤ 128 := by unfold most; split <;> omega

/-- A prefix comes ahead of all that it contains. -/
theorem has_le (a c : P) (h : a.has c) : cmp a c ≤ 0 := by
  obtain ⟨⟨a1, a2, a3⟩, ⟨c1, c2, c3⟩, hs, hl, hb⟩ := h
  rw [cmp_le]
  refine .inr ⟨hs, ?_⟩
  have e1 := Nat.div_add_mod a.n (2 ^ (128 - a.len.toNat))
  have e2 := Nat.div_add_mod c.n (2 ^ (128 - a.len.toNat))
  unfold same at hb
  rw [hb, a3] at e1
  generalize 2 ^ (128 - a.len.toNat) * (c.n / 2 ^ (128 - a.len.toNat)) = z at e1 e2
  omega
/-- What stands between a prefix and one that it contains it contains, too. -/
theorem has_between (a b c : P) (h : a.has c) (hb : b.right) (h1 : cmp a b ≤ 0) (h2 : cmp b c ≤ 0) : a.has b := by
  obtain ⟨⟨a1, a2, a3⟩, ⟨c1, c2, c3⟩, hs, hl, hsame⟩ := h
  obtain ⟨b1, b2, b3⟩ := hb
  have hm := most_le a.six
  have hmb := most_le b.six
  rw [cmp_le] at h1 h2
  have hsix : a.six = b.six := by
    rcases h1 with ⟨x1, x2⟩ | ⟨x1, _⟩
    · rcases h2 with ⟨y1, y2⟩ | ⟨y1, _⟩
      · rw [x2] at y1; cases y1
      · rw [hs, ← y1]
    · exact x1
  have hn1 : a.n ≤ b.n := by rcases h1 with ⟨x1, x2⟩ | ⟨_, h | ⟨h, _⟩⟩ <;> first | omega | (rw [hsix, x2] at x1; cases x1)
  have hn2 : b.n ≤ c.n := by
    rcases h2 with ⟨x1, x2⟩ | ⟨_, h | ⟨h, _⟩⟩ <;> first | omega | (rw [← hs, hsix, x1] at x2; cases x2)
  have hsab : same a.n b.n a.len.toNat := by
    unfold same at *
    have d1 := Nat.div_le_div_right (c := 2 ^ (128 - a.len.toNat)) hn1
    have d2 := Nat.div_le_div_right (c := 2 ^ (128 - a.len.toNat)) hn2
    omega
  refine ⟨⟨a1, a2, a3⟩, ⟨b1, b2, b3⟩, hsix, ?_, hsab⟩
  by_cases hlen : a.len ≤ b.len
  · exact hlen
  · exfalso
    have e1 := Nat.div_add_mod a.n (2 ^ (128 - a.len.toNat))
    have e2 := Nat.div_add_mod b.n (2 ^ (128 - a.len.toNat))
    have hz : b.n % 2 ^ (128 - a.len.toNat) = 0 := by
      have hd : 2 ^ (128 - a.len.toNat) ∣ 2 ^ (128 - b.len.toNat) := Nat.pow_dvd_pow 2 (by omega)
      exact Nat.mod_eq_zero_of_dvd (Nat.dvd_trans hd (Nat.dvd_of_mod_eq_zero b3))
    unfold same at hsab
    rw [hsab, a3] at e1
    rw [hz] at e2
    have heq : a.n = b.n := by omega
    rcases h1 with ⟨x1, x2⟩ | ⟨_, h | ⟨_, h⟩⟩
    · rw [hsix, x2] at x1; cases x1
    · omega
    · omega

end Go.Proofs.Ytfikdeobejhblaa.X

/- Proved: plain mathematics of addresses' bits, with no program in it: an address's first bits. No condition but lengths. -/
namespace Go.Proofs.Ytfikdeobejhblaa

def bitOf (l : List UInt8) (i : Nat) : Nat := (l.getD (i / 8) 0).toNat / 2 ^ (7 - i % 8) % 2
def needN (n : Nat) : Nat := (n + 7) / 8

theorem div_test (x i : Nat) : x / 2 ^ i % 2 = (x.testBit i).toNat := by
  rw [Nat.testBit_eq_decide_div_mod_eq]
  have : x / 2 ^ i % 2 < 2 := Nat.mod_lt _ (by omega)
  generalize x / 2 ^ i % 2 = z at *
  by_cases h : z = 1
  · simp [h]
  · simp [h]; omega
theorem mask_bit : ∀ r : Fin 8, ∀ j : Fin 8, (255 - 255 / 2 ^ r.val).testBit (7 - j.val) = decide (j.val < r.val) := by decide
theorem and_bit (c r j : Nat) (hr : r < 8) (hj : j < 8) : (c &&& (255 - 255 / 2 ^ r)) / 2 ^ (7 - j) % 2 = if j < r then c / 2 ^ (7 - j) % 2 else 0 := by
  rw [div_test, div_test, Nat.testBit_and, mask_bit ⟨r, hr⟩ ⟨j, hj⟩]
  by_cases h : j < r <;> simp [h]
theorem byte_ext (c d : UInt8) (h : ∀ j, j < 8 → c.toNat / 2 ^ (7 - j) % 2 = d.toNat / 2 ^ (7 - j) % 2) : c = d := by
  apply UInt8.toNat_inj.1
  apply Nat.eq_of_testBit_eq
  intro i
  by_cases hi : i < 8
  · have := h (7 - i) (by omega)
    rw [show 7 - (7 - i) = i by omega, div_test, div_test] at this
    cases h1 : c.toNat.testBit i <;> cases h2 : d.toNat.testBit i <;> simp_all
  · have hp : 2 ^ 8 ≤ 2 ^ i := Nat.pow_le_pow_right (by omega) (by omega)
    rw [Nat.testBit_lt_two_pow (Nat.lt_of_lt_of_le c.toNat_lt hp), Nat.testBit_lt_two_pow (Nat.lt_of_lt_of_le d.toNat_lt hp)]
theorem bits_ext (l m : List UInt8) (hl : l.length = 16) (hm : m.length = 16) (h : ∀ j, j < 128 → bitOf l j = bitOf m j) : l = m := by
  apply List.ext_getElem (by omega)
  intro i h1 h2
  apply byte_ext
  intro j hj
  have := h (8 * i + j) (by omega)
  unfold bitOf at this
  rw [show (8 * i + j) / 8 = i by omega, show (8 * i + j) % 8 = j by omega] at this
  simpa [h1, h2] using this
theorem bit_lt (l : List UInt8) (i : Nat) : bitOf l i < 2 := Nat.mod_lt _ (by omega)

/-- Some first bytes, noughts behind them. -/
def padL (l : List UInt8) : List UInt8 := (l ++ List.replicate 16 0).take 16
theorem padL_len (l : List UInt8) : (padL l).length = 16 := by simp [padL]
theorem padL_get (l : List UInt8) (i : Nat) (hi : i < 16) : (padL l).getD i 0 = if i < l.length then l.getD i 0 else 0 := by
  simp only [padL, List.getD_eq_getElem?_getD, List.getElem?_take, List.getElem?_append, List.getElem?_replicate]
  by_cases h : i < l.length
  · simp [h, hi]
  · simp [h, hi, show i - l.length < 16 by omega]

def cutL (l : List UInt8) (k : Nat) : List UInt8 :=
  if 0 < k % 8 then (padL (l.take (needN k))).set (k / 8) (UInt8.ofNat (((padL (l.take (needN k))).getD (k / 8) 0).toNat &&& (255 - 255 / 2 ^ (k % 8)))) else padL (l.take (needN k))
theorem cutL_len (l : List UInt8) (k : Nat) : (cutL l k).length = 16 := by
  unfold cutL
  split <;> simp [padL_len]
theorem take_get (l : List UInt8) (n i : Nat) : (if i < (l.take n).length then (l.take n).getD i 0 else 0) = if i < n then l.getD i 0 else 0 := by
  by_cases h1 : i < n
  · by_cases h2 : i < l.length
    · simp [h1, h2]
      omega
    · simp [h1, h2]
  · simp [h1]
    omega
theorem cutL_byte (l : List UInt8) (k i : Nat) (_hk : k ≤ 128) (hi : i < 16) : ((cutL l k).getD i 0).toNat = if i < k / 8 then (l.getD i 0).toNat else if i = k / 8 then (l.getD i 0).toNat &&& (255 - 255 / 2 ^ (k % 8)) else 0 := by
  have hlt : ∀ (c : UInt8) (m : Nat), c.toNat &&& m < 256 := fun c m => Nat.lt_of_le_of_lt Nat.and_le_left c.toNat_lt
  have hpad := padL_get (l.take (needN k)) i hi
  have hpl := padL_len (l.take (needN k))
  rw [take_get] at hpad
  unfold cutL
  by_cases h : 0 < k % 8
  · rw [if_pos h]
    have hn : needN k = k / 8 + 1 := by unfold needN; omega
    by_cases hik : i = k / 8
    · subst hik
      have : k / 8 < (padL (l.take (needN k))).length := by omega
      simp only [List.getD_eq_getElem?_getD, List.getElem?_set, this, if_true, Option.getD_some, Nat.lt_irrefl, if_false]
      rw [UInt8.toNat_ofNat_of_lt' (hlt _ _), ← List.getD_eq_getElem?_getD, hpad, if_pos (by omega), List.getD_eq_getElem?_getD]
    · simp only [List.getD_eq_getElem?_getD, List.getElem?_set, Ne.symm hik, if_false, hik]
      rw [← List.getD_eq_getElem?_getD, hpad]
      by_cases h3 : i < k / 8
      · rw [if_pos (by omega), if_pos h3, List.getD_eq_getElem?_getD]
      · rw [if_neg (by omega), if_neg h3]; rfl
  · rw [if_neg h, hpad]
    have hn : needN k = k / 8 := by unfold needN; omega
    have h0 : k % 8 = 0 := by omega
    rw [hn, h0]
    by_cases h3 : i < k / 8
    · simp [h3]
    · simp [h3]
theorem cutL_bit (l : List UInt8) (k j : Nat) (hk : k ≤ 128) (hj : j < 128) : bitOf (cutL l k) j = if j < k then bitOf l j else 0 := by
  unfold bitOf
  rw [cutL_byte l k (j / 8) hk (by omega)]
  by_cases h1 : j / 8 < k / 8
  · rw [if_pos h1, if_pos (by omega)]
  · rw [if_neg h1]
    by_cases h2 : j / 8 = k / 8
    · rw [if_pos h2, and_bit _ _ _ (by omega) (by omega)]
      by_cases h3 : j % 8 < k % 8
      · rw [if_pos h3, if_pos (by omega)]
      · rw [if_neg h3, if_neg (by omega)]
    · rw [if_neg h2, if_neg (by omega)]
      simp
def tailZ (l : List UInt8) (a : Nat) : Prop := ∀ j, a ≤ j → j < 128 → bitOf l j = 0
instance (l : List UInt8) (a : Nat) : Decidable (tailZ l a) := decidable_of_iff (∀ j, j < 128 → a ≤ j → bitOf l j = 0) ⟨fun h j a b => h j b a, fun h j a b => h j b a⟩
theorem cutL_same (l : List UInt8) (k : Nat) (hl : l.length = 16) (hk : k ≤ 128) : cutL l k = l ↔ tailZ l k := by
  constructor
  · intro h j h1 h2
    have := cutL_bit l k j hk h2
    rw [h, if_neg (by omega)] at this
    exact this
  · intro h
    refine bits_ext _ _ (cutL_len l k) hl fun j hj => ?_
    rw [cutL_bit l k j hk hj]
    by_cases h1 : j < k
    · rw [if_pos h1]
    · rw [if_neg h1, h j (by omega) hj]
theorem cutL_tail (l : List UInt8) (k : Nat) (hk : k ≤ 128) : tailZ (cutL l k) k := by
  intro j h1 h2
  rw [cutL_bit l k j hk h2, if_neg (by omega)]
theorem and_step : ∀ c : Fin 256, ∀ r : Fin 8, (c.val &&& (255 - 255 / 2 ^ (r.val + 1))) = (c.val &&& (255 - 255 / 2 ^ r.val)) + c.val / 2 ^ (7 - r.val) % 2 * 2 ^ (7 - r.val) := by decide +kernel
theorem cutL_next (l : List UInt8) (i j : Nat) (hi : i < 128) (hj : j < 16) : ((cutL l (i + 1)).getD j 0).toNat = if j = i / 8 then ((cutL l i).getD j 0).toNat + bitOf l i * 2 ^ (7 - i % 8) else ((cutL l i).getD j 0).toNat := by
  rw [cutL_byte l (i + 1) j (by omega) hj, cutL_byte l i j (by omega) hj]
  by_cases h : j = i / 8
  · have hs := and_step ⟨(l.getD j 0).toNat, UInt8.toNat_lt _⟩ ⟨i % 8, by omega⟩
    simp only at hs
    have hr : (if j < i / 8 then (l.getD j 0).toNat else if j = i / 8 then (l.getD j 0).toNat &&& (255 - 255 / 2 ^ (i % 8)) else 0) = (l.getD j 0).toNat &&& (255 - 255 / 2 ^ (i % 8)) := by rw [if_neg (by omega), if_pos h]
    rw [if_pos h, hr, show bitOf l i = (l.getD j 0).toNat / 2 ^ (7 - i % 8) % 2 by unfold bitOf; rw [h], ← hs]
    by_cases h7 : i % 8 = 7
    · rw [if_pos (by omega), h7]
      have : (l.getD j 0).toNat &&& 255 = (l.getD j 0).toNat := by
        rw [show 255 = 2 ^ 8 - 1 by rfl, Nat.and_two_pow_sub_one_eq_mod]
        exact Nat.mod_eq_of_lt (UInt8.toNat_lt _)
      exact this.symm
    · rw [if_neg (by omega), if_pos (by omega), show (i + 1) % 8 = i % 8 + 1 by omega]
  · rw [if_neg h (c := j = i / 8) (t := _ + _)]
    by_cases h2 : j < i / 8
    · rw [if_pos h2, if_pos (by omega)]
    · rw [if_neg h2]
      by_cases h3 : j < (i + 1) / 8
      · omega
      · rw [if_neg h3]
        by_cases h4 : j = (i + 1) / 8
        · rw [if_pos h4, show (i + 1) % 8 = 0 by omega]
          simp [h]
        · rw [if_neg h4]
          simp [h]
theorem cutL_same_next (l : List UInt8) (i : Nat) (hi : i < 128) (h : bitOf l i = 0) : cutL l (i + 1) = cutL l i := by
  refine bits_ext _ _ (cutL_len _ _) (cutL_len _ _) fun j hj => ?_
  rw [cutL_bit l (i + 1) j (by omega) hj, cutL_bit l i j (by omega) hj]
  by_cases h1 : j < i
  · rw [if_pos h1, if_pos (by omega)]
  · rw [if_neg h1]
    by_cases h2 : j = i
    · subst h2
      rw [if_pos (by omega), h]
    · rw [if_neg (by omega)]
theorem cutL_more_next (l : List UInt8) (i : Nat) (hi : i < 128) (h : bitOf l i = 1) : ((cutL l i).getD (i / 8) 0).toNat + 2 ^ (7 - i % 8) < 256 ∧ cutL l (i + 1) = (cutL l i).set (i / 8) (UInt8.ofNat (((cutL l i).getD (i / 8) 0).toNat + 2 ^ (7 - i % 8))) := by
  have h1 := cutL_next l i (i / 8) hi (by omega)
  rw [if_pos rfl, h, Nat.one_mul] at h1
  have hlt : ((cutL l i).getD (i / 8) 0).toNat + 2 ^ (7 - i % 8) < 256 := by rw [← h1]; exact UInt8.toNat_lt _
  refine ⟨hlt, ?_⟩
  have l1 := cutL_len l (i + 1)
  have l2 := cutL_len l i
  apply List.ext_getElem (by rw [List.length_set]; omega)
  intro j h2 h3
  have hj : j < 16 := by omega
  have h4 := cutL_next l i j hi hj
  rw [List.getElem_set]
  apply UInt8.toNat_inj.1
  by_cases e : i / 8 = j
  · subst e
    rw [if_pos rfl, UInt8.toNat_ofNat_of_lt' hlt, ← h1]
    simp [show i / 8 < (cutL l (i + 1)).length by omega]
  · rw [if_neg e]
    rw [if_neg (by omega)] at h4
    simpa [show j < (cutL l (i + 1)).length by omega, show j < (cutL l i).length by omega] using h4
theorem cutL_zero (l : List UInt8) : cutL l 0 = List.replicate 16 0 := by
  refine bits_ext _ _ (cutL_len _ _) (by simp) fun j hj => ?_
  rw [cutL_bit l 0 j (by omega) hj, if_neg (by omega)]
  unfold bitOf
  have : (List.replicate 16 (0 : UInt8)).getD (j / 8) 0 = 0 := by
    rw [List.getD_eq_getElem?_getD, List.getElem?_replicate]
    split <;> rfl
  rw [this]
  simp
end Go.Proofs.Ytfikdeobejhblaa

/- Proved: rules of the walk: a function whose body jumps back to one label; a region that draws its order, whose calls make memory but turn nothing that was there. No condition. -/
namespace Go.Proofs.Ytfikdeobejhblaa
open Go.RowKit

theorem wp_scope_again {P : Program} {a : Act} {w : World} {Q : Exit → Act → World → Prop} {c rest : Code} (l : Nat) (J : Act → World → Prop) (μ : Act → World → Nat) (hf : findLabel c l = some (Code.skip.seq rest))
    (pass : ∀ a w m, J a w → μ a w = m → rest.wp P (Exit.jump l (fun a' w' => J a' w' ∧ μ a' w' < m) Q) a w)
    (first : (∀ a w, J a w → rest.wp P (Exit.jump l J Q) a w) → c.wp P (Exit.jump l J Q) a w) : (Code.scope c).wp P Q a w := by
  refine wp_scope_jumps l J μ hf (first fun a w h => ?_) (fun a w h => wp_seq (wp_skip (pass a w _ h rfl)))
  refine Code.wp_mono ?_ (pass a w _ h rfl)
  intro e a' w' he
  cases e <;> first | exact he | exact ⟨he.1, he.2.1⟩

/-- Nothing that was there has turned; no draw was taken back. -/
structure Same (w w' : World) : Prop extends Below w.heap.size w w' where
  drawn : w.drawn ≤ w'.drawn
theorem Same.refl (w : World) : Same w w := ⟨Below.refl _ _, Nat.le_refl _⟩
theorem Same.drew {w w' : World} (h : Same w w') : Same w w'.drew := ⟨Below.drew h.toBelow, Nat.le_succ_of_le h.drawn⟩
theorem Same.drewN {w w' : World} (h : Same w w') (n : Nat) : Same w (w'.drewN n) := ⟨⟨h.os, h.tape, h.output, h.size, h.block⟩, Nat.le_trans h.drawn (Nat.le_add_right _ _)⟩
theorem Same.trans {u v w : World} (h : Same u v) (k : Same v w) : Same u w :=
  ⟨Below.trans h.toBelow ⟨k.os, k.tape, k.output, k.size, fun i hi => k.block i (Nat.lt_of_lt_of_le hi h.size)⟩, Nat.le_trans h.drawn k.drawn⟩
theorem Same.alloc {w w' : World} (h : Same w w') (o : Obj) : Same w (w'.alloc o) := ⟨Below.alloc h.toBelow h.size o, h.drawn⟩

/-- What a call answers: whatever memory is, and it turns nothing that was there. -/
def Gives (P : Program) (f : FuncId) (args : Array Value) (v : Value) : Prop := ∀ w, Calls P f args w fun e w' => e = .returned v ∧ Same w w'
theorem Gives.of_same {P : Program} {f : FuncId} {args : Array Value} {v : Value} (h : ∀ w, Calls P f args w fun e w' => e = .returned v ∧ w' = w) : Gives P f args v :=
  fun w => (h w).mono fun _ _ ⟨he, hw⟩ => ⟨he, by rw [hw]; exact Same.refl w⟩
/-- The worlds in which nothing that was there has turned. -/
def SW (w : World) : Type := { w' : World // Same w w' }
instance (w : World) : Nonempty (SW w) := ⟨⟨w, Same.refl w⟩⟩
/-- .. in a region's walk. -/
theorem Gives.at {P : Program} {f : FuncId} {args : Array Value} {v : Value} (h : Gives P f args v) {w0 : World} (u : SW w0) : Calls P f args u.1 fun e w'' => e = .returned v ∧ ∃ m : SW w0, w'' = m.1 :=
  (h u.1).mono fun _ w' ⟨he, hb⟩ => ⟨he, ⟨w', u.2.trans hb⟩, rfl⟩

theorem wpAny_same {P : Program} {ops : Array Oper} {fuel : Nat} {listed : Array Bool} {a : Act} {w0 w : World} {Q : Exit → Act → World → Prop} (l : List Oper) (k : Nat) (hs : Region.noSelect ops = true)
    (hw : Same w0 w) (hl : ops.toList.drop k = l) (hf : l.length = fuel) (hB : Region.lexFrom .any ops fuel k listed = true)
    (h : wpQuiet P ops (fun w' => ∃ u : SW w0, w' = u.1) (fun a' => ∀ w', (∃ u : SW w0, w' = u.1) → Q .normal a' w') l a) : wpAny P .any ops Q fuel listed a w := by
  subst hf
  refine wpAny_of_quiet (C := fun w' => ∃ u : SW w0, w' = u.1) (Q := fun a' => ∀ w', (∃ u : SW w0, w' = u.1) → Q .normal a' w') (fun _ w' hw' h => h w' hw') _ _ _ _ ⟨⟨w, hw⟩, rfl⟩ ?_
  refine wpAnyQ_lex hs l k listed a ?_ hB h
  intro j
  rw [← hl, List.getElem?_drop, Array.getElem?_toList]

theorem wp_region_same {P : Program} {id : Nat} {Q : Exit → Act → World → Prop} {a : Act} {w0 w : World} {l : List Oper} (hw : Same w0 w) (hm : P.follows .mixedOrders = true) (hB : Region.lexB .any l.toArray = true)
    (h : wpQuiet P l.toArray (fun w' => ∃ u : SW w0, w' = u.1) (fun a' => ∀ w', (∃ u : SW w0, w' = u.1) → Q .normal a' w') l a) : (Code.region id l.toArray true).wp P Q a w :=
  wp_region_quiet (C := fun w' => ∃ u : SW w0, w' = u.1) hm hB ⟨⟨w.drew, hw.drew⟩, rfl⟩ (by simpa using h)

end Go.Proofs.Ytfikdeobejhblaa

/- Proved: nothing of its own: what the texts of this seat import. No condition. -/
namespace Go.Proofs.Ytfikdeobejhblaa
open Go.RowKit

end Go.Proofs.Ytfikdeobejhblaa

/- Proved: how prefixes and addresses lie in memory; what prefix's size, fits and need, and the document's most and bit answer. Condition: numbers fit. -/
namespace Go.Proofs.Ytfikdeobejhblaa
open Go.RowKit

def bv (c : UInt8) : Value := .int .u8 (c.toNat : Nat)
def ac (l : List UInt8) : Array Value := (l.map bv).toArray
structure Px where
  six : Bool
  addr : List UInt8
  len : Int
def pc (p : Px) : Array Value := (.bool p.six :: (p.addr.map bv ++ [.int .i64 p.len])).toArray

def sizeN (s : Bool) : Nat := if s then 16 else 4
def fitsB (s : Bool) (n : Int) : Bool := decide (0 ≤ n ∧ n ≤ 8 * sizeN s)

theorem size_at (s : Bool) : Gives Try.prog 113 #[.bool s] (.int .i64 (sizeN s : Nat)) := by
  refine Gives.of_same fun w => ?_
  go_enter Try.func113, Try.ntmps113
  cases s <;> (go_wp2; go_ret; exact ⟨rfl, rfl⟩)
theorem most_at (s : Bool) : Gives Try.prog 82 #[.bool s] (.int .i64 (8 * sizeN s : Nat)) := by
  refine Gives.of_same fun w => ?_
  go_enter Try.func82, Try.ntmps82
  cases s <;> (go_wp2; go_ret; exact ⟨rfl, rfl⟩)
theorem sizeN_le (s : Bool) : sizeN s ≤ 16 := by cases s <;> decide
theorem fits_at (s : Bool) (n : Int) : Gives Try.prog 94 #[.bool s, .int .i64 n] (.bool (fitsB s n)) := by
  have hsz := Lib.hid (size_at s)
  have hle := sizeN_le s
  unfold fitsB
  intro w
  go_enter Try.func94, Try.ntmps94
  by_cases h : 0 ≤ n
  · go_wp2_with fail
    refine (hsz.out _).mono ?_
    rintro e w1 ⟨rfl, b1⟩
    go_wp2
    go_ret
    refine ⟨?_, b1⟩
    rw [show decide (0 ≤ n ∧ n ≤ 8 * (sizeN s : Int)) = decide (n ≤ 8 * (sizeN s : Int)) by simp [h]]
    rfl
  · go_wp2_with fail
    go_ret
    rw [show decide (0 ≤ n) = false by simpa using h]
    exact ⟨rfl, Same.refl w⟩
theorem need_at (n : Nat) (h : n ≤ 128) (w : World) : Calls Try.prog 81 #[.int .i64 n] w fun e w' => e = .returned (.int .i64 (needN n : Nat)) ∧ w' = w := by
  go_enter Try.func81, Try.ntmps81
  go_wp2
  go_ret
  exact ⟨rfl, rfl⟩
theorem ac_get (l : List UInt8) (i : Nat) (h : i < l.length) : (ac l)[i]? = some (.int .u8 (l[i].toNat : Nat)) := by
  simp [ac, h, bv]
theorem shr_byte (c : UInt8) (k : Nat) : (c.toNat : Int) / 2 ^ k = ((c.toNat / 2 ^ k : Nat) : Int) := by
  simp
theorem bit_num (c k : Nat) (hc : c < 2 ^ 8) : (wrap64 ((c : Int) / 2 ^ k)).tmod 2 = ((c / 2 ^ k % 2 : Nat) : Int) := by
  have h : ((c : Int) / 2 ^ k) = ((c / 2 ^ k : Nat) : Int) := by simp
  have h2 : c / 2 ^ k ≤ c := Nat.div_le_self _ _
  rw [h]
  generalize c / 2 ^ k = z at *
  rw [show wrap64 (z : Int) = z by unfold wrap64; omega, Int.tmod_eq_emod_of_nonneg (by omega)]
  omega
theorem bit_at (l : List UInt8) (hl : l.length = 16) (i : Nat) (hi : i < 128) : Gives Try.prog 83 #[.agg (ac l), .int .i64 i] (.int .i64 ((l[i / 8]'(by omega)).toNat / 2 ^ (7 - i % 8) % 2 : Nat)) := by
  have hc := ac_get l (i / 8) (by omega)
  have hlt := (l[i / 8]'(by omega)).toNat_lt
  generalize (l[i / 8]'(by omega)).toNat = c at *
  generalize ac l = A at *
  intro w
  go_enter Try.func83, Try.ntmps83
  go_wp2
  go_ret
  refine ⟨?_, (Same.refl w).alloc _⟩
  rw [show ((c / 2 ^ (7 - i % 8) % 2 : Nat) : Int) = (wrap64 ((c : Int) / 2 ^ (7 - i % 8))).tmod 2 from (bit_num c (7 - i % 8) hlt).symm]
  rfl

theorem pc_six (p : Px) : (pc p)[0]? = some (.bool p.six) := by simp [pc]
theorem pc_len (p : Px) (h : p.addr.length = 16) : (pc p)[17]? = some (.int .i64 p.len) := by
  simp [pc, h]
theorem pc_get (p : Px) (i : Nat) (h : i < p.addr.length) : (pc p)[1 + i]? = some (.int .u8 (p.addr[i].toNat : Nat)) := by
  rw [Nat.add_comm]
  simp [pc, List.getElem?_append, h, bv]
theorem pc_size (p : Px) (h : p.addr.length = 16) : (pc p).size = 18 := by simp [pc, h]
theorem load_part {P : Program} {w : World} {b o n : Nat} {c : Array Value} {t : TypeId} {fz : Nat × Nat} (l : List Value) (hn : l.length = n) (h : w.heap[b]? = some (.cells c t fz)) (hl : ∀ j v, l[j]? = some v → c[o + j]? = some v) :
    (loadCellsFrom ⟨b, o, none⟩ 0 n #[]).run P w = .ok l.toArray w := by
  subst hn
  have := run_loadCells_list (P := P) w ⟨b, o, none⟩ l (fun j v hv => by
    have hadd : (⟨b, o, none⟩ : Addr).add j = ⟨b, o + j, none⟩ := by unfold Addr.add; split <;> simp_all
    rw [hadd, cell_of_row _ _ _ c t fz h]
    exact hl j v hv)
  simpa [loadCells] using this
theorem load_addr {P : Program} {w : World} {b n : Nat} {t : TypeId} {fz : Nat × Nat} (p : Px) (hp : p.addr.length = n) (h : w.heap[b]? = some (.cells (pc p) t fz)) :
    (loadCellsFrom ⟨b, 1, none⟩ 0 n #[]).run P w = .ok (ac p.addr) w := by
  refine load_part (p.addr.map bv) (by simpa using hp) h ?_
  intro j v hv
  have hj : j < p.addr.length := by
    have := (List.getElem?_eq_some_iff.1 hv).1
    simpa using this
  rw [pc_get p j hj]
  simp [hj, bv] at hv
  rw [hv]

theorem bit_of (l : List UInt8) (hl : l.length = 16) (i : Nat) (hi : i < 128) : Gives Try.prog 83 #[.agg (ac l), .int .i64 i] (.int .i64 (bitOf l i : Nat)) := by
  have h := bit_at l hl i hi
  rw [show bitOf l i = (l[i / 8]'(by omega)).toNat / 2 ^ (7 - i % 8) % 2 by unfold bitOf; simp [show i / 8 < l.length by omega]]
  exact h

def rightP (p : Px) : Prop := 0 ≤ p.len ∧ p.len ≤ 8 * sizeN p.six ∧ tailZ p.addr p.len.toNat
instance (p : Px) : Decidable (rightP p) := by unfold rightP; infer_instance

def RRel (w : World) (l : List UInt8) (a : Nat) (i : Value) (wr : World) : Prop := ∃ k : Nat, i = .int .i64 k ∧ a ≤ k ∧ k ≤ 128 ∧ (∀ j, a ≤ j → j < k → bitOf l j = 0) ∧ Same w wr

/-- A block that lay there lies there yet. -/
theorem SW.block {w : World} {b : Nat} (u : SW w) {o : Obj} (h : w.heap[b]? = some o) : u.1.heap[b]? = some o := by
  have hb : b < w.heap.size := by
    rcases Nat.lt_or_ge b w.heap.size with h1 | h1
    · exact h1
    · rw [Array.getElem?_eq_none h1] at h
      cases h
  rw [← h]
  exact u.2.block b hb
theorem Same.obj {w w' : World} {b : Nat} (k : Same w w') {o : Obj} (h : w.heap[b]? = some o) : w'.heap[b]? = some o := SW.block ⟨w', k⟩ h
theorem cell_obj {w : World} {b i : Nat} {c : Array Value} {t : TypeId} {fz : Nat × Nat} {v : Value} (h : w.heap[b]? = some (.cells c t fz)) (hv : c[i]? = some v) : w.cell? ⟨b, i, none⟩ = some v := by
  rw [cell_of_row _ _ _ _ _ _ h, hv]

set_option maxRecDepth 100000 in
theorem qright_at (p : Px) (hp : p.addr.length = 16) (w : World) : Calls Try.prog 52 #[.agg (pc p)] w fun e w' => e = .returned (.bool (decide (rightP p))) ∧ Same w w' := by
  have c0 := pc_six p
  have c17 := pc_len p hp
  have hle := sizeN_le p.six
  have hm := Lib.hid (most_at p.six)
  obtain ⟨n, hn⟩ : ∃ n, n = 16 := ⟨16, rfl⟩
  have hsz : ∀ w, (Go.sizeOf 32).run Try.prog w = .ok n w := fun w => by rw [hn]; exact Try.sizeOf32 w
  have Hload := Lib.hid (fun (w : World) (b : Nat) (h : w.heap[b]? = some (.cells (pc p) 34 (0, 0))) => load_addr (P := Try.prog) (n := n) p (by omega) h)
  have Hbit := Lib.hid (fun i h => bit_of p.addr hp i h)
  obtain ⟨R, hR⟩ : ∃ R, decide (rightP p) = R := ⟨_, rfl⟩
  rw [hR]
  have HR := Lib.hid hR
  clear hR
  generalize pc p = A at *
  have hn0 : ¬ n = 0 := by omega
  have HN := Lib.hid hn
  clear hn
  have hb0 : (w.alloc (.cells A 34)).heap[w.heap.size]? = some (.cells A 34) := heap_alloc_last w _
  have hs0 : Same w (w.alloc (.cells A 34)) := (Same.refl w).alloc _
  have d0 : ∀ u : SW (w.alloc (.cells A 34)), u.1.cell? ⟨w.heap.size, 0, none⟩ = some (.bool p.six) := fun u => cell_obj (u.block hb0) c0
  have d17 : ∀ u : SW (w.alloc (.cells A 34)), u.1.cell? ⟨w.heap.size, 17, none⟩ = some (.int .i64 p.len) := fun u => cell_obj (u.block hb0) c17
  have HB := Lib.hid hb0
  have HS := Lib.hid hs0
  clear hb0 hs0 c0 c17
  by_cases h0 : p.len < 0
  · go_enter Try.func52, Try.ntmps52
    go_wp2_with fail
    refine wp_region_same (Same.refl _) (by kernel_rfl) (by kernel_rfl) ?_
    repeat (first | go_big_quiet_step (exact hm.out.at _) | quiet_step (exact hm.out.at _))
    refine wpQuiet_nil ?_
    rintro w6 ⟨⟨w7, b7⟩, rfl⟩
    go_wp2
    go_ret
    have hr := HR.out
    rw [decide_eq_false (by unfold rightP; omega)] at hr
    exact ⟨by rw [← hr]; rfl, HS.out.trans b7⟩
  · by_cases h1 : p.len ≤ 8 * sizeN p.six
    · go_enter Try.func52, Try.ntmps52
      go_wp2_with fail
      refine wp_region_same (Same.refl _) (by kernel_rfl) (by kernel_rfl) ?_
      repeat (first | go_big_quiet_step (exact hm.out.at _) | quiet_step (exact hm.out.at _))
      refine wpQuiet_nil ?_
      rintro w6 ⟨⟨w7, b7⟩, rfl⟩
      have HB7 := Lib.hid (b7.obj HB.out)
      have e17 := d17 ⟨w6, b7⟩
      have HS7 := Lib.hid (HS.out.trans b7)
      simp only at e17
      clear HB HS d0 d17 b7
      obtain ⟨k, hk⟩ : ∃ k : Nat, p.len = k := ⟨p.len.toNat, by omega⟩
      rw [hk] at e17 h1 ⊢
      go_wp2
      go_loopw [3] (fun i wr => RRel w6 p.addr k i wr) (fun i _ => 128 - (intOf i).toNat)
      case atStart => exact ⟨k, rfl, by omega, by omega, fun j h1 h2 => by omega, Same.refl _⟩
      case round =>
        obtain ⟨i, rfl, hki, hi, hz, hsame⟩ := hrel
        have HZ := Lib.hid hz
        have HB8 := Lib.hid (hsame.obj HB7.out)
        have HS8 := Lib.hid hsame
        have hl := Hload.out _ _ HB8.out
        clear hz hsame e17
        by_cases h2 : i < 128
        · have hb := Hbit.out i h2
          have hb2 := Lib.hid hb
          clear hb
          by_cases h3 : bitOf p.addr i = 0
          · go_wp2_with fail
            refine (hb2.out _).mono ?_
            rintro e w9 ⟨rfl, b9⟩
            go_wp2
            go_roundw
            case rel =>
              refine ⟨i + 1, by go_num, by omega, by omega, fun j h4 h5 => ?_, HS8.out.trans b9⟩
              rcases Nat.lt_or_ge j i with h6 | h6
              · exact HZ.out j h4 h6
              · obtain rfl : j = i := by omega
                exact h3
            case measure => simp [intOf]; omega
          · go_wp2_with fail
            refine (hb2.out _).mono ?_
            rintro e w9 ⟨rfl, b9⟩
            go_wp2
            go_ret
            have hr := HR.out
            rw [decide_eq_false (by intro h; exact h3 (h.2.2 i (by omega) h2))] at hr
            exact ⟨by rw [← hr]; rfl, (HS7.out.trans HS8.out).trans b9⟩
        · go_wp2
          go_ret
          have hr := HR.out
          rw [decide_eq_true (show rightP p from ⟨by omega, by omega, fun j h4 h5 => HZ.out j (by omega) (by omega)⟩)] at hr
          exact ⟨by rw [← hr]; rfl, HS7.out.trans HS8.out⟩
    · go_enter Try.func52, Try.ntmps52
      go_wp2_with fail
      refine wp_region_same (Same.refl _) (by kernel_rfl) (by kernel_rfl) ?_
      repeat (first | go_big_quiet_step (exact hm.out.at _) | quiet_step (exact hm.out.at _))
      refine wpQuiet_nil ?_
      rintro w6 ⟨⟨w7, b7⟩, rfl⟩
      go_wp2
      go_ret
      have hr := HR.out
      rw [decide_eq_false (by unfold rightP; omega)] at hr
      exact ⟨by rw [← hr]; rfl, HS.out.trans b7⟩
end Go.Proofs.Ytfikdeobejhblaa

/- Proved: what prefix's cut and Right answer. Condition: an address has sixteen bytes. -/
namespace Go.Proofs.Ytfikdeobejhblaa
open Go.RowKit

theorem info22 : (Try.prog.info? 32).map (fun i => (i.zero, i.size)) = some (some (.agg (Array.replicate 16 (.int .u8 0))), 16) := by kernel_rfl
theorem ac_zero : Array.replicate 16 (Value.int .u8 0) = ac (List.replicate 16 0) := by rfl

theorem cut16 (b m : Nat) (h : m ≤ 16) (w : World) : (Instr.sliceAt 32 (.pointer (some ⟨b, 0, none⟩)) none (some (.int .i64 m)) none).run Try.prog w = .ok (.slice (some ⟨b, 0, none⟩) m 16) w := by
  have hn : Try.prog.arrayLen 32 = 16 := by kernel_rfl
  have he : Try.prog.elem 32 = 5 := by kernel_rfl
  have := run_sliceAt_array_h (P := Try.prog) w 32 ⟨b, 0, none⟩ (by kernel_rfl) .i64 (m : Int) (by omega) (by omega)
  rw [this, he, Try.sizeOf5 w]
  simp [slicedAt, hn, Addr.add]
theorem info5 : (Try.prog.info? 5).map (·.size) = some 1 := by kernel_rfl
theorem ac_one (l : List UInt8) : ∀ v ∈ (ac l).toList, v.oneCell' = true := by
  intro v hv
  simp only [ac, List.mem_map] at hv
  obtain ⟨c, _, rfl⟩ := hv
  rfl
theorem ac_size (l : List UInt8) : (ac l).size = l.length := by simp [ac]
/-- 'copy(a[:], b[:m])' of two arrays. -/
theorem copy16 (w : World) (g b m : Nat) (l : List UInt8) (hl : l.length = 16) (hm : m ≤ 16) (hg : w.heap[g]? = some (.cells (ac (List.replicate 16 0)) 32 (0, 0))) (hb : w.heap[b]? = some (.cells (ac l) 32 (0, 0))) :
    (Builtin.copy_ #[87, 87] 3 #[.slice (some ⟨g, 0, none⟩) 16 16, .slice (some ⟨b, 0, none⟩) m 16]).run Try.prog w = .ok (.int .i64 m) (w.setRow g (ac (padL (l.take m)))) := by
  have hlen : ((l.take m).map bv).length = m := by simp; omega
  have h := run_copy_row (P := Try.prog) w 87 87 3 5 g 0 16 16 ⟨b, 0, none⟩ m 16 (ac (List.replicate 16 0)) 32 ((l.take m).map bv) Try.underlying87 info5 hg (by rw [hlen]; exact (Nat.min_eq_left hm).symm)
    (fun j v hv => by
      have hadd : (⟨b, 0, none⟩ : Addr).add j = ⟨b, j, none⟩ := by unfold Addr.add; split <;> simp_all
      rw [hadd]
      refine cell_obj hb ?_
      have hj : j < m := by have := (List.getElem?_eq_some_iff.1 hv).1; omega
      rw [← hv]
      simp [ac, hj]) (by rw [hlen, ac_size]; simp; omega) (fun v hv => by
      simp only [List.mem_map] at hv
      obtain ⟨c, _, rfl⟩ := hv
      rfl)
  rw [h, hlen]
  have e : ((ac (List.replicate 16 0)).toList.take 0 ++ (l.take m).map bv ++ (ac (List.replicate 16 0)).toList.drop (0 + m)).toArray = ac (padL (l.take m)) := by
    have hr : bv 0 = Value.int .u8 0 := rfl
    unfold ac padL
    refine congrArg _ ?_
    have e2 : List.map bv (List.take 16 (List.take m l ++ List.replicate 16 0)) = List.take 16 (List.map bv (List.take m l) ++ List.map bv (List.replicate 16 0)) := by rw [List.map_take (i := 16), List.map_append]
    rw [e2]
    simp only
    generalize hM : List.map bv (List.take m l) = M at *
    rw [List.map_replicate, List.take_zero, List.nil_append, Nat.zero_add, List.drop_replicate, List.take_append, List.take_of_length_le (by omega), hlen, List.take_replicate, Nat.min_eq_left (by omega)]
  rw [e]
  rfl
theorem block_set {w : World} {b : Nat} {c : Array Value} {t : TypeId} {fz : Nat × Nat} (h : w.heap[b]? = some (.cells c t fz)) (i : Nat) (v : Value) : (w.setCell ⟨b, i, none⟩ v).heap[b]? = some (.cells (c.setIfInBounds i v) t fz) := by
  simp only [World.setCell, Array.getElem?_modify, if_true, h, Option.map_some]
  rfl
theorem block_row {w : World} {b : Nat} {c : Array Value} {t : TypeId} {fz : Nat × Nat} (h : w.heap[b]? = some (.cells c t fz)) (c' : Array Value) : (w.setRow b c').heap[b]? = some (.cells c' t fz) := by
  simp only [World.setRow, Array.getElem?_modify, if_true, h, Option.map_some]
theorem setRow_old {w : World} {b : Nat} {o : Obj} (h : w.heap[b]? = some o) (g : Nat) (c : Array Value) (hg : b ≠ g) : (w.setRow g c).heap[b]? = some o := by
  simp only [World.setRow, Array.getElem?_modify]
  rw [if_neg (Ne.symm hg), h]
theorem Same.setCell {w w' : World} (h : Same w w') (b i : Nat) (v : Value) (hb : w.heap.size ≤ b) : Same w (w'.setCell ⟨b, i, none⟩ v) :=
  ⟨⟨h.os, h.tape, h.output, by have := h.size; simpa [World.setCell] using this, fun k hk => (Below.heap_setCell _ _ _ _ (by show k ≠ b; omega)).trans (h.block k hk)⟩, h.drawn⟩
theorem Same.setRow {w w' : World} (h : Same w w') (b : Nat) (c : Array Value) (hb : w.heap.size ≤ b) : Same w (w'.setRow b c) :=
  ⟨⟨h.os, h.tape, h.output, by have := h.size; simpa [World.setRow] using this, fun k hk => by
    rw [← h.block k hk]
    simp only [World.setRow, Array.getElem?_modify]
    rw [if_neg (by omega)]⟩, h.drawn⟩
theorem load_block {P : Program} {w : World} {b : Nat} {c : Array Value} {t : TypeId} {fz : Nat × Nat} (n : Nat) (hn : c.size = n) (h : w.heap[b]? = some (.cells c t fz)) :
    (loadCellsFrom ⟨b, 0, none⟩ 0 n #[]).run P w = .ok c w := by
  have := load_part (P := P) (o := 0) (n := n) c.toList (by simpa using hn) h (fun j v hv => by simpa using hv)
  simpa using this
theorem setCell_old {w : World} {b : Nat} {o : Obj} (h : w.heap[b]? = some o) (g i : Nat) (v : Value) (hg : b ≠ g) : (w.setCell ⟨g, i, none⟩ v).heap[b]? = some o := by
  rw [Below.heap_setCell _ _ _ _ hg, h]
theorem ac_set (l : List UInt8) (i c : Nat) (hc : c < 256) : (ac l).setIfInBounds i (.int .u8 (c : Nat)) = ac (l.set i (UInt8.ofNat c)) := by
  have e : Value.int .u8 (c : Nat) = bv (UInt8.ofNat c) := by unfold bv; rw [UInt8.toNat_ofNat_of_lt' hc]
  rw [e]
  unfold ac
  rw [List.map_set]
  simp
theorem andNot8 (c r : Nat) (hc : c < 256) : bits .andNot .u8 (c : Int) (255 / 2 ^ r) = ((c &&& (255 - 255 / 2 ^ r) : Nat) : Int) := by
  have h := u8_andNot_nat c (255 / 2 ^ r) hc (Nat.lt_of_le_of_lt (Nat.div_le_self _ _) (by omega))
  simpa using h
theorem alloc_old {w : World} {b : Nat} {o : Obj} (h : w.heap[b]? = some o) (o' : Obj) : (w.alloc o').heap[b]? = some o := ((Same.refl w).alloc o').obj h
theorem three_alloc (w : World) (o1 o2 o3 : Obj) : (((w.alloc o1).alloc o2).alloc o3).heap[w.heap.size]? = some o1 ∧ (((w.alloc o1).alloc o2).alloc o3).heap[w.heap.size + 1]? = some o2 ∧ (((w.alloc o1).alloc o2).alloc o3).heap[w.heap.size + 1 + 1]? = some o3 := by
  have hs : (w.alloc o1).heap.size = w.heap.size + 1 := by simp
  have hs2 : ((w.alloc o1).alloc o2).heap.size = w.heap.size + 1 + 1 := by simp
  refine ⟨alloc_old (alloc_old (heap_alloc_last w o1) _) _, ?_, ?_⟩
  · rw [← hs]
    exact alloc_old (heap_alloc_last _ o2) _
  · rw [← hs2]
    exact heap_alloc_last _ o3

set_option maxRecDepth 100000 in
theorem cut_at (l : List UInt8) (hl : l.length = 16) (k : Nat) (hk : k ≤ 128) (w : World) : Calls Try.prog 95 #[.agg (ac l), .int .i64 k] w fun e w' => e = .returned (.agg (ac (cutL l k))) ∧ Same w w' := by
  obtain ⟨hz, hi⟩ := zero_of_info info22
  have Z0 := ac_zero
  have hnd := Lib.hid (need_at k hk)
  have hlt : needN k ≤ 16 := by unfold needN; omega
  have hcp := Lib.hid (fun w g b => copy16 w g b (needN k) l hl hlt)
  have Hcut := Lib.hid (show (cutL l k = if 0 < k % 8 then (padL (l.take (needN k))).set (k / 8) (UInt8.ofNat (((padL (l.take (needN k))).getD (k / 8) 0).toNat &&& (255 - 255 / 2 ^ (k % 8)))) else padL (l.take (needN k))) from rfl)
  generalize cutL l k = C at *
  have hpl := padL_len (l.take (needN k))
  generalize padL (l.take (needN k)) = L at *
  generalize needN k = m at *
  generalize ac (List.replicate 16 0) = Z at *
  generalize ac l = A at *
  have hsl := fun b w => cut16 b m hlt w
  obtain ⟨e0, e1, e2⟩ := three_alloc w (.cells A 32) (.cells Z 32) (.cells Z 32)
  have hc := hcp.out ((((w.alloc (.cells A 32)).alloc (.cells Z 32)).alloc (.cells Z 32)).drew) _ _ e2 e0
  have E1 := Lib.hid e1
  have E2 := Lib.hid e2
  clear e0 e1 e2 hcp
  go_enter Try.func95, Try.ntmps95
  go_wp2_with fail
  go_region_with (go_at_call 81; refine (hnd.out _).mono ?_; rintro e w1 ⟨rfl, rfl⟩)
  have HS := Lib.hid ((((((Same.refl w).alloc (.cells A 32)).alloc (.cells Z 32)).alloc (.cells Z 32)).drew).setRow (w.heap.size + 1 + 1) (ac L) (by omega))
  have F1 := Lib.hid (setRow_old (w := (((w.alloc (.cells A 32)).alloc (.cells Z 32)).alloc (.cells Z 32)).drew) E1.out (w.heap.size + 1 + 1) (ac L) (by omega))
  have F2 := Lib.hid (block_row (w := (((w.alloc (.cells A 32)).alloc (.cells Z 32)).alloc (.cells Z 32)).drew) E2.out (ac L))
  generalize (((w.alloc (.cells A 32)).alloc (.cells Z 32)).alloc (.cells Z 32)).drew.setRow (w.heap.size + 1 + 1) (ac L) = w3 at *
  clear hc E1 E2
  obtain ⟨n, hn⟩ : ∃ n, n = 16 := ⟨16, rfl⟩
  have hsz : ∀ w, (Go.sizeOf 32).run Try.prog w = .ok n w := fun w => by rw [hn]; exact Try.sizeOf32 w
  have hzs : Z.size = n := by rw [← Z0, hn]; simp
  have Hzs := Lib.hid hzs
  have HN := Lib.hid hn
  have HL := Lib.hid hpl
  clear hn hzs hz Z0 hi hpl
  by_cases h8 : 0 < k % 8
  · have hcell := cell_obj F2.out (ac_get L (k / 8) (by rw [HL.out]; omega))
    have hfree : w3.frozen? ⟨w.heap.size + 1 + 1, k / 8, none⟩ = false := by simp [World.frozen?, F2.out]
    have hc : (L[k / 8]'(by rw [HL.out]; omega)).toNat < 256 := (L[k / 8]'(by rw [HL.out]; omega)).toNat_lt
    have hc2 := Lib.hid (show (L.getD (k / 8) 0).toNat = (L[k / 8]'(by rw [HL.out]; omega)).toNat by simp [show k / 8 < L.length by rw [HL.out]; omega])
    generalize (L[k / 8]'(by rw [HL.out]; omega)).toNat = c at *
    have hx := andNot8 c (k % 8) hc
    go_wp2
    go_region
    have G2 := Lib.hid (block_set (w := w3) F2.out (k / 8) (.int .u8 (c &&& (255 - 255 / 2 ^ (k % 8)) : Nat)))
    have G1 := Lib.hid (setCell_old (w := w3) F1.out (w.heap.size + 1 + 1) (k / 8) (.int .u8 (c &&& (255 - 255 / 2 ^ (k % 8)) : Nat)) (by omega))
    have GS := Lib.hid ((HS.out.setCell (w.heap.size + 1 + 1) (k / 8) (.int .u8 (c &&& (255 - 255 / 2 ^ (k % 8)) : Nat)) (by omega)).drew)
    rw [ac_set L (k / 8) _ (Nat.lt_of_le_of_lt Nat.and_le_left hc)] at G2
    have HL2 := Lib.hid (show (L.set (k / 8) (UInt8.ofNat (c &&& (255 - 255 / 2 ^ (k % 8))))).length = 16 by rw [List.length_set]; exact HL.out)
    have HC := Lib.hid (show C = L.set (k / 8) (UInt8.ofNat (c &&& (255 - 255 / 2 ^ (k % 8)))) by rw [Hcut.out, if_pos h8, hc2.out])
    have G1' : (w3.setCell ⟨w.heap.size + 1 + 1, k / 8, none⟩ (.int .u8 (c &&& (255 - 255 / 2 ^ (k % 8)) : Nat))).drew.heap[w.heap.size + 1]? = some (.cells Z 32) := G1.out
    have G2' : (w3.setCell ⟨w.heap.size + 1 + 1, k / 8, none⟩ (.int .u8 (c &&& (255 - 255 / 2 ^ (k % 8)) : Nat))).drew.heap[w.heap.size + 1 + 1]? = some (.cells (ac (L.set (k / 8) (UInt8.ofNat (c &&& (255 - 255 / 2 ^ (k % 8)))))) 32) := G2.out
    clear G1 G2 hcell hfree hx Hcut hc2
    generalize (w3.setCell ⟨w.heap.size + 1 + 1, k / 8, none⟩ (.int .u8 (c &&& (255 - 255 / 2 ^ (k % 8)) : Nat))).drew = w4 at *
    generalize L.set (k / 8) (UInt8.ofNat (c &&& (255 - 255 / 2 ^ (k % 8)))) = L2 at *
    have hac : (ac L2).size = n := by rw [ac_size, HL2.out, HN.out]
    have hld := load_block (P := Try.prog) (w := w4) n hac G2'
    have hsc := run_storeCells_from (P := Try.prog) (w.heap.size + 1) 32 (ac L2).toList 0 Z w4 G1' (by simp [Hzs.out, hac]) (ac_one L2)
    rw [List.take_zero, List.nil_append, Array.toArray_toList] at hsc
    have hl2 := load_block (P := Try.prog) n hac (block_row G1' (ac L2))
    go_wp2
    refine bodyPost_ret (v := .agg (ac L2)) ?_ rfl ⟨?_, GS.out.setRow _ _ (by omega)⟩
    · simp [results, Try.results95, go_sem, hsz, hl2]
    · rw [HC.out]
  · have hac : (ac L).size = n := by rw [ac_size, HL.out, HN.out]
    have hld := load_block (P := Try.prog) (w := w3) n hac F2.out
    have hsc := run_storeCells_from (P := Try.prog) (w.heap.size + 1) 32 (ac L).toList 0 Z w3 F1.out (by simp [Hzs.out, hac]) (ac_one L)
    rw [List.take_zero, List.nil_append, Array.toArray_toList] at hsc
    have hl2 := load_block (P := Try.prog) n hac (block_row F1.out (ac L))
    go_wp2
    refine bodyPost_ret (v := .agg (ac L)) ?_ rfl ⟨?_, HS.out.setRow _ _ (by omega)⟩
    · simp [results, Try.results95, go_sem, hsz, hl2]
    · rw [Hcut.out, if_neg h8]
end Go.Proofs.Ytfikdeobejhblaa

/- Proved: two addresses, two prefixes compared by the language's own '=='. Condition: an address has sixteen bytes. -/
namespace Go.Proofs.Ytfikdeobejhblaa
open Go.RowKit

theorem eq_ac (d : Nat) (l m : List UInt8) (hl : l.length = 16) (hm : m.length = 16) (w : World) : (Op.equalIn (d + 2) 32 (.agg (ac l)) (.agg (ac m))).run Try.prog w = .ok (decide (l = m)) w := by
  have h := run_equalIn_bytes (P := Try.prog) w d 32 5 16 Try.underlying32 Try.underlying5 (fun w => Try.sizeOf5 w) l m hl hm
  rw [show decide (l = m) = (l == m) by rw [Bool.eq_iff_iff]; simp]
  exact h
theorem eql_ac (l m : List UInt8) (hl : l.length = 16) (hm : m.length = 16) (w : World) : (binOp .eql 32 (.agg (ac l)) (.agg (ac m))).run Try.prog w = .ok (.bool (decide (l = m))) w := by
  rw [run_eql_struct, eq_ac 9998 l m hl hm]
  rfl
instance : DecidableEq Px := fun a b => decidable_of_iff (a.six = b.six ∧ a.addr = b.addr ∧ a.len = b.len) ⟨fun h => by cases a; cases b; simp at h; simp [h], fun h => by rw [h]; simp⟩
theorem pc_ext (p : Px) (h : p.addr.length = 16) : (pc p).extract 1 17 = ac p.addr := by
  apply Array.ext'
  simp only [Array.toList_extract, pc, ac]
  simp [List.extract_eq_take_drop, h]
theorem eq_pc (p q : Px) (hp : p.addr.length = 16) (hq : q.addr.length = 16) (w : World) : (Op.equalIn 10000 34 (.agg (pc p)) (.agg (pc q))).run Try.prog w = .ok (decide (p = q)) w := by
  have a0 := pc_six p
  have a17 := pc_len p hp
  have a1 := pc_ext p hp
  have b0 := pc_six q
  have b17 := pc_len q hq
  have b1 := pc_ext q hq
  have he := eq_ac 9997 p.addr q.addr hp hq
  rw [run_equalIn_struct (P := Try.prog) w 9999 34 _ _ (by kernel_rfl) (by kernel_rfl)]
  have e : decide (p = q) = (decide (p.six = q.six) && (decide (p.addr = q.addr) && decide (p.len = q.len))) := by
    rw [Bool.eq_iff_iff]
    simp only [Bool.and_eq_true, decide_eq_true_eq]
    constructor
    · intro h; rw [h]; simp
    · intro h; cases p; cases q; simp at h; simp [h]
  rw [e]
  generalize pc p = A at *
  generalize pc q = B at *
  have hf : (Try.prog.fieldsOf 34).toList = [{ name := "Six", type := 4, offset := 0, embedded := false, tag := "", pkgPath := "", byteOffset := 0 }, { name := "Addr", type := 32, offset := 1, embedded := false, tag := "", pkgPath := "", byteOffset := 1 }, { name := "Len", type := 3, offset := 17, embedded := false, tag := "", pkgPath := "", byteOffset := 24 }] := by kernel_rfl
  rw [hf]
  simp only [Op.eqFields]
  go_simp
  by_cases h1 : p.six = q.six <;> by_cases h2 : p.addr = q.addr <;> by_cases h3 : p.len = q.len <;> simp [h1, h2, h3]
end Go.Proofs.Ytfikdeobejhblaa

/- Proved: what prefix's Right answers. Condition: an address has sixteen bytes. -/
namespace Go.Proofs.Ytfikdeobejhblaa
open Go.RowKit

set_option maxRecDepth 100000 in
theorem right_at (p : Px) (hp : p.addr.length = 16) (w : World) : Calls Try.prog 73 #[.agg (pc p)] w fun e w' => e = .returned (.bool (decide (rightP p))) ∧ Same w w' := by
  have c0 := pc_six p
  have c17 := pc_len p hp
  have hm := Lib.hid (fits_at p.six p.len)
  obtain ⟨n, hn⟩ : ∃ n, n = 16 := ⟨16, rfl⟩
  have hsz : ∀ w, (Go.sizeOf 32).run Try.prog w = .ok n w := fun w => by rw [hn]; exact Try.sizeOf32 w
  have hn0 : ¬ n = 0 := by omega
  have hb0 : (w.alloc (.cells (pc p) 34)).heap[w.heap.size]? = some (.cells (pc p) 34) := heap_alloc_last w _
  have d1 : ∀ u : SW (w.alloc (.cells (pc p) 34)), (loadCellsFrom ⟨w.heap.size, 1, none⟩ 0 n #[]).run Try.prog u.1 = .ok (ac p.addr) u.1 := fun u => load_addr (P := Try.prog) (n := n) p (by omega) (u.block hb0)
  obtain ⟨R, hR⟩ : ∃ R, decide (rightP p) = R := ⟨_, rfl⟩
  rw [hR]
  have HR := Lib.hid hR
  clear hR
  generalize pc p = A at *
  have HN := Lib.hid hn
  clear hn
  have hs0 : Same w (w.alloc (.cells A 34)) := (Same.refl w).alloc _
  have d0 : ∀ u : SW (w.alloc (.cells A 34)), u.1.cell? ⟨w.heap.size, 0, none⟩ = some (.bool p.six) := fun u => cell_obj (u.block hb0) c0
  have d17 : ∀ u : SW (w.alloc (.cells A 34)), u.1.cell? ⟨w.heap.size, 17, none⟩ = some (.int .i64 p.len) := fun u => cell_obj (u.block hb0) c17
  have HS := Lib.hid hs0
  clear hb0 hs0 c0 c17
  by_cases h0 : fitsB p.six p.len = true
  · rw [h0] at hm
    obtain ⟨k, hk⟩ : ∃ k : Nat, p.len = k := ⟨p.len.toNat, by simp [fitsB] at h0; omega⟩
    have hk2 : k ≤ 128 := by have := sizeN_le p.six; simp [fitsB] at h0; omega
    have hcu := Lib.hid (show Gives Try.prog 95 #[.agg (ac p.addr), .int .i64 p.len] (.agg (ac (cutL p.addr k))) by rw [hk]; exact cut_at p.addr hp k hk2)
    have heq := fun w => eq_ac 9998 (cutL p.addr k) p.addr (cutL_len _ _) hp w
    have hcs := cutL_same p.addr k hp hk2
    have HCS := Lib.hid hcs
    clear hcs
    have HK := Lib.hid hk
    have HF := Lib.hid h0
    clear hk h0
    go_enter Try.func73, Try.ntmps73
    go_wp2_with fail
    refine wp_region_same (Same.refl _) (by kernel_rfl) (by kernel_rfl) ?_
    repeat (first | go_big_quiet_step (fail) | quiet_step (fail))
    first | go_big_quiet_step (exact hm.out.at _) | quiet_step (exact hm.out.at _)
    repeat (first | go_big_quiet_step (fail) | quiet_step (fail))
    first | go_big_quiet_step (exact hcu.out.at _) | quiet_step (exact hcu.out.at _)
    repeat (first | go_big_quiet_step (fail) | quiet_step (fail))
    refine wpQuiet_nil ?_
    rintro w6 ⟨⟨w7, b7⟩, rfl⟩
    go_wp2
    go_ret
    refine ⟨?_, HS.out.trans b7⟩
    have hr := HR.out
    rw [← hr, decide_eq_decide.2 (show rightP p ↔ cutL p.addr k = p.addr from by
      rw [HCS.out]
      have hf := HF.out
      simp only [fitsB, decide_eq_true_eq] at hf
      unfold rightP
      rw [HK.out] at hf ⊢
      simp only [Int.toNat_natCast]
      exact ⟨fun h => h.2.2, fun h => ⟨hf.1, hf.2, h⟩⟩)]
    rfl
  · rw [show fitsB p.six p.len = false by simpa using h0] at hm
    go_enter Try.func73, Try.ntmps73
    go_wp2_with fail
    refine wp_region_same (Same.refl _) (by kernel_rfl) (by kernel_rfl) ?_
    repeat (first | go_big_quiet_step (exact hm.out.at _) | quiet_step (exact hm.out.at _))
    refine wpQuiet_nil ?_
    rintro w6 ⟨⟨w7, b7⟩, rfl⟩
    go_wp2
    go_ret
    have hr := HR.out
    rw [decide_eq_false (by intro h; exact h0 (by unfold rightP at h; simp [fitsB]; omega))] at hr
    exact ⟨by rw [← hr]; rfl, HS.out.trans b7⟩
end Go.Proofs.Ytfikdeobejhblaa

/- Proved: a prefix in memory. Condition: addresses have sixteen bytes; numbers fit. -/
namespace Go.Proofs.Ytfikdeobejhblaa
open Go.RowKit

/-- A prefix lies in block b. -/
structure At (w : World) (b : Nat) (p : Px) : Prop where
  block : w.heap[b]? = some (.cells (pc p) 34 (0, 0))
  len : p.addr.length = 16
theorem At.mono {w w' : World} {b : Nat} {p : Px} (h : At w b p) (k : Same w w') : At w' b p := ⟨k.obj h.block, h.len⟩
theorem At.six {w : World} {b : Nat} {p : Px} (h : At w b p) : w.cell? ⟨b, 0, none⟩ = some (.bool p.six) := cell_obj h.block (pc_six p)
theorem At.bits {w : World} {b : Nat} {p : Px} (h : At w b p) : w.cell? ⟨b, 17, none⟩ = some (.int .i64 p.len) := cell_obj h.block (pc_len p h.len)
theorem At.byte {w : World} {b : Nat} {p : Px} (h : At w b p) (i : Nat) (hi : i < 16) : w.cell? ⟨b, 1 + i, none⟩ = some (.int .u8 ((p.addr.getD i 0).toNat : Nat)) := by
  have hl := h.len
  rw [cell_obj h.block (pc_get p i (by omega))]
  simp [show i < p.addr.length by omega]
theorem At.whole {w : World} {b n : Nat} {p : Px} (h : At w b p) (hn : n = 18) : (loadCellsFrom ⟨b, 0, none⟩ 0 n #[]).run Try.prog w = .ok (pc p) w := load_block n (by rw [pc_size p h.len, hn]) h.block
theorem At.addr {w : World} {b n : Nat} {p : Px} (h : At w b p) (hn : n = 16) : (loadCellsFrom ⟨b, 1, none⟩ 0 n #[]).run Try.prog w = .ok (ac p.addr) w := load_addr p (by rw [h.len, hn]) h.block
theorem one_at (w : World) (p : Px) (hp : p.addr.length = 16) : At (w.alloc (.cells (pc p) 34)) w.heap.size p ∧ Same w (w.alloc (.cells (pc p) 34)) :=
  ⟨⟨heap_alloc_last w _, hp⟩, (Same.refl w).alloc _⟩
theorem two_at (w : World) (p q : Px) (hp : p.addr.length = 16) (hq : q.addr.length = 16) : At ((w.alloc (.cells (pc p) 34)).alloc (.cells (pc q) 34)) w.heap.size p ∧ At ((w.alloc (.cells (pc p) 34)).alloc (.cells (pc q) 34)) (w.heap.size + 1) q ∧ Same w ((w.alloc (.cells (pc p) 34)).alloc (.cells (pc q) 34)) := by
  have hs : (w.alloc (.cells (pc p) 34)).heap.size = w.heap.size + 1 := by simp
  refine ⟨⟨alloc_old (heap_alloc_last w _) _, hp⟩, ⟨?_, hq⟩, ((Same.refl w).alloc _).alloc _⟩
  rw [← hs]
  exact heap_alloc_last _ _

theorem right (p : Px) (hp : p.addr.length = 16) : Gives Try.prog 73 #[.agg (pc p)] (.bool (decide (rightP p))) := right_at p hp
theorem qright (p : Px) (hp : p.addr.length = 16) : Gives Try.prog 52 #[.agg (pc p)] (.bool (decide (rightP p))) := qright_at p hp

end Go.Proofs.Ytfikdeobejhblaa

/- Proved: what Compare of prefix and of the document answer. Condition: addresses have sixteen bytes; numbers fit. -/
namespace Go.Proofs.Ytfikdeobejhblaa
open Go.RowKit

theorem lex_bytes : ∀ l m : List UInt8, l.length = m.length → Lib.compareBytes l m = X.lex l m
  | [], [], _ => rfl
  | [], _ :: _, h => by simp at h
  | _ :: _, [], h => by simp at h
  | c :: l, d :: m, h => by
    have ih := lex_bytes l m (by simpa using h)
    unfold Lib.compareBytes X.lex
    rw [ih]
    simp only [UInt8.lt_iff_toNat_lt]
theorem lex_drop (l m : List UInt8) (i : Nat) (h1 : i < l.length) (h2 : i < m.length) : X.lex (l.drop i) (m.drop i) = if (l.getD i 0).toNat < (m.getD i 0).toNat then -1 else if (m.getD i 0).toNat < (l.getD i 0).toNat then 1 else X.lex (l.drop (i + 1)) (m.drop (i + 1)) := by
  rw [List.drop_eq_getElem_cons h1, List.drop_eq_getElem_cons h2, X.lex]
  simp [h1, h2]
theorem lex_end (l m : List UInt8) (h1 : l.length = 16) : X.lex (l.drop 16) (m.drop 16) = 0 := by
  rw [List.drop_eq_nil_of_le (by omega)]
  simp [X.lex]
theorem lex_fits (l m : List UInt8) : X.lex l m = -1 ∨ X.lex l m = 0 ∨ X.lex l m = 1 := by
  induction l generalizing m with
  | nil => simp [X.lex]
  | cons c l ih =>
    cases m with
    | nil => simp [X.lex]
    | cons d m =>
      have := ih m
      unfold X.lex
      split
      · simp
      · split <;> simp_all

def cmpP (a b : Px) : Int := if a.six = b.six then (if X.lex a.addr b.addr = 0 then X.cmpI a.len b.len else X.lex a.addr b.addr) else if b.six then -1 else 1

theorem bytesOf_map : ∀ l : List UInt8, Lib.bytesOf (l.map fun c => (c.toNat : Int)) = l
  | [] => rfl
  | c :: l => by
    have := bytesOf_map l
    simp only [Lib.bytesOf, List.map_cons] at this ⊢
    rw [this]
    simp
theorem cells_bytes {w : World} {b : Nat} {p : Px} (h : At w b p) : (Extern.Bytes.bytesOf (.slice (some ⟨b, 1, none⟩) 16 16)).run Try.prog w = .ok ⟨p.addr.toArray⟩ w := by
  have hl := h.len
  have hx := Lib.run_loadBytesX (P := Try.prog) w (p.addr.map fun c => (c.toNat : Int)) ⟨b, 1, none⟩ .empty (fun j x hx => by
    have hj : j < p.addr.length := by have := (List.getElem?_eq_some_iff.1 hx).1; simpa using this
    have hadd : (⟨b, 1, none⟩ : Addr).add j = ⟨b, 1 + j, none⟩ := by unfold Addr.add; split <;> simp_all
    rw [hadd, h.byte j (by omega)]
    simp [hj] at hx
    simp [hj, hx])
  rw [bytesOf_map, List.length_map, hl] at hx
  unfold Extern.Bytes.bytesOf
  rw [hx]
  simp
theorem slice_addr (b : Nat) (w : World) : (Instr.sliceAt 32 (.pointer (some ⟨b, 1, none⟩)) none none none).run Try.prog w = .ok (.slice (some ⟨b, 1, none⟩) 16 16) w := by
  have hn : Try.prog.arrayLen 32 = 16 := by kernel_rfl
  have he : Try.prog.elem 32 = 5 := by kernel_rfl
  have := run_sliceAt_array_all (P := Try.prog) w 32 ⟨b, 1, none⟩ (by kernel_rfl)
  rw [this, he, Try.sizeOf5 w]
  simp [slicedAt, hn, Addr.add]
set_option maxRecDepth 100000 in
theorem bcompare (a b : Px) (i j : Nat) (w : World) (hA : At w i a) (hB : At w j b) : Calls Try.prog 106 #[.slice (some ⟨i, 1, none⟩) 16 16, .slice (some ⟨j, 1, none⟩) 16 16] w fun e w' => e = .returned (.int .i64 (X.lex a.addr b.addr)) ∧ w' = w := by
  have h1 := cells_bytes hA
  have h2 := cells_bytes hB
  have hc : (Extern.BytealgCompare.compare #[.slice (some ⟨i, 1, none⟩) 16 16, .slice (some ⟨j, 1, none⟩) 16 16]).run Try.prog w = .ok (.int .i64 (X.lex a.addr b.addr)) w := by
    change Sem.run Try.prog (do pure (goInt (Extern.BytealgCompare.cmp (← Extern.Bytes.bytesOf (.slice (some ⟨i, 1, none⟩) 16 16)) (← Extern.Bytes.bytesOf (.slice (some ⟨j, 1, none⟩) 16 16))))) w = _
    simp only [Sem.run_bind, h1, h2, Sem.run_pure, Result.andThen]
    rw [Lib.cmp_eq]
    simp only
    rw [lex_bytes _ _ (by rw [hA.len, hB.len])]
    rfl
  go_enter Try.func106, Try.ntmps106
  go_wp2
  rw [run_callFunc_extern Try.func119 (by kernel_rfl) (by kernel_rfl) (by kernel_rfl) (e := Extern.BytealgCompare.compare) (by kernel_rfl), hc]
  simp only [Result.andThen]
  rw [Oper.upon_value]
  go_wp2
  go_ret
  exact ⟨rfl, rfl⟩
theorem isnan (x : Int) (w : World) : Calls Try.prog 120 #[.int .i64 x] w fun e w' => e = .returned (.bool false) ∧ w' = w := by
  have hx : (x != x) = false := by simp
  go_enter Try.func120, Try.ntmps120
  go_wp2
  go_ret
  exact ⟨rfl, rfl⟩
theorem icompare (x y : Int) : Gives Try.prog 107 #[.int .i64 x, .int .i64 y] (.int .i64 (X.cmpI x y)) := by
  refine Gives.of_same fun w => ?_
  unfold X.cmpI
  by_cases h1 : x < y
  · go_enter Try.func107, Try.ntmps107
    go_wp2_with fail
    refine (isnan x w).mono ?_
    rintro e w ⟨rfl, rfl⟩
    go_wp2_with fail
    refine (isnan y _).mono ?_
    rintro e w ⟨rfl, rfl⟩
    go_wp2
    go_ret
    exact ⟨rfl, rfl⟩
  · by_cases h2 : y < x
    · go_enter Try.func107, Try.ntmps107
      go_wp2_with fail
      refine (isnan x w).mono ?_
      rintro e w ⟨rfl, rfl⟩
      go_wp2_with fail
      refine (isnan y _).mono ?_
      rintro e w ⟨rfl, rfl⟩
      go_wp2
      go_ret
      exact ⟨rfl, rfl⟩
    · go_enter Try.func107, Try.ntmps107
      go_wp2_with fail
      refine (isnan x w).mono ?_
      rintro e w ⟨rfl, rfl⟩
      go_wp2_with fail
      refine (isnan y _).mono ?_
      rintro e w ⟨rfl, rfl⟩
      go_wp2
      go_ret
      exact ⟨rfl, rfl⟩

set_option maxRecDepth 100000 in
theorem compare (a b : Px) (ha : a.addr.length = 16) (hb : b.addr.length = 16) : Gives Try.prog 76 #[.agg (pc a), .agg (pc b)] (.int .i64 (cmpP a b)) := by
  intro w
  obtain ⟨hA, hB, hS⟩ := two_at w a b ha hb
  obtain ⟨Z, hZ⟩ : ∃ Z, cmpP a b = Z := ⟨_, rfl⟩
  rw [hZ]
  have HZ := Lib.hid hZ
  clear hZ
  obtain ⟨n, hn⟩ : ∃ n, n = 16 := ⟨16, rfl⟩
  have hsz : ∀ w, (Go.sizeOf 32).run Try.prog w = .ok n w := fun w => by rw [hn]; exact Try.sizeOf32 w
  have hn0 : ¬ n = 0 := by omega
  have h1 := hA.six
  have h2 := hB.six
  have HA := Lib.hid hA
  have HB := Lib.hid hB
  have HS := Lib.hid hS
  have HN := Lib.hid hn
  clear hA hB hS hn
  by_cases hs : a.six = b.six
  · rw [← hs] at h2
    have Hic := Lib.hid (icompare a.len b.len)
    have HE := Lib.hid (show Z = if X.lex a.addr b.addr = 0 then X.cmpI a.len b.len else X.lex a.addr b.addr by rw [← HZ.out, cmpP, if_pos hs])
    have hf := lex_fits a.addr b.addr
    have hsl := slice_addr
    have Hbc : ∀ u : SW ((w.alloc (.cells (pc a) 34)).alloc (.cells (pc b) 34)), Calls Try.prog 106 #[.slice (some ⟨w.heap.size, 1, none⟩) 16 16, .slice (some ⟨w.heap.size + 1, 1, none⟩) 16 16] u.1 fun e w'' => e = .returned (.int .i64 (X.lex a.addr b.addr)) ∧ ∃ m : SW ((w.alloc (.cells (pc a) 34)).alloc (.cells (pc b) 34)), w'' = m.1 :=
      fun u => (bcompare a b _ _ u.1 (HA.out.mono u.2) (HB.out.mono u.2)).mono fun e w' ⟨he, hw⟩ => ⟨he, u, hw⟩
    have HBC := Lib.hid Hbc
    clear Hbc HZ hs
    generalize X.lex a.addr b.addr = L at *
    go_enter Try.func76, Try.ntmps76
    go_wp2_with fail
    refine wp_region_same (Same.refl _) (by kernel_rfl) (by kernel_rfl) ?_
    repeat (first | go_big_quiet_step (exact HBC.out _) | quiet_step (exact HBC.out _))
    refine wpQuiet_nil ?_
    rintro w6 ⟨⟨w7, b7⟩, rfl⟩
    have e1 := (HA.out.mono b7).bits
    have e2 := (HB.out.mono b7).bits
    have HS7 := Lib.hid (HS.out.trans b7)
    clear HA HB HS b7 h1 h2 HBC hsl
    by_cases h0 : L = 0
    · subst h0
      go_wp2_with fail
      refine (Hic.out _).mono ?_
      rintro e w8 ⟨rfl, b8⟩
      go_wp2
      go_ret
      refine ⟨?_, HS7.out.trans b8⟩
      rw [HE.out, if_pos trivial]
      rfl
    · go_wp2
      go_ret
      refine ⟨?_, HS7.out⟩
      rw [HE.out, if_neg h0]
      rfl
  · have hs2 : (a.six != b.six) = true := by simpa using hs
    have HE := Lib.hid (show Z = if b.six then -1 else 1 by rw [← HZ.out, cmpP, if_neg hs])
    cases hsa : a.six <;> cases hsb : b.six <;> rw [hsa, hsb] at hs2 <;> simp at hs2 <;> rw [hsa] at h1 <;> rw [hsb] at h2 HE <;> clear hs2
    all_goals
      go_enter Try.func76, Try.ntmps76
      go_wp2
      go_ret
      exact ⟨by rw [HE.out]; rfl, HS.out⟩

def QMRel (W : World) (l m : List UInt8) (i : Value) (wr : World) : Prop :=
  ∃ k : Nat, i = .int .i64 k ∧ k ≤ 16 ∧ X.lex (l.drop k) (m.drop k) = X.lex l m ∧ Same W wr

set_option maxRecDepth 100000 in
theorem qcompare (a b : Px) (ha : a.addr.length = 16) (hb : b.addr.length = 16) : Gives Try.prog 108 #[.agg (pc a), .agg (pc b)] (.int .i64 (cmpP a b)) := by
  intro w
  obtain ⟨hA, hB, hS⟩ := two_at w a b ha hb
  obtain ⟨Z, hZ⟩ : ∃ Z, cmpP a b = Z := ⟨_, rfl⟩
  rw [hZ]
  have HZ := Lib.hid hZ
  clear hZ
  obtain ⟨n, hn⟩ : ∃ n, n = 16 := ⟨16, rfl⟩
  have hsz : ∀ w, (Go.sizeOf 32).run Try.prog w = .ok n w := fun w => by rw [hn]; exact Try.sizeOf32 w
  have hn0 : ¬ n = 0 := by omega
  have h1 := hA.six
  have h2 := hB.six
  have HA := Lib.hid hA
  have HB := Lib.hid hB
  have HS := Lib.hid hS
  have HN := Lib.hid hn
  clear hA hB hS hn
  by_cases hs : a.six = b.six
  · rw [← hs] at h2
    have HE := Lib.hid (show Z = if X.lex a.addr b.addr = 0 then X.cmpI a.len b.len else X.lex a.addr b.addr by rw [← HZ.out, cmpP, if_pos hs])
    clear HZ hs
    go_enter Try.func108, Try.ntmps108
    go_wp2_with fail
    generalize (w.alloc (.cells (pc a) 34)).alloc (.cells (pc b) 34) = w2 at *
    go_loopw [5] (fun i wr => QMRel w2 a.addr b.addr i wr) (fun i _ => 16 - (intOf i).toNat)
    case atStart => exact ⟨0, rfl, by omega, rfl, Same.refl _⟩
    case round =>
      obtain ⟨k, rfl, hk, hcm, hsame⟩ := hrel
      have HC := Lib.hid hcm
      have HAr := Lib.hid (HA.out.mono hsame)
      have HBr := Lib.hid (HB.out.mono hsame)
      have HSr := Lib.hid (HS.out.trans hsame)
      have HSk := Lib.hid hsame
      clear hcm hsame HA HB h1 h2
      by_cases hk2 : k < 16
      · have da : ∀ u : SW wr, u.1.cell? ⟨w.heap.size, 1 + k, none⟩ = some (.int .u8 ((a.addr.getD k 0).toNat : Nat)) := fun u => (HAr.out.mono u.2).byte k hk2
        have db : ∀ u : SW wr, u.1.cell? ⟨w.heap.size + 1, 1 + k, none⟩ = some (.int .u8 ((b.addr.getD k 0).toNat : Nat)) := fun u => (HBr.out.mono u.2).byte k hk2
        have hc : (a.addr.getD k 0).toNat < 256 := UInt8.toNat_lt _
        have hd : (b.addr.getD k 0).toNat < 256 := UInt8.toNat_lt _
        have HD := Lib.hid (lex_drop a.addr b.addr k (by omega) (by omega))
        generalize (a.addr.getD k 0).toNat = c at *
        generalize (b.addr.getD k 0).toNat = d at *
        by_cases hlt : c < d
        · go_wp2_with fail
          refine wp_region_same (Same.refl _) (by kernel_rfl) (by kernel_rfl) ?_
          repeat (first | go_big_quiet_step (fail) | quiet_step (fail))
          refine wpQuiet_nil ?_
          rintro w6 ⟨⟨w7, b7⟩, rfl⟩
          go_wp2
          go_ret
          refine ⟨?_, HSr.out.trans b7⟩
          have := HC.out
          rw [HD.out, if_pos hlt] at this
          rw [HE.out, ← this]
          rfl
        · by_cases hgt : d < c
          · go_wp2_with fail
            refine wp_region_same (Same.refl _) (by kernel_rfl) (by kernel_rfl) ?_
            repeat (first | go_big_quiet_step (fail) | quiet_step (fail))
            refine wpQuiet_nil ?_
            rintro w6 ⟨⟨w7, b7⟩, rfl⟩
            have da6 : ∀ u : SW w6, u.1.cell? ⟨w.heap.size, 1 + k, none⟩ = some (.int .u8 (c : Nat)) := fun u => da ⟨u.1, b7.trans u.2⟩
            have db6 : ∀ u : SW w6, u.1.cell? ⟨w.heap.size + 1, 1 + k, none⟩ = some (.int .u8 (d : Nat)) := fun u => db ⟨u.1, b7.trans u.2⟩
            clear da db
            go_wp2_with fail
            refine wp_region_same (Same.refl _) (by kernel_rfl) (by kernel_rfl) ?_
            repeat (first | go_big_quiet_step (fail) | quiet_step (fail))
            refine wpQuiet_nil ?_
            rintro w8 ⟨⟨w9, b9⟩, rfl⟩
            go_wp2
            go_ret
            refine ⟨?_, (HSr.out.trans b7).trans b9⟩
            have := HC.out
            rw [HD.out, if_neg hlt, if_pos hgt] at this
            rw [HE.out, ← this]
            rfl
          · go_wp2_with fail
            refine wp_region_same (Same.refl _) (by kernel_rfl) (by kernel_rfl) ?_
            repeat (first | go_big_quiet_step (fail) | quiet_step (fail))
            refine wpQuiet_nil ?_
            rintro w6 ⟨⟨w7, b7⟩, rfl⟩
            have da6 : ∀ u : SW w6, u.1.cell? ⟨w.heap.size, 1 + k, none⟩ = some (.int .u8 (c : Nat)) := fun u => da ⟨u.1, b7.trans u.2⟩
            have db6 : ∀ u : SW w6, u.1.cell? ⟨w.heap.size + 1, 1 + k, none⟩ = some (.int .u8 (d : Nat)) := fun u => db ⟨u.1, b7.trans u.2⟩
            clear da db
            go_wp2_with fail
            refine wp_region_same (Same.refl _) (by kernel_rfl) (by kernel_rfl) ?_
            repeat (first | go_big_quiet_step (fail) | quiet_step (fail))
            refine wpQuiet_nil ?_
            rintro w8 ⟨⟨w9, b9⟩, rfl⟩
            go_wp2
            go_roundw
            case rel =>
              refine ⟨k + 1, by go_num, by omega, ?_, (HSk.out.trans b7).trans b9⟩
              have := HC.out
              rw [HD.out, if_neg hlt, if_neg hgt] at this
              exact this
            case measure => simp [intOf]; omega
      · have e1 := HAr.out.bits
        have e2 := HBr.out.bits
        obtain rfl : k = 16 := by omega
        have HE2 := Lib.hid (show Z = X.cmpI a.len b.len by rw [HE.out, if_pos (by rw [← HC.out]; exact lex_end _ _ ha)])
        by_cases hlt : a.len < b.len
        · go_wp2
          go_ret
          refine ⟨?_, HSr.out⟩
          rw [HE2.out, X.cmpI, if_pos hlt]
          rfl
        · by_cases hgt : b.len < a.len
          · go_wp2
            go_ret
            refine ⟨?_, HSr.out⟩
            rw [HE2.out, X.cmpI, if_neg (by omega), if_pos hgt]
            rfl
          · go_wp2
            go_ret
            refine ⟨?_, HSr.out⟩
            rw [HE2.out, X.cmpI, if_neg (by omega), if_neg (by omega)]
            rfl
  · have hs2 : (a.six != b.six) = true := by simpa using hs
    have HE := Lib.hid (show Z = if b.six then -1 else 1 by rw [← HZ.out, cmpP, if_neg hs])
    cases hsa : a.six <;> cases hsb : b.six <;> rw [hsa, hsb] at hs2 <;> simp at hs2 <;> rw [hsa] at h1 <;> rw [hsb] at h2 HE <;> clear hs2
    all_goals
      go_enter Try.func108, Try.ntmps108
      go_wp2
      go_ret
      exact ⟨by rw [HE.out]; rfl, HS.out⟩
end Go.Proofs.Ytfikdeobejhblaa

/- Proved: what Make of prefix answers. Condition: numbers fit; the text's length fits. -/
namespace Go.Proofs.Ytfikdeobejhblaa
open Go.RowKit

def zl : List UInt8 := List.replicate 16 0
def zeroP : Px := ⟨false, zl, 0⟩
theorem info24 : (Try.prog.info? 34).map (fun i => (i.zero, i.size)) = some (some (.agg (pc zeroP)), 18) := by kernel_rfl
theorem info22z : (Try.prog.info? 32).map (fun i => (i.zero, i.size)) = some (some (.agg (ac zl)), 16) := by kernel_rfl
def makeP (s : Bool) (l : List UInt8) (n : Int) : Option Px := if l.length = sizeN s ∧ fitsB s n then some ⟨s, cutL (padL l) n.toNat, n⟩ else none

theorem list16 (l : List UInt8) (h : l.length = 16) : ∃ c0 c1 c2 c3 c4 c5 c6 c7 c8 c9 c10 c11 c12 c13 c14 c15, l = [c0, c1, c2, c3, c4, c5, c6, c7, c8, c9, c10, c11, c12, c13, c14, c15] := by
  match l, h with
  | [c0, c1, c2, c3, c4, c5, c6, c7, c8, c9, c10, c11, c12, c13, c14, c15], _ => exact ⟨c0, c1, c2, c3, c4, c5, c6, c7, c8, c9, c10, c11, c12, c13, c14, c15, rfl⟩
theorem set_seg (L xs : List Value) (i : Nat) (x : Value) (h : i < L.length) : (L.set i x).take (i + 1) ++ xs ++ (L.set i x).drop (i + 1 + xs.length) = L.take i ++ (x :: xs) ++ L.drop (i + (x :: xs).length) := by
  rw [List.drop_set_of_lt (by omega), List.take_add_one, List.take_set_of_le (Nat.le_refl i)]
  simp [h, Nat.add_assoc, Nat.add_comm 1]
theorem fold_sets (o : Nat) : ∀ (xs : List Value) (k : Nat) (A : Array Value), o + k + xs.length ≤ A.size → (xs.zipIdx k).foldl (fun cs x => cs.setIfInBounds (o + x.snd) x.fst) A = (A.toList.take (o + k) ++ xs ++ A.toList.drop (o + k + xs.length)).toArray
  | [], k, A, _ => by simp
  | x :: xs, k, A, h => by
    have h2 : o + k < A.size := by simp at h; omega
    rw [List.zipIdx_cons, List.foldl_cons, fold_sets o xs (k + 1) _ (by simp at h ⊢; omega)]
    apply Array.ext'
    simp only [Array.toList_setIfInBounds]
    exact set_seg A.toList xs (o + k) x (by simpa using h2)
theorem fold_addr (p : Px) (l : List UInt8) (h : p.addr.length = 16) (hl : l.length = 16) : Array.foldl (fun cs x => cs.setIfInBounds (1 + x.snd) x.fst) (pc p) (ac l).zipIdx 0 (ac l).size = pc ⟨p.six, l, p.len⟩ := by
  rw [show (ac l).size = (ac l).zipIdx.size by simp, ← Array.foldl_toList, Array.toList_zipIdx]
  rw [fold_sets 1 (ac l).toList 0 (pc p) (by rw [pc_size p h]; simp [ac, hl])]
  unfold pc ac
  refine congrArg _ ?_
  simp only
  simp [hl, h]
theorem set_six (p : Px) (s : Bool) : (pc p).setIfInBounds 0 (.bool s) = pc ⟨s, p.addr, p.len⟩ := by
  simp [pc]
theorem set_len (p : Px) (h : p.addr.length = 16) (n : Int) : (pc p).setIfInBounds 17 (.int .i64 n) = pc ⟨p.six, p.addr, n⟩ := by
  obtain ⟨s, a, m⟩ := p
  obtain ⟨c0, c1, c2, c3, c4, c5, c6, c7, c8, c9, c10, c11, c12, c13, c14, c15, rfl⟩ := list16 a h
  rfl
theorem pc_one (p : Px) : ∀ v ∈ (pc p).toList, v.oneCell' = true := by
  intro v hv
  simp only [pc, List.mem_cons, List.mem_append, List.mem_map] at hv
  rcases hv with rfl | ⟨c, _, rfl⟩ | hv
  · rfl
  · rfl
  · simp at hv
    rw [hv]
    rfl
theorem zeroP_len : zeroP.addr.length = 16 := rfl
/-- A prefix is stored over another. -/
theorem At.store {w : World} {b : Nat} {z : Px} (h : At w b z) (p : Px) (hp : p.addr.length = 16) : (storeCells ⟨b, 0, none⟩ (pc p).toList).run Try.prog w = .ok () (w.setRow b (pc p)) := by
  have hsc := run_storeCells_from (P := Try.prog) b 34 (pc p).toList 0 (pc z) w h.block (by rw [pc_size z h.len]; simp [pc_size p hp]) (pc_one p)
  rw [List.take_zero, List.nil_append, Array.toArray_toList] at hsc
  exact hsc
theorem At.put {w : World} {b : Nat} {z : Px} (h : At w b z) (p : Px) (hp : p.addr.length = 16) : At (w.setRow b (pc p)) b p := ⟨block_row h.block _, hp⟩
theorem makeP_some {s : Bool} {l : List UInt8} {n : Int} {p : Px} (hm : makeP s l n = some p) : l.length = sizeN s ∧ fitsB s n = true ∧ p = ⟨s, cutL (padL l) n.toNat, n⟩ := by
  by_cases h : l.length = sizeN s ∧ fitsB s n = true
  · rw [makeP, if_pos h] at hm
    exact ⟨h.1, h.2, (Option.some.inj hm).symm⟩
  · rw [makeP, if_neg h] at hm
    cases hm
theorem copy_text (w : World) (g : Nat) (l : List UInt8) (hl : l.length ≤ 16) (hg : w.heap[g]? = some (.cells (ac zl) 32 (0, 0))) :
    (Builtin.copy_ #[87, 9] 3 #[.slice (some ⟨g, 0, none⟩) 16 16, .string ⟨l.toArray⟩]).run Try.prog w = .ok (.int .i64 l.length) (w.setRow g (ac (padL l))) := by
  have hs : (⟨l.toArray⟩ : ByteArray).size = l.length := by simp [ByteArray.size]
  have h := Lib.run_copy_row_string (P := Try.prog) w 87 9 3 5 g 0 16 16 ⟨l.toArray⟩ (ac (List.replicate 16 0)) 32 Try.underlying87 info5 hg (by omega) (by rw [ac_size, hs]; simp; omega)
  rw [h, hs]
  have e : ((ac (List.replicate 16 0)).toList.take 0 ++ Lib.byteCells (⟨l.toArray⟩ : ByteArray).data.toList ++ (ac (List.replicate 16 0)).toList.drop (0 + l.length)).toArray = ac (padL l) := by
    unfold ac padL
    refine congrArg _ ?_
    have e2 : List.map bv (List.take 16 (l ++ List.replicate 16 0)) = List.take 16 (List.map bv l ++ List.map bv (List.replicate 16 0)) := by rw [List.map_take, List.map_append]
    have e3 : Lib.byteCells (⟨l.toArray⟩ : ByteArray).data.toList = List.map bv l := rfl
    rw [e2, e3]
    simp only
    have hlen : (List.map bv l).length = l.length := by simp
    generalize List.map bv l = M at *
    rw [List.map_replicate, List.take_zero, List.nil_append, Nat.zero_add, List.drop_replicate, List.take_append, List.take_of_length_le (by omega), hlen, List.take_replicate, Nat.min_eq_left (by omega)]
  rw [e]
  rfl

theorem At.setByte {w : World} {b : Nat} {p : Px} (h : At w b p) (i : Nat) (hi : i < 16) (c : Nat) (hc : c < 256) : At (w.setCell ⟨b, 1 + i, none⟩ (.int .u8 (c : Nat))) b ⟨p.six, p.addr.set i (UInt8.ofNat c), p.len⟩ := by
  refine ⟨?_, by simpa using h.len⟩
  rw [block_set h.block]
  have e : Value.int .u8 (c : Nat) = bv (UInt8.ofNat c) := by unfold bv; rw [UInt8.toNat_ofNat_of_lt' hc]
  have hl := h.len
  rw [e]
  have : (pc p).setIfInBounds (1 + i) (bv (UInt8.ofNat c)) = pc ⟨p.six, p.addr.set i (UInt8.ofNat c), p.len⟩ := by
    unfold pc
    apply Array.ext'
    simp only [Array.toList_setIfInBounds, List.map_set]
    rw [Nat.add_comm, List.set_cons_succ, List.set_append_left _ _ (by simp; omega)]
  rw [this]
theorem At.setOther {w : World} {b : Nat} {p : Px} (h : At w b p) (g i : Nat) (v : Value) (hg : b ≠ g) : At (w.setCell ⟨g, i, none⟩ v) b p := ⟨setCell_old h.block g i v hg, h.len⟩
theorem add_byte (c k : Nat) (h : c + 2 ^ k < 256) : ((c : Int) + 2 ^ k) % 256 = ((c + 2 ^ k : Nat) : Int) := by
  have e : ((2 : Int) ^ k) = ((2 ^ k : Nat) : Int) := by simp
  rw [e]
  generalize (2 ^ k : Nat) = z at *
  omega
def MkRel (w : World) (b : Nat) (s : Bool) (l : List UInt8) (n : Nat) (i : Value) (wr : World) : Prop :=
  ∃ k : Nat, i = .int .i64 k ∧ k ≤ n ∧ At wr b ⟨s, cutL (padL l) k, n⟩ ∧ At wr w.heap.size zeroP ∧ Same w wr

theorem tmod_bit (c k : Nat) : ((c : Int) / 2 ^ k).tmod 2 = ((c / 2 ^ k % 2 : Nat) : Int) := by
  have h : ((c : Int) / 2 ^ k) = ((c / 2 ^ k : Nat) : Int) := by simp
  rw [h]
  generalize c / 2 ^ k = z at *
  rw [Int.tmod_eq_emod_of_nonneg (by omega)]
  omega
theorem pad_bit (l : List UInt8) (i : Nat) (h : i / 8 < l.length) (h2 : l.length ≤ 16) : bitOf (padL l) i = (l[i / 8]'h).toNat / 2 ^ (7 - i % 8) % 2 := by
  unfold bitOf
  rw [padL_get l (i / 8) (by omega), if_pos h]
  simp [h]

set_option maxRecDepth 100000 in
theorem qmake_ok (s : Bool) (l : List UInt8) (n : Int) (p : Px) (hm : makeP s l n = some p) : Gives Try.prog 72 #[.bool s, .string ⟨l.toArray⟩, .int .i64 n] (.tuple #[.agg (pc p), .bool true]) := by
  intro w
  obtain ⟨hz, hi⟩ := zero_of_info info24
  have HM := Lib.hid (most_at s)
  have hle := sizeN_le s
  obtain ⟨h1, h2, hp⟩ := makeP_some hm
  have hp16 : p.addr.length = 16 := by rw [hp]; exact cutL_len _ _
  obtain ⟨m, rfl⟩ : ∃ k : Nat, n = k := ⟨n.toNat, by simp [fitsB] at h2; omega⟩
  have hk : m ≤ 8 * sizeN s := by simp [fitsB] at h2; omega
  obtain ⟨hA, hS⟩ := one_at w zeroP zeroP_len
  obtain ⟨n2, hn2⟩ : ∃ n, n = 18 := ⟨18, rfl⟩
  have hsz2 : ∀ w, (Go.sizeOf 34).run Try.prog w = .ok n2 w := fun w => by rw [hn2]; exact Try.sizeOf34 w
  obtain ⟨n1, hn1⟩ : ∃ n, n = 16 := ⟨16, rfl⟩
  have hsz1 : ∀ w, (Go.sizeOf 32).run Try.prog w = .ok n1 w := fun w => by rw [hn1]; exact Try.sizeOf32 w
  have hn0 : ¬ n1 = 0 := by omega
  have hzs : (pc p).size = n2 := by rw [hn2]; exact pc_size _ hp16
  have HA := Lib.hid hA
  have HS := Lib.hid hS
  have HN2 := Lib.hid hn2
  have HN1 := Lib.hid hn1
  have HP := Lib.hid hp
  clear hA hS hn2 hn1 hi hp
  go_enter Try.func72, Try.ntmps72
  go_wp2_with fail
  refine (HM.out _).mono ?_
  rintro e w1 ⟨rfl, b1⟩
  go_wp2_with fail
  refine (HM.out _).mono ?_
  rintro e w2 ⟨rfl, b2⟩
  have b12 := b1.trans b2
  have z1 : (pc zeroP).size = 18 := pc_size _ rfl
  have f1 := set_six zeroP s
  have f3 := set_len ⟨s, zeroP.addr, zeroP.len⟩ rfl m
  have z2 : (pc ⟨s, zeroP.addr, zeroP.len⟩).size = 18 := pc_size _ rfl
  have hne : pc zeroP ≠ #[] := by intro h; rw [h] at z1; simp at z1
  simp only at f3
  have hA2 : At (w2.alloc (.cells (pc zeroP) 34)) w2.heap.size zeroP := (one_at w2 zeroP rfl).1
  have z4 : (pc ⟨s, zeroP.addr, m⟩).size = n2 := by rw [HN2.out]; exact pc_size _ rfl
  have hst := hA2.store ⟨s, zeroP.addr, m⟩ rfl
  have hlt : w.heap.size ≠ w2.heap.size := by
    have := b12.size
    have h : (w.alloc (.cells (pc zeroP) 34)).heap.size = w.heap.size + 1 := by simp
    omega
  have hge : w.heap.size ≤ w2.heap.size := (HS.out.trans b12).size
  have HA3 := Lib.hid (show At ((w2.alloc (.cells (pc zeroP) 34)).setRow w2.heap.size (pc ⟨s, zeroP.addr, m⟩)) w2.heap.size ⟨s, cutL (padL l) 0, m⟩ by rw [cutL_zero]; exact hA2.put ⟨s, zeroP.addr, m⟩ rfl)
  have HB3 := Lib.hid (show At ((w2.alloc (.cells (pc zeroP) 34)).setRow w2.heap.size (pc ⟨s, zeroP.addr, m⟩)) w.heap.size zeroP from ⟨setRow_old (HA.out.mono (b12.alloc _)).block _ _ hlt, rfl⟩)
  have HS3 := Lib.hid (((HS.out.trans b12).alloc (.cells (pc zeroP) 34)).setRow w2.heap.size (pc ⟨s, zeroP.addr, m⟩) hge)
  clear b1 b2 b12 HA HS
  go_wp2_with fail
  generalize (w2.alloc (.cells (pc zeroP) 34)).setRow w2.heap.size (pc ⟨s, zeroP.addr, m⟩) = w3 at *
  generalize w2.heap.size = b8 at *
  clear hst hA2 f1 f3 z4 z1 z2 hne hz
  go_loopw [9] (fun i wr => MkRel w b8 s l m i wr) (fun i _ => 128 - (intOf i).toNat)
  case atStart => exact ⟨0, rfl, by omega, HA3.out, HB3.out, HS3.out⟩
  case round =>
    obtain ⟨k, rfl, hkm, hA, hB, hsame⟩ := hrel
    have HAr := Lib.hid hA
    have HBr := Lib.hid hB
    have HSr := Lib.hid hsame
    clear hA hB hsame HA3 HB3 HS3
    by_cases hk2 : k < m
    · have hidx : k / 8 < l.length := by omega
      have hi2 : (k : Int) / 8 < (sizeN s : Int) := by omega
      have hb := pad_bit l k hidx (by omega)
      have hge2 : ∀ h, (({ data := l.toArray } : ByteArray)[k / 8]'h) = l[k / 8] := fun _ => rfl
      have hc : (l[k / 8]'hidx).toNat < 256 := UInt8.toNat_lt _
      have Hb := Lib.hid hb
      clear hb
      by_cases h8 : (l[k / 8]'hidx).toNat / 2 ^ (7 - k % 8) % 2 = 1
      · obtain ⟨q1, q2⟩ := cutL_more_next (padL l) k (by omega) (by rw [Hb.out, h8])
        have Hq := Lib.hid q2
        have hcell := HAr.out.byte (k / 8) (by omega)
        have hfree : wr.frozen? ⟨b8, 1 + k / 8, none⟩ = false := by simp [World.frozen?, HAr.out.block]
        simp only at hcell
        clear q2
        generalize ((cutL (padL l) k).getD (k / 8) 0).toNat = c at *
        have h8b : ((((l[k / 8]'hidx).toNat : Int) / 2 ^ (7 - k % 8)).tmod 2 == 1) = true := by
          have : ((((l[k / 8]'hidx).toNat : Int) / 2 ^ (7 - k % 8)).tmod 2) = (((l[k / 8]'hidx).toNat / 2 ^ (7 - k % 8) % 2 : Nat) : Int) := tmod_bit _ _
          rw [this, h8]; rfl
        go_wp2
        go_region
        rw [show ((c : Int) + 2 ^ (7 - k % 8)) % 256 = ((c + 2 ^ (7 - k % 8) : Nat) : Int) from add_byte c (7 - k % 8) q1]
        have GA := Lib.hid (HAr.out.setByte (k / 8) (by omega) _ q1)
        have GB := Lib.hid (HBr.out.setOther b8 (1 + k / 8) (.int .u8 (c + 2 ^ (7 - k % 8) : Nat)) hlt)
        have GS := Lib.hid (HSr.out.setCell b8 (1 + k / 8) (.int .u8 (c + 2 ^ (7 - k % 8) : Nat)) hge)
        simp only at GA
        rw [← Hq.out] at GA
        clear hcell hfree
        generalize wr.setCell ⟨b8, 1 + k / 8, none⟩ (.int .u8 (c + 2 ^ (7 - k % 8) : Nat)) = w9 at *
        go_wp2
        go_roundw
        case rel => exact ⟨k + 1, by go_num, by omega, GA.out.mono (Same.refl w9).drew, GB.out.mono (Same.refl w9).drew, GS.out.drew⟩
        case measure => simp [intOf]; omega
      · have h8b : ((((l[k / 8]'hidx).toNat : Int) / 2 ^ (7 - k % 8)).tmod 2 == 1) = false := by
          have : ((((l[k / 8]'hidx).toNat : Int) / 2 ^ (7 - k % 8)).tmod 2) = (((l[k / 8]'hidx).toNat / 2 ^ (7 - k % 8) % 2 : Nat) : Int) := tmod_bit _ _
          have h9 : (l[k / 8]'hidx).toNat / 2 ^ (7 - k % 8) % 2 = 0 := by omega
          rw [this, h9]; rfl
        have Hq := Lib.hid (cutL_same_next (padL l) k (by omega) (by rw [Hb.out]; omega))
        go_wp2
        go_roundw
        case rel => exact ⟨k + 1, by go_num, by omega, by rw [Hq.out]; exact HAr.out, HBr.out, HSr.out⟩
        case measure => simp [intOf]; omega
    · obtain rfl : k = m := by omega
      have hpe : (⟨s, cutL (padL l) k, (k : Int)⟩ : Px) = p := by rw [HP.out]; rfl
      rw [hpe] at HAr
      have hld := HAr.out.whole HN2.out
      have hst := HBr.out.store p hp16
      have hl2 := (HBr.out.put p hp16).whole HN2.out
      go_wp2
      refine bodyPost_ret (v := .tuple #[.agg (pc p), .bool true]) ?_ rfl ⟨rfl, HSr.out.setRow _ _ (Nat.le_refl _)⟩
      simp [results, Try.results72, go_sem, hsz2, hl2]
end Go.Proofs.Ytfikdeobejhblaa

/- Proved: frames of memory: nothing that was there has turned (Keep); nothing but one block of it may have turned (Only); a region that draws its order, whose calls keep what was there. No condition. -/
namespace Go.Proofs.Ytfikdeobejhblaa
open Go.RowKit

/-- Nothing that was there has turned. -/
def Keep (w w' : World) : Prop := Below w.heap.size w w'
theorem Same.keep {w w' : World} (h : Same w w') : Keep w w' := h.toBelow
theorem Keep.refl (w : World) : Keep w w := Below.refl _ _
theorem Keep.size {w w' : World} (h : Keep w w') : w.heap.size ≤ w'.heap.size := Below.size h
theorem Keep.block {w w' : World} (h : Keep w w') (k : Nat) (hk : k < w.heap.size) : w'.heap[k]? = w.heap[k]? := Below.block h k hk
theorem Keep.drew {w w' : World} (h : Keep w w') : Keep w w'.drew := Below.drew h
theorem Keep.drewN {w w' : World} (h : Keep w w') (n : Nat) : Keep w (w'.drewN n) := ⟨h.1, h.2, h.3, h.4, h.5⟩
theorem Keep.trans {u v w : World} (h : Keep u v) (k : Keep v w) : Keep u w :=
  Below.trans h ⟨k.1, k.2, k.3, k.4, fun i hi => k.5 i (Nat.lt_of_lt_of_le hi h.4)⟩
theorem Keep.alloc {w w' : World} (h : Keep w w') (o : Obj) : Keep w (w'.alloc o) := Below.alloc h h.size o
theorem Keep.setCell {w w' : World} (h : Keep w w') (b i : Nat) (v : Value) (hb : w.heap.size ≤ b) : Keep w (w'.setCell ⟨b, i, none⟩ v) :=
  ⟨h.1, h.2, h.3, by have := h.size; simpa [World.setCell] using this, fun k hk => (Below.heap_setCell _ _ _ _ (by show k ≠ b; omega)).trans (h.block k hk)⟩
theorem Keep.setRow {w w' : World} (h : Keep w w') (b : Nat) (c : Array Value) (hb : w.heap.size ≤ b) : Keep w (w'.setRow b c) :=
  ⟨h.1, h.2, h.3, by have := h.size; simpa [World.setRow] using this, fun k hk => by
    rw [← h.block k hk]
    simp only [World.setRow, Array.getElem?_modify]
    rw [if_neg (by omega)]⟩
theorem block_lt {w : World} {b : Nat} {o : Obj} (h : w.heap[b]? = some o) : b < w.heap.size := by
  rcases Nat.lt_or_ge b w.heap.size with h1 | h1
  · exact h1
  · rw [Array.getElem?_eq_none h1] at h
    cases h
theorem Keep.obj {w w' : World} {b : Nat} (k : Keep w w') {o : Obj} (h : w.heap[b]? = some o) : w'.heap[b]? = some o := (k.block b (block_lt h)).trans h
theorem Keep.grown {w v w' : World} {row : Option Nat} (h : Keep w v) (hg : v.grownBy w' row) (hrow : ∀ k, row = some k → w.heap.size ≤ k) : Keep w w' :=
  ⟨hg.os.trans h.1, hg.tape.trans h.2, hg.output.trans h.3, Nat.le_trans h.size hg.size, fun k hk => (hg.block k (Nat.lt_of_lt_of_le hk h.size) (fun e => by have := hrow k e.symm; omega)).trans (h.block k hk)⟩

/-- What a call answers: whatever memory is, and it turns nothing that was there. -/
def GivesK (P : Program) (f : FuncId) (args : Array Value) (v : Value) : Prop := ∀ w, Calls P f args w fun e w' => e = .returned v ∧ Keep w w'
theorem Gives.keep {P : Program} {f : FuncId} {args : Array Value} {v : Value} (h : Gives P f args v) : GivesK P f args v := fun w => (h w).mono fun _ _ ⟨a, b⟩ => ⟨a, b.keep⟩
/-- The worlds in which nothing that was there has turned. -/
def KW (w : World) : Type := { w' : World // Keep w w' }
instance (w : World) : Nonempty (KW w) := ⟨⟨w, Keep.refl w⟩⟩
theorem KW.block {w : World} {b : Nat} (u : KW w) {o : Obj} (h : w.heap[b]? = some o) : u.1.heap[b]? = some o := u.2.obj h
theorem GivesK.at {P : Program} {f : FuncId} {args : Array Value} {v : Value} (h : GivesK P f args v) {w0 : World} (u : KW w0) : Calls P f args u.1 fun e w'' => e = .returned v ∧ ∃ m : KW w0, w'' = m.1 :=
  (h u.1).mono fun _ w' ⟨he, hb⟩ => ⟨he, ⟨w', u.2.trans hb⟩, rfl⟩
/-- A call that needs what was there. -/
theorem keep_at {P : Program} {f : FuncId} {args : Array Value} {v : Value} {w0 : World} (h : ∀ w, Keep w0 w → Calls P f args w fun e w' => e = .returned v ∧ Keep w w') (u : KW w0) : Calls P f args u.1 fun e w'' => e = .returned v ∧ ∃ m : KW w0, w'' = m.1 :=
  (h u.1 u.2).mono fun _ w' ⟨he, hb⟩ => ⟨he, ⟨w', u.2.trans hb⟩, rfl⟩

theorem wp_region_keep {P : Program} {id : Nat} {Q : Exit → Act → World → Prop} {a : Act} {w0 w : World} {l : List Oper} (hw : Keep w0 w) (hm : P.follows .mixedOrders = true) (hB : Region.lexB .any l.toArray = true)
    (h : wpQuiet P l.toArray (fun w' => ∃ u : KW w0, w' = u.1) (fun a' => ∀ w', (∃ u : KW w0, w' = u.1) → Q .normal a' w') l a) : (Code.region id l.toArray true).wp P Q a w :=
  wp_region_quiet (C := fun w' => ∃ u : KW w0, w' = u.1) hm hB ⟨⟨w.drew, hw.drew⟩, rfl⟩ (by simpa using h)

/-- Nothing but block b, of what was there, may have turned. -/
structure Only (b : Nat) (w w' : World) : Prop where
  os : w'.os = w.os
  tape : w'.tape = w.tape
  output : w'.output = w.output
  size : w.heap.size ≤ w'.heap.size
  block : ∀ k, k < w.heap.size → k ≠ b → w'.heap[k]? = w.heap[k]?
theorem Only.refl (b : Nat) (w : World) : Only b w w := ⟨rfl, rfl, rfl, Nat.le_refl _, fun _ _ _ => rfl⟩
theorem Only.trans {b : Nat} {u v w : World} (h : Only b u v) (k : Only b v w) : Only b u w :=
  ⟨k.os.trans h.os, k.tape.trans h.tape, k.output.trans h.output, Nat.le_trans h.size k.size, fun i hi hb => (k.block i (Nat.lt_of_lt_of_le hi h.size) hb).trans (h.block i hi hb)⟩
theorem Only.setCell (b o : Nat) (w : World) (v : Value) : Only b w (w.setCell ⟨b, o, none⟩ v) :=
  ⟨rfl, rfl, rfl, by simp [World.setCell], fun k _ hb => Below.heap_setCell _ _ _ _ hb⟩
theorem Only.keep {b : Nat} {w w' : World} (k : Keep w w') : Only b w w' := ⟨k.1, k.2, k.3, k.4, fun i hi _ => k.5 i hi⟩
/-- What is done to a block that wasn't there. -/
theorem Only.made {b : Nat} {u v w : World} (h : Keep u v) (k : Only b v w) (hb : u.heap.size ≤ b) : Keep u w :=
  ⟨k.os.trans h.1, k.tape.trans h.2, k.output.trans h.3, Nat.le_trans h.size k.size, fun i hi => (k.block i (Nat.lt_of_lt_of_le hi h.size) (by omega)).trans (h.block i hi)⟩
theorem Only.obj {b g : Nat} {w w' : World} (k : Only b w w') {o : Obj} (h : w.heap[g]? = some o) (hg : g ≠ b) : w'.heap[g]? = some o := (k.block g (block_lt h) hg).trans h
end Go.Proofs.Ytfikdeobejhblaa
