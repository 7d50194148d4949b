/- Proved: plain mathematics of addresses' bits, with no program in it: an address's first bits. No condition but lengths. -/
namespace Go.Proofs.Ytgocmolebanflaa

def bitOf (l : List UInt8) (i : Nat) : Nat := (l.getD (i / 8) 0).toNat / 2 ^ (7 - i % 8) % 2
def needN (n : Nat) : Nat := (n + 7) / 8

theorem div_test (x i : Nat) : x / 2 ^ i % 2 = (x.testBit i).toNat := by
  rw [Nat.testBit_eq_decide_div_mod_eq]
  have : x / 2 ^ i % 2 < 2 := Nat.mod_lt _ (by omega)
  generalize x / 2 ^ i % 2 = z at *
  by_cases h : z = 1
  · simp [h]
  · simp [h]; omega
theorem mask_bit : ∀ r : Fin 8, ∀ j : Fin 8, (255 - 255 / 2 ^ r.val).testBit (7 - j.val) = decide (j.val < r.val) := by decide
theorem and_bit (c r j : Nat) (hr : r < 8) (hj : j < 8) : (c &&& (255 - 255 / 2 ^ r)) / 2 ^ (7 - j) % 2 = if j < r then c / 2 ^ (7 - j) % 2 else 0 := by
  rw [div_test, div_test, Nat.testBit_and, mask_bit ⟨r, hr⟩ ⟨j, hj⟩]
  by_cases h : j < r <;> simp [h]
theorem byte_ext (c d : UInt8) (h : ∀ j, j < 8 → c.toNat / 2 ^ (7 - j) % 2 = d.toNat / 2 ^ (7 - j) % 2) : c = d := by
  apply UInt8.toNat_inj.1
  apply Nat.eq_of_testBit_eq
  intro i
  by_cases hi : i < 8
  · have := h (7 - i) (by omega)
    rw [show 7 - (7 - i) = i by omega, div_test, div_test] at this
    cases h1 : c.toNat.testBit i <;> cases h2 : d.toNat.testBit i <;> simp_all
  · have hp : 2 ^ 8 ≤ 2 ^ i := Nat.pow_le_pow_right (by omega) (by omega)
    rw [Nat.testBit_lt_two_pow (Nat.lt_of_lt_of_le c.toNat_lt hp), Nat.testBit_lt_two_pow (Nat.lt_of_lt_of_le d.toNat_lt hp)]
theorem bits_ext (l m : List UInt8) (hl : l.length = 16) (hm : m.length = 16) (h : ∀ j, j < 128 → bitOf l j = bitOf m j) : l = m := by
  apply List.ext_getElem (by omega)
  intro i h1 h2
  apply byte_ext
  intro j hj
  have := h (8 * i + j) (by omega)
  unfold bitOf at this
  rw [show (8 * i + j) / 8 = i by omega, show (8 * i + j) % 8 = j by omega] at this
  simpa [h1, h2] using this
theorem bit_lt (l : List UInt8) (i : Nat) : bitOf l i < 2 := Nat.mod_lt _ (by omega)

/-- Some first bytes, noughts behind them. -/
def padL (l : List UInt8) : List UInt8 := (l ++ List.replicate 16 0).take 16
theorem padL_len (l : List UInt8) : (padL l).length = 16 := by simp [padL]
theorem padL_get (l : List UInt8) (i : Nat) (hi : i < 16) : (padL l).getD i 0 = if i < l.length then l.getD i 0 else 0 := by
  simp only [padL, List.getD_eq_getElem?_getD, List.getElem?_take, List.getElem?_append, List.getElem?_replicate]
  by_cases h : i < l.length
  · simp [h, hi]
  · simp [h, hi, show i - l.length < 16 by omega]

def cutL (l : List UInt8) (k : Nat) : List UInt8 :=
  if 0 < k % 8 then (padL (l.take (needN k))).set (k / 8) (UInt8.ofNat (((padL (l.take (needN k))).getD (k / 8) 0).toNat &&& (255 - 255 / 2 ^ (k % 8)))) else padL (l.take (needN k))
theorem cutL_len (l : List UInt8) (k : Nat) : (cutL l k).length = 16 := by
  unfold cutL
  split <;> simp [padL_len]
theorem take_get (l : List UInt8) (n i : Nat) : (if i < (l.take n).length then (l.take n).getD i 0 else 0) = if i < n then l.getD i 0 else 0 := by
  by_cases h1 : i < n
  · by_cases h2 : i < l.length
    · simp [h1, h2]
      omega
    · simp [h1, h2]
  · simp [h1]
    omega
theorem cutL_byte (l : List UInt8) (k i : Nat) (_hk : k ≤ 128) (hi : i < 16) : ((cutL l k).getD i 0).toNat = if i < k / 8 then (l.getD i 0).toNat else if i = k / 8 then (l.getD i 0).toNat &&& (255 - 255 / 2 ^ (k % 8)) else 0 := by
  have hlt : ∀ (c : UInt8) (m : Nat), c.toNat &&& m < 256 := fun c m => Nat.lt_of_le_of_lt Nat.and_le_left c.toNat_lt
  have hpad := padL_get (l.take (needN k)) i hi
  have hpl := padL_len (l.take (needN k))
  rw [take_get] at hpad
  unfold cutL
  by_cases h : 0 < k % 8
  · rw [if_pos h]
    have hn : needN k = k / 8 + 1 := by unfold needN; omega
    by_cases hik : i = k / 8
    · subst hik
      have : k / 8 < (padL (l.take (needN k))).length := by omega
      simp only [List.getD_eq_getElem?_getD, List.getElem?_set, this, if_true, Option.getD_some, Nat.lt_irrefl, if_false]
      rw [UInt8.toNat_ofNat_of_lt' (hlt _ _), ← List.getD_eq_getElem?_getD, hpad, if_pos (by omega), List.getD_eq_getElem?_getD]
    · simp only [List.getD_eq_getElem?_getD, List.getElem?_set, Ne.symm hik, if_false, hik]
      rw [← List.getD_eq_getElem?_getD, hpad]
      by_cases h3 : i < k / 8
      · rw [if_pos (by omega), if_pos h3, List.getD_eq_getElem?_getD]
      · rw [if_neg (by omega), if_neg h3]; rfl
  · rw [if_neg h, hpad]
    have hn : needN k = k / 8 := by unfold needN; omega
    have h0 : k % 8 = 0 := by omega
    rw [hn, h0]
    by_cases h3 : i < k / 8
    · simp [h3]
    · simp [h3]
theorem cutL_bit (l : List UInt8) (k j : Nat) (hk : k ≤ 128) (hj : j < 128) : bitOf (cutL l k) j = if j < k then bitOf l j else 0 := by
  unfold bitOf
  rw [cutL_byte l k (j / 8) hk (by omega)]
  by_cases h1 : j / 8 < k / 8
  · rw [if_pos h1, if_pos (by omega)]
  · rw [if_neg h1]
    by_cases h2 : j / 8 = k / 8
    · rw [if_pos h2, and_bit _ _ _ (by omega) (by omega)]
      by_cases h3 : j % 8 < k % 8
      · rw [if_pos h3, if_pos (by omega)]
      · rw [if_neg h3, if_neg (by omega)]
    · rw [if_neg h2, if_neg (by omega)]
      simp
def tailZ (l : List UInt8) (a : Nat) : Prop := ∀ j, a ≤ j → j < 128 → bitOf l j = 0
instance (l : List UInt8) (a : Nat) : Decidable (tailZ l a) := decidable_of_iff (∀ j, j < 128 → a ≤ j → bitOf l j = 0) ⟨fun h j a b => h j b a, fun h j a b => h j b a⟩
theorem cutL_same (l : List UInt8) (k : Nat) (hl : l.length = 16) (hk : k ≤ 128) : cutL l k = l ↔ tailZ l k := by
  constructor
  · intro h j h1 h2
    have := cutL_bit l k j hk h2
    rw [h, if_neg (by omega)] at this
    exact this
  · intro h
    refine bits_ext _ _ (cutL_len l k) hl fun j hj => ?_
    rw [cutL_bit l k j hk hj]
    by_cases h1 : j < k
    · rw [if_pos h1]
    · rw [if_neg h1, h j (by omega) hj]
theorem cutL_tail (l : List UInt8) (k : Nat) (hk : k ≤ 128) : tailZ (cutL l k) k := by
  intro j h1 h2
  rw [cutL_bit l k j hk h2, if_neg (by omega)]
theorem and_step : ∀ c : Fin 256, ∀ r : Fin 8, (c.val &&& (255 - 255 / 2 ^ (r.val + 1))) = (c.val &&& (255 - 255 / 2 ^ r.val)) + c.val / 2 ^ (7 - r.val) % 2 * 2 ^ (7 - r.val) := by decide +kernel
theorem cutL_next (l : List UInt8) (i j : Nat) (hi : i < 128) (hj : j < 16) : ((cutL l (i + 1)).getD j 0).toNat = if j = i / 8 then ((cutL l i).getD j 0).toNat + bitOf l i * 2 ^ (7 - i % 8) else ((cutL l i).getD j 0).toNat := by
  rw [cutL_byte l (i + 1) j (by omega) hj, cutL_byte l i j (by omega) hj]
  by_cases h : j = i / 8
  · have hs := and_step ⟨(l.getD j 0).toNat, UInt8.toNat_lt _⟩ ⟨i % 8, by omega⟩
    simp only at hs
    have hr : (if j < i / 8 then (l.getD j 0).toNat else if j = i / 8 then (l.getD j 0).toNat &&& (255 - 255 / 2 ^ (i % 8)) else 0) = (l.getD j 0).toNat &&& (255 - 255 / 2 ^ (i % 8)) := by rw [if_neg (by omega), if_pos h]
    rw [if_pos h, hr, show bitOf l i = (l.getD j 0).toNat / 2 ^ (7 - i % 8) % 2 by unfold bitOf; rw [h], ← hs]
    by_cases h7 : i % 8 = 7
    · rw [if_pos (by omega), h7]
      have : (l.getD j 0).toNat &&& 255 = (l.getD j 0).toNat := by
        rw [show 255 = 2 ^ 8 - 1 by rfl, Nat.and_two_pow_sub_one_eq_mod]
        exact Nat.mod_eq_of_lt (UInt8.toNat_lt _)
      exact this.symm
    · rw [if_neg (by omega), if_pos (by omega), show (i + 1) % 8 = i % 8 + 1 by omega]
  · rw [if_neg h (c := j = i / 8) (t := _ + _)]
    by_cases h2 : j < i / 8
    · rw [if_pos h2, if_pos (by omega)]
    · rw [if_neg h2]
      by_cases h3 : j < (i + 1) / 8
      · omega
      · rw [if_neg h3]
        by_cases h4 : j = (i + 1) / 8
        · rw [if_pos h4, show (i + 1) % 8 = 0 by omega]
          simp [h]
        · rw [if_neg h4]
          simp [h]
theorem cutL_same_next (l : List UInt8) (i : Nat) (hi : i < 128) (h : bitOf l i = 0) : cutL l (i + 1) = cutL l i := by
  refine bits_ext _ _ (cutL_len _ _) (cutL_len _ _) fun j hj => ?_
  rw [cutL_bit l (i + 1) j (by omega) hj, cutL_bit l i j (by omega) hj]
  by_cases h1 : j < i
  · rw [if_pos h1, if_pos (by omega)]
  · rw [if_neg h1]
    by_cases h2 : j = i
    · subst h2
      rw [if_pos (by omega), h]
    · rw [if_neg (by omega)]
theorem cutL_more_next (l : List UInt8) (i : Nat) (hi : i < 128) (h : bitOf l i = 1) : ((cutL l i).getD (i / 8) 0).toNat + 2 ^ (7 - i % 8) < 256 ∧ cutL l (i + 1) = (cutL l i).set (i / 8) (UInt8.ofNat (((cutL l i).getD (i / 8) 0).toNat + 2 ^ (7 - i % 8))) := by
  have h1 := cutL_next l i (i / 8) hi (by omega)
  rw [if_pos rfl, h, Nat.one_mul] at h1
  have hlt : ((cutL l i).getD (i / 8) 0).toNat + 2 ^ (7 - i % 8) < 256 := by rw [← h1]; exact UInt8.toNat_lt _
  refine ⟨hlt, ?_⟩
  have l1 := cutL_len l (i + 1)
  have l2 := cutL_len l i
  apply List.ext_getElem (by rw [List.length_set]; omega)
  intro j h2 h3
  have hj : j < 16 := by omega
  have h4 := cutL_next l i j hi hj
  rw [List.getElem_set]
  apply UInt8.toNat_inj.1
  by_cases e : i / 8 = j
  · subst e
    rw [if_pos rfl, UInt8.toNat_ofNat_of_lt' hlt, ← h1]
    simp [show i / 8 < (cutL l (i + 1)).length by omega]
  · rw [if_neg e]
    rw [if_neg (by omega)] at h4
    simpa [show j < (cutL l (i + 1)).length by omega, show j < (cutL l i).length by omega] using h4
theorem cutL_zero (l : List UInt8) : cutL l 0 = List.replicate 16 0 := by
  refine bits_ext _ _ (cutL_len _ _) (by simp) fun j hj => ?_
  rw [cutL_bit l 0 j (by omega) hj, if_neg (by omega)]
  unfold bitOf
  have : (List.replicate 16 (0 : UInt8)).getD (j / 8) 0 = 0 := by
    rw [List.getD_eq_getElem?_getD, List.getElem?_replicate]
    split <;> rfl
  rw [this]
  simp
end Go.Proofs.Ytgocmolebanflaa
