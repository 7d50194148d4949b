/- Plain mathematics of the varint layer, more: bytes that are cut off are not read; unlike numbers have unlike bytes. No condition but that numbers fit in 64 bits. -/
import Derived.Test.YtppfejkkfgjikaaP
namespace Go.Proofs.Ytppfejkkfgjikaa.V

theorem uintL_cut (f : Nat) : ∀ (k n m j : Nat), f + k = 10 → 0 < f → n < 2 ^ (64 - 7 * k) → j < (enc n).length → uintL f k m ((enc n).take j) 0 = (0, [], 3) := by
  induction f with
  | zero => intro k n m j _ h; omega
  | succ f ih =>
    intro k n m j hk _ hn hj
    cases j with
    | zero => rw [List.take_zero, uintL_nil]
    | succ j =>
      by_cases h : n < 128
      · rw [enc_lt n h] at hj; simp at hj
      · rw [enc_ge n h] at hj ⊢
        have e1 : (UInt8.ofNat (n % 128 + 128)).toNat = n % 128 + 128 := toNat_ofNat _ (by omega)
        have hk9 : k ≠ 9 := by rintro rfl; simp at hn; omega
        rw [List.take_succ_cons, uintL_cons, e1, if_neg ?_, if_neg (by omega)]
        · refine ih (k + 1) (n / 128) _ j (by omega) (by omega) ?_ (by simpa using hj)
          rw [Nat.div_lt_iff_lt_mul (by omega)]
          have : 2 ^ (64 - 7 * k) = 2 ^ (64 - 7 * (k + 1)) * 128 := by rw [show 64 - 7 * k = (64 - 7 * (k + 1)) + 7 from by omega, Nat.pow_add]
          omega
        · rintro (⟨a, b⟩ | ⟨a, b⟩)
          · omega
          · exact hk9 a

theorem uintF_cut (n j : Nat) (h : n < 2 ^ 64) (hj : j < (enc n).length) : uintF ((enc n).take j) 0 = (0, [], 3) :=
  uintL_cut 10 0 n 0 j rfl (by omega) (by simpa using h) hj

theorem textF_err (l : List UInt8) (x most : Int) (h : x ≠ 0) : textF l x most = ([], l, x) := by
  unfold textF; rw [uintF_err l x h, if_pos h]

/-- A text that is cut off. -/
theorem textF_cut (s : List UInt8) (j : Nat) (most : Int) (hs : (s.length : Int) ≤ most) (hl : s.length < 2 ^ 64) (hj : j < (enc s.length ++ s).length) : (textF ((enc s.length ++ s).take j) 0 most).2.2 = 3 := by
  unfold textF
  by_cases h : j < (enc s.length).length
  · rw [List.take_append_of_le_length (by omega), uintF_cut _ _ hl h, if_pos (by decide)]
  · have e : (enc s.length ++ s).take j = enc s.length ++ s.take (j - (enc s.length).length) := by
      rw [List.take_append, List.take_of_length_le (by omega)]
    rw [e, uintF_enc _ _ hl, if_neg (by simp), if_neg (by dsimp only; omega)]
    rw [List.length_append] at hj
    unfold rawF
    dsimp only
    rw [if_neg (by simp), if_neg (by omega), if_pos (by rw [List.length_take]; omega)]

/-- A number and a text, cut off anywhere. -/
theorem both_cut (n : Nat) (s : List UInt8) (j : Nat) (hn : n < 2 ^ 64) (hs : s.length ≤ 500) (hj : j < (enc n ++ (enc s.length ++ s)).length) :
    (textF (uintF ((enc n ++ (enc s.length ++ s)).take j) 0).2.1 (uintF ((enc n ++ (enc s.length ++ s)).take j) 0).2.2 1000).2.2 = 3 := by
  by_cases h : j < (enc n).length
  · rw [List.take_append_of_le_length (by omega), uintF_cut _ _ hn h, textF_err _ _ _ (by decide)]
  · have e : (enc n ++ (enc s.length ++ s)).take j = enc n ++ (enc s.length ++ s).take (j - (enc n).length) := by
      rw [List.take_append, List.take_of_length_le (by omega)]
    rw [e, uintF_enc _ _ hn]
    rw [List.length_append] at hj
    exact textF_cut s _ 1000 (by omega) (by omega) (by omega)

/-- Of two numbers neither's bytes begin with the other's. -/
theorem enc_prefix (a : Nat) : ∀ b r t, enc a ++ r = enc b ++ t → a = b := by
  induction a using Nat.strongRecOn with
  | ind a ih =>
    intro b r t h
    by_cases ha : a < 128 <;> by_cases hb : b < 128
    · rw [enc_lt a ha, enc_lt b hb, List.cons_append, List.cons_append] at h
      have h1 := congrArg UInt8.toNat (List.cons.inj h).1
      rw [toNat_ofNat a (by omega), toNat_ofNat b (by omega)] at h1
      exact h1
    · rw [enc_lt a ha, enc_ge b hb, List.cons_append, List.cons_append] at h
      have h1 := congrArg UInt8.toNat (List.cons.inj h).1
      rw [toNat_ofNat a (by omega), toNat_ofNat _ (by omega)] at h1
      omega
    · rw [enc_ge a ha, enc_lt b hb, List.cons_append, List.cons_append] at h
      have h1 := congrArg UInt8.toNat (List.cons.inj h).1
      rw [toNat_ofNat _ (by omega), toNat_ofNat b (by omega)] at h1
      omega
    · rw [enc_ge a ha, enc_ge b hb, List.cons_append, List.cons_append] at h
      have h1 := congrArg UInt8.toNat (List.cons.inj h).1
      rw [toNat_ofNat _ (by omega), toNat_ofNat _ (by omega)] at h1
      have h2 := ih (a / 128) (by omega) (b / 128) r t (List.cons.inj h).2
      omega

theorem enc_inj (a b : Nat) (h : enc a = enc b) : a = b := enc_prefix a b [] [] (by rw [h])

theorem enc_take (a b : Nat) (h : a ≠ b) : (enc a).take (min (enc a).length (enc b).length) ≠ (enc b).take (min (enc a).length (enc b).length) := by
  intro e
  rcases Nat.le_total (enc a).length (enc b).length with hl | hl
  · rw [Nat.min_eq_left hl, List.take_length] at e
    exact h (enc_prefix a b ((enc b).drop (enc a).length) [] ((congrArg (· ++ (enc b).drop (enc a).length) e).trans ((List.take_append_drop _ _).trans (List.append_nil _).symm)))
  · rw [Nat.min_eq_right hl, List.take_length] at e
    exact h (enc_prefix a b [] ((enc a).drop (enc b).length) ((List.append_nil _).trans ((List.take_append_drop _ _).symm.trans (congrArg (· ++ (enc a).drop (enc b).length) e))))

end Go.Proofs.Ytppfejkkfgjikaa.V
