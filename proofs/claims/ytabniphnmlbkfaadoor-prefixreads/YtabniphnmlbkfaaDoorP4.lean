/- Proved: plain mathematics of prefixes' texts: unlike ones have unlike texts. No condition but lengths. -/
import Derived.Test.YtabniphnmlbkfaaDoorP2
import Derived.Lib.ItoaNum
import Derived.Lib.Join
namespace Go.Proofs.YtabniphnmlbkfaaDoor

def dec (n : Nat) : List UInt8 := Lib.decDigits n
def val (l : List UInt8) : Nat := l.foldl (fun v c => 10 * v + (c.toNat - 48)) 0
theorem val_app (l : List UInt8) (c : UInt8) : val (l ++ [c]) = 10 * val l + (c.toNat - 48) := by simp [val]
theorem dig_val (d : Nat) (h : d < 10) : (UInt8.ofNat (48 + d)).toNat = 48 + d := UInt8.toNat_ofNat_of_lt' (by simp [UInt8.size]; omega)
theorem val_dec (n : Nat) : val (dec n) = n := by
  induction n using Nat.strongRecOn with
  | ind n ih =>
    unfold dec
    rw [Lib.decDigits]
    by_cases h : n < 10
    · rw [dif_pos h]
      show val ([] ++ [_]) = n
      rw [val_app, dig_val n h]
      simp [val]
    · rw [dif_neg h, val_app, dig_val _ (by omega)]
      have := ih (n / 10) (by omega)
      unfold dec at this
      rw [this]
      omega
theorem dec_inj (m n : Nat) (h : dec m = dec n) : m = n := by rw [← val_dec m, h, val_dec]
theorem dec_digit (n : Nat) : ∀ c ∈ dec n, 48 ≤ c.toNat ∧ c.toNat ≤ 57 := by
  induction n using Nat.strongRecOn with
  | ind n ih =>
    unfold dec
    rw [Lib.decDigits]
    intro c hc
    by_cases h : n < 10
    · rw [dif_pos h] at hc
      simp only [List.mem_singleton] at hc
      rw [hc, dig_val n h]
      omega
    · rw [dif_neg h] at hc
      simp only [List.mem_append, List.mem_singleton] at hc
      rcases hc with hc | hc
      · exact ih (n / 10) (by omega) c hc
      · rw [hc, dig_val _ (by omega)]
        omega
theorem dec_not (n : Nat) (s : UInt8) (hs : s.toNat < 48 ∨ 57 < s.toNat) : s ∉ dec n := by
  intro h
  have := dec_digit n s h
  omega
theorem dec_len : ∀ n : Nat, n ≤ 255 → (dec n).length ≤ 3 := by
  intro n hn
  unfold dec
  rw [Lib.decDigits]
  by_cases h : n < 10
  · rw [dif_pos h]; simp
  · rw [dif_neg h, Lib.decDigits]
    by_cases h2 : n / 10 < 10
    · rw [dif_pos h2]; simp
    · rw [dif_neg h2, Lib.decDigits, dif_pos (by omega)]; simp

theorem sep_inj (s : UInt8) : ∀ a b x y : List UInt8, s ∉ a → s ∉ b → a ++ s :: x = b ++ s :: y → a = b ∧ x = y
  | [], [], x, y, _, _, h => by simpa using h
  | [], c :: b, x, y, _, hb, h => by
    simp at h
    exact absurd h.1 (by intro e; exact hb (by simp [e]))
  | c :: a, [], x, y, ha, _, h => by
    simp at h
    exact absurd h.1 (by intro e; exact ha (by simp [e]))
  | c :: a, d :: b, x, y, ha, hb, h => by
    simp at h
    obtain ⟨h1, h2⟩ := h
    have := sep_inj s a b x y (by intro e; exact ha (by simp [e])) (by intro e; exact hb (by simp [e])) h2
    rw [h1, this.1, this.2]
    simp

def hx : List UInt8 := [48, 49, 50, 51, 52, 53, 54, 55, 56, 57, 97, 98, 99, 100, 101, 102]
def hexD (d : Nat) : UInt8 := hx.getD d 0
theorem hexD_inj : ∀ a b : Fin 16, hexD a.val = hexD b.val → a = b := by decide
theorem hexD_not : ∀ a : Fin 16, hexD a.val ≠ 47 ∧ hexD a.val ≠ 58 := by decide
def four (l : List UInt8) (n : Nat) : List UInt8 := (List.range n).flatMap fun j => (if 0 < j then [46] else []) ++ dec (l.getD j 0).toNat
def sixth (l : List UInt8) (n : Nat) : List UInt8 := (List.range n).flatMap fun j => (if 0 < j ∧ j % 2 = 0 then [58] else []) ++ [hexD ((l.getD j 0).toNat / 16), hexD ((l.getD j 0).toNat % 16)]
theorem four_succ (l : List UInt8) (n : Nat) : four l (n + 1) = four l n ++ ((if 0 < n then [46] else []) ++ dec (l.getD n 0).toNat) := by
  simp [four, List.range_succ]
theorem sixth_succ (l : List UInt8) (n : Nat) : sixth l (n + 1) = sixth l n ++ ((if 0 < n ∧ n % 2 = 0 then [58] else []) ++ [hexD ((l.getD n 0).toNat / 16), hexD ((l.getD n 0).toNat % 16)]) := by
  simp [sixth, List.range_succ]
theorem four_join (l : List UInt8) : four l 4 = Lib.join [dec (l.getD 0 0).toNat, dec (l.getD 1 0).toNat, dec (l.getD 2 0).toNat, dec (l.getD 3 0).toNat] [46] := by
  simp [four, List.range_succ, Lib.join, List.intercalate, List.intersperse]
theorem four_form (l : List UInt8) : four l 4 = dec (l.getD 0 0).toNat ++ 46 :: (dec (l.getD 1 0).toNat ++ 46 :: (dec (l.getD 2 0).toNat ++ 46 :: dec (l.getD 3 0).toNat)) := by
  simp [four, List.range_succ]
theorem four_inj (l m : List UInt8) (h : four l 4 = four m 4) : ∀ j, j < 4 → l.getD j 0 = m.getD j 0 := by
  rw [four_form, four_form] at h
  have hn : ∀ c : UInt8, (46 : UInt8) ∉ dec c.toNat := fun c => dec_not _ _ (by decide)
  obtain ⟨h0, h⟩ := sep_inj 46 _ _ _ _ (hn _) (hn _) h
  obtain ⟨h1, h⟩ := sep_inj 46 _ _ _ _ (hn _) (hn _) h
  obtain ⟨h2, h3⟩ := sep_inj 46 _ _ _ _ (hn _) (hn _) h
  intro j hj
  have : j = 0 ∨ j = 1 ∨ j = 2 ∨ j = 3 := by omega
  rcases this with rfl | rfl | rfl | rfl
  · exact UInt8.toNat_inj.1 (dec_inj _ _ h0)
  · exact UInt8.toNat_inj.1 (dec_inj _ _ h1)
  · exact UInt8.toNat_inj.1 (dec_inj _ _ h2)
  · exact UInt8.toNat_inj.1 (dec_inj _ _ h3)
theorem sixth_len (l m : List UInt8) (n : Nat) : (sixth l n).length = (sixth m n).length := by
  induction n with
  | zero => rfl
  | succ n ih => rw [sixth_succ, sixth_succ]; simp [ih]
theorem sixth_inj (l m : List UInt8) : ∀ n, sixth l n = sixth m n → ∀ j, j < n → l.getD j 0 = m.getD j 0
  | 0, _, j, hj => by omega
  | n + 1, h, j, hj => by
    rw [sixth_succ, sixth_succ] at h
    obtain ⟨h1, h2⟩ := List.append_inj h (sixth_len l m n)
    by_cases hjn : j < n
    · exact sixth_inj l m n h1 j hjn
    · obtain rfl : j = n := by omega
      have h3 := (List.append_inj h2 rfl).2
      simp only [List.cons.injEq, and_true] at h3
      have hl := (l.getD j 0).toNat_lt
      have hm := (m.getD j 0).toNat_lt
      have e1 := hexD_inj ⟨(l.getD j 0).toNat / 16, by omega⟩ ⟨(m.getD j 0).toNat / 16, by omega⟩ h3.1
      have e2 := hexD_inj ⟨(l.getD j 0).toNat % 16, by omega⟩ ⟨(m.getD j 0).toNat % 16, by omega⟩ h3.2
      simp only [Fin.mk.injEq] at e1 e2
      apply UInt8.toNat_inj.1
      omega
theorem sixth_not (l : List UInt8) (n : Nat) : (47 : UInt8) ∉ sixth l n := by
  induction n with
  | zero => simp [sixth]
  | succ n ih =>
    have h := (l.getD n 0).toNat_lt
    have h1 := (hexD_not ⟨(l.getD n 0).toNat / 16, by omega⟩).1
    have h2 := (hexD_not ⟨(l.getD n 0).toNat % 16, by omega⟩).1
    rw [sixth_succ]
    simp only [List.mem_append, not_or, List.mem_cons, List.not_mem_nil, or_false]
    refine ⟨ih, ?_, Ne.symm h1, Ne.symm h2⟩
    split <;> simp
theorem four_not (l : List UInt8) (n : Nat) (s : UInt8) (hs : s.toNat < 46 ∨ s.toNat = 47 ∨ 57 < s.toNat) : s ∉ four l n := by
  induction n with
  | zero => simp [four]
  | succ n ih =>
    rw [four_succ]
    simp only [List.mem_append, not_or]
    refine ⟨ih, ?_, dec_not _ _ (by omega)⟩
    split
    · simp
      intro e
      rw [e] at hs
      simp at hs
    · simp
theorem sixth_colon (l : List UInt8) : (58 : UInt8) ∈ sixth l 16 := by
  have : sixth l 16 = sixth l 2 ++ ([58] ++ ((sixth l 16).drop (sixth l 2).length).tail) := by
    simp [sixth, List.range_succ]
  rw [this]
  simp
def addrL (s : Bool) (l : List UInt8) : List UInt8 := if s then sixth l 16 else four l 4
theorem addrL_not (s : Bool) (l : List UInt8) : (47 : UInt8) ∉ addrL s l := by
  cases s
  · exact four_not l 4 47 (by decide)
  · exact sixth_not l 16
theorem text_inj (s t : Bool) (l m : List UInt8) (a b : Nat) (h : addrL s l ++ 47 :: dec a = addrL t m ++ 47 :: dec b) : s = t ∧ a = b ∧ ∀ j, j < (if s then 16 else 4) → l.getD j 0 = m.getD j 0 := by
  obtain ⟨h1, h2⟩ := sep_inj 47 _ _ _ _ (addrL_not s l) (addrL_not t m) h
  have e := dec_inj _ _ h2
  cases s <;> cases t
  · exact ⟨rfl, e, four_inj l m h1⟩
  · exact absurd (sixth_colon m) (by rw [show sixth m 16 = four l 4 from h1.symm]; exact four_not l 4 58 (by decide))
  · exact absurd (sixth_colon l) (by rw [show sixth l 16 = four m 4 from h1]; exact four_not m 4 58 (by decide))
  · exact ⟨rfl, e, sixth_inj l m 16 h1⟩
end Go.Proofs.YtabniphnmlbkfaaDoor
