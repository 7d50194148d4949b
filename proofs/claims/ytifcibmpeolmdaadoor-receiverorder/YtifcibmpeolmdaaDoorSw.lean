/- Proved: plain mathematics of words: 64 bits of a map as a number; one bit of it; how many ones it has, as math/bits reckons it; where its first nought stands. No condition. -/
import Derived.Test.YtifcibmpeolmdaaDoorSp
import Derived.Lib.TrailingZeros
namespace Go.Proofs.YtifcibmpeolmdaaDoor

/-- Bits as a word. -/
def wd (l : List Bool) (k : Nat) : Nat := valL ((l.drop (64 * k)).take 64)
theorem chunk_len (l : List Bool) (k : Nat) : ((l.drop (64 * k)).take 64).length ≤ 64 := by simp; omega
theorem valL_lt64 (l : List Bool) (h : l.length ≤ 64) : valL l < 18446744073709551616 := by
  have h1 := valL_lt l
  have h2 : 2 ^ l.length ≤ 2 ^ 64 := Nat.pow_le_pow_right (by omega) h
  omega
theorem wd_lt (l : List Bool) (k : Nat) : wd l k < 18446744073709551616 := valL_lt64 _ (chunk_len l k)
theorem wd_bit (l : List Bool) (k j : Nat) : (wd l k).testBit j = (decide (j < 64) && l.getD (64 * k + j) false) := by
  unfold wd
  rw [valL_bit, List.getD_eq_getElem?_getD, List.getD_eq_getElem?_getD]
  by_cases h : j < 64
  · rw [List.getElem?_take_of_lt h, List.getElem?_drop, decide_eq_true h, Bool.true_and]
  · rw [List.getElem?_eq_none (by simp; omega), decide_eq_false h]; rfl
theorem wd_zero (n k : Nat) : wd (List.replicate n false) k = 0 := by
  refine Nat.eq_of_testBit_eq fun j => ?_
  rw [wd_bit, Nat.zero_testBit, List.getD_eq_getElem?_getD, List.getElem?_replicate]
  split <;> simp
theorem wd_set (l : List Bool) (i : Nat) (h : i < l.length) : wd (l.set i true) (i / 64) = wd l (i / 64) ||| 2 ^ (i % 64) := by
  refine Nat.eq_of_testBit_eq fun j => ?_
  rw [Nat.testBit_or, wd_bit, wd_bit, getD_set l i _ h, Nat.testBit_two_pow]
  by_cases hj : j < 64
  · rw [decide_eq_true hj, Bool.true_and, Bool.true_and, Bool.or_comm]
    congr 1
    rw [decide_eq_decide]; omega
  · rw [decide_eq_false hj, Bool.false_and, Bool.false_and, Bool.false_or]
    exact (decide_eq_false (by omega)).symm
theorem wd_other (l : List Bool) (i k : Nat) (h : i < l.length) (hk : k ≠ i / 64) : wd (l.set i true) k = wd l k := by
  refine Nat.eq_of_testBit_eq fun j => ?_
  rw [wd_bit, wd_bit, getD_set l i _ h]
  by_cases hj : j < 64
  · rw [decide_eq_true hj, Bool.true_and, Bool.true_and, decide_eq_false (by omega), Bool.false_or]
  · rw [decide_eq_false hj]; rfl
theorem wd_has (l : List Bool) (i : Nat) : decide (wd l (i / 64) &&& 2 ^ (i % 64) ≠ 0) = l.getD i false := by
  have hb := wd_bit l (i / 64) (i % 64)
  rw [decide_eq_true (Nat.mod_lt _ (by omega)), Bool.true_and, show 64 * (i / 64) + i % 64 = i by omega] at hb
  rw [← hb]
  generalize wd l (i / 64) = x
  generalize i % 64 = k
  cases h : x.testBit k
  · refine decide_eq_false (fun hne => hne (Nat.eq_of_testBit_eq fun j => ?_))
    rw [Nat.testBit_and, Nat.testBit_two_pow, Nat.zero_testBit]
    by_cases hj : k = j
    · subst hj; rw [h]; rfl
    · rw [decide_eq_false hj, Bool.and_false]
  · refine decide_eq_true (fun h0 => ?_)
    have h2 : (x &&& 2 ^ k).testBit k = true := by rw [Nat.testBit_and, h, Nat.testBit_two_pow]; simp
    rw [h0, Nat.zero_testBit] at h2
    cases h2

/-! ### How many ones -/
def pack : List Nat → Nat
  | [] => 0
  | b :: l => b + 256 * pack l
def mask (m : Nat) : Nat → Nat
  | 0 => 0
  | n + 1 => m + 256 * mask m n
theorem and_digit (d m y M : Nat) (hd : d < 256) (hm : m < 256) : (d + 256 * y) &&& (m + 256 * M) = (d &&& m) + 256 * (y &&& M) := by
  have h1 : (d &&& m) < 256 := Nat.and_lt_two_pow (n := 8) _ hm
  have e : ∀ a b : Nat, a < 256 → a + 256 * b = 2 ^ 8 * b + a := fun a b _ => by omega
  rw [e d y hd, e m M hm, e _ _ h1]
  refine Nat.eq_of_testBit_eq fun j => ?_
  rw [Nat.testBit_and, Nat.testBit_two_pow_mul_add _ hd, Nat.testBit_two_pow_mul_add _ hm, Nat.testBit_two_pow_mul_add _ h1]
  split <;> simp
def s1 (b : Nat) : Nat := (b / 2 &&& 85) + (b &&& 85)
def s2 (b : Nat) : Nat := (b / 4 &&& 51) + (b &&& 51)
def s3 (b : Nat) : Nat := (b / 16 + b) &&& 15
theorem d1 : ∀ b : Fin 256, ∀ c : Fin 2, ((b.val / 2 + 128 * c.val) &&& 85) = (b.val / 2 &&& 85) := by decide +kernel
theorem d2 : ∀ b : Fin 256, ∀ c : Fin 4, ((b.val / 4 + 64 * c.val) &&& 51) = (b.val / 4 &&& 51) := by decide +kernel
theorem p1 : ∀ b : Fin 256, s1 b.val < 256 := by decide +kernel
theorem p2 : ∀ b : Fin 256, s2 b.val < 256 := by decide +kernel
theorem p21 : ∀ b : Fin 256, s2 (s1 b.val) / 16 ≤ 4 ∧ s2 (s1 b.val) % 16 ≤ 4 ∧ s3 (s2 (s1 b.val)) = cntN (bitsL b.val 8) := by decide +kernel
theorem pack1 : ∀ l : List Nat, (∀ b ∈ l, b < 256) → (pack l / 2 &&& mask 85 l.length) + (pack l &&& mask 85 l.length) = pack (l.map s1)
  | [], _ => rfl
  | b :: l, h => by
    have hb := h b (by simp)
    have ih := pack1 l fun x hx => h x (by simp [hx])
    simp only [pack, List.length_cons, mask, List.map_cons]
    have e : (b + 256 * pack l) / 2 = (b / 2 + 128 * (pack l % 2)) + 256 * (pack l / 2) := by omega
    have k := d1 ⟨b, hb⟩ ⟨pack l % 2, by omega⟩
    simp only at k
    rw [e, and_digit _ _ _ _ (by omega) (by omega), and_digit _ _ _ _ hb (by omega), k, ← ih, s1]
    omega
theorem pack2 : ∀ l : List Nat, (∀ b ∈ l, b < 256) → (pack l / 4 &&& mask 51 l.length) + (pack l &&& mask 51 l.length) = pack (l.map s2)
  | [], _ => rfl
  | b :: l, h => by
    have hb := h b (by simp)
    have ih := pack2 l fun x hx => h x (by simp [hx])
    simp only [pack, List.length_cons, mask, List.map_cons]
    have e : (b + 256 * pack l) / 4 = (b / 4 + 64 * (pack l % 4)) + 256 * (pack l / 4) := by omega
    have k := d2 ⟨b, hb⟩ ⟨pack l % 4, by omega⟩
    simp only at k
    rw [e, and_digit _ _ _ _ (by omega) (by omega), and_digit _ _ _ _ hb (by omega), k, ← ih, s2]
    omega
theorem low4 (a c : Nat) : (a + 16 * c) &&& 15 = a &&& 15 := by
  rw [show 15 = 2 ^ 4 - 1 from rfl, Nat.and_two_pow_sub_one_eq_mod, Nat.and_two_pow_sub_one_eq_mod]
  omega
theorem pack3 : ∀ l : List Nat, (∀ b ∈ l, b / 16 ≤ 4 ∧ b % 16 ≤ 4) → (pack l / 16 + pack l) &&& mask 15 l.length = pack (l.map s3)
  | [], _ => rfl
  | b :: l, h => by
    have hb := h b (by simp)
    have ih := pack3 l fun x hx => h x (by simp [hx])
    simp only [pack, List.length_cons, mask, List.map_cons]
    have hl : pack l % 16 ≤ 4 := by
      cases l with
      | nil => simp [pack]
      | cons c l =>
        have := (h c (by simp)).2
        simp only [pack]; omega
    have e : (b + 256 * pack l) / 16 + (b + 256 * pack l) = (b / 16 + b + 16 * (pack l % 16)) + 256 * (pack l / 16 + pack l) := by omega
    rw [e, and_digit _ _ _ _ (by omega) (by omega), ih, low4, s3]
/-- What math/bits reckons. -/
def popN (x : Nat) : Nat :=
  let a := (x / 2 &&& mask 85 8) + (x &&& mask 85 8)
  let b := (a / 4 &&& mask 51 8) + (a &&& mask 51 8)
  let c := (b / 16 + b) &&& mask 15 8
  let d := c + c / 256
  let e := d + d / 65536
  let f := e + e / 4294967296
  f % 128
theorem div1 (a X : Nat) (h : a < 256) : (a + 256 * X) / 256 = X := by omega
theorem div2 (a b X : Nat) (h : a < 256) (h2 : b < 256) : (a + 256 * (b + 256 * X)) / 65536 = X := by omega
theorem div4 (a b c d X : Nat) (h : a < 256) (h2 : b < 256) (h3 : c < 256) (h4 : d < 256) : (a + 256 * (b + 256 * (c + 256 * (d + 256 * X)))) / 4294967296 = X := by omega
theorem sumA (a b c d e f g h : Nat) (ha : a ≤ 8) : pack [a, b, c, d, e, f, g, h] + pack [a, b, c, d, e, f, g, h] / 256 = pack [a + b, b + c, c + d, d + e, e + f, f + g, g + h, h] := by
  rw [pack, div1 _ _ (by omega)]
  simp only [pack]
  omega
theorem sumB (a b c d e f g h : Nat) (ha : a ≤ 16) (hb : b ≤ 16) : pack [a, b, c, d, e, f, g, h] + pack [a, b, c, d, e, f, g, h] / 65536 = pack [a + c, b + d, c + e, d + f, e + g, f + h, g, h] := by
  rw [pack, pack, div2 _ _ _ (by omega) (by omega)]
  simp only [pack]
  omega
theorem sumC (a b c d e f g h : Nat) (ha : a ≤ 32) (hb : b ≤ 32) (hc : c ≤ 32) (hd : d ≤ 32) (he : e ≤ 32) : (pack [a, b, c, d, e, f, g, h] + pack [a, b, c, d, e, f, g, h] / 4294967296) % 128 = a + e := by
  rw [pack, pack, pack, pack, div4 _ _ _ _ _ (by omega) (by omega) (by omega) (by omega)]
  simp only [pack]
  omega
theorem sum8 (a b c d e f g h : Nat) (ha : a ≤ 8) (hb : b ≤ 8) (hc : c ≤ 8) (hd : d ≤ 8) (he : e ≤ 8) (hf : f ≤ 8) (hg : g ≤ 8) (hh : h ≤ 8) (x : Nat) (hx : x = pack [a, b, c, d, e, f, g, h]) :
    (x + x / 256 + (x + x / 256) / 65536 + (x + x / 256 + (x + x / 256) / 65536) / 4294967296) % 128 = a + b + c + d + e + f + g + h := by
  rw [hx, sumA _ _ _ _ _ _ _ _ ha, sumB _ _ _ _ _ _ _ _ (by omega) (by omega), sumC _ _ _ _ _ _ _ _ (by omega) (by omega) (by omega) (by omega) (by omega)]
  omega
theorem bits_eight (x n : Nat) : bitsL x (n + 8) = bitsL (x % 256) 8 ++ bitsL (x / 256) n := by
  refine List.ext_getElem? fun i => ?_
  by_cases h : i < 8
  · rw [List.getElem?_append_left (by rw [bitsL_len]; omega), bitsL_get _ _ _ (by omega), bitsL_get _ _ _ h, show 256 = 2 ^ 8 from rfl, Nat.testBit_mod_two_pow, decide_eq_true h, Bool.true_and]
  · rw [List.getElem?_append_right (by rw [bitsL_len]; omega), bitsL_len]
    by_cases h2 : i < n + 8
    · rw [bitsL_get _ _ _ h2, bitsL_get _ _ _ (by omega), show 256 = 2 ^ 8 from rfl, Nat.testBit_div_two_pow, show i - 8 + 8 = i by omega]
    · rw [List.getElem?_eq_none (by rw [bitsL_len]; omega), List.getElem?_eq_none (by rw [bitsL_len]; omega)]
def eightB (x : Nat) : List Nat := [x % 256, x / 256 % 256, x / 256 / 256 % 256, x / 256 / 256 / 256 % 256, x / 256 / 256 / 256 / 256 % 256, x / 256 / 256 / 256 / 256 / 256 % 256, x / 256 / 256 / 256 / 256 / 256 / 256 % 256, x / 256 / 256 / 256 / 256 / 256 / 256 / 256 % 256]
theorem pack_eight (x : Nat) (h : x < 18446744073709551616) : pack (eightB x) = x := by
  simp only [eightB, pack]
  omega
theorem eight_lt (x : Nat) : ∀ b ∈ eightB x, b < 256 := by
  intro b hb
  simp only [eightB, List.mem_cons, List.not_mem_nil, or_false] at hb
  rcases hb with rfl | rfl | rfl | rfl | rfl | rfl | rfl | rfl <;> exact Nat.mod_lt _ (by omega)
theorem cnt_eight (x : Nat) : cntN (bitsL x 64) = ((eightB x).map fun b => cntN (bitsL b 8)).sum := by
  have e0 : bitsL (x) 64 = bitsL (x % 256) 8 ++ bitsL (x / 256) 56 := bits_eight _ _
  have e1 : bitsL (x / 256) 56 = bitsL (x / 256 % 256) 8 ++ bitsL (x / 256 / 256) 48 := bits_eight _ _
  have e2 : bitsL (x / 256 / 256) 48 = bitsL (x / 256 / 256 % 256) 8 ++ bitsL (x / 256 / 256 / 256) 40 := bits_eight _ _
  have e3 : bitsL (x / 256 / 256 / 256) 40 = bitsL (x / 256 / 256 / 256 % 256) 8 ++ bitsL (x / 256 / 256 / 256 / 256) 32 := bits_eight _ _
  have e4 : bitsL (x / 256 / 256 / 256 / 256) 32 = bitsL (x / 256 / 256 / 256 / 256 % 256) 8 ++ bitsL (x / 256 / 256 / 256 / 256 / 256) 24 := bits_eight _ _
  have e5 : bitsL (x / 256 / 256 / 256 / 256 / 256) 24 = bitsL (x / 256 / 256 / 256 / 256 / 256 % 256) 8 ++ bitsL (x / 256 / 256 / 256 / 256 / 256 / 256) 16 := bits_eight _ _
  have e6 : bitsL (x / 256 / 256 / 256 / 256 / 256 / 256) 16 = bitsL (x / 256 / 256 / 256 / 256 / 256 / 256 % 256) 8 ++ bitsL (x / 256 / 256 / 256 / 256 / 256 / 256 / 256) 8 := bits_eight _ _
  have e7 : bitsL (x / 256 / 256 / 256 / 256 / 256 / 256 / 256) 8 = bitsL (x / 256 / 256 / 256 / 256 / 256 / 256 / 256 % 256) 8 ++ bitsL (x / 256 / 256 / 256 / 256 / 256 / 256 / 256 / 256) 0 := bits_eight _ _
  rw [e0, e1, e2, e3, e4, e5, e6, e7, bitsL_zero, List.append_nil]
  simp only [cnt_append, eightB, List.map_cons, List.map_nil, List.sum_cons, List.sum_nil]
  simp only [Nat.add_zero]
theorem pop_bits (x : Nat) (h : x < 18446744073709551616) : popN x = cntN (bitsL x 64) := by
  have hp := pack_eight x h
  have hl := eight_lt x
  rw [cnt_eight]
  have hlen : (eightB x).length = 8 := rfl
  have a1 := pack1 (eightB x) hl
  rw [hlen, hp] at a1
  have hl1 : ∀ b ∈ (eightB x).map s1, b < 256 := by
    intro b hb
    obtain ⟨c, hc, rfl⟩ := List.mem_map.1 hb
    exact p1 ⟨c, hl c hc⟩
  have a2 := pack2 _ hl1
  rw [List.length_map, hlen] at a2
  have hl2 : ∀ b ∈ ((eightB x).map s1).map s2, b / 16 ≤ 4 ∧ b % 16 ≤ 4 := by
    intro b hb
    obtain ⟨c, hc, rfl⟩ := List.mem_map.1 hb
    obtain ⟨d, hd, rfl⟩ := List.mem_map.1 hc
    have := p21 ⟨d, hl d hd⟩
    exact ⟨this.1, this.2.1⟩
  have a3 := pack3 _ hl2
  rw [List.length_map, List.length_map, hlen] at a3
  unfold popN
  rw [a1]
  simp only
  rw [a2]
  rw [a3]
  have hm : ((((eightB x).map s1).map s2).map s3) = (eightB x).map fun b => cntN (bitsL b 8) := by
    rw [List.map_map, List.map_map]
    refine List.map_congr_left fun b hb => ?_
    exact (p21 ⟨b, hl b hb⟩).2.2
  rw [hm]
  have hc : ∀ b, cntN (bitsL b 8) ≤ 8 := fun b => by have := cnt_le (bitsL b 8); rw [bitsL_len] at this; exact this
  unfold eightB
  simp only [List.map_cons, List.map_nil, List.sum_cons, List.sum_nil]
  have hs := sum8 _ _ _ _ _ _ _ _ (hc (x % 256)) (hc (x / 256 % 256)) (hc (x / 256 / 256 % 256)) (hc (x / 256 / 256 / 256 % 256)) (hc (x / 256 / 256 / 256 / 256 % 256)) (hc (x / 256 / 256 / 256 / 256 / 256 % 256)) (hc (x / 256 / 256 / 256 / 256 / 256 / 256 % 256)) (hc (x / 256 / 256 / 256 / 256 / 256 / 256 / 256 % 256)) _ rfl
  rw [hs]
  omega
theorem pop_val (l : List Bool) (h : l.length ≤ 64) : popN (valL l) = cntN l := by
  rw [pop_bits _ (valL_lt64 l h), bitsL_valL l 64 h, cnt_append]
  simp [cntN, List.count_replicate]
theorem cnt_words (l : List Bool) (_h : l.length ≤ 256) (k : Nat) : cntN (l.take (64 * k)) + popN (wd l k) = cntN (l.take (64 * (k + 1))) := by
  unfold wd
  rw [pop_val _ (chunk_len l k), show 64 * (k + 1) = 64 * k + 64 by omega, List.take_add, cnt_append]

/-! ### The first nought -/
theorem ctz_odd (f y : Nat) (h : y % 2 = 1) : Lib.ctzFrom (f + 1) y = 0 := by unfold Lib.ctzFrom; rw [if_pos h]
theorem ctz_even (f y : Nat) (h : ¬ y % 2 = 1) : Lib.ctzFrom (f + 1) y = 1 + Lib.ctzFrom f (y / 2) := by rw [Lib.ctzFrom, if_neg h]
theorem ctz_val : ∀ (f : Nat) (l : List Bool), l.length ≤ f → baseN l < f → Lib.ctzFrom f (2 ^ f - 1 - valL l) = baseN l
  | 0, l, _, h => by omega
  | f + 1, [], _, _ => by
    have := Nat.two_pow_pos f
    exact ctz_odd f _ (by rw [Nat.pow_succ, show valL [] = 0 from rfl]; omega)
  | f + 1, false :: l, hl, _ => by
    have h1 := valL_lt l
    have h2 : 2 ^ l.length ≤ 2 ^ f := Nat.pow_le_pow_right (by omega) (by simpa using hl)
    exact ctz_odd f _ (by rw [Nat.pow_succ, show valL (false :: l) = 0 + 2 * valL l from rfl]; omega)
  | f + 1, true :: l, hl, hb => by
    have h1 := valL_lt l
    have h2 : 2 ^ l.length ≤ 2 ^ f := Nat.pow_le_pow_right (by omega) (by simpa using hl)
    have hb2 : baseN (true :: l) = baseN l + 1 := rfl
    have ih := ctz_val f l (by simpa using hl) (by omega)
    have e : valL (true :: l) = 1 + 2 * valL l := rfl
    have e2 : (2 ^ (f + 1) - 1 - valL (true :: l)) / 2 = 2 ^ f - 1 - valL l := by rw [e, Nat.pow_succ]; omega
    rw [ctz_even f _ (by rw [e, Nat.pow_succ]; omega), e2, ih, hb2, Nat.add_comm]
theorem val_ones (k : Nat) : valL (List.replicate k true) = 2 ^ k - 1 := by
  induction k with
  | zero => rfl
  | succ k ih =>
    have := Nat.two_pow_pos k
    rw [List.replicate_succ, valL, ih, Nat.pow_succ, Bool.toNat_true]; omega
theorem val_full (l : List Bool) (h : l.length ≤ 64) : valL l = 18446744073709551615 ↔ baseN l = 64 := by
  constructor
  · intro hv
    refine base_one (fun i hi => ?_) (getD_out l 64 h)
    rw [← valL_bit, hv, show (18446744073709551615 : Nat) = 2 ^ 64 - 1 from rfl, Nat.testBit_two_pow_sub_one, decide_eq_true hi]
  · intro hb
    have h2 := base_le l
    have h3 := base_ones l (by omega)
    rw [h3, val_ones, show l.length = 64 by omega]
/-- Where a word isn't full. -/
theorem base_word (l : List Bool) (k : Nat) (h : wd l k ≠ 18446744073709551615) : baseN (l.drop (64 * k)) = Lib.ctz 64 (18446744073709551615 - wd l k) ∧ Lib.ctz 64 (18446744073709551615 - wd l k) < 64 := by
  have hlen := chunk_len l k
  have hlt := wd_lt l k
  have hb : ¬ baseN ((l.drop (64 * k)).take 64) = 64 := fun e => h ((val_full _ hlen).2 e)
  have hle := base_le ((l.drop (64 * k)).take 64)
  have hc := ctz_val 64 _ hlen (by omega)
  have e : Lib.ctz 64 (18446744073709551615 - wd l k) = baseN ((l.drop (64 * k)).take 64) := by
    unfold Lib.ctz
    rw [if_neg (by omega)]
    exact hc
  rw [e]
  refine ⟨?_, by omega⟩
  by_cases h64 : (l.drop (64 * k)).length ≤ 64
  · rw [List.take_of_length_le h64]
  · have h1 := List.take_append_drop 64 (l.drop (64 * k))
    have h2 := base_append_not ((l.drop (64 * k)).take 64) ((l.drop (64 * k)).drop 64) (by rw [List.length_take]; omega)
    rw [h1] at h2
    exact h2
/-- Where it is. -/
theorem base_next (l : List Bool) (k : Nat) (h : wd l k = 18446744073709551615) : baseN (l.drop (64 * k)) = 64 + baseN (l.drop (64 * (k + 1))) ∧ 64 * (k + 1) ≤ l.length := by
  have hlen := chunk_len l k
  have hb := (val_full _ hlen).1 h
  have hle := base_le ((l.drop (64 * k)).take 64)
  have h3 := base_ones _ (by omega : baseN ((l.drop (64 * k)).take 64) = ((l.drop (64 * k)).take 64).length)
  have h4 : ((l.drop (64 * k)).take 64).length = 64 := by omega
  rw [h4] at h3
  have h1 := List.take_append_drop 64 (l.drop (64 * k))
  rw [h3, List.drop_drop] at h1
  refine ⟨?_, by rw [List.length_take, List.length_drop] at h4; omega⟩
  rw [← h1, base_append_ones, show 64 * k + 64 = 64 * (k + 1) by omega]
end Go.Proofs.YtifcibmpeolmdaaDoor
