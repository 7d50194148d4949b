/- Proved: plain mathematics of bits, with no program in it: bits of numbers and of bytes, as functions on lists. No condition. -/
namespace Go.Proofs.YtifcibmpeolmdaaDoor

/-- The n lowest bits of v, the lowest first. -/
def bitsL (v n : Nat) : List Bool := (List.range n).map v.testBit
/-- The number that bits make. -/
def valL : List Bool → Nat
  | [] => 0
  | b :: l => b.toNat + 2 * valL l
/-- The byte at place j. -/
def byteN (l : List Bool) (j : Nat) : Nat := valL ((l.drop (8 * j)).take 8)
/-- The first n bytes of bits. -/
def bytesN (l : List Bool) (n : Nat) : List UInt8 := (List.range n).map fun j => UInt8.ofNat (byteN l j)
/-- Bits as bytes. -/
def bytesL (l : List Bool) : List UInt8 := bytesN l ((l.length + 7) / 8)
/-- The bits of bytes. -/
def ofL (s : List UInt8) : List Bool := s.flatMap fun c => bitsL c.toNat 8
theorem bitsL_len (v n : Nat) : (bitsL v n).length = n := by simp [bitsL]
theorem bitsL_zero (v : Nat) : bitsL v 0 = [] := rfl
theorem bitsL_succ (v n : Nat) : bitsL v (n + 1) = bitsL v n ++ [v.testBit n] := by simp [bitsL, List.range_succ]
theorem bitsL_cons (v n : Nat) : bitsL v (n + 1) = decide (v % 2 = 1) :: bitsL (v / 2) n := by
  simp only [bitsL, List.range_succ_eq_map, List.map_cons, List.map_map, Nat.testBit_zero]
  congr 1
  exact List.map_congr_left fun i _ => by simp [Nat.testBit_succ]
theorem bitsL_get (v n i : Nat) (h : i < n) : (bitsL v n)[i]? = some (v.testBit i) := by
  simp [bitsL, h]
theorem bitsL_of_zero (n : Nat) : bitsL 0 n = List.replicate n false := by
  refine List.ext_getElem? fun i => ?_
  by_cases h : i < n
  · rw [bitsL_get 0 n i h]; simp [h]
  · simp [bitsL, h]
theorem valL_lt : ∀ l : List Bool, valL l < 2 ^ l.length
  | [] => by simp [valL]
  | b :: l => by
    have := valL_lt l
    simp only [valL, List.length_cons, Nat.pow_succ]
    cases b <;> simp <;> omega
theorem valL_append : ∀ l m : List Bool, valL (l ++ m) = valL l + 2 ^ l.length * valL m
  | [], m => by simp [valL]
  | b :: l, m => by
    simp only [List.cons_append, valL, valL_append l m, List.length_cons, Nat.pow_succ]
    rw [Nat.mul_add, Nat.add_assoc, ← Nat.mul_assoc, Nat.mul_comm 2 (2 ^ l.length)]
theorem valL_snoc (l : List Bool) (c : Bool) : valL (l ++ [c]) = valL l + c.toNat * 2 ^ l.length := by
  rw [valL_append]; simp [valL, Nat.mul_comm]
theorem valL_noughts (n : Nat) : valL (List.replicate n false) = 0 := by
  induction n with
  | zero => rfl
  | succ n ih => simp [List.replicate_succ, valL, ih]
theorem valL_bitsL : ∀ n v : Nat, valL (bitsL v n) = v % 2 ^ n
  | 0, v => by simp [bitsL, valL, Nat.mod_one]
  | n + 1, v => by
    rw [bitsL_cons]
    simp only [valL, valL_bitsL n (v / 2), Nat.pow_succ]
    rw [Nat.mul_comm (2 ^ n) 2, Nat.mod_mul]
    by_cases h : v % 2 = 1
    · simp [h]
    · have : v % 2 = 0 := by omega
      simp [this]
theorem valL_bit : ∀ (l : List Bool) (i : Nat), (valL l).testBit i = l.getD i false
  | [], i => by simp [valL]
  | b :: l, 0 => by cases b <;> simp [valL, Nat.testBit_zero] <;> omega
  | b :: l, i + 1 => by
    rw [Nat.testBit_succ]
    simp only [valL]
    have : (b.toNat + 2 * valL l) / 2 = valL l := by cases b <;> simp <;> omega
    rw [this, valL_bit l i]; simp
theorem bitsL_valL (l : List Bool) (n : Nat) (h : l.length ≤ n) : bitsL (valL l) n = l ++ List.replicate (n - l.length) false := by
  refine List.ext_getElem? fun i => ?_
  by_cases hi : i < n
  · rw [bitsL_get _ n i hi, valL_bit]
    by_cases h2 : i < l.length
    · simp [List.getElem?_append_left, h2]
    · rw [List.getElem?_append_right (by omega), List.getElem?_replicate, if_pos (by omega)]
      simp [h2]
  · rw [List.getElem?_eq_none (by simp [bitsL]; omega), List.getElem?_eq_none (by simp; omega)]

theorem byteN_lt (l : List Bool) (j : Nat) : byteN l j < 256 := by
  have h := valL_lt ((l.drop (8 * j)).take 8)
  have h2 : 2 ^ ((l.drop (8 * j)).take 8).length ≤ 2 ^ 8 := Nat.pow_le_pow_right (by omega) (by simp; omega)
  unfold byteN; omega
theorem byteN_out (l : List Bool) (j : Nat) (h : l.length ≤ 8 * j) : byteN l j = 0 := by
  unfold byteN; rw [List.drop_eq_nil_of_le h]; rfl
theorem byteN_last_lt (l : List Bool) : byteN l (l.length / 8) < 2 ^ (l.length % 8) := by
  have h := valL_lt ((l.drop (8 * (l.length / 8))).take 8)
  have h2 : ((l.drop (8 * (l.length / 8))).take 8).length = l.length % 8 := by simp; omega
  rw [h2] at h; exact h
theorem byteN_snoc (l : List Bool) (c : Bool) : byteN (l ++ [c]) (l.length / 8) = byteN l (l.length / 8) + c.toNat * 2 ^ (l.length % 8) := by
  unfold byteN
  have h2 : (l.drop (8 * (l.length / 8))).length = l.length % 8 := by simp; omega
  rw [List.drop_append, show 8 * (l.length / 8) - l.length = 0 by omega, List.drop_zero, List.take_of_length_le (by simp; omega), List.take_of_length_le (by omega), valL_snoc, h2]
theorem byteN_snoc_other (l : List Bool) (c : Bool) (j : Nat) (h : j ≠ l.length / 8) : byteN (l ++ [c]) j = byteN l j := by
  unfold byteN
  by_cases hj : j < l.length / 8
  · rw [List.drop_append, show 8 * j - l.length = 0 by omega, List.drop_zero, List.take_append_of_le_length (by simp; omega)]
  · rw [List.drop_eq_nil_of_le (by simp; omega), List.drop_eq_nil_of_le (by omega)]
theorem bytesN_len (l : List Bool) (n : Nat) : (bytesN l n).length = n := by simp [bytesN]
theorem bytesL_len (l : List Bool) : (bytesL l).length = (l.length + 7) / 8 := bytesN_len _ _
theorem bytesN_get (l : List Bool) (n i : Nat) (h : i < n) : (bytesN l n)[i]? = some (UInt8.ofNat (byteN l i)) := by simp [bytesN, h]
theorem bytesN_snoc (l : List Bool) (c : Bool) (n : Nat) : bytesN (l ++ [c]) n = (bytesN l n).set (l.length / 8) (UInt8.ofNat (byteN l (l.length / 8) + c.toNat * 2 ^ (l.length % 8))) := by
  refine List.ext_getElem? fun i => ?_
  rw [List.getElem?_set]
  by_cases hi : i < n
  · rw [bytesN_get _ n i hi]
    by_cases h : l.length / 8 = i
    · rw [if_pos h, bytesN_len, if_pos (by omega), ← byteN_snoc, h]
    · rw [if_neg h, bytesN_get _ n i hi, byteN_snoc_other l c i (by omega)]
  · rw [List.getElem?_eq_none (by rw [bytesN_len]; omega)]
    by_cases h : l.length / 8 = i
    · rw [if_pos h, bytesN_len, if_neg (by omega)]
    · rw [if_neg h, List.getElem?_eq_none (by rw [bytesN_len]; omega)]
theorem bytesN_more (l : List Bool) (n k : Nat) (h : l.length ≤ 8 * n) : bytesN l (n + k) = bytesN l n ++ List.replicate k 0 := by
  refine List.ext_getElem? fun i => ?_
  by_cases hi : i < n + k
  · rw [bytesN_get _ _ i hi]
    by_cases h2 : i < n
    · rw [List.getElem?_append_left (by rw [bytesN_len]; omega), bytesN_get _ _ i h2]
    · rw [List.getElem?_append_right (by rw [bytesN_len]; omega), byteN_out l i (by omega), List.getElem?_replicate, if_pos (by rw [bytesN_len]; omega)]
      rfl
  · rw [List.getElem?_eq_none (by rw [bytesN_len]; omega), List.getElem?_eq_none (by simp [bytesN_len]; omega)]
theorem bytesN_take (l : List Bool) (n k : Nat) (h : k ≤ n) : (bytesN l n).take k = bytesN l k := by
  simp [bytesN, ← List.map_take, List.take_range, Nat.min_eq_left h]
theorem bytesN_nil (n : Nat) : bytesN [] n = List.replicate n 0 := by
  have := bytesN_more [] 0 n (by simp)
  simpa [bytesN] using this

theorem ofL_nil : ofL [] = [] := rfl
theorem ofL_snoc (s : List UInt8) (c : UInt8) : ofL (s ++ [c]) = ofL s ++ bitsL c.toNat 8 := by simp [ofL]
theorem ofL_append (s t : List UInt8) : ofL (s ++ t) = ofL s ++ ofL t := by simp [ofL]
theorem ofL_cons (c : UInt8) (s : List UInt8) : ofL (c :: s) = bitsL c.toNat 8 ++ ofL s := by simp [ofL]
theorem ofL_len : ∀ s : List UInt8, (ofL s).length = 8 * s.length
  | [] => rfl
  | c :: s => by rw [ofL_cons, List.length_append, bitsL_len, ofL_len s, List.length_cons]; omega
theorem ofL_get : ∀ (s : List UInt8) (i : Nat) (h : i / 8 < s.length), (ofL s)[i]? = some ((s[i / 8]'h).toNat.testBit (i % 8))
  | [], i, h => by simp at h
  | c :: s, i, h => by
    rw [ofL_cons]
    by_cases hi : i < 8
    · rw [List.getElem?_append_left (by rw [bitsL_len]; omega), bitsL_get _ _ _ hi]
      have e : i / 8 = 0 := by omega
      have e2 : i % 8 = i := by omega
      simp [e, e2]
    · obtain ⟨k, rfl⟩ : ∃ k, i = k + 8 := ⟨i - 8, by omega⟩
      have e : (k + 8) / 8 = k / 8 + 1 := by omega
      have e2 : (k + 8) % 8 = k % 8 := by omega
      rw [List.getElem?_append_right (by rw [bitsL_len]; omega), bitsL_len, Nat.add_sub_cancel, ofL_get s k (by simp at h; omega)]
      simp [e2]
theorem ofL_bytesN (l : List Bool) : ∀ n, ofL (bytesN l n) = l.take (8 * n) ++ List.replicate (8 * n - l.length) false
  | 0 => by simp [bytesN, ofL]
  | n + 1 => by
    have e : bytesN l (n + 1) = bytesN l n ++ [UInt8.ofNat (byteN l n)] := by simp [bytesN, List.range_succ]
    rw [e, ofL_snoc, ofL_bytesN l n, UInt8.toNat_ofNat_of_lt' (byteN_lt l n)]
    unfold byteN
    rw [bitsL_valL _ 8 (by simp; omega)]
    by_cases h : 8 * n ≤ l.length
    · rw [show 8 * n - l.length = 0 by omega, List.replicate_zero, List.append_nil, ← List.append_assoc]
      have e2 : l.take (8 * (n + 1)) = l.take (8 * n) ++ (l.drop (8 * n)).take 8 := by
        rw [show 8 * (n + 1) = 8 * n + 8 by omega, List.take_add]
      rw [e2]
      congr 2
      simp; omega
    · rw [List.drop_eq_nil_of_le (by omega), List.take_nil, List.nil_append, List.take_of_length_le (by omega), List.take_of_length_le (by omega), List.append_assoc, List.replicate_append_replicate]
      congr 2
      simp; omega
theorem ofL_bytesL (l : List Bool) : ∃ k, k < 8 ∧ ofL (bytesL l) = l ++ List.replicate k false := by
  refine ⟨8 * ((l.length + 7) / 8) - l.length, by omega, ?_⟩
  unfold bytesL
  rw [ofL_bytesN, List.take_of_length_le (by omega)]

end Go.Proofs.YtifcibmpeolmdaaDoor

/- Proved: plain mathematics of maps of chunks, with no program in it: which are there, the first one that isn't, how many, which are missing, what is told of those behind, and what telling makes of another map. No condition. -/
namespace Go.Proofs.YtifcibmpeolmdaaDoor

/-- Is it there? -/
def hasB (l : List Bool) (i : Int) : Bool := decide (0 ≤ i) && l.getD i.toNat false
/-- With one there. -/
def setL (l : List Bool) (i : Int) : List Bool := if 0 ≤ i then l.set i.toNat true else l
/-- Was it set just now? -/
def setB (l : List Bool) (i : Int) : Bool := decide (0 ≤ i) && (decide (i < l.length) && !hasB l i)
/-- The first one that isn't. -/
def baseN : List Bool → Nat
  | true :: l => baseN l + 1
  | _ => 0
/-- How many are there. -/
def cntN (l : List Bool) : Nat := l.count true
/-- Those that aren't, of some. -/
def misP (l : List Bool) (a b : Int) (i : Nat) : Bool := decide (a ≤ i) && (decide ((i : Int) < b) && !l.getD i false)
def misK (l : List Bool) (a b : Int) (k : Nat) : List Nat := (List.range k).filter (misP l a b)
def misL (l : List Bool) (a b : Int) : List Nat := misK l a b l.length
/-- How many bits are told. -/
def kN (k : Int) : Nat := (min (max k 0) 256).toNat
/-- Bits of those behind. -/
def behL (l : List Bool) (k : Nat) : List Bool := (List.range k).map fun i => l.getD (baseN l + 1 + i) false
def behB (l : List Bool) (k : Int) : List UInt8 := bytesL (behL l (kN k))
/-- Is it told to be there? -/
def toldB (a : Int) (s : List UInt8) (i : Nat) : Bool := decide ((i : Int) < a) || (decide (a < (i : Int)) && (ofL s).getD ((i : Int) - a - 1).toNat false)
/-- What telling makes of a map, as far as k. -/
def merK (l : List Bool) (a : Int) (s : List UInt8) (k : Nat) : List Bool := (List.range l.length).map fun i => l.getD i false || (decide (i < k) && toldB a s i)
def merL (l : List Bool) (a : Int) (s : List UInt8) : List Bool := merK l a s l.length
/-- How many weren't there. -/
def newK (l : List Bool) (a : Int) (s : List UInt8) (k : Nat) : Nat := ((List.range k).filter fun i => toldB a s i && !l.getD i false).length
def newN (l : List Bool) (a : Int) (s : List UInt8) : Nat := newK l a s l.length

theorem ext_getD {l m : List Bool} (h : l.length = m.length) (hg : ∀ i, i < l.length → l.getD i false = m.getD i false) : l = m := by
  refine List.ext_getElem? fun i => ?_
  by_cases hi : i < l.length
  · have := hg i hi
    rw [List.getD_eq_getElem?_getD, List.getD_eq_getElem?_getD, List.getElem?_eq_getElem hi, List.getElem?_eq_getElem (by omega : i < m.length)] at this
    rw [List.getElem?_eq_getElem hi, List.getElem?_eq_getElem (by omega : i < m.length)]
    simpa using this
  · rw [List.getElem?_eq_none (by omega), List.getElem?_eq_none (by omega)]
theorem getD_out (l : List Bool) (i : Nat) (h : l.length ≤ i) : l.getD i false = false := by
  rw [List.getD_eq_getElem?_getD, List.getElem?_eq_none h]; rfl
theorem getD_set (l : List Bool) (k i : Nat) (hk : k < l.length) : (l.set k true).getD i false = (decide (i = k) || l.getD i false) := by
  rw [List.getD_eq_getElem?_getD, List.getElem?_set, List.getD_eq_getElem?_getD]
  by_cases h : k = i
  · subst h; simp [hk]
  · rw [if_neg h]; simp [Ne.symm h]
theorem get_of_getD {l : List Bool} {i : Nat} (h : i < l.length) : l[i]? = some (l.getD i false) := by
  rw [List.getD_eq_getElem?_getD, List.getElem?_eq_getElem h]; rfl

theorem setL_len (l : List Bool) (i : Int) : (setL l i).length = l.length := by unfold setL; split <;> simp
theorem setL_no (l : List Bool) (i : Int) (h : setB l i = false) : setL l i = l := by
  unfold setL
  split
  · rename_i h0
    unfold setB hasB at h
    simp only [h0, decide_true, Bool.true_and, Bool.and_eq_false_iff, decide_eq_false_iff_not, Bool.not_eq_eq_eq_not, Bool.not_false] at h
    by_cases hl : i.toNat < l.length
    · refine ext_getD (by simp) fun j _ => ?_
      rw [getD_set l _ _ hl]
      rcases h with h | h
      · omega
      · by_cases hj : j = i.toNat
        · subst hj; rw [h]; simp
        · simp [hj]
    · exact List.set_eq_of_length_le (by omega)
  · rfl
theorem setL_yes (l : List Bool) (i : Int) (h : setB l i = true) : 0 ≤ i ∧ i.toNat < l.length ∧ l.getD i.toNat false = false ∧ setL l i = l.set i.toNat true := by
  unfold setB hasB at h
  simp only [Bool.and_eq_true, decide_eq_true_eq, Bool.not_eq_true', Bool.and_eq_false_iff, decide_eq_false_iff_not] at h
  obtain ⟨h0, h1, h2⟩ := h
  refine ⟨h0, by omega, ?_, by unfold setL; rw [if_pos h0]⟩
  rcases h2 with h2 | h2
  · exact absurd h0 h2
  · exact h2
theorem setL_get (l : List Bool) (k : Int) (i : Nat) (hi : i < l.length) : (setL l k).getD i false = (decide ((i : Int) = k) || l.getD i false) := by
  unfold setL
  by_cases h0 : 0 ≤ k
  · rw [if_pos h0]
    by_cases hl : k.toNat < l.length
    · rw [getD_set l _ _ hl]
      congr 1
      rw [decide_eq_decide]; omega
    · rw [List.set_eq_of_length_le (by omega), decide_eq_false (by omega), Bool.false_or]
  · rw [if_neg h0, decide_eq_false (by omega), Bool.false_or]
theorem cnt_append (l m : List Bool) : cntN (l ++ m) = cntN l + cntN m := List.count_append
theorem cnt_le (l : List Bool) : cntN l ≤ l.length := List.count_le_length
theorem cnt_set : ∀ (l : List Bool) (k : Nat), k < l.length → l.getD k false = false → cntN (l.set k true) = cntN l + 1
  | [], k, h, _ => by simp at h
  | b :: l, 0, _, h => by simp at h; subst h; simp [cntN]
  | b :: l, k + 1, h, h2 => by
    have := cnt_set l k (by simpa using h) (by simpa using h2)
    cases b <;> simp [cntN] at this ⊢ <;> omega

theorem base_le : ∀ l : List Bool, baseN l ≤ l.length
  | [] => by simp [baseN]
  | true :: l => by have := base_le l; simp [baseN]; omega
  | false :: l => by simp [baseN]
theorem base_below : ∀ (l : List Bool) (i : Nat), i < baseN l → l.getD i false = true
  | [], i, h => by simp [baseN] at h
  | true :: l, 0, _ => rfl
  | true :: l, i + 1, h => by
    have := base_below l i (by simp [baseN] at h; omega)
    simpa using this
  | false :: l, i, h => by simp [baseN] at h
theorem base_at : ∀ (l : List Bool), l.getD (baseN l) false = false
  | [] => rfl
  | true :: l => by simpa [baseN] using base_at l
  | false :: l => rfl
theorem base_one {l : List Bool} {k : Nat} (h1 : ∀ i, i < k → l.getD i false = true) (h2 : l.getD k false = false) : baseN l = k := by
  rcases Nat.lt_trichotomy (baseN l) k with h | h | h
  · have := h1 _ h; rw [base_at l] at this; cases this
  · exact h
  · have := base_below l k h; rw [h2] at this; cases this
theorem base_full {l : List Bool} (h : ∀ i, i < l.length → l.getD i false = true) : baseN l = l.length := base_one h (getD_out l _ (Nat.le_refl _))
theorem cnt_full_iff (l : List Bool) : baseN l = l.length ↔ cntN l = l.length := by
  induction l with
  | nil => simp [baseN, cntN]
  | cons b l ih =>
    have h1 := base_le l
    have h2 := cnt_le l
    cases b
    · simp [baseN, cntN] at *
      omega
    · simp [baseN, cntN] at *
      omega
theorem base_append_ones (k : Nat) (m : List Bool) : baseN (List.replicate k true ++ m) = k + baseN m := by
  induction k with
  | zero => simp
  | succ k ih => rw [List.replicate_succ, List.cons_append]; simp only [baseN]; omega
theorem base_append_not : ∀ (l m : List Bool), baseN l < l.length → baseN (l ++ m) = baseN l
  | [], m, h => by simp [baseN] at h
  | true :: l, m, h => by simp only [List.cons_append, baseN]; rw [base_append_not l m (by simp [baseN] at h; omega)]
  | false :: l, m, h => rfl
theorem base_ones : ∀ (l : List Bool), baseN l = l.length → l = List.replicate l.length true
  | [], _ => rfl
  | true :: l, h => by rw [List.length_cons, List.replicate_succ, ← base_ones l (by simpa [baseN] using h)]
  | false :: l, h => by simp [baseN] at h

theorem misK_zero (l : List Bool) (a b : Int) : misK l a b 0 = [] := rfl
theorem misK_yes (l : List Bool) (a b : Int) (k : Nat) (h : misP l a b k = true) : misK l a b (k + 1) = misK l a b k ++ [k] := by
  simp [misK, List.range_succ, List.filter_append, h]
theorem misK_no (l : List Bool) (a b : Int) (k : Nat) (h : misP l a b k = false) : misK l a b (k + 1) = misK l a b k := by
  simp [misK, List.range_succ, List.filter_append, h]
theorem misK_len (l : List Bool) (a b : Int) (k : Nat) : (misK l a b k).length ≤ k := by
  have := List.length_filter_le (misP l a b) (List.range k)
  simpa [misK] using this
/-- What stands ahead of the first one asked for, and behind the last one, makes no difference. -/
theorem misK_low (l : List Bool) (a b : Int) (k : Nat) (h : (k : Int) ≤ a) : misK l a b k = [] := by
  unfold misK
  rw [List.filter_eq_nil_iff]
  intro i hi
  rw [List.mem_range] at hi
  simp [misP]
  omega
theorem misK_more (l : List Bool) (a b : Int) (k : Nat) (h : b ≤ (k : Int)) : ∀ m, misK l a b (k + m) = misK l a b k
  | 0 => rfl
  | m + 1 => by
    rw [← Nat.add_assoc, misK_no l a b (k + m) (by simp [misP]; omega), misK_more l a b k h m]

theorem merK_len (l : List Bool) (a : Int) (s : List UInt8) (k : Nat) : (merK l a s k).length = l.length := by simp [merK]
theorem merL_len (l : List Bool) (a : Int) (s : List UInt8) : (merL l a s).length = l.length := merK_len _ _ _ _
theorem merK_get (l : List Bool) (a : Int) (s : List UInt8) (k i : Nat) (hi : i < l.length) : (merK l a s k).getD i false = (l.getD i false || (decide (i < k) && toldB a s i)) := by
  rw [List.getD_eq_getElem?_getD]
  simp [merK, hi]
theorem merL_get (l : List Bool) (a : Int) (s : List UInt8) (i : Nat) (hi : i < l.length) : (merL l a s).getD i false = (l.getD i false || toldB a s i) := by
  unfold merL
  rw [merK_get l a s _ i hi, decide_eq_true hi, Bool.true_and]
theorem merK_zero (l : List Bool) (a : Int) (s : List UInt8) : merK l a s 0 = l := ext_getD (merK_len _ _ _ _) fun i hi => by
  rw [merK_len] at hi
  rw [merK_get l a s 0 i hi]; simp
theorem merK_yes (l : List Bool) (a : Int) (s : List UInt8) (k : Nat) (hk : k < l.length) (h : toldB a s k = true) : merK l a s (k + 1) = setL (merK l a s k) k := ext_getD (by rw [setL_len, merK_len, merK_len]) fun i hi => by
  rw [merK_len] at hi
  rw [setL_get _ _ _ (by rw [merK_len]; exact hi), merK_get l a s _ i hi, merK_get l a s _ i hi]
  by_cases e : i = k
  · subst e; simp [h]
  · have h1 : decide ((i : Int) = (k : Int)) = false := decide_eq_false (by omega)
    have h2 : decide (i < k + 1) = decide (i < k) := by rw [decide_eq_decide]; omega
    rw [h1, h2, Bool.false_or]
theorem merK_no (l : List Bool) (a : Int) (s : List UInt8) (k : Nat) (h : toldB a s k = false) : merK l a s (k + 1) = merK l a s k := ext_getD (by rw [merK_len, merK_len]) fun i hi => by
  rw [merK_len] at hi
  rw [merK_get l a s _ i hi, merK_get l a s _ i hi]
  by_cases e : i = k
  · subst e; simp [h]
  · have h2 : decide (i < k + 1) = decide (i < k) := by rw [decide_eq_decide]; omega
    rw [h2]
theorem newK_zero (l : List Bool) (a : Int) (s : List UInt8) : newK l a s 0 = 0 := rfl
theorem newK_succ (l : List Bool) (a : Int) (s : List UInt8) (k : Nat) : newK l a s (k + 1) = newK l a s k + (toldB a s k && !l.getD k false).toNat := by
  unfold newK
  rw [List.range_succ, List.filter_append, List.length_append]
  congr 1
  cases h : (toldB a s k && !l.getD k false) <;> simp only [List.filter_cons, h] <;> rfl
theorem newK_le (l : List Bool) (a : Int) (s : List UInt8) (k : Nat) : newK l a s k ≤ k := by
  have := List.length_filter_le (fun i => toldB a s i && !l.getD i false) (List.range k)
  simpa [newK] using this
theorem merK_cnt (l : List Bool) (a : Int) (s : List UInt8) : ∀ k, k ≤ l.length → cntN (merK l a s k) = cntN l + newK l a s k
  | 0, _ => by rw [merK_zero, newK_zero]; omega
  | k + 1, h => by
    have ih := merK_cnt l a s k (by omega)
    rw [newK_succ]
    have hg := merK_get l a s k k (by omega)
    rw [decide_eq_false (Nat.lt_irrefl k), Bool.false_and, Bool.or_false] at hg
    cases ht : toldB a s k
    · rw [merK_no l a s k ht, ih]; simp
    · rw [merK_yes l a s k (by omega) ht]
      cases hl : l.getD k false
      · rw [hl] at hg
        have e : setL (merK l a s k) k = (merK l a s k).set k true := by unfold setL; rw [if_pos (by omega)]; rfl
        rw [e, cnt_set _ k (by rw [merK_len]; omega) hg, ih]; simp; omega
      · rw [hl] at hg
        rw [setL_no _ _ (by unfold setB hasB; rw [Int.toNat_natCast, hg]; simp), ih]; simp
theorem merL_cnt (l : List Bool) (a : Int) (s : List UInt8) : cntN (merL l a s) = cntN l + newN l a s := merK_cnt l a s _ (Nat.le_refl _)
theorem newN_le (l : List Bool) (a : Int) (s : List UInt8) : newN l a s ≤ l.length := newK_le _ _ _ _

theorem kN_le (k : Int) : kN k ≤ 256 := by unfold kN; omega
theorem behL_len (l : List Bool) (k : Nat) : (behL l k).length = k := by simp [behL]
theorem behL_succ (l : List Bool) (k : Nat) : behL l (k + 1) = behL l k ++ [l.getD (baseN l + 1 + k) false] := by simp [behL, List.range_succ]
theorem behL_get (l : List Bool) (k i : Nat) : (behL l k).getD i false = (decide (i < k) && l.getD (baseN l + 1 + i) false) := by
  rw [List.getD_eq_getElem?_getD]
  by_cases h : i < k
  · simp [behL, h]
  · rw [List.getElem?_eq_none (by rw [behL_len]; omega), decide_eq_false h]; rfl
theorem behB_len (l : List Bool) (k : Int) : (behB l k).length = (kN k + 7) / 8 := by unfold behB; rw [bytesL_len, behL_len]
theorem ofL_behB (l : List Bool) (k : Int) (i : Nat) : (ofL (behB l k)).getD i false = (decide (i < kN k) && l.getD (baseN l + 1 + i) false) := by
  obtain ⟨z, _, hz⟩ := ofL_bytesL (behL l (kN k))
  unfold behB
  rw [hz, ← behL_get]
  by_cases h : i < (behL l (kN k)).length
  · rw [List.getD_eq_getElem?_getD, List.getElem?_append_left h, ← List.getD_eq_getElem?_getD]
  · rw [getD_out _ _ (Nat.not_lt.1 h), List.getD_eq_getElem?_getD, List.getElem?_append_right (Nat.not_lt.1 h), List.getElem?_replicate]
    split <;> rfl
/-- What a map tells of itself. -/
theorem told_self (l : List Bool) (k : Int) (i : Nat) : toldB (baseN l) (behB l k) i = (l.getD i false && (decide (i < baseN l) || decide (i < baseN l + 1 + kN k))) := by
  unfold toldB
  rw [ofL_behB]
  rcases Nat.lt_trichotomy i (baseN l) with h | h | h
  · rw [decide_eq_true (by omega : (i : Int) < baseN l), base_below l i h, decide_eq_true h]; rfl
  · rw [decide_eq_false (by omega : ¬ (i : Int) < baseN l), decide_eq_false (by omega : ¬ (baseN l : Int) < i), h, base_at]; rfl
  · rw [decide_eq_false (by omega : ¬ (i : Int) < baseN l), decide_eq_true (by omega : (baseN l : Int) < i), decide_eq_false (by omega : ¬ i < baseN l)]
    have e : ((i : Int) - baseN l - 1).toNat = i - baseN l - 1 := by omega
    have e2 : baseN l + 1 + (i - baseN l - 1) = i := by omega
    rw [e, e2, Bool.false_or, Bool.true_and, Bool.false_or, Bool.and_comm]
    congr 1
    rw [decide_eq_decide]; omega
end Go.Proofs.YtifcibmpeolmdaaDoor
