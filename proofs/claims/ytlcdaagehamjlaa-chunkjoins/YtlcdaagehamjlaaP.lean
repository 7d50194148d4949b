/- Proved: plain mathematics of a text's chunks, with no program in it: how many there are, which ones, joined, side by side. Conditions where they stand (a chunk's size is above 0). -/
namespace Go.Proofs.Ytlcdaagehamjlaa

/-- A chunk's size; 0: none. -/
def sizeI (m : Int) : Int := if m < 64 ∨ 65535 < m then 0 else if 1019 < m then 1000 else m - 19
theorem sizeI_cases (m : Int) : (sizeI m = 0 ∧ (m < 64 ∨ 65535 < m)) ∨ (64 ≤ m ∧ m ≤ 65535 ∧ 45 ≤ sizeI m ∧ sizeI m ≤ 1000 ∧ ((1019 < m ∧ sizeI m = 1000) ∨ (m ≤ 1019 ∧ sizeI m = m - 19))) := by
  unfold sizeI
  split
  · exact .inl ⟨rfl, by assumption⟩
  · split <;> exact .inr (by omega)
/-- How many chunks n bytes make. -/
def cnt (k n : Nat) : Nat := if n = 0 then 1 else (n - 1) / k + 1
theorem cnt_pos (k n : Nat) : 1 ≤ cnt k n := by
  unfold cnt
  split
  · omega
  · exact Nat.le_add_left _ _
theorem cnt_zero (k : Nat) : cnt k 0 = 1 := rfl
theorem cnt_one {k n : Nat} (h : 0 < n) : cnt k n = (n - 1) / k + 1 := by unfold cnt; rw [if_neg (by omega)]
theorem cnt_le {k : Nat} (hk : 0 < k) (n : Nat) : n ≤ cnt k n * k := by
  unfold cnt
  split
  · omega
  · have h1 := Nat.div_add_mod (n - 1) k
    have h2 := Nat.mod_lt (n - 1) hk
    rw [Nat.add_mul, Nat.one_mul, Nat.mul_comm]
    omega
theorem cnt_lt {k : Nat} (n : Nat) (h : 0 < n) : (cnt k n - 1) * k < n := by
  rw [cnt_one h, Nat.add_sub_cancel]
  have h1 := Nat.div_add_mod (n - 1) k
  rw [Nat.mul_comm]
  omega
/-- What has these two bounds is the count. -/
theorem cnt_of {k c n : Nat} (hc : 1 ≤ c) (h1 : n ≤ c * k) (h2 : n = 0 → c = 1) (h3 : 0 < n → (c - 1) * k < n) : cnt k n = c := by
  rcases Nat.eq_zero_or_pos n with rfl | hn
  · rw [h2 rfl]; rfl
  · rw [cnt_one hn]
    have h4 : (n - 1) / k = c - 1 := by
      refine Nat.div_eq_of_lt_le (by have := h3 hn; omega) ?_
      rw [show c - 1 + 1 = c by omega]
      omega
    omega
theorem cnt_max {k : Nat} (hk : 0 < k) (n : Nat) : max ((n + k - 1) / k) 1 = cnt k n := by
  rcases Nat.eq_zero_or_pos n with rfl | hn
  · have : (0 + k - 1) / k = 0 := Nat.div_eq_of_lt (by omega)
    rw [this]; rfl
  · rw [cnt_one hn, show n + k - 1 = (n - 1) + k by omega, Nat.add_div_right _ hk]
    exact Nat.max_eq_left (Nat.le_add_left _ _)
theorem cnt_mono {k n m : Nat} (h : n ≤ m) : cnt k n ≤ cnt k m := by
  rcases Nat.eq_zero_or_pos n with rfl | hn
  · exact cnt_pos _ _
  · rw [cnt_one hn, cnt_one (by omega)]
    exact Nat.succ_le_succ (Nat.div_le_div_right (by omega))
theorem cnt_wide {k j n : Nat} (hk : 0 < k) (h : k ≤ j) : cnt j n ≤ cnt k n := by
  rcases Nat.eq_zero_or_pos n with rfl | hn
  · exact Nat.le_refl _
  · rw [cnt_one hn, cnt_one hn]
    exact Nat.succ_le_succ (Nat.div_le_div_left h hk)
theorem cnt_all {k n c : Nat} (hk : 0 < k) (hc : 1 ≤ c) (h : n ≤ c * k) : cnt k n ≤ c := by
  rcases Nat.eq_zero_or_pos n with rfl | hn
  · exact hc
  · rw [cnt_one hn]
    have : (n - 1) / k < c := (Nat.div_lt_iff_lt_mul hk).2 (by omega)
    omega
theorem cnt_self {k a : Nat} (hk : 0 < k) (ha : 1 ≤ a) : cnt k (a * k) = a := by
  have h1 := Nat.mul_le_mul_right k ha
  refine cnt_of ha (Nat.le_refl _) (fun h => ?_) (fun _ => ?_)
  · omega
  · rw [Nat.sub_mul]; omega
theorem cnt_add {k a n : Nat} (hk : 0 < k) (hn : 0 < n) : cnt k (a * k + n) = a + cnt k n := by
  have h1 := cnt_le hk n
  have h2 := cnt_lt (k := k) n hn
  have h3 := cnt_pos k n
  refine cnt_of (by omega) ?_ (fun h => by omega) (fun _ => ?_)
  · rw [Nat.add_mul]; omega
  · rw [show a + cnt k n - 1 = a + (cnt k n - 1) by omega, Nat.add_mul]; omega
theorem cnt_succ {k n : Nat} (hk : 0 < k) : cnt k (n + 1) = cnt k n ∨ cnt k (n + 1) = cnt k n + 1 := by
  have h1 : cnt k n ≤ cnt k (n + 1) := cnt_mono (by omega)
  have h2 := cnt_le hk n
  have h3 : cnt k (n + 1) ≤ cnt k n + 1 := cnt_all hk (by omega) (by rw [Nat.add_mul]; omega)
  omega

/-- The document's count; -1: none. -/
def countI (n m : Int) : Int := if sizeI m = 0 ∨ n < 0 ∨ 256 * sizeI m < n then -1 else (cnt (sizeI m).toNat n.toNat : Nat)
theorem countI_no {n m : Int} (h : sizeI m = 0 ∨ n < 0 ∨ 256 * sizeI m < n) : countI n m = -1 := if_pos h
theorem countI_ok {n k : Nat} {m : Int} (hk : sizeI m = (k : Nat)) (h0 : 0 < k) (h : n ≤ 256 * k) : countI n m = (cnt k n : Nat) := by
  unfold countI
  rw [if_neg (by omega), hk]
  rfl

section
variable {α : Type}
/-- The first n chunks. -/
def partsN (k : Nat) : Nat → List α → List (List α)
  | 0, _ => []
  | n + 1, l => l.take k :: partsN k n (l.drop k)
theorem partsN_len (k : Nat) : ∀ (n : Nat) (l : List α), (partsN k n l).length = n
  | 0, _ => rfl
  | n + 1, l => by rw [partsN, List.length_cons, partsN_len k n]
theorem partsN_flat (k : Nat) : ∀ (n : Nat) (l : List α), (partsN k n l).flatten = l.take (n * k)
  | 0, l => by simp [partsN]
  | n + 1, l => by
    rw [partsN, List.flatten_cons, partsN_flat k n, Nat.add_mul, Nat.one_mul, Nat.add_comm, List.take_add]
theorem partsN_add (k : Nat) : ∀ (a b : Nat) (l : List α), partsN k (a + b) l = partsN k a l ++ partsN k b (l.drop (a * k))
  | 0, b, l => by simp [partsN]
  | a + 1, b, l => by
    rw [show a + 1 + b = (a + b) + 1 by omega, partsN, partsN, partsN_add k a b, List.drop_drop, List.cons_append, Nat.add_mul, Nat.one_mul, Nat.add_comm k]
theorem partsN_succ (k n : Nat) (l : List α) : partsN k (n + 1) l = partsN k n l ++ [(l.drop (n * k)).take k] := partsN_add k n 1 l
theorem partsN_head (k : Nat) : ∀ (a : Nat) (h t : List α), a * k ≤ h.length → partsN k a (h ++ t) = partsN k a h
  | 0, _, _, _ => rfl
  | a + 1, h, t, hl => by
    rw [Nat.add_mul, Nat.one_mul] at hl
    rw [partsN, partsN, List.take_append_of_le_length (by omega), List.drop_append_of_le_length (by omega), partsN_head k a _ t (by rw [List.length_drop]; omega)]
theorem partsN_get (k : Nat) : ∀ (n : Nat) (l : List α) (i : Nat), i < n → (partsN k n l)[i]? = some ((l.drop (i * k)).take k)
  | 0, _, _, h => by omega
  | n + 1, l, 0, _ => by simp [partsN]
  | n + 1, l, i + 1, h => by
    rw [partsN, List.getElem?_cons_succ, partsN_get k n _ i (by omega), List.drop_drop, Nat.add_mul, Nat.one_mul, Nat.add_comm k]
/-- A text's chunks. -/
def parts (k : Nat) (l : List α) : List (List α) := partsN k (cnt k l.length) l
theorem parts_len (k : Nat) (l : List α) : (parts k l).length = cnt k l.length := partsN_len _ _ _
theorem parts_flat {k : Nat} (hk : 0 < k) (l : List α) : (parts k l).flatten = l := by
  rw [parts, partsN_flat, List.take_of_length_le (cnt_le hk _)]
theorem parts_get {k : Nat} {l : List α} {i : Nat} (h : i < cnt k l.length) : (parts k l)[i]? = some ((l.drop (i * k)).take k) := partsN_get _ _ _ _ h
/-- All chunks but the last one have the size; none is longer; none but the only one is empty. -/
theorem parts_size {k : Nat} {l : List α} {i : Nat} (h : i < cnt k l.length) (hk : 0 < k) : ((l.drop (i * k)).take k).length ≤ k ∧ (i + 1 < cnt k l.length → ((l.drop (i * k)).take k).length = k) ∧ (1 < cnt k l.length → ((l.drop (i * k)).take k).length ≠ 0) := by
  rcases Nat.eq_zero_or_pos l.length with h0 | h0
  · rw [h0, cnt_zero]
    rw [List.length_take, List.length_drop]
    omega
  · have h1 := cnt_lt (k := k) l.length h0
    have h2 : i * k ≤ (cnt k l.length - 1) * k := Nat.mul_le_mul_right k (by omega)
    rw [List.length_take, List.length_drop]
    refine ⟨by omega, fun h3 => ?_, fun _ => by omega⟩
    have h4 : (i + 1) * k ≤ (cnt k l.length - 1) * k := Nat.mul_le_mul_right k (by omega)
    rw [Nat.add_mul] at h4
    omega
/-- A text's chunks are those of its first ones' bytes, and those of the rest. -/
theorem parts_append {k a : Nat} (hk : 0 < k) (ha : 1 ≤ a) {h t : List α} (hh : h.length = a * k) (ht : t ≠ []) : parts k (h ++ t) = parts k h ++ parts k t := by
  have ht0 : 0 < t.length := List.length_pos_iff.2 ht
  unfold parts
  rw [List.length_append, hh, cnt_add hk ht0, cnt_self hk ha, partsN_add, partsN_head k a h t (by omega), List.drop_append, ← hh, List.drop_length, Nat.sub_self, List.nil_append, List.drop_zero]
end

/-- What Cut answers: an error, or chunks. -/
def cutE (l : List UInt8) (m : Int) : Int := if sizeI m = 0 then 1 else if 256 * sizeI m < l.length then 7 else 0
def cutL (l : List UInt8) (m : Int) : List (List UInt8) := if cutE l m = 0 then parts (sizeI m).toNat l else []
theorem cutE_cases (l : List UInt8) (m : Int) : (sizeI m = 0 ∧ cutE l m = 1 ∧ cutL l m = []) ∨ (∃ k : Nat, sizeI m = k ∧ 45 ≤ k ∧ k ≤ 1000 ∧ 256 * k < l.length ∧ cutE l m = 7 ∧ cutL l m = []) ∨
    (∃ k : Nat, sizeI m = k ∧ 45 ≤ k ∧ k ≤ 1000 ∧ l.length ≤ 256 * k ∧ cutE l m = 0 ∧ cutL l m = parts k l ∧ cnt k l.length ≤ 256) := by
  unfold cutL cutE
  rcases sizeI_cases m with ⟨h, _⟩ | ⟨_, _, h1, h2, _⟩
  · exact .inl ⟨h, by rw [if_pos h], by rw [if_pos h]; rfl⟩
  · obtain ⟨k, hk⟩ := Int.eq_ofNat_of_zero_le (show 0 ≤ sizeI m by omega)
    rw [hk] at h1 h2 ⊢
    rw [if_neg (show ¬ ((k : Nat) : Int) = 0 by omega)]
    by_cases hl : 256 * ((k : Nat) : Int) < l.length
    · rw [if_pos hl]
      exact .inr (.inl ⟨k, rfl, by omega, by omega, by omega, rfl, rfl⟩)
    · rw [if_neg hl]
      exact .inr (.inr ⟨k, rfl, by omega, by omega, by omega, rfl, rfl, cnt_all (by omega) (by omega) (by omega)⟩)
end Go.Proofs.Ytlcdaagehamjlaa
