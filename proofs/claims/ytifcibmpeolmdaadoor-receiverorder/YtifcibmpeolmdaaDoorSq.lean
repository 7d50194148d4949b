/- Proved: plain mathematics for the laws of maps of chunks: maps that are filled, what is missing is all that isn't there, what one map tells another. No condition. -/
import Derived.Test.YtifcibmpeolmdaaDoorSp
namespace Go.Proofs.YtifcibmpeolmdaaDoor

/-- With some there. -/
def fillN (l : List Bool) (xs : List Nat) : List Bool := xs.foldl (fun l (c : Nat) => setL l c) l
theorem fillN_nil (l : List Bool) : fillN l [] = l := rfl
theorem fillN_snoc (l : List Bool) (xs : List Nat) (c : Nat) : fillN l (xs ++ [c]) = setL (fillN l xs) c := by simp [fillN]
theorem fillN_take (l : List Bool) (xs : List Nat) (k : Nat) (c : Nat) (h : xs[k]? = some c) : fillN l (xs.take (k + 1)) = setL (fillN l (xs.take k)) c := by
  rw [List.take_add_one, h, Option.toList_some, fillN_snoc]
theorem fillN_len (l : List Bool) : ∀ xs, (fillN l xs).length = l.length := by
  intro xs
  induction xs generalizing l with
  | nil => rfl
  | cons c xs ih => simp only [fillN, List.foldl_cons] at ih ⊢; rw [ih, setL_len]
theorem fillN_get : ∀ (xs : List Nat) (l : List Bool) (i : Nat), i < l.length → (fillN l xs).getD i false = (decide (i ∈ xs) || l.getD i false)
  | [], l, i, _ => by simp [fillN]
  | c :: xs, l, i, h => by
    have ih := fillN_get xs (setL l c) i (by rw [setL_len]; exact h)
    have e : fillN l (c :: xs) = fillN (setL l c) xs := rfl
    rw [e, ih, setL_get l c i h]
    by_cases h1 : i = c
    · subst h1; simp
    · have h2 : decide ((i : Int) = (c : Int)) = false := decide_eq_false (by omega)
      have h3 : decide (i ∈ c :: xs) = decide (i ∈ xs) := by simp [h1]
      rw [h2, h3, Bool.false_or]

theorem cnt_mono : ∀ (l m : List Bool), l.length = m.length → (∀ i, i < l.length → l.getD i false = true → m.getD i false = true) → cntN l ≤ cntN m
  | [], [], _, _ => Nat.le_refl _
  | [], _ :: _, h, _ => by simp at h
  | _ :: _, [], h, _ => by simp at h
  | b :: l, c :: m, h, hi => by
    have ih := cnt_mono l m (by simpa using h) (fun i h1 h2 => by
      have := hi (i + 1) (by simpa using h1) (by simpa using h2)
      simpa using this)
    have h0 := hi 0 (by simp)
    cases b <;> cases c <;> simp [cntN] at ih h0 ⊢ <;> omega
theorem base_mono (l m : List Bool) (h : ∀ i, i < l.length → l.getD i false = true → m.getD i false = true) : baseN l ≤ baseN m := by
  rcases Nat.lt_or_ge (baseN m) (baseN l) with h1 | h1
  · have h2 := base_below l _ h1
    have h3 := h _ (by have := base_le l; omega) h2
    rw [base_at] at h3
    cases h3
  · exact h1

theorem mis_mem (l : List Bool) (a b : Int) (i : Nat) : i ∈ misL l a b ↔ i < l.length ∧ misP l a b i = true := by
  simp [misL, misK]
theorem mis_all (l : List Bool) (i : Nat) (h : i < l.length) : misP l 0 l.length i = !l.getD i false := by
  unfold misP
  rw [decide_eq_true (by omega : (0 : Int) ≤ i), decide_eq_true (by omega : (i : Int) < l.length)]; rfl
theorem misK_cnt (l : List Bool) : ∀ k, k ≤ l.length → (misK l 0 l.length k).length + cntN (l.take k) = k
  | 0, _ => by simp [misK, cntN]
  | k + 1, h => by
    have ih := misK_cnt l k (by omega)
    have hm := mis_all l k (by omega)
    rw [List.take_add_one, get_of_getD (by omega : k < l.length), cnt_append]
    cases hg : l.getD k false
    · rw [hg] at hm
      rw [misK_yes l 0 _ k hm, List.length_append, show cntN (some false).toList = 0 from rfl]
      simp; omega
    · rw [hg] at hm
      rw [misK_no l 0 _ k hm, show cntN (some true).toList = 1 from rfl]
      omega
theorem mis_cnt (l : List Bool) : (misL l 0 l.length).length + cntN l = l.length := by
  have := misK_cnt l l.length (Nat.le_refl _)
  rwa [List.take_length] at this
theorem misK_pre (l : List Bool) (a b : Int) (k : Nat) : ∀ m, ∃ t, misK l a b (k + m) = misK l a b k ++ t
  | 0 => ⟨[], by simp⟩
  | m + 1 => by
    obtain ⟨t, ht⟩ := misK_pre l a b k m
    cases hp : misP l a b (k + m)
    · exact ⟨t, by rw [← Nat.add_assoc, misK_no l a b _ hp, ht]⟩
    · exact ⟨t ++ [k + m], by rw [← Nat.add_assoc, misK_yes l a b _ hp, ht, List.append_assoc]⟩
theorem misK_ones (l : List Bool) (a b : Int) (k : Nat) (h : ∀ i, i < k → l.getD i false = true) : misK l a b k = [] := by
  unfold misK
  rw [List.filter_eq_nil_iff]
  intro i hi
  have := h i (List.mem_range.1 hi)
  unfold misP
  rw [this]
  simp
/-- The first one that is missing. -/
theorem mis_head (l : List Bool) (h : 0 < (misL l 0 l.length).length) : (misL l 0 l.length)[0]? = some (baseN l) := by
  have hB : baseN l < l.length := by
    rcases Nat.lt_or_ge (baseN l) l.length with h1 | h1
    · exact h1
    · have := misK_ones l 0 l.length l.length (fun i hi => base_below l i (by omega))
      unfold misL at h
      rw [this] at h
      simp at h
  have h1 := misK_ones l 0 l.length (baseN l) (base_below l)
  have h2 := misK_yes l 0 l.length (baseN l) (by rw [mis_all l _ hB, base_at]; rfl)
  obtain ⟨m, hm⟩ : ∃ m, l.length = baseN l + 1 + m := ⟨l.length - (baseN l + 1), by omega⟩
  obtain ⟨t, ht⟩ := misK_pre l 0 l.length (baseN l + 1) m
  unfold misL
  rw [h2, h1, List.nil_append, ← hm] at ht
  rw [ht]
  rfl
theorem mis_nodup (l : List Bool) (a b : Int) : (misL l a b).Nodup := List.Pairwise.filter _ List.nodup_range
/-- Each one that is missing is set, whatever of them was set ahead. -/
theorem mis_set (l : List Bool) (k c : Nat) (h : (misL l 0 l.length)[k]? = some c) : setB (fillN l ((misL l 0 l.length).take k)) c = true := by
  have hmem : c ∈ misL l 0 l.length := List.mem_of_getElem? h
  obtain ⟨hc, hp⟩ := (mis_mem l 0 l.length c).1 hmem
  rw [mis_all l c hc] at hp
  have hnot : ¬ c ∈ (misL l 0 l.length).take k := by
    intro hin
    obtain ⟨j, hj, he⟩ := List.mem_iff_getElem.1 hin
    rw [List.length_take] at hj
    rw [List.getElem_take] at he
    have hk := (List.getElem?_eq_some_iff.1 h)
    obtain ⟨hk1, hk2⟩ := hk
    have := (List.getElem_inj (mis_nodup l 0 l.length)).1 (he.trans hk2.symm)
    omega
  unfold setB hasB
  rw [fillN_len, decide_eq_true (by omega : (0 : Int) ≤ (c : Int)), decide_eq_true (by omega : (c : Int) < l.length), Int.toNat_natCast, fillN_get _ _ _ hc, decide_eq_false hnot]
  simp at hp
  simp [hp]
theorem mis_full (l : List Bool) : baseN (fillN l (misL l 0 l.length)) = l.length ∧ cntN (fillN l (misL l 0 l.length)) = l.length := by
  have h1 : baseN (fillN l (misL l 0 l.length)) = (fillN l (misL l 0 l.length)).length := base_full fun i hi => by
    rw [fillN_len] at hi
    rw [fillN_get _ _ _ hi]
    cases hg : l.getD i false
    · rw [decide_eq_true ((mis_mem l 0 l.length i).2 ⟨hi, by rw [mis_all l i hi, hg]; rfl⟩)]; rfl
    · simp
  have h2 := (cnt_full_iff _).1 h1
  rw [fillN_len] at h1 h2
  exact ⟨h1, h2⟩

/-- What one map with all bits tells another one of xs many. -/
theorem tell_get (x y : List Bool) (h : y.length = x.length) (hf : x.length ≤ 256) (i : Nat) (hi : i < x.length) : (merL y (baseN x) (behB x 256)).getD i false = (x.getD i false || y.getD i false) := by
  rw [merL_get y _ _ i (by omega), told_self]
  have : kN 256 = 256 := rfl
  rw [this, decide_eq_true (by omega : i < baseN x + 1 + 256)]
  simp [Bool.or_comm]
theorem tell_again (x y : List Bool) (h : y.length = x.length) (hf : x.length ≤ 256) : newN (merL y (baseN x) (behB x 256)) (baseN x) (behB x 256) = 0 := by
  unfold newN newK
  rw [List.length_eq_zero_iff, List.filter_eq_nil_iff]
  intro i hi
  rw [merL_len, List.mem_range] at hi
  rw [tell_get x y h hf i (by omega), told_self]
  cases x.getD i false <;> simp
theorem short_get (x : List Bool) (k : Int) (n : Nat) (_h : n = x.length) (i : Nat) (hi : i < n) : (merL (List.replicate n false) (baseN x) (behB x k)).getD i false = (x.getD i false && (decide (i < baseN x) || decide (i < baseN x + 1 + kN k))) := by
  rw [merL_get _ _ _ i (by simpa using hi), told_self]
  have : (List.replicate n false).getD i false = false := by
    rw [List.getD_eq_getElem?_getD, List.getElem?_replicate]
    split <;> rfl
  rw [this, Bool.false_or]
theorem short_cnt (x : List Bool) (k : Int) (n : Nat) (h : n = x.length) : cntN (merL (List.replicate n false) (baseN x) (behB x k)) ≤ cntN x := by
  refine cnt_mono _ _ (by rw [merL_len, List.length_replicate, h]) fun i hi ht => ?_
  rw [merL_len, List.length_replicate] at hi
  rw [short_get x k n h i hi] at ht
  simp only [Bool.and_eq_true] at ht
  exact ht.1
theorem all_told (l : List Bool) : baseN (merL l l.length []) = l.length := by
  have := base_full (l := merL l l.length []) fun i hi => by
    rw [merL_len] at hi
    rw [merL_get _ _ _ i hi]
    unfold toldB
    rw [decide_eq_true (by omega : (i : Int) < l.length)]
    simp
  rwa [merL_len] at this
theorem fill_cnt (l : List Bool) (xs : List Nat) : cntN l ≤ cntN (fillN l xs) := by
  refine cnt_mono _ _ (fillN_len l xs).symm fun i hi ht => ?_
  rw [fillN_get _ _ _ hi, ht, Bool.or_true]
/-- What becomes of the base with one more there. -/
theorem base_set (l : List Bool) (i : Int) : baseN l ≤ baseN (setL l i) ∧ (baseN l < baseN (setL l i) → setB l i = true ∧ i = (baseN l : Int)) ∧ (setB l i = true → hasB (setL l i) i = true) := by
  refine ⟨base_mono _ _ fun k hk ht => by rw [setL_get l i k hk, ht, Bool.or_true], fun h => ?_, fun h => ?_⟩
  · have h1 := base_below (setL l i) _ h
    have h2 := base_le (setL l i)
    rw [setL_len] at h2
    rw [setL_get l i _ (by omega), base_at, Bool.or_false] at h1
    have h3 : (baseN l : Int) = i := of_decide_eq_true h1
    refine ⟨?_, h3.symm⟩
    unfold setB hasB
    rw [← h3, decide_eq_true (by omega : (0 : Int) ≤ (baseN l : Int)), decide_eq_true (by omega : (baseN l : Int) < l.length), Int.toNat_natCast, base_at]
    rfl
  · obtain ⟨h0, h1, h2, _⟩ := setL_yes l i h
    unfold hasB
    rw [decide_eq_true h0, setL_get l i _ h1, decide_eq_true (by omega : ((i.toNat : Nat) : Int) = i)]
    rfl
end Go.Proofs.YtifcibmpeolmdaaDoor
