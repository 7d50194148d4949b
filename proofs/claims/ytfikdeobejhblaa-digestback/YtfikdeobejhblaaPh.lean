/- Proved: plain mathematics of tables' ranges: routes replaced range by range. No condition but lengths. -/
import Derived.Test.YtfikdeobejhblaaPg
import Derived.Test.YtfikdeobejhblaaMs
namespace Go.Proofs.Ytfikdeobejhblaa
open Go.RowKit

/-! ### Routes replaced -/
def replL (l : List Rt) (k : Int) (m : List Rt) : List Rt := othB l k ++ m
def replE (newE : List Rt → Int) (l : List Rt) (k : Int) (m : List Rt) : Int :=
  if k < 0 ∨ 17 ≤ k then 2 else if ∀ r ∈ m, (bkt r.to : Int) = k then newE (replL l k m) else 1
/-- How many: of all ranges together. -/
def cnt (l : List Rt) : Nat := ((List.range 17).map fun k : Nat => (partB l k).length).sum
theorem sum_bump (f : Nat → Nat) (b : Nat) : ∀ n, ((List.range n).map fun k => if b = k then f k + 1 else f k).sum = ((List.range n).map f).sum + if b < n then 1 else 0
  | 0 => by simp
  | n + 1 => by
    rw [List.range_succ, List.map_append, List.map_append, List.sum_append, List.sum_append, sum_bump f b n]
    by_cases h : b = n
    · subst h
      simp
      omega
    · by_cases h2 : b < n
      · simp [h, h2, show b < n + 1 by omega]
        omega
      · simp [h, h2, show ¬ b < n + 1 by omega]
theorem cnt_cons (r : Rt) (l : List Rt) : cnt (r :: l) = cnt l + 1 := by
  unfold cnt
  have h : ((List.range 17).map fun k : Nat => (partB (r :: l) k).length) = (List.range 17).map fun k : Nat => if bkt r.to = k then (partB l k).length + 1 else (partB l k).length := by
    refine List.map_congr_left fun k _ => ?_
    rw [part_cons]
    split <;> simp
  rw [h, sum_bump (fun k => (partB l k).length) (bkt r.to) 17, if_pos (bkt_lt r.to)]
theorem cnt_len : ∀ l : List Rt, cnt l = l.length
  | [] => rfl
  | r :: l => by rw [cnt_cons, cnt_len l, List.length_cons]
theorem sum_le (f g h : Nat → Nat) : ∀ n, (∀ k, k < n → f k ≤ g k + h k) → ((List.range n).map f).sum ≤ ((List.range n).map g).sum + ((List.range n).map h).sum
  | 0, _ => by simp
  | n + 1, hh => by
    have := sum_le f g h n fun k hk => hh k (by omega)
    have h2 := hh n (by omega)
    simp [List.range_succ]
    omega
theorem part_oth (l : List Rt) (j : Nat) (k : Int) : partB (othB l k) j = if (j : Int) = k then [] else partB l j := by
  unfold partB othB
  rw [List.filter_filter]
  by_cases h : (j : Int) = k
  · rw [if_pos h, List.filter_eq_nil_iff]
    intro r _
    simp only [isB, Bool.and_eq_true, Bool.not_eq_true', decide_eq_true_eq, decide_eq_false_iff_not, not_and, Classical.not_not]
    omega
  · rw [if_neg h]
    refine List.filter_congr fun r _ => ?_
    by_cases h2 : (bkt r.to : Int) = j
    · have h3 : ¬ (bkt r.to : Int) = k := by omega
      simp [isB, h2, h]
    · simp [isB, h2]
theorem part_part (l : List Rt) (j k : Nat) : partB (partB l k) j = if j = k then partB l k else [] := by
  unfold partB
  rw [List.filter_filter]
  by_cases h : j = k
  · subst h
    rw [if_pos rfl]
    refine List.filter_congr fun r _ => ?_
    simp
  · rw [if_neg h, List.filter_eq_nil_iff]
    intro r _
    simp [isB]
    omega
theorem part_app (l m : List Rt) (k : Int) : partB (l ++ m) k = partB l k ++ partB m k := List.filter_append ..
theorem part_repl (l m : List Rt) (j k : Nat) : partB (replL l k (partB m k)) j = if j = k then partB m k else partB l j := by
  unfold replL
  rw [part_app, part_oth, part_part]
  by_cases h : j = k
  · simp [h]
  · rw [if_neg (by omega), if_neg h, if_neg h, List.append_nil]
/-- Lists in order with the same parts are the same. -/
theorem count_parts (l : List Rt) (r : Rt) : r ∈ l ↔ r ∈ partB l (bkt r.to : Nat) := by
  simp [partB, isB]
theorem same_parts {l m : List Rt} (hl : Sorted l) (hm : Sorted m) (h : ∀ k, k < 17 → partB l (k : Nat) = partB m (k : Nat)) : l = m := by
  have hd : ∀ {x : List Rt}, Sorted x → x.Nodup := fun {x} hx => by
    refine hx.imp (fun {a b} hab e => ?_)
    rw [e, cmp_self] at hab
    omega
  refine sorted_unique hl hm ?_
  rw [List.perm_ext_iff_of_nodup (hd hl) (hd hm)]
  intro r
  rw [count_parts l r, count_parts m r, h _ (bkt_lt r.to)]
theorem part_right {l : List Rt} {k : Int} (h : ∀ r ∈ l, rightR r) : ∀ r ∈ partB l k, rightR r := fun r hr => h r (List.mem_filter.1 hr).1
theorem oth_right {l : List Rt} {k : Int} (h : ∀ r ∈ l, rightR r) : ∀ r ∈ othB l k, rightR r := fun r hr => h r (List.mem_filter.1 hr).1
theorem part_bkt {l : List Rt} {k : Int} : ∀ r ∈ partB l k, (bkt r.to : Int) = k := fun r hr => by
  have := (List.mem_filter.1 hr).2
  simpa [isB] using this
theorem oth_bkt {l : List Rt} {k : Int} : ∀ r ∈ othB l k, (bkt r.to : Int) ≠ k := fun r hr => by
  have := (List.mem_filter.1 hr).2
  simpa [isB] using this
/-- A table whose one range is another one's: no error. -/
theorem repl_ok {z y : List Rt} (hz : Sorted z) (hy : Sorted y) (rz : ∀ r ∈ z, rightR r) (ry : ∀ r ∈ y, rightR r) (k : Nat) (hc : (replL z k (partB y k)).length ≤ 300) : newE (replL z k (partB y k)) = 0 := by
  have h1 : ∀ r ∈ replL z k (partB y k), rightR r := fun r hr => by
    rcases List.mem_append.1 hr with h | h
    · exact oth_right rz r h
    · exact part_right ry r h
  have h2 : ((replL z k (partB y k)).map (·.to)).Nodup := by
    unfold replL
    rw [List.map_append, List.nodup_append]
    refine ⟨nodup_of (hz.sub (List.filter_sublist ..)), nodup_of (hy.sub (List.filter_sublist ..)), ?_⟩
    rintro a ha b hb rfl
    obtain ⟨r, hr, er⟩ := List.mem_map.1 ha
    obtain ⟨s, hs, es⟩ := List.mem_map.1 hb
    have e1 := oth_bkt r hr
    have e2 := part_bkt s hs
    rw [er] at e1
    rw [es] at e2
    exact e1 e2
  unfold newE
  rw [if_pos h1, if_pos h2, if_pos hc]
end Go.Proofs.Ytfikdeobejhblaa
