/- Proved: a table some of whose ranges are another one's: its ranges, that nothing is refused, and what it is when all that differ are replaced. Condition: both are no longer than 300 together. -/
import Derived.Test.YtfikdeobejhblaaPh
namespace Go.Proofs.Ytfikdeobejhblaa
open Go.RowKit

theorem new_right {l m : List Rt} (h : newE l = 0) (hp : m.Perm l) : (∀ r ∈ m, rightR r) ∧ m.length = l.length := by
  refine ⟨fun r hr => ?_, hp.length_eq⟩
  unfold newE at h
  by_cases h1 : ∀ r ∈ l, rightR r
  · exact h1 r (hp.mem_iff.1 hr)
  · rw [if_neg h1] at h
    exact absurd h (by decide)
/-- In z the ranges of D are y's, the others x's. -/
def Mid (x y : List Rt) (D : List Nat) (z : List Rt) : Prop := ∀ j, j < 17 → partB z (j : Nat) = if j ∈ D then partB y (j : Nat) else partB x (j : Nat)
theorem Mid.start (x y : List Rt) : Mid x y [] x := fun j _ => by simp
theorem Mid.right {x y z : List Rt} {D : List Nat} (h : Mid x y D z) (rx : ∀ r ∈ x, rightR r) (ry : ∀ r ∈ y, rightR r) : ∀ r ∈ z, rightR r := fun r hr => by
  have h1 := (count_parts z r).1 hr
  rw [h _ (bkt_lt r.to)] at h1
  split at h1
  · exact part_right ry r h1
  · exact part_right rx r h1
theorem Mid.len {x y z : List Rt} {D : List Nat} (h : Mid x y D z) (k : Nat) : (replL z k (partB y (k : Nat))).length ≤ x.length + y.length := by
  rw [← cnt_len (replL z k (partB y (k : Nat))), ← cnt_len x, ← cnt_len y]
  refine sum_le (fun j => (partB (replL z k (partB y (k : Nat))) (j : Nat)).length) (fun j => (partB x (j : Nat)).length) (fun j => (partB y (j : Nat)).length) 17 fun j hj => ?_
  simp only [part_repl, h j hj]
  by_cases e : j = k
  · rw [if_pos e, e]; omega
  · rw [if_neg e]
    split <;> omega
theorem Mid.repl {x y z : List Rt} {D : List Nat} (h : Mid x y D z) (hz : Sorted z) (hy : Sorted y) (rx : ∀ r ∈ x, rightR r) (ry : ∀ r ∈ y, rightR r) (hl : x.length + y.length ≤ 300) (k : Nat) (hk : k < 17) : replE newE z k (partB y (k : Nat)) = 0 := by
  unfold replE
  rw [if_neg (by omega), if_pos (fun r hr => part_bkt r hr)]
  exact repl_ok hz hy (h.right rx ry) ry k (Nat.le_trans (h.len k) hl)
theorem Mid.step {x y z z' : List Rt} {D : List Nat} (h : Mid x y D z) (hz : Sorted z) (hy : Sorted y) (k : Nat) (hz' : Sorted z') (hp : z'.Perm (replL z k (partB y (k : Nat)))) : Mid x y (D ++ [k]) z' := fun j hj => by
  have h1 : (partB z' (j : Nat)).Perm (partB (replL z k (partB y (k : Nat))) (j : Nat)) := hp.filter _
  rw [part_repl] at h1
  have hs : Sorted (partB z' (j : Nat)) := hz'.sub (List.filter_sublist ..)
  by_cases e : j = k
  · rw [if_pos e] at h1
    subst e
    rw [if_pos (by simp)]
    have hs2 : Sorted (partB y (j : Nat)) := hy.sub (List.filter_sublist ..)
    exact sorted_unique hs hs2 h1
  · rw [if_neg e] at h1
    have hs2 : Sorted (partB z (j : Nat)) := hz.sub (List.filter_sublist ..)
    rw [sorted_unique hs hs2 h1, h j hj]
    by_cases hD : j ∈ D
    · rw [if_pos hD, if_pos (by simp [hD])]
    · rw [if_neg hD, if_neg (by simp [hD, e])]
theorem Mid.done {x y z : List Rt} {D : List Nat} (h : Mid x y D z) (hz : Sorted z) (hy : Sorted y) (hd : ∀ j, j < 17 → j ∉ D → partB x (j : Nat) = partB y (j : Nat)) : z = y := by
  refine same_parts hz hy fun j hj => ?_
  rw [h j hj]
  split
  · rfl
  · rename_i h1
    exact hd j hj h1
theorem alike_no {l m : List Rt} {k : Nat} (h : partB l (k : Nat) = partB m (k : Nat)) : ¬ k ∈ diffD (allD l) (allD m) := by
  rw [diff_all]
  rintro ⟨_, h1⟩
  exact h1 (by unfold dgOf; rw [h])
theorem take_len {D : List Nat} {k n : Nat} (h : D[k]? = some n) : D.take (k + 1) = D.take k ++ [n] := by
  rw [List.take_add_one, h]
  rfl
theorem diff_lt {a b : List Dg} {k n : Nat} (h : (diffD a b)[k]? = some n) : n < 17 := (diff_mem.1 (List.mem_of_getElem? h)).1
end Go.Proofs.Ytfikdeobejhblaa
