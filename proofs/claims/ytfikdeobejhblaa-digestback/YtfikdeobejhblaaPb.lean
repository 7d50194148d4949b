/- Proved: what becomes of digests behind a change and the change back; which ranges differ behind it. Condition: lists are no longer than a table's. -/
import Derived.Test.YtfikdeobejhblaaAw
namespace Go.Proofs.Ytfikdeobejhblaa
open Go.RowKit

theorem inU (op : BinOp) (x y : Int) : 0 ≤ bits op .u64 x y ∧ bits op .u64 x y < 18446744073709551616 := by
  unfold bits
  simp only [IntKind.wrap_u64]
  omega
theorem mark_in (r : Rt) : 0 ≤ markOf r ∧ markOf r < 18446744073709551616 := by
  unfold markOf
  rcases List.eq_nil_or_concat (markT r) with h | ⟨l, c, h⟩
  · rw [h]; simp [markL]
  · rw [h, List.concat_eq_append, markL_snoc]
    unfold stepM mixZ
    exact inU _ _ _
/-- A route that is there, and the others. -/
theorem old_perm {l : List Rt} {p : Px} (hs : Sorted l) (h : hasP l p = true) : ∃ m, l.Perm (getS l p :: m) ∧ (getS l p).to = p := by
  obtain ⟨A, y, B, rfl, rfl, hA, hB⟩ := split_has hs h
  rw [get_old hA hB]
  exact ⟨A ++ B, mid_perm A B y, rfl⟩
theorem get_to {l : List Rt} {p : Px} (hs : Sorted l) (h : hasP l p = true) : (getS l p).to = p := by
  obtain ⟨_, _, e⟩ := old_perm hs h
  exact e
theorem back_new (l : List Rt) (r : Rt) (mw m' : Int) (hl : l.length ≤ 300) : moreD (moreD (allD l) 1 (bkt r.to) (markOf r) mw) 3 (bkt r.to) m' (markOf r) = allD l := by
  have e1 : moreD (allD l) 1 (bkt r.to) (markOf r) mw = allD (r :: l) := by
    unfold moreD
    rw [if_neg (by rw [allD_len]; simp), if_pos rfl, add_all r l (by omega)]
  rw [e1]
  unfold moreD
  rw [if_neg (by rw [allD_len]; simp), if_neg (by decide), if_neg (by decide), if_pos rfl, sub_all r l (by omega)]
theorem change_all (y r : Rt) (m : List Rt) (hl : m.length ≤ 300) (h : y.to = r.to) : moreD (allD (y :: m)) 2 (bkt r.to) (markOf r) (markOf y) = allD (r :: m) := by
  unfold moreD
  rw [if_neg (by rw [allD_len]; simp), if_neg (by decide), if_pos rfl, ← h, sub_all y m (by omega), h, add_all r m (by omega)]
theorem back_old {l : List Rt} {r : Rt} (hs : Sorted l) (hl : l.length ≤ 300) (h : hasP l r.to = true) : moreD (moreD (allD l) 2 (bkt r.to) (markOf r) (markOf (getS l r.to))) 2 (bkt r.to) (markOf (getS l r.to)) (markOf r) = allD l := by
  obtain ⟨m, hp, e⟩ := old_perm hs h
  have hm : m.length ≤ 300 := by have := hp.length_eq; simp at this; omega
  rw [allD_perm hp]
  generalize getS l r.to = y at *
  rw [change_all y r m hm e, ← e, change_all r y m hm e.symm]
theorem differ_new (l : List Rt) (r : Rt) (mw : Int) (hl : l.length ≤ 300) : diffD (allD l) (moreD (allD l) 1 (bkt r.to) (markOf r) mw) ≠ [] := by
  unfold moreD
  rw [if_neg (by rw [allD_len]; simp), if_pos rfl, add_all r l (by omega)]
  intro h
  have := (diff_nil (allD_len _) (allD_len _)).1 h
  have h2 : (allD l)[bkt r.to]? = (allD (r :: l))[bkt r.to]? := by rw [this]
  rw [allD_get _ _ (bkt_lt _), allD_get _ _ (bkt_lt _)] at h2
  have h3 := congrArg Dg.n (Option.some.inj h2)
  unfold dgOf dgR at h3
  rw [part_cons, if_pos rfl] at h3
  simp only [List.length_cons] at h3
  omega
theorem differ_old {l : List Rt} {r : Rt} (hs : Sorted l) (hl : l.length ≤ 300) (h : hasP l r.to = true) : diffD (allD l) (moreD (allD l) 2 (bkt r.to) (markOf r) (markOf (getS l r.to))) = [] ↔ markOf (getS l r.to) = markOf r := by
  obtain ⟨m, hp, e⟩ := old_perm hs h
  have hm : m.length ≤ 300 := by have := hp.length_eq; simp at this; omega
  rw [allD_perm hp]
  generalize getS l r.to = y at *
  rw [change_all y r m hm e, diff_nil (allD_len _) (allD_len _)]
  constructor
  · intro h1
    have h2 : (allD (y :: m))[bkt r.to]? = (allD (r :: m))[bkt r.to]? := by rw [h1]
    rw [allD_get _ _ (bkt_lt _), allD_get _ _ (bkt_lt _)] at h2
    have h3 := congrArg Dg.s (Option.some.inj h2)
    unfold dgOf dgR sumM at h3
    rw [part_cons, if_pos (by rw [e]), part_cons, if_pos rfl] at h3
    simp only [List.map_cons, List.sum_cons, U_eq] at h3
    have := mark_in y
    have := mark_in r
    omega
  · intro h1
    rw [← all_cons y m (by omega), ← all_cons r m (by omega), e, h1]
theorem do_no {t : List Rt} {k : Int} {r : Rt} (h : (doS t k r).2 ≠ 0) : (doS t k r).1 = t := by
  revert h
  unfold doS putS dropS
  repeat' split
  all_goals simp
end Go.Proofs.Ytfikdeobejhblaa
