/- Proved: plain mathematics of tables: lists of routes in the order of their prefixes, a prefix's place, what is put in and what is left out. No condition. -/
import Derived.Test.YtgocmolebanflaaF
namespace Go.Proofs.Ytgocmolebanflaa
open Go.RowKit

def toP (p : Px) : X.P := ⟨p.six, X.num p.addr, p.len⟩
theorem toP_inj (p q : Px) (hp : p.addr.length = 16) (hq : q.addr.length = 16) (h : toP p = toP q) : p = q := by
  obtain ⟨s, l, n⟩ := p
  obtain ⟨t, m, k⟩ := q
  simp only [toP, X.P.mk.injEq] at h
  obtain ⟨rfl, h2, rfl⟩ := h
  rw [X.num_inj l m (by simp only at hp hq; omega) h2]
theorem cmp_toP (p q : Px) (hp : p.addr.length = 16) (hq : q.addr.length = 16) : cmpP p q = X.cmp (toP p) (toP q) := by
  have hn := X.lex_num p.addr q.addr (by omega)
  have hz : X.lex p.addr q.addr = 0 ↔ X.num p.addr = X.num q.addr := by
    rw [hn]
    unfold X.cmpI
    constructor
    · intro h
      split at h
      · omega
      · split at h <;> omega
    · intro h
      rw [h]
      simp
  unfold cmpP X.cmp toP
  by_cases hs : p.six = q.six
  · by_cases he : X.num p.addr = X.num q.addr
    · simp [hs, he, hz.2 he]
    · have h0 : ¬ X.lex p.addr q.addr = 0 := fun h => he (hz.1 h)
      rw [if_pos hs, if_neg h0]
      simp [hs, he, hn]
  · simp [hs]

/-- Prefixes of sixteen bytes. -/
abbrev L16 (p : Px) : Prop := p.addr.length = 16
theorem cmp_neg {p q : Px} (hp : L16 p) (hq : L16 q) : cmpP p q = - cmpP q p := by rw [cmp_toP p q hp hq, cmp_toP q p hq hp, X.cmp_neg]
theorem cmp_zero {p q : Px} (hp : L16 p) (hq : L16 q) : cmpP p q = 0 ↔ p = q := by
  rw [cmp_toP p q hp hq, X.cmp_zero]
  exact ⟨toP_inj p q hp hq, fun h => by rw [h]⟩
theorem cmp_lt_trans {p q r : Px} (hp : L16 p) (hq : L16 q) (hr : L16 r) (h1 : cmpP p q < 0) (h2 : cmpP q r < 0) : cmpP p r < 0 := by
  have h3 : cmpP p r ≤ 0 := by
    rw [cmp_toP p r hp hr]
    exact X.cmp_trans _ (toP q) _ (by rw [← cmp_toP p q hp hq]; omega) (by rw [← cmp_toP q r hq hr]; omega)
  have h4 : cmpP p r ≠ 0 := fun h => by
    have := (cmp_zero hp hr).1 h
    subst this
    rw [cmp_neg hq hp] at h2
    omega
  omega
theorem cmp_le_trans {p q r : Px} (hp : L16 p) (hq : L16 q) (hr : L16 r) (h1 : cmpP p q ≤ 0) (h2 : cmpP q r ≤ 0) : cmpP p r ≤ 0 := by
  rw [cmp_toP p r hp hr]
  exact X.cmp_trans _ (toP q) _ (by rw [← cmp_toP p q hp hq]; omega) (by rw [← cmp_toP q r hq hr]; omega)
theorem cmp_fits (p q : Px) : cmpP p q = -1 ∨ cmpP p q = 0 ∨ cmpP p q = 1 := by
  have h := lex_fits p.addr q.addr
  unfold cmpP X.cmpI
  repeat' split
  all_goals omega

/-- In the order of their prefixes, one a prefix. -/
def Sorted (l : List Rt) : Prop := l.Pairwise fun a b => cmpP a.to b.to < 0
/-- Where the route to a prefix stands, or would stand. -/
def rank (l : List Rt) (p : Px) : Nat := (l.takeWhile fun r => decide (cmpP r.to p < 0)).length
def hasP (l : List Rt) (p : Px) : Bool := l.any fun r => decide (r.to = p)

theorem rank_le (l : List Rt) (p : Px) : rank l p ≤ l.length := (List.takeWhile_sublist _).length_le
theorem rank_nil (p : Px) : rank [] p = 0 := rfl
theorem rank_cons (a : Rt) (l : List Rt) (p : Px) : rank (a :: l) p = if cmpP a.to p < 0 then rank l p + 1 else 0 := by
  unfold rank
  by_cases h : cmpP a.to p < 0 <;> simp [h]
theorem Sorted.tail {a : Rt} {l : List Rt} (h : Sorted (a :: l)) : Sorted l := (List.pairwise_cons.1 h).2
theorem Sorted.head {a : Rt} {l : List Rt} (h : Sorted (a :: l)) : ∀ b ∈ l, cmpP a.to b.to < 0 := (List.pairwise_cons.1 h).1
theorem Sorted.nil : Sorted [] := List.Pairwise.nil

theorem lt_rank {l : List Rt} (hs : Sorted l) {p : Px} (hp : L16 p) (h : Nat) (r : Rt) (hr : l[h]? = some r) : cmpP r.to p < 0 ↔ h < rank l p := by
  induction l generalizing h with
  | nil => simp at hr
  | cons a l ih =>
    rw [rank_cons]
    cases h with
    | zero =>
      simp at hr
      subst hr
      by_cases hc : cmpP a.to p < 0 <;> simp [hc]
    | succ h =>
      simp at hr
      have hm : r ∈ l := List.mem_of_getElem? hr
      have h1 := hs.head r hm
      by_cases hc : cmpP a.to p < 0
      · rw [if_pos hc, ih hs.tail h hr]
        omega
      · rw [if_neg hc]
        constructor
        · intro h2
          exact absurd (cmp_lt_trans a.ok r.ok hp h1 h2) hc
        · omega
theorem has_rank {l : List Rt} (hs : Sorted l) {p : Px} (hp : L16 p) : hasP l p = true ↔ ∃ r, l[rank l p]? = some r ∧ r.to = p := by
  constructor
  · intro h
    simp only [hasP, List.any_eq_true, decide_eq_true_eq] at h
    obtain ⟨r, hm, hr⟩ := h
    obtain ⟨j, hj, he⟩ := List.mem_iff_getElem.1 hm
    have hj2 : l[j]? = some r := by rw [← he]; exact List.getElem?_eq_getElem hj
    have h0 : cmpP r.to p = 0 := (cmp_zero r.ok hp).2 hr
    have h1 := lt_rank hs hp j r hj2
    have h2 : rank l p = j := by
      rcases Nat.lt_or_ge (rank l p) j with h3 | h3
      · obtain ⟨b, hb⟩ : ∃ b, l[rank l p]? = some b := ⟨_, List.getElem?_eq_getElem (Nat.lt_trans h3 hj)⟩
        have h4 := lt_rank hs hp _ b hb
        have h5 : cmpP b.to r.to < 0 := by
          have hlt : rank l p < l.length := Nat.lt_trans h3 hj
          have := List.pairwise_iff_getElem.1 hs (rank l p) j hlt hj h3
          rw [he] at this
          rw [List.getElem?_eq_getElem hlt] at hb
          simp at hb
          rwa [hb] at this
        rw [hr] at h5
        have := h4.1 h5
        omega
      · omega
    rw [h2]
    exact ⟨r, hj2, hr⟩
  · rintro ⟨r, h1, h2⟩
    simp only [hasP, List.any_eq_true, decide_eq_true_eq]
    exact ⟨r, List.mem_of_getElem? h1, h2⟩
theorem get_rank {l : List Rt} (hs : Sorted l) {p : Px} (hp : L16 p) (r : Rt) (h : l[rank l p]? = some r) : hasP l p = decide (cmpP r.to p = 0) := by
  rw [Bool.eq_iff_iff, decide_eq_true_eq, cmp_zero r.ok hp, has_rank hs hp]
  constructor
  · rintro ⟨s, h1, h2⟩
    rw [h] at h1
    simp at h1
    rw [h1]
    exact h2
  · exact fun h2 => ⟨r, h, h2⟩
theorem no_rank {l : List Rt} (hs : Sorted l) {p : Px} (hp : L16 p) (h : l.length ≤ rank l p) : hasP l p = false := by
  cases hh : hasP l p
  · rfl
  · obtain ⟨r, h1, _⟩ := (has_rank hs hp).1 hh
    rw [List.getElem?_eq_none h] at h1
    cases h1
/-- All ahead of the place are ahead of the prefix. -/
theorem take_rank {l : List Rt} (hs : Sorted l) {p : Px} (hp : L16 p) : ∀ a ∈ l.take (rank l p), cmpP a.to p < 0 := by
  intro a ha
  obtain ⟨j, hj, he⟩ := List.mem_iff_getElem.1 ha
  rw [List.length_take] at hj
  rw [List.getElem_take] at he
  exact (lt_rank hs hp j a (by rw [← he]; exact List.getElem?_eq_getElem _)).2 (by omega)
theorem drop_rank {l : List Rt} (hs : Sorted l) {p : Px} (hp : L16 p) : ∀ a ∈ l.drop (rank l p), 0 ≤ cmpP a.to p := by
  intro a ha
  obtain ⟨j, hj, he⟩ := List.mem_iff_getElem.1 ha
  rw [List.getElem_drop] at he
  have := lt_rank hs hp (rank l p + j) a (by rw [← he]; exact List.getElem?_eq_getElem _)
  have h2 : ¬ cmpP a.to p < 0 := fun h => by have := this.1 h; omega
  omega
theorem Sorted.sub {l m : List Rt} (h : Sorted l) (k : m.Sublist l) : Sorted m := List.Pairwise.sublist k h
/-- All behind the place, where there is none; behind it, where there is one: behind the prefix. -/
theorem behind_no {l : List Rt} (hs : Sorted l) {p : Px} (hp : L16 p) (hh : hasP l p = false) : ∀ a ∈ l.drop (rank l p), 0 < cmpP a.to p := by
  intro a ha
  have h1 := drop_rank hs hp a ha
  have h2 : cmpP a.to p ≠ 0 := fun h => by
    have h3 := (cmp_zero a.ok hp).1 h
    have : hasP l p = true := by
      simp only [hasP, List.any_eq_true, decide_eq_true_eq]
      exact ⟨a, List.mem_of_mem_drop ha, h3⟩
    rw [hh] at this
    cases this
  omega
theorem behind_yes {l : List Rt} (hs : Sorted l) {p : Px} (hp : L16 p) (hh : hasP l p = true) : ∀ a ∈ l.drop (rank l p + 1), 0 < cmpP a.to p := by
  intro a ha
  obtain ⟨r, h1, h2⟩ := (has_rank hs hp).1 hh
  obtain ⟨hlt, he⟩ := List.getElem?_eq_some_iff.1 h1
  have hd : l.drop (rank l p) = r :: l.drop (rank l p + 1) := by rw [List.drop_eq_getElem_cons hlt, he]
  have h3 : Sorted (r :: l.drop (rank l p + 1)) := by rw [← hd]; exact hs.sub (List.drop_sublist _ _)
  have := h3.head a ha
  rw [h2, cmp_neg hp a.ok] at this
  omega

/-! ### What is put in -/
def putL (l : List Rt) (r : Rt) : List Rt := l.take (rank l r.to) ++ r :: l.drop (if hasP l r.to then rank l r.to + 1 else rank l r.to)
def cutP (l : List Rt) (p : Px) : List Rt := l.take (rank l p) ++ l.drop (rank l p + 1)
def putS (l : List Rt) (r : Rt) : List Rt × Int :=
  if rightR r then (if hasP l r.to then (putL l r, 0) else if 300 ≤ l.length then (l, 7) else (putL l r, 0)) else (l, 1)
def dropS (l : List Rt) (p : Px) : List Rt × Int := if hasP l p then (cutP l p, 0) else (l, 8)
def wd (r : Rt) : Rt := ⟨r.to, 0, 0, r.ok⟩
def doS (l : List Rt) (k : Int) (r : Rt) : List Rt × Int :=
  if k = 1 then (if rightR r then (if hasP l r.to then (l, 9) else putS l r) else (l, 1))
  else if k = 2 then (if rightR r then (if hasP l r.to then putS l r else (l, 8)) else (l, 1))
  else if k = 3 then (if rightP r.to ∧ r = wd r then dropS l r.to else (l, 1))
  else (l, 1)
def getS (l : List Rt) (p : Px) : Rt := if hasP l p then l.getD (rank l p) zeroR else zeroR

theorem sorted_join {a b : List Rt} {p : Px} (hp : L16 p) (h1 : Sorted a) (h2 : Sorted b) (k1 : ∀ x ∈ a, cmpP x.to p < 0) (k2 : ∀ x ∈ b, 0 ≤ cmpP x.to p) : Sorted (a ++ b) := by
  refine List.pairwise_append.2 ⟨h1, h2, fun x hx y hy => ?_⟩
  have hx' := k1 x hx
  have hy' := k2 y hy
  by_cases h0 : cmpP y.to p = 0
  · rw [(cmp_zero y.ok hp).1 h0]
    exact hx'
  · exact cmp_lt_trans x.ok hp y.ok hx' (by rw [cmp_neg hp y.ok]; omega)
theorem put_behind {l : List Rt} (hs : Sorted l) (r : Rt) : ∀ a ∈ l.drop (if hasP l r.to then rank l r.to + 1 else rank l r.to), 0 < cmpP a.to r.to := by
  split
  · rename_i h
    exact behind_yes hs r.ok h
  · rename_i h
    exact behind_no hs r.ok (by simpa using h)
theorem putL_sorted {l : List Rt} (hs : Sorted l) (r : Rt) : Sorted (putL l r) := by
  unfold putL
  have hb := put_behind hs r
  refine sorted_join r.ok (hs.sub (List.take_sublist _ _)) ?_ (take_rank hs r.ok) ?_
  · refine List.pairwise_cons.2 ⟨fun b hbm => ?_, hs.sub (List.drop_sublist _ _)⟩
    have := hb b hbm
    rw [cmp_neg r.ok b.ok]
    omega
  · intro x hx
    rcases List.mem_cons.1 hx with rfl | hx
    · rw [(cmp_zero x.ok x.ok).2 rfl]
      exact Int.le_refl _
    · have := hb x hx
      omega
theorem cutP_sorted {l : List Rt} (hs : Sorted l) (p : Px) : Sorted (cutP l p) := by
  refine hs.sub ?_
  unfold cutP
  conv => rhs; rw [← List.take_append_drop (rank l p) l]
  exact (List.Sublist.refl _).append (by rw [← List.drop_drop]; exact List.drop_sublist _ _)
theorem has_lt {l : List Rt} (hs : Sorted l) {p : Px} (hp : L16 p) (hh : hasP l p = true) : rank l p < l.length := by
  obtain ⟨r, h1, _⟩ := (has_rank hs hp).1 hh
  exact (List.getElem?_eq_some_iff.1 h1).1
theorem putL_len {l : List Rt} (hs : Sorted l) (r : Rt) : (putL l r).length = if hasP l r.to then l.length else l.length + 1 := by
  have h1 := rank_le l r.to
  unfold putL
  rw [List.length_append, List.length_cons, List.length_take, List.length_drop]
  split
  · rename_i h
    have := has_lt hs r.ok h
    omega
  · omega
theorem cutP_len {l : List Rt} (hs : Sorted l) {p : Px} (hp : L16 p) (hh : hasP l p = true) : (cutP l p).length + 1 = l.length := by
  have := has_lt hs hp hh
  unfold cutP
  rw [List.length_append, List.length_take, List.length_drop]
  omega
theorem putS_ok {l : List Rt} (hs : Sorted l) (hl : l.length ≤ 300) (r : Rt) : Sorted (putS l r).1 ∧ (putS l r).1.length ≤ 300 := by
  have h1 := putL_sorted hs r
  have h2 := putL_len hs r
  unfold putS
  split
  · split
    · rename_i h
      rw [if_pos h] at h2
      exact ⟨h1, by dsimp only; omega⟩
    · rename_i h
      rw [if_neg h] at h2
      split
      · exact ⟨hs, hl⟩
      · exact ⟨h1, by dsimp only; omega⟩
  · exact ⟨hs, hl⟩
theorem dropS_ok {l : List Rt} (hs : Sorted l) (hl : l.length ≤ 300) {p : Px} (hp : L16 p) : Sorted (dropS l p).1 ∧ (dropS l p).1.length ≤ 300 := by
  unfold dropS
  split
  · rename_i h
    have := cutP_len hs hp h
    exact ⟨cutP_sorted hs p, by dsimp only; omega⟩
  · exact ⟨hs, hl⟩
theorem doS_ok {l : List Rt} (hs : Sorted l) (hl : l.length ≤ 300) (k : Int) (r : Rt) : Sorted (doS l k r).1 ∧ (doS l k r).1.length ≤ 300 := by
  have h1 := putS_ok hs hl r
  have h2 := dropS_ok hs hl r.ok
  unfold doS
  repeat' split
  all_goals first | exact h1 | exact h2 | exact ⟨hs, hl⟩
end Go.Proofs.Ytgocmolebanflaa
