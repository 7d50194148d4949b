/- Proved: several texts in one: plain mathematics of changes: done one by one they make the one table of the other. Each with its conditions where it stands. -/
import Derived.Test.YtfikdeobejhblaaMt

/- Proved: plain mathematics of changes: done one by one they make the one table of the other. No condition. -/
namespace Go.Proofs.Ytfikdeobejhblaa
open Go.RowKit

theorem has_iff {l : List Rt} {p : Px} : hasP l p = true ↔ ∃ x ∈ l, x.to = p := by simp [hasP]
theorem has_app (A B : List Rt) (p : Px) : hasP (A ++ B) p = (hasP A p || hasP B p) := by simp [hasP]
theorem has_cons (x : Rt) (B : List Rt) (p : Px) : hasP (x :: B) p = (decide (x.to = p) || hasP B p) := by simp [hasP]
theorem has_none {l : List Rt} {p : Px} (h : ∀ x ∈ l, x.to ≠ p) : hasP l p = false := by
  cases hh : hasP l p
  · rfl
  · obtain ⟨x, hm, hx⟩ := has_iff.1 hh
    exact absurd hx (h x hm)
theorem cmp_self (r : Rt) : cmpP r.to r.to = 0 := (cmp_zero r.ok r.ok).2 rfl
theorem ne_lt {a b : Rt} (h : cmpP a.to b.to < 0) : a.to ≠ b.to := fun e => by
  rw [(cmp_zero a.ok b.ok).2 e] at h
  omega
theorem ne_gt {a b : Rt} (h : 0 < cmpP a.to b.to) : a.to ≠ b.to := fun e => by
  rw [(cmp_zero a.ok b.ok).2 e] at h
  omega
theorem gt_of {a b : Rt} (h : cmpP a.to b.to < 0) : 0 < cmpP b.to a.to := by
  rw [cmp_neg b.ok a.ok]
  omega
theorem rank_split {A B : List Rt} {p : Px} (hA : ∀ x ∈ A, cmpP x.to p < 0) (hB : ∀ x ∈ B, 0 ≤ cmpP x.to p) : rank (A ++ B) p = A.length := by
  induction A with
  | nil =>
    cases B with
    | nil => rfl
    | cons b B =>
      have := hB b (by simp)
      rw [List.nil_append, rank_cons, if_neg (by omega)]
      rfl
  | cons a A ih =>
    rw [List.cons_append, rank_cons, if_pos (hA a (by simp)), ih (fun x hx => hA x (by simp [hx]))]
    rfl
/-- Into, and out of, a list in parts. -/
theorem put_new {A B : List Rt} {r : Rt} (hA : ∀ x ∈ A, cmpP x.to r.to < 0) (hB : ∀ x ∈ B, 0 < cmpP x.to r.to) : hasP (A ++ B) r.to = false ∧ putL (A ++ B) r = A ++ r :: B := by
  have h1 : hasP (A ++ B) r.to = false := by
    rw [has_app, has_none fun x hx => ne_lt (hA x hx), has_none fun x hx => ne_gt (hB x hx)]
    rfl
  refine ⟨h1, ?_⟩
  unfold putL
  rw [h1, rank_split hA (fun x hx => by have := hB x hx; omega)]
  simp
theorem put_old {A B : List Rt} {y r : Rt} (hA : ∀ x ∈ A, cmpP x.to r.to < 0) (hy : y.to = r.to) : hasP (A ++ y :: B) r.to = true ∧ ((∀ x ∈ B, 0 < cmpP x.to r.to) → putL (A ++ y :: B) r = A ++ r :: B) := by
  have h1 : hasP (A ++ y :: B) r.to = true := has_iff.2 ⟨y, by simp, hy⟩
  refine ⟨h1, fun hB => ?_⟩
  have hr : rank (A ++ y :: B) r.to = A.length := rank_split hA (fun x hx => by
    rcases List.mem_cons.1 hx with rfl | hx
    · rw [hy, cmp_self]; omega
    · have := hB x hx; omega)
  unfold putL
  rw [h1, hr]
  simp
theorem cut_old {A B : List Rt} {y : Rt} (hA : ∀ x ∈ A, cmpP x.to y.to < 0) (hB : ∀ x ∈ B, 0 < cmpP x.to y.to) : cutP (A ++ y :: B) y.to = A ++ B := by
  have hr : rank (A ++ y :: B) y.to = A.length := rank_split hA (fun x hx => by
    rcases List.mem_cons.1 hx with rfl | hx
    · rw [cmp_self]; omega
    · have := hB x hx; omega)
  unfold cutP
  rw [hr]
  simp
theorem split_has {t : List Rt} (hs : Sorted t) {p : Px} (h : hasP t p = true) : ∃ A y B, t = A ++ y :: B ∧ y.to = p ∧ (∀ x ∈ A, cmpP x.to y.to < 0) ∧ ∀ x ∈ B, 0 < cmpP x.to y.to := by
  obtain ⟨y, hm, hy⟩ := has_iff.1 h
  obtain ⟨A, B, rfl⟩ := List.append_of_mem hm
  have hp := List.pairwise_append.1 hs
  exact ⟨A, y, B, rfl, hy, fun x hx => hp.2.2 x hx y (by simp), fun x hx => gt_of ((List.pairwise_cons.1 hp.2.1).1 x hx)⟩
theorem split_no {t : List Rt} (hs : Sorted t) {r : Rt} (h : hasP t r.to = false) : ∃ A B, t = A ++ B ∧ (∀ x ∈ A, cmpP x.to r.to < 0) ∧ ∀ x ∈ B, 0 < cmpP x.to r.to :=
  ⟨_, _, (List.take_append_drop (rank t r.to) t).symm, take_rank hs r.ok, behind_no hs r.ok h⟩
theorem has_put {t : List Rt} (hs : Sorted t) (r : Rt) (q : Px) : hasP (putL t r) q = (decide (r.to = q) || hasP t q) := by
  cases h : hasP t r.to
  · obtain ⟨A, B, rfl, hA, hB⟩ := split_no hs h
    rw [(put_new hA hB).2, has_app, has_app, has_cons]
    cases hasP A q <;> simp
  · obtain ⟨A, y, B, rfl, hy, hA, hB⟩ := split_has hs h
    rw [hy] at hA hB
    rw [(put_old hA hy).2 hB, has_app, has_app, has_cons, has_cons, hy]
    cases hasP A q <;> cases decide (r.to = q) <;> simp
theorem has_cut {t : List Rt} (hs : Sorted t) {p : Px} (h : hasP t p = true) (q : Px) : hasP (cutP t p) q = (hasP t q && !decide (p = q)) := by
  obtain ⟨A, y, B, rfl, rfl, hA, hB⟩ := split_has hs h
  rw [cut_old hA hB, has_app, has_app, has_cons]
  by_cases e : y.to = q
  · subst e
    rw [has_none fun x hx => ne_lt (hA x hx), has_none fun x hx => ne_gt (hB x hx)]
    simp
  · simp [e]

/-! ### Changes, done one by one -/
def Fine : List Rt → List Ic → Prop
  | _, [] => True
  | t, i :: is => ((doS t i.kind i.route).2 = 0 ∨ 300 ≤ (doS t i.kind i.route).1.length) ∧ Fine (doS t i.kind i.route).1 is
def runC : List Rt → List Ic → List Rt
  | t, [] => t
  | t, i :: is => runC (doS t i.kind i.route).1 is
theorem do_wd {t : List Rt} {a : Rt} (hr : rightR a) (hh : hasP t a.to = true) : doS t 3 (wd a) = (cutP t a.to, 0) := by
  unfold doS
  rw [if_neg (by decide), if_neg (by decide), if_pos rfl, if_pos ⟨hr.1, rfl⟩]
  unfold dropS
  rw [if_pos (show hasP t (wd a).to = true from hh)]
  rfl
theorem do_add {t : List Rt} {b : Rt} (hr : rightR b) (hh : hasP t b.to = false) : doS t 1 b = if 300 ≤ t.length then (t, 7) else (putL t b, 0) := by
  unfold doS putS
  rw [if_pos rfl, if_pos hr, if_neg (by simp [hh]), if_pos hr, if_neg (by simp [hh])]
theorem do_chg {t : List Rt} {b : Rt} (hr : rightR b) (hh : hasP t b.to = true) : doS t 2 b = (putL t b, 0) := by
  unfold doS putS
  rw [if_neg (by decide), if_pos rfl, if_pos hr, if_pos hh, if_pos hr, if_pos hh]
theorem old_gt {old fresh : List Rt} {b : Rt} (hs : Sorted old) (h : 0 < ahd old (b :: fresh)) : ∀ x ∈ old, 0 < cmpP x.to b.to := by
  cases old with
  | nil => intro x hx; simp at hx
  | cons a l =>
    have h0 : 0 < cmpP a.to b.to := h
    intro x hx
    rcases List.mem_cons.1 hx with rfl | hx
    · exact h0
    · have h1 := cmp_lt_trans b.ok a.ok x.ok (by rw [cmp_neg b.ok a.ok]; omega) (hs.head x hx)
      exact gt_of h1
theorem fine (n : Nat) : ∀ (old fresh t : List Rt), old.length + fresh.length ≤ n → Sorted old → Sorted fresh → Sorted t → t.length ≤ 300 → (∀ a ∈ old, rightR a) → (∀ b ∈ fresh, rightR b) → (∀ a ∈ old, hasP t a.to = true) → (∀ b ∈ fresh, hasP t b.to = hasP old b.to) → Fine t (chg old fresh) := by
  induction n with
  | zero =>
    intro old fresh t hn _ _ _ _ _ _ _ _
    obtain rfl : old = [] := List.eq_nil_of_length_eq_zero (by omega)
    obtain rfl : fresh = [] := List.eq_nil_of_length_eq_zero (by omega)
    rw [chg_nil]
    trivial
  | succ n ih =>
    intro old fresh t hn so sf st hl ro rf ho hf
    by_cases hend : old = [] ∧ fresh = []
    · obtain ⟨rfl, rfl⟩ := hend
      rw [chg_nil]
      trivial
    by_cases hneg : ahd old fresh < 0
    · obtain ⟨a, l, rfl⟩ := ahd_neg hneg
      rw [chg_old a l fresh hneg]
      have hh := ho a (by simp)
      have hd := do_wd (ro a (by simp)) hh
      have hcl := cutP_len st a.ok hh
      unfold Fine
      simp only [hd]
      refine ⟨.inl trivial, ih l fresh _ (by simp at hn; omega) so.tail sf (cutP_sorted st _) (by omega) (fun x hx => ro x (by simp [hx])) rf (fun x hx => ?_) (fun b hb => ?_)⟩
      · rw [has_cut st hh, ho x (by simp [hx])]
        simp [ne_lt (so.head x hx)]
      · rw [has_cut st hh, hf b hb, has_cons]
        by_cases e : a.to = b.to
        · rw [← e, has_none fun x hx => Ne.symm (ne_lt (so.head x hx))]
          simp
        · simp [e]
    · by_cases hpos : 0 < ahd old fresh
      · obtain ⟨b, m, rfl⟩ := ahd_pos hpos hend
        rw [chg_new b old m hpos]
        have hh : hasP t b.to = false := by
          rw [hf b (by simp)]
          exact has_none fun x hx => ne_gt (old_gt so hpos x hx)
        have hd := do_add (rf b (by simp)) hh
        unfold Fine
        simp only [hd]
        by_cases hb : 300 ≤ t.length
        · rw [if_pos hb]
          exact ⟨.inr hb, ih old m t (by simp at hn; omega) so sf.tail st hl ro (fun x hx => rf x (by simp [hx])) ho (fun x hx => hf x (by simp [hx]))⟩
        · rw [if_neg hb]
          have hpl := putL_len st b
          rw [hh, if_neg (by simp)] at hpl
          refine ⟨.inl rfl, ih old m _ (by simp at hn; omega) so sf.tail (putL_sorted st b) (by dsimp only; omega) ro (fun x hx => rf x (by simp [hx])) (fun x hx => ?_) (fun x hx => ?_)⟩
          · rw [has_put st, ho x hx]
            simp
          · rw [has_put st, hf x (by simp [hx])]
            simp [ne_lt (sf.head x hx)]
      · have hz : ahd old fresh = 0 := by omega
        obtain ⟨a, l, b, m, rfl, rfl⟩ := ahd_zero hz
        have hab : a.to = b.to := (cmp_zero a.ok b.ok).1 hz
        have hm : ∀ x ∈ m, hasP t x.to = hasP l x.to := fun x hx => by
          rw [hf x (by simp [hx]), has_cons, hab]
          simp [ne_lt (sf.head x hx)]
        rw [chg_same a b l m hz]
        by_cases e : a = b
        · rw [if_pos e]
          exact ih l m t (by simp at hn; omega) so.tail sf.tail st hl (fun x hx => ro x (by simp [hx])) (fun x hx => rf x (by simp [hx])) (fun x hx => ho x (by simp [hx])) hm
        · rw [if_neg e]
          have hh : hasP t b.to = true := by
            rw [← hab]
            exact ho a (by simp)
          have hd := do_chg (rf b (by simp)) hh
          have hpl := putL_len st b
          rw [hh, if_pos rfl] at hpl
          unfold Fine
          simp only [hd]
          refine ⟨.inl trivial, ih l m _ (by simp at hn; omega) so.tail sf.tail (putL_sorted st b) (by omega) (fun x hx => ro x (by simp [hx])) (fun x hx => rf x (by simp [hx])) (fun x hx => ?_) (fun x hx => ?_)⟩
          · rw [has_put st, ho x (by simp [hx])]
            simp
          · rw [has_put st, hm x hx]
            simp [ne_lt (sf.head x hx)]
theorem run_chg (n : Nat) : ∀ (old fresh A : List Rt), old.length + fresh.length ≤ n → Sorted old → Sorted fresh → A.length + old.length + fresh.length ≤ 300 → (∀ a ∈ old, rightR a) → (∀ b ∈ fresh, rightR b) → (∀ x ∈ A, ∀ y ∈ old, cmpP x.to y.to < 0) → (∀ x ∈ A, ∀ y ∈ fresh, cmpP x.to y.to < 0) → runC (A ++ old) (chg old fresh) = A ++ fresh := by
  induction n with
  | zero =>
    intro old fresh A hn _ _ _ _ _ _ _
    obtain rfl : old = [] := List.eq_nil_of_length_eq_zero (by omega)
    obtain rfl : fresh = [] := List.eq_nil_of_length_eq_zero (by omega)
    rw [chg_nil]
    rfl
  | succ n ih =>
    intro old fresh A hn so sf hl ro rf ho hf
    by_cases hend : old = [] ∧ fresh = []
    · obtain ⟨rfl, rfl⟩ := hend
      rw [chg_nil]
      rfl
    by_cases hneg : ahd old fresh < 0
    · obtain ⟨a, l, rfl⟩ := ahd_neg hneg
      rw [chg_old a l fresh hneg]
      have hA : ∀ x ∈ A, cmpP x.to a.to < 0 := fun x hx => ho x hx a (by simp)
      have hd := do_wd (t := A ++ a :: l) (ro a (by simp)) (has_iff.2 ⟨a, by simp, rfl⟩)
      rw [cut_old hA fun x hx => gt_of (so.head x hx)] at hd
      unfold runC
      simp only [hd]
      exact ih l fresh A (by simp at hn; omega) so.tail sf (by simp at hl; omega) (fun x hx => ro x (by simp [hx])) rf (fun x hx y hy => ho x hx y (by simp [hy])) hf
    · by_cases hpos : 0 < ahd old fresh
      · obtain ⟨b, m, rfl⟩ := ahd_pos hpos hend
        rw [chg_new b old m hpos]
        have hA : ∀ x ∈ A, cmpP x.to b.to < 0 := fun x hx => hf x hx b (by simp)
        obtain ⟨h1, h2⟩ := put_new hA (old_gt so hpos)
        have hd := do_add (rf b (by simp)) h1
        rw [if_neg (by simp at hl ⊢; omega), h2] at hd
        unfold runC
        simp only [hd]
        have := ih old m (A ++ [b]) (by simp at hn; omega) so sf.tail (by simp at hl ⊢; omega) ro (fun x hx => rf x (by simp [hx])) (fun x hx y hy => by
          rcases List.mem_append.1 hx with h | h
          · exact ho x h y hy
          · simp at h
            subst h
            have := old_gt so hpos y hy
            rw [cmp_neg x.ok y.ok]
            omega) (fun x hx y hy => by
          rcases List.mem_append.1 hx with h | h
          · exact hf x h y (by simp [hy])
          · simp at h
            subst h
            exact sf.head y hy)
        simpa using this
      · have hz : ahd old fresh = 0 := by omega
        obtain ⟨a, l, b, m, rfl, rfl⟩ := ahd_zero hz
        have hab : a.to = b.to := (cmp_zero a.ok b.ok).1 hz
        have hA : ∀ x ∈ A, cmpP x.to b.to < 0 := fun x hx => hf x hx b (by simp)
        have hgo : runC (A ++ [b] ++ l) (chg l m) = A ++ [b] ++ m := ih l m (A ++ [b]) (by simp at hn; omega) so.tail sf.tail (by simp at hl ⊢; omega) (fun x hx => ro x (by simp [hx])) (fun x hx => rf x (by simp [hx])) (fun x hx y hy => by
          rcases List.mem_append.1 hx with h | h
          · exact ho x h y (by simp [hy])
          · simp at h
            subst h
            rw [← hab]
            exact so.head y hy) (fun x hx y hy => by
          rcases List.mem_append.1 hx with h | h
          · exact hf x h y (by simp [hy])
          · simp at h
            subst h
            exact sf.head y hy)
        rw [chg_same a b l m hz]
        by_cases e : a = b
        · rw [if_pos e, e]
          simpa using hgo
        · rw [if_neg e]
          obtain ⟨h1, h2⟩ := put_old (B := l) hA hab
          have hd := do_chg (rf b (by simp)) h1
          rw [h2 fun x hx => by rw [← hab]; exact gt_of (so.head x hx)] at hd
          unfold runC
          simp only [hd]
          simpa using hgo
theorem chg_len (n : Nat) : ∀ (l m : List Rt), l.length + m.length ≤ n → (chg l m).length ≤ l.length + m.length ∧ (chg l m = [] ↔ l = m) := by
  induction n with
  | zero =>
    intro l m hn
    obtain rfl : l = [] := List.eq_nil_of_length_eq_zero (by omega)
    obtain rfl : m = [] := List.eq_nil_of_length_eq_zero (by omega)
    rw [chg_nil]
    simp
  | succ n ih =>
    intro l m hn
    by_cases hend : l = [] ∧ m = []
    · obtain ⟨rfl, rfl⟩ := hend
      rw [chg_nil]
      simp
    by_cases hneg : ahd l m < 0
    · obtain ⟨a, k, rfl⟩ := ahd_neg hneg
      have := ih k m (by simp at hn; omega)
      rw [chg_old a k m hneg]
      refine ⟨by simp; omega, by simp, fun e => ?_⟩
      rw [← e] at hneg
      simp only [ahd, cmp_self] at hneg
      omega
    · by_cases hpos : 0 < ahd l m
      · obtain ⟨b, k, rfl⟩ := ahd_pos hpos hend
        have := ih l k (by simp at hn; omega)
        rw [chg_new b l k hpos]
        refine ⟨by simp; omega, by simp, fun e => ?_⟩
        rw [e] at hpos
        simp only [ahd, cmp_self] at hpos
        omega
      · have hz : ahd l m = 0 := by omega
        obtain ⟨a, k, b, j, rfl, rfl⟩ := ahd_zero hz
        have := ih k j (by simp at hn; omega)
        rw [chg_same a b k j hz]
        by_cases e : a = b
        · rw [if_pos e]
          refine ⟨by simp; omega, ?_⟩
          rw [this.2, e]
          simp
        · rw [if_neg e]
          exact ⟨by simp; omega, by simp, fun h => absurd (List.cons.inj h).1 e⟩
end Go.Proofs.Ytfikdeobejhblaa
