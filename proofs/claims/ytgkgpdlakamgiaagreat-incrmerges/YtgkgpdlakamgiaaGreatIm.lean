/- Proved: plain mathematics of rows of changes, merged: what becomes of each prefix; where one row, and then the other one, can be done, the merged one can, and makes the same. No condition. -/
import Derived.Test.YtgkgpdlakamgiaaGreatIp
namespace Go.Proofs.YtgkgpdlakamgiaaGreat
open Go.RowKit

/-! ### Tables by what is in them -/
theorem mem_put {t : List Rt} (hs : Sorted t) (r x : Rt) : x ∈ putL t r ↔ x = r ∨ (x ∈ t ∧ x.to ≠ r.to) := by
  cases h : hasP t r.to
  · obtain ⟨A, B, rfl, hA, hB⟩ := split_no hs h
    rw [(put_new hA hB).2]
    simp only [List.mem_append, List.mem_cons]
    constructor
    · rintro (h1 | h1 | h1)
      · exact .inr ⟨.inl h1, ne_lt (hA x h1)⟩
      · exact .inl h1
      · exact .inr ⟨.inr h1, ne_gt (hB x h1)⟩
    · rintro (h1 | ⟨h1 | h1, _⟩)
      · exact .inr (.inl h1)
      · exact .inl h1
      · exact .inr (.inr h1)
  · obtain ⟨A, y, B, rfl, hy, hA, hB⟩ := split_has hs h
    rw [hy] at hA hB
    rw [(put_old hA hy).2 hB]
    simp only [List.mem_append, List.mem_cons]
    constructor
    · rintro (h1 | h1 | h1)
      · exact .inr ⟨.inl h1, ne_lt (hA x h1)⟩
      · exact .inl h1
      · exact .inr ⟨.inr (.inr h1), ne_gt (hB x h1)⟩
    · rintro (h1 | ⟨h1 | h1 | h1, h2⟩)
      · exact .inr (.inl h1)
      · exact .inl h1
      · exact absurd (by rw [h1, hy]) h2
      · exact .inr (.inr h1)
theorem mem_cut {t : List Rt} (hs : Sorted t) {p : Px} (h : hasP t p = true) (x : Rt) : x ∈ cutP t p ↔ x ∈ t ∧ x.to ≠ p := by
  obtain ⟨A, y, B, rfl, rfl, hA, hB⟩ := split_has hs h
  rw [cut_old hA hB]
  simp only [List.mem_append, List.mem_cons]
  constructor
  · rintro (h1 | h1)
    · exact ⟨.inl h1, ne_lt (hA x h1)⟩
    · exact ⟨.inr (.inr h1), ne_gt (hB x h1)⟩
  · rintro ⟨h1 | h1 | h1, h2⟩
    · exact .inl h1
    · exact absurd (by rw [h1]) h2
    · exact .inr h1
theorem sorted_ext {α : Type} (f : α → Px) (hf : ∀ x, L16 (f x)) {a b : List α} (ha : a.Pairwise fun x y => cmpP (f x) (f y) < 0) (hb : b.Pairwise fun x y => cmpP (f x) (f y) < 0) (h : ∀ x, x ∈ a ↔ x ∈ b) : a = b := by
  induction a generalizing b with
  | nil =>
    cases b with
    | nil => rfl
    | cons y b => exact absurd ((h y).2 (by simp)) (by simp)
  | cons x a ih =>
    cases b with
    | nil => exact absurd ((h x).1 (by simp)) (by simp)
    | cons y b =>
      obtain ⟨ha1, ha2⟩ := List.pairwise_cons.1 ha
      obtain ⟨hb1, hb2⟩ := List.pairwise_cons.1 hb
      have self : ∀ z, ¬ cmpP (f z) (f z) < 0 := fun z => by rw [(cmp_zero (hf z) (hf z)).2 rfl]; omega
      have e : x = y := by
        rcases List.mem_cons.1 ((h x).1 (by simp)) with h1 | h1
        · exact h1
        · rcases List.mem_cons.1 ((h y).2 (by simp)) with h2 | h2
          · exact h2.symm
          · have k1 := ha1 y h2
            have k2 := hb1 x h1
            rw [cmp_neg (hf y) (hf x)] at k2
            omega
      subst e
      rw [ih ha2 hb2 fun z => ?_]
      constructor
      · intro hz
        rcases List.mem_cons.1 ((h z).1 (by simp [hz])) with h1 | h1
        · subst h1; exact absurd (ha1 z hz) (self z)
        · exact h1
      · intro hz
        rcases List.mem_cons.1 ((h z).2 (by simp [hz])) with h1 | h1
        · subst h1; exact absurd (hb1 z hz) (self z)
        · exact h1

/-! ### What became of each prefix -/
structure Sy where
  was : Bool
  last : Ic
def Sy.to (s : Sy) : Px := s.last.route.to
def Sy.is (s : Sy) : Bool := decide (s.last.kind ≠ 3)
def Keys (W : List Sy) : Prop := W.Pairwise fun a b => a.to ≠ b.to
def findS (W : List Sy) (p : Px) : Option Sy := W.find? fun s => decide (p = s.to)
theorem findS_some {W : List Sy} {p : Px} {s : Sy} (h : findS W p = some s) : s ∈ W ∧ s.to = p := by
  have h1 := List.mem_of_find?_eq_some h
  have h2 := List.find?_some h
  simp at h2
  exact ⟨h1, h2.symm⟩
theorem findS_none {W : List Sy} {p : Px} (h : findS W p = none) : ∀ s ∈ W, s.to ≠ p := by
  intro s hs e
  have := List.find?_eq_none.1 h s hs
  simp [e] at this
theorem keys_eq {W : List Sy} (h : Keys W) {a b : Sy} (ha : a ∈ W) (hb : b ∈ W) (e : a.to = b.to) : a = b := by
  obtain ⟨i, hi, rfl⟩ := List.mem_iff_getElem.1 ha
  obtain ⟨j, hj, rfl⟩ := List.mem_iff_getElem.1 hb
  have hp := List.pairwise_iff_getElem.1 h
  rcases Nat.lt_trichotomy i j with h1 | h1 | h1
  · exact absurd e (hp i j hi hj h1)
  · subst h1; rfl
  · exact absurd e.symm (hp j i hj hi h1)
def setS : List Sy → Sy → List Sy
  | [], s => [s]
  | y :: W, s => if s.to = y.to then s :: W else y :: setS W s
theorem setS_mem {W : List Sy} (h : Keys W) (s x : Sy) : x ∈ setS W s ↔ x = s ∨ (x ∈ W ∧ x.to ≠ s.to) := by
  induction W with
  | nil => simp [setS]
  | cons y W ih =>
    obtain ⟨h1, h2⟩ := List.pairwise_cons.1 h
    unfold setS
    by_cases e : s.to = y.to
    · rw [if_pos e]
      simp only [List.mem_cons]
      constructor
      · rintro (k | k)
        · exact .inl k
        · exact .inr ⟨.inr k, fun e2 => h1 x k (by rw [← e, e2])⟩
      · rintro (k | ⟨k | k, k2⟩)
        · exact .inl k
        · exact absurd (by rw [k, e]) k2
        · exact .inr k
    · rw [if_neg e]
      simp only [List.mem_cons, ih h2]
      constructor
      · rintro (k | k | ⟨k, k2⟩)
        · exact .inr ⟨.inl k, by rw [k]; exact fun e2 => e e2.symm⟩
        · exact .inl k
        · exact .inr ⟨.inr k, k2⟩
      · rintro (k | ⟨k | k, k2⟩)
        · exact .inr (.inl k)
        · exact .inl k
        · exact .inr (.inr ⟨k, k2⟩)
theorem setS_keys {W : List Sy} (h : Keys W) (s : Sy) : Keys (setS W s) := by
  induction W with
  | nil => unfold setS Keys; simp
  | cons y W ih =>
    obtain ⟨h1, h2⟩ := List.pairwise_cons.1 h
    unfold setS
    by_cases e : s.to = y.to
    · rw [if_pos e]
      exact List.pairwise_cons.2 ⟨fun b hb => by rw [e]; exact h1 b hb, h2⟩
    · rw [if_neg e]
      refine List.pairwise_cons.2 ⟨fun b hb => ?_, ih h2⟩
      rcases (setS_mem h2 s b).1 hb with k | ⟨k, _⟩
      · rw [k]; exact fun e2 => e e2.symm
      · exact h1 b k
theorem setS_len (W : List Sy) (s : Sy) : (setS W s).length ≤ W.length + 1 := by
  induction W with
  | nil => simp [setS]
  | cons y W ih =>
    unfold setS
    split <;> simp <;> omega
def stepS (W : List Sy) (i : Ic) : Option (List Sy) := match findS W i.route.to with
  | none => some (setS W ⟨decide (i.kind ≠ 1), i⟩)
  | some s => if s.is = decide (i.kind ≠ 1) then some (setS W ⟨s.was, i⟩) else none
def storS : List Sy → List Ic → Option (List Sy)
  | W, [] => some W
  | W, i :: l => match stepS W i with
    | none => none
    | some W' => storS W' l
theorem storS_app (W : List Sy) (l m : List Ic) : storS W (l ++ m) = match storS W l with
    | none => none
    | some W' => storS W' m := by
  induction l generalizing W with
  | nil => rfl
  | cons i l ih =>
    rw [List.cons_append, storS, storS]
    cases stepS W i with
    | none => rfl
    | some W' => exact ih W'
theorem storS_one (W : List Sy) (i : Ic) : storS W [i] = stepS W i := by
  rw [storS]
  cases stepS W i <;> rfl
theorem stepS_keys {W W' : List Sy} {i : Ic} (hk : Keys W) (h : stepS W i = some W') : Keys W' ∧ W'.length ≤ W.length + 1 := by
  unfold stepS at h
  split at h
  · simp only [Option.some.injEq] at h
    subst h
    exact ⟨setS_keys hk _, setS_len _ _⟩
  · split at h
    · simp only [Option.some.injEq] at h
      subst h
      exact ⟨setS_keys hk _, setS_len _ _⟩
    · simp at h
theorem storS_keys {W W' : List Sy} {l : List Ic} (hk : Keys W) (h : storS W l = some W') : Keys W' ∧ W'.length ≤ W.length + l.length := by
  induction l generalizing W with
  | nil =>
    simp only [storS, Option.some.injEq] at h
    subst h
    exact ⟨hk, by simp⟩
  | cons i l ih =>
    rw [storS] at h
    cases hs : stepS W i with
    | none => rw [hs] at h; simp at h
    | some V =>
      rw [hs] at h
      obtain ⟨h1, h2⟩ := stepS_keys hk hs
      obtain ⟨h3, h4⟩ := ih h1 h
      exact ⟨h3, by simp; omega⟩
/-- The one change that does what all of them do. -/
def effS (s : Sy) : Option Ic := if s.was then (if s.is then some ⟨2, s.last.route⟩ else some s.last) else if s.is then some ⟨1, s.last.route⟩ else none
theorem effS_to {s : Sy} {i : Ic} (h : effS s = some i) : i.route = s.last.route := by
  unfold effS at h
  split at h <;> split at h <;> simp at h <;> rw [← h]
def SortedI (l : List Ic) : Prop := l.Pairwise fun a b => cmpP a.route.to b.route.to < 0
structure IsMg (W : List Sy) (m : List Ic) : Prop where
  sorted : SortedI m
  perm : m.Perm (W.filterMap effS)
theorem IsMg.mem {W : List Sy} {m : List Ic} (h : IsMg W m) (i : Ic) : i ∈ m ↔ ∃ s ∈ W, effS s = some i := by
  rw [h.perm.mem_iff, List.mem_filterMap]
theorem IsMg.len {W : List Sy} {m : List Ic} (h : IsMg W m) : m.length ≤ W.length := by
  rw [h.perm.length_eq]
  exact List.length_filterMap_le _ _
theorem mg_unique {W : List Sy} {m m' : List Ic} (h : IsMg W m) (hs : SortedI m') (hm : ∀ i, i ∈ m' ↔ ∃ s ∈ W, effS s = some i) : m = m' :=
  sorted_ext (fun i : Ic => i.route.to) (fun i => i.route.ok) h.sorted hs fun i => by rw [h.mem, hm]
/-- Merged: none, or what became of each prefix. -/
def mg (l : List Ic) : Option (List Sy) := if ∀ i ∈ l, rightI i then storS [] l else none

/-! ### Changes done one by one -/
def foldS : List Rt → List Ic → Nat → List Rt × Nat × Int
  | t, [], k => (t, k, 0)
  | t, i :: l, k => if (doS t i.kind i.route).2 = 0 then foldS (doS t i.kind i.route).1 l (k + 1) else (t, k, (doS t i.kind i.route).2)
theorem do_cases {t : List Rt} {k : Int} {r : Rt} (h : (doS t k r).2 = 0) :
    (k = 1 ∧ rightR r ∧ hasP t r.to = false ∧ (doS t k r).1 = putL t r) ∨ (k = 2 ∧ rightR r ∧ hasP t r.to = true ∧ (doS t k r).1 = putL t r) ∨ (k = 3 ∧ rightP r.to ∧ r = wd r ∧ hasP t r.to = true ∧ (doS t k r).1 = cutP t r.to) := by
  unfold doS at h ⊢
  by_cases h1 : k = 1
  · rw [if_pos h1] at h ⊢
    by_cases hr : rightR r
    · rw [if_pos hr] at h ⊢
      cases hh : hasP t r.to
      · rw [hh, if_neg (by simp)] at h
        rw [if_neg (by simp)]
        unfold putS at h ⊢
        rw [if_pos hr, hh, if_neg (by simp)] at h
        rw [if_pos hr, hh, if_neg (by simp)]
        by_cases hb : 300 ≤ t.length
        · rw [if_pos hb] at h; simp at h
        · rw [if_neg hb]; exact .inl ⟨h1, hr, rfl, rfl⟩
      · rw [hh, if_pos rfl] at h; simp at h
    · rw [if_neg hr] at h; simp at h
  · rw [if_neg h1] at h ⊢
    by_cases h2 : k = 2
    · rw [if_pos h2] at h ⊢
      by_cases hr : rightR r
      · rw [if_pos hr] at h ⊢
        cases hh : hasP t r.to
        · rw [hh, if_neg (by simp)] at h; simp at h
        · rw [if_pos rfl]
          unfold putS
          rw [if_pos hr, hh, if_pos rfl]
          exact .inr (.inl ⟨h2, hr, rfl, rfl⟩)
      · rw [if_neg hr] at h; simp at h
    · rw [if_neg h2] at h ⊢
      by_cases h3 : k = 3
      · rw [if_pos h3] at h ⊢
        by_cases hr : rightP r.to ∧ r = wd r
        · rw [if_pos hr] at h ⊢
          unfold dropS at h ⊢
          cases hh : hasP t r.to
          · rw [hh, if_neg (by simp)] at h; simp at h
          · rw [if_pos rfl]
            exact .inr (.inr ⟨h3, hr.1, hr.2, rfl, rfl⟩)
        · rw [if_neg hr] at h; simp at h
      · rw [if_neg h3] at h; simp at h
/-- From one table to another one, by what became of each prefix. -/
structure Inv (t v : List Rt) (W : List Sy) : Prop where
  keys : Keys W
  was : ∀ s ∈ W, s.was = hasP t s.to
  mem : ∀ x, x ∈ v ↔ (x ∈ t ∧ ∀ s ∈ W, s.to ≠ x.to) ∨ ∃ s ∈ W, s.is = true ∧ s.last.route = x
  right : ∀ s ∈ W, rightI s.last
theorem Inv.start (t : List Rt) : Inv t t [] := ⟨List.Pairwise.nil, by simp, by simp, by simp⟩
theorem inv_has {t v : List Rt} {W : List Sy} (h : Inv t v W) (p : Px) : hasP v p = match findS W p with
    | none => hasP t p
    | some s => s.is := by
  cases hf : findS W p with
  | none =>
    have hn := findS_none hf
    simp only
    rw [Bool.eq_iff_iff, has_iff, has_iff]
    constructor
    · rintro ⟨x, hx, e⟩
      rcases (h.mem x).1 hx with ⟨k, _⟩ | ⟨s, hs, _, k⟩
      · exact ⟨x, k, e⟩
      · exact absurd (show s.to = p by rw [← e, ← k]; rfl) (hn s hs)
    · rintro ⟨x, hx, e⟩
      exact ⟨x, (h.mem x).2 (.inl ⟨hx, fun s hs e2 => hn s hs (by rw [e2, e])⟩), e⟩
  | some s =>
    obtain ⟨hs, hp⟩ := findS_some hf
    simp only
    rw [Bool.eq_iff_iff, has_iff]
    constructor
    · rintro ⟨x, hx, e⟩
      rcases (h.mem x).1 hx with ⟨_, k⟩ | ⟨s', hs', k1, k2⟩
      · exact absurd (by rw [hp, e]) (k s hs)
      · have : s' = s := keys_eq h.keys hs' hs (by rw [hp, ← e, ← k2]; rfl)
        rw [← this]
        exact k1
    · intro k
      exact ⟨s.last.route, (h.mem _).2 (.inr ⟨s, hs, k, rfl⟩), hp⟩
theorem inv_step {t v : List Rt} {W : List Sy} {i : Ic} (h : Inv t v W) (hs : Sorted v) (hd : (doS v i.kind i.route).2 = 0) : ∃ W', stepS W i = some W' ∧ Inv t (doS v i.kind i.route).1 W' ∧ rightI i := by
  have hc := do_cases hd
  have hri : rightI i := by
    rcases hc with ⟨k1, k2, _⟩ | ⟨k1, k2, _⟩ | ⟨k1, k2, k3, _⟩
    · exact .inl ⟨.inl k1, k2⟩
    · exact .inl ⟨.inr k1, k2⟩
    · exact .inr ⟨k1, k2, k3⟩
  have hh : hasP v i.route.to = decide (i.kind ≠ 1) := by
    rcases hc with ⟨k1, _, k3, _⟩ | ⟨k1, _, k3, _⟩ | ⟨k1, _, _, k3, _⟩
    · rw [k3, k1]; rfl
    · rw [k3, k1]; rfl
    · rw [k3, k1]; rfl
  have hhs := inv_has h i.route.to
  rw [hh] at hhs
  obtain ⟨s', hs', hto, hlast, hwas⟩ : ∃ s' : Sy, stepS W i = some (setS W s') ∧ s'.to = i.route.to ∧ s'.last = i ∧ s'.was = hasP t i.route.to := by
    unfold stepS
    cases hf : findS W i.route.to with
    | none =>
      rw [hf] at hhs
      exact ⟨_, rfl, rfl, rfl, hhs⟩
    | some s =>
      rw [hf] at hhs
      simp only at hhs ⊢
      obtain ⟨m1, m2⟩ := findS_some hf
      rw [if_pos hhs.symm]
      exact ⟨_, rfl, rfl, rfl, by rw [← m2]; exact h.was s m1⟩
  have hm := setS_mem h.keys s'
  refine ⟨_, hs', ⟨setS_keys h.keys _, ?_, ?_, ?_⟩, hri⟩
  · intro s hsm
    rcases (hm s).1 hsm with e | ⟨e, _⟩
    · rw [e, hto]; exact hwas
    · exact h.was s e
  · intro x
    have hvx : x ∈ (doS v i.kind i.route).1 ↔ (i.kind ≠ 3 ∧ x = i.route) ∨ (x ∈ v ∧ x.to ≠ i.route.to) := by
      rcases hc with ⟨k1, _, _, k4⟩ | ⟨k1, _, _, k4⟩ | ⟨k1, _, _, k3, k4⟩
      · rw [k4, mem_put hs]
        have : i.kind ≠ 3 := by omega
        simp [this]
      · rw [k4, mem_put hs]
        have : i.kind ≠ 3 := by omega
        simp [this]
      · rw [k4, mem_cut hs k3]
        simp [k1]
    rw [hvx]
    constructor
    · rintro (⟨k1, k2⟩ | ⟨k1, k2⟩)
      · exact .inr ⟨s', (hm s').2 (.inl rfl), by unfold Sy.is; rw [hlast]; simpa using k1, by rw [hlast, k2]⟩
      · rcases (h.mem x).1 k1 with ⟨m1, m2⟩ | ⟨s, m1, m2, m3⟩
        · refine .inl ⟨m1, fun s hsm => ?_⟩
          rcases (hm s).1 hsm with e | ⟨e, _⟩
          · rw [e, hto]; exact fun e2 => k2 e2.symm
          · exact m2 s e
        · exact .inr ⟨s, (hm s).2 (.inr ⟨m1, by rw [hto]; exact fun e => k2 (by rw [← m3]; exact e)⟩), m2, m3⟩
    · rintro (⟨k1, k2⟩ | ⟨s, k1, k2, k3⟩)
      · have hxp : x.to ≠ i.route.to := fun e => k2 s' ((hm s').2 (.inl rfl)) (by rw [hto, e])
        refine .inr ⟨(h.mem x).2 (.inl ⟨k1, fun s hsm e => ?_⟩), hxp⟩
        exact k2 s ((hm s).2 (.inr ⟨hsm, by rw [hto, e]; exact hxp⟩)) e
      · rcases (hm s).1 k1 with e | ⟨e, e2⟩
        · subst e
          refine .inl ⟨?_, by rw [← k3, hlast]⟩
          unfold Sy.is at k2
          rw [hlast] at k2
          simpa using k2
        · exact .inr ⟨(h.mem x).2 (.inr ⟨s, e, k2, k3⟩), by rw [← k3, ← hto]; exact e2⟩
  · intro s hsm
    rcases (hm s).1 hsm with e | ⟨e, _⟩
    · rw [e, hlast]; exact hri
    · exact h.right s e
theorem fold_inv {t : List Rt} : ∀ (l : List Ic) (v : List Rt) (W : List Sy) (k : Nat), Inv t v W → Sorted v → v.length ≤ 300 → (foldS v l k).2.2 = 0 → ∃ W', storS W l = some W' ∧ Inv t (foldS v l k).1 W' ∧ Sorted (foldS v l k).1 ∧ (foldS v l k).1.length ≤ 300 ∧ (∀ i ∈ l, rightI i) ∧ (foldS v l k).2.1 = k + l.length
  | [], v, W, k, h, hs, hl, _ => ⟨W, rfl, h, hs, hl, by simp, rfl⟩
  | i :: l, v, W, k, h, hs, hl, he => by
    rw [foldS] at he ⊢
    by_cases hd : (doS v i.kind i.route).2 = 0
    · rw [if_pos hd] at he ⊢
      obtain ⟨W1, h1, h2, h3⟩ := inv_step h hs hd
      obtain ⟨k1, k2⟩ := doS_ok hs hl i.kind i.route
      obtain ⟨W2, g1, g2, g3, g4, g5, g6⟩ := fold_inv l _ W1 (k + 1) h2 k1 k2 he
      refine ⟨W2, ?_, g2, g3, g4, ?_, by rw [g6, List.length_cons]; omega⟩
      · rw [storS, h1]
        exact g1
      · intro x hx
        rcases List.mem_cons.1 hx with rfl | hx
        · exact h3
        · exact g5 x hx
    · rw [if_neg hd] at he
      exact absurd he hd
theorem foldS_app (l m : List Ic) : ∀ (t : List Rt) (k : Nat), (foldS t l k).2.2 = 0 → foldS t (l ++ m) k = foldS (foldS t l k).1 m (foldS t l k).2.1 := by
  induction l with
  | nil => intro t k _; rfl
  | cons i l ih =>
    intro t k h
    rw [foldS] at h
    rw [List.cons_append, foldS, foldS]
    by_cases hd : (doS t i.kind i.route).2 = 0
    · rw [if_pos hd] at h
      rw [if_pos hd, if_pos hd]
      exact ih _ _ h
    · rw [if_neg hd] at h
      exact absurd h hd
theorem foldS_app_no (l m : List Ic) : ∀ (t : List Rt) (k : Nat), (foldS t l k).2.2 ≠ 0 → (foldS t (l ++ m) k).2 = (foldS t l k).2 := by
  induction l with
  | nil => intro t k h; exact absurd rfl h
  | cons i l ih =>
    intro t k h
    rw [foldS] at h
    rw [List.cons_append, foldS, foldS]
    by_cases hd : (doS t i.kind i.route).2 = 0
    · rw [if_pos hd] at h
      rw [if_pos hd, if_pos hd]
      exact ih _ _ h
    · rw [if_neg hd, if_neg hd]
theorem foldS_place (l : List Ic) : ∀ (t : List Rt) (k j : Nat), (foldS t l (k + j)).1 = (foldS t l k).1 ∧ (foldS t l (k + j)).2.1 = (foldS t l k).2.1 + j ∧ (foldS t l (k + j)).2.2 = (foldS t l k).2.2 := by
  induction l with
  | nil => intro t k j; exact ⟨rfl, rfl, rfl⟩
  | cons i l ih =>
    intro t k j
    rw [foldS, foldS]
    by_cases hd : (doS t i.kind i.route).2 = 0
    · rw [if_pos hd, if_pos hd, show k + j + 1 = k + 1 + j by omega]
      exact ih _ _ _
    · rw [if_neg hd, if_neg hd]
      exact ⟨rfl, rfl, rfl⟩
/-- Changes of which each can be done, one a prefix. -/
theorem fold_fits : ∀ (m : List Ic) (t : List Rt) (k : Nat), Sorted t → t.length + m.length ≤ 300 → (∀ i ∈ m, rightI i) → (∀ i ∈ m, i.kind = 1 ↔ hasP t i.route.to = false) → m.Pairwise (fun a b => a.route.to ≠ b.route.to) →
    (foldS t m k).2 = (k + m.length, 0) ∧ Sorted (foldS t m k).1 ∧ ∀ x, x ∈ (foldS t m k).1 ↔ (x ∈ t ∧ ∀ i ∈ m, i.route.to ≠ x.to) ∨ ∃ i ∈ m, i.kind ≠ 3 ∧ i.route = x
  | [], t, k, hs, _, _, _, _ => ⟨rfl, hs, fun x => by simp [foldS]⟩
  | i :: m, t, k, hs, hl, hr, hk, hp => by
    obtain ⟨hp1, hp2⟩ := List.pairwise_cons.1 hp
    have hri := hr i (by simp)
    have hki := hk i (by simp)
    obtain ⟨hd, hvx⟩ : (doS t i.kind i.route).2 = 0 ∧ ∀ x, x ∈ (doS t i.kind i.route).1 ↔ (i.kind ≠ 3 ∧ x = i.route) ∨ (x ∈ t ∧ x.to ≠ i.route.to) := by
      obtain ⟨kd, r⟩ := i
      simp only at hri hki ⊢
      rcases hri with ⟨h1 | h1, h2⟩ | ⟨h1, h2, h3⟩
      · simp only at h1 h2
        subst h1
        rw [do_add h2 (hki.1 rfl), if_neg (by simp at hl; omega)]
        exact ⟨rfl, fun x => by rw [mem_put hs]; simp⟩
      · simp only at h1 h2
        subst h1
        have hh : hasP t r.to = true := by
          cases hh : hasP t r.to
          · exact absurd (hki.2 hh) (by decide)
          · rfl
        rw [do_chg h2 hh]
        exact ⟨rfl, fun x => by rw [mem_put hs]; simp⟩
      · simp only at h1 h2 h3
        subst h1
        have hh : hasP t r.to = true := by
          cases hh : hasP t r.to
          · exact absurd (hki.2 hh) (by decide)
          · rfl
        have hdo : doS t 3 r = (cutP t r.to, 0) := by
          unfold doS
          rw [if_neg (by decide), if_neg (by decide), if_pos rfl, if_pos ⟨h2, h3⟩]
          unfold dropS
          rw [if_pos hh]
        rw [hdo]
        exact ⟨rfl, fun x => by rw [mem_cut hs hh]; simp⟩
    obtain ⟨k1, k2⟩ := doS_ok hs (by simp at hl; omega) i.kind i.route
    have hlen : (doS t i.kind i.route).1.length ≤ t.length + 1 := by
      rcases do_cases hd with ⟨_, _, e, e2⟩ | ⟨_, _, e, e2⟩ | ⟨_, _, _, e, e2⟩
      · rw [e2, putL_len hs, e]; simp
      · rw [e2, putL_len hs, e]; simp
      · rw [e2]; have := cutP_len hs i.route.ok e; omega
    have hhas : ∀ j ∈ m, hasP (doS t i.kind i.route).1 j.route.to = hasP t j.route.to := fun j hj => by
      rw [Bool.eq_iff_iff, has_iff, has_iff]
      have hne := hp1 j hj
      constructor
      · rintro ⟨x, hx, e⟩
        rcases (hvx x).1 hx with ⟨_, e2⟩ | ⟨e2, _⟩
        · exact absurd (by rw [← e, e2]) hne
        · exact ⟨x, e2, e⟩
      · rintro ⟨x, hx, e⟩
        exact ⟨x, (hvx x).2 (.inr ⟨hx, by rw [e]; exact fun e2 => hne e2.symm⟩), e⟩
    obtain ⟨g1, g2, g3⟩ := fold_fits m (doS t i.kind i.route).1 (k + 1) k1 (by simp at hl; omega) (fun j hj => hr j (by simp [hj])) (fun j hj => by rw [hhas j hj]; exact hk j (by simp [hj])) hp2
    rw [foldS, if_pos hd]
    refine ⟨by rw [g1, List.length_cons]; congr 1; omega, g2, fun x => ?_⟩
    rw [g3, hvx]
    constructor
    · rintro (⟨⟨e1, e2⟩ | ⟨e1, e2⟩, e3⟩ | ⟨j, e1, e2, e3⟩)
      · exact .inr ⟨i, by simp, e1, e2.symm⟩
      · refine .inl ⟨e1, fun j hj => ?_⟩
        rcases List.mem_cons.1 hj with rfl | hj
        · exact fun e => e2 e.symm
        · exact e3 j hj
      · exact .inr ⟨j, by simp [e1], e2, e3⟩
    · rintro (⟨e1, e2⟩ | ⟨j, e1, e2, e3⟩)
      · exact .inl ⟨.inr ⟨e1, fun e => e2 i (by simp) e.symm⟩, fun j hj => e2 j (by simp [hj])⟩
      · rcases List.mem_cons.1 e1 with rfl | hj
        · exact .inl ⟨.inl ⟨e2, e3.symm⟩, fun j' hj' => by rw [← e3]; exact fun e => hp1 j' hj' e.symm⟩
        · exact .inr ⟨j, hj, e2, e3⟩
/-- What became of each prefix, done at once, makes the same. -/
theorem merge_fold {t v : List Rt} {W : List Sy} {m : List Ic} (h : Inv t v W) (hm : IsMg W m) (hs : Sorted t) (hv : Sorted v) (hl : t.length + m.length ≤ 300) : foldS t m 0 = (v, m.length, 0) := by
  have hfit : ∀ i ∈ m, rightI i ∧ (i.kind = 1 ↔ hasP t i.route.to = false) := fun i hi => by
    obtain ⟨s, h1, h2⟩ := (hm.mem i).1 hi
    have hr := h.right s h1
    have hw := h.was s h1
    have hto : i.route.to = s.to := by rw [effS_to h2]; rfl
    rw [hto, ← hw]
    unfold effS at h2
    have hR : s.is = true → rightR s.last.route := fun e => by
      rcases hr with ⟨_, k⟩ | ⟨k, _⟩
      · exact k
      · unfold Sy.is at e; simp [k] at e
    cases hwv : s.was <;> cases hiv : s.is <;> simp only [hwv, hiv, if_true, if_false, Bool.false_eq_true, Option.some.injEq, reduceCtorEq] at h2
    · subst h2
      exact ⟨.inl ⟨.inl rfl, hR hiv⟩, by simp⟩
    · subst h2
      have : s.last.kind = 3 := by unfold Sy.is at hiv; simpa using hiv
      exact ⟨hr, by simp [this]⟩
    · subst h2
      exact ⟨.inl ⟨.inr rfl, hR hiv⟩, by simp⟩
  obtain ⟨g1, g2, g3⟩ := fold_fits m t 0 hs hl (fun i hi => (hfit i hi).1) (fun i hi => (hfit i hi).2) (hm.sorted.imp fun {a b} e e2 => by rw [(cmp_zero a.route.ok b.route.ok).2 e2] at e; omega)
  have e : (foldS t m 0).1 = v := sorted_ext (fun r : Rt => r.to) (fun r => r.ok) g2 hv fun x => by
    rw [g3, h.mem]
    constructor
    · rintro (⟨e1, e2⟩ | ⟨i, e1, e2, e3⟩)
      · refine .inl ⟨e1, fun s hsm e => ?_⟩
        have hw : s.was = true := by rw [h.was s hsm, has_iff]; exact ⟨x, e1, e.symm⟩
        obtain ⟨i, hi⟩ : ∃ i, effS s = some i := by
          unfold effS
          rw [hw]
          cases s.is <;> exact ⟨_, rfl⟩
        exact e2 i ((hm.mem i).2 ⟨s, hsm, hi⟩) (by rw [effS_to hi]; exact e)
      · obtain ⟨s, h1, h2⟩ := (hm.mem i).1 e1
        refine .inr ⟨s, h1, ?_, by rw [← e3]; exact (effS_to h2).symm⟩
        cases hi : s.is
        · unfold effS at h2
          rw [hi] at h2
          cases hw : s.was <;> rw [hw] at h2 <;> simp at h2
          subst h2
          unfold Sy.is at hi
          exact absurd (by simpa using hi) e2
        · rfl
    · rintro (⟨e1, e2⟩ | ⟨s, e1, e2, e3⟩)
      · refine .inl ⟨e1, fun i hi => ?_⟩
        obtain ⟨s, h1, h2⟩ := (hm.mem i).1 hi
        rw [effS_to h2]
        exact e2 s h1
      · refine .inr ?_
        cases hw : s.was
        · exact ⟨⟨1, s.last.route⟩, (hm.mem _).2 ⟨s, e1, by unfold effS; rw [hw, e2]; rfl⟩, (show (1 : Int) ≠ 3 by decide), e3⟩
        · exact ⟨⟨2, s.last.route⟩, (hm.mem _).2 ⟨s, e1, by unfold effS; rw [hw, e2]; rfl⟩, (show (2 : Int) ≠ 3 by decide), e3⟩
  rw [← e, ← Prod.eta (foldS t m 0), g1, Nat.zero_add]
/-- Two rows, one behind the other. -/
theorem merge_rows {t : List Rt} {a b : List Ic} (hs : Sorted t) (hl : t.length ≤ 300) (h1 : (foldS t a 0).2.2 = 0) (h2 : (foldS (foldS t a 0).1 b 0).2.2 = 0) : ∃ W, mg (a ++ b) = some W ∧ W.length ≤ a.length + b.length ∧ ∀ m, IsMg W m → t.length + m.length ≤ 300 → foldS t m 0 = ((foldS (foldS t a 0).1 b 0).1, m.length, 0) := by
  obtain ⟨W1, a1, a2, a3, a4, a5, a6⟩ := fold_inv a t [] 0 (Inv.start t) hs hl h1
  obtain ⟨W2, b1, b2, b3, b4, b5, b6⟩ := fold_inv b (foldS t a 0).1 W1 0 a2 a3 a4 h2
  have hst : storS [] (a ++ b) = some W2 := by
    rw [storS_app, a1]
    exact b1
  refine ⟨W2, ?_, ?_, fun m hm hl2 => merge_fold b2 hm hs b3 hl2⟩
  · unfold mg
    rw [if_pos fun i hi => ?_, hst]
    rcases List.mem_append.1 hi with h | h
    · exact a5 i h
    · exact b5 i h
  · have := (storS_keys (W := []) List.Pairwise.nil hst).2
    simpa using this
end Go.Proofs.YtgkgpdlakamgiaaGreat
