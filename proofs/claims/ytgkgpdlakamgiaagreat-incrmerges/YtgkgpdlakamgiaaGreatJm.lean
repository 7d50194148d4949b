/- Proved: plain mathematics of the document's merging: two lists of routes, what was and what is, tell what became of each prefix. No condition. -/
import Derived.Test.YtgkgpdlakamgiaaGreatJt
namespace Go.Proofs.YtgkgpdlakamgiaaGreat
open Go.RowKit

/-- What was and what is, behind so many changes. -/
structure Q2 (l : List Ic) (k : Nat) (W : List Sy) (was is : List Rt) : Prop where
  keys : Keys W
  swas : Sorted was
  sis : Sorted is
  mwas : ∀ r, r ∈ was ↔ ∃ s ∈ W, s.was = true ∧ r = wd s.last.route
  mis : ∀ r, r ∈ is ↔ ∃ s ∈ W, s.is = true ∧ r = s.last.route
  lst : ∀ s ∈ W, ∃ j, j < k ∧ l[j]? = some s.last ∧ ∀ j' y, j < j' → j' < k → l[j']? = some y → y.route.to ≠ s.to
  cov : ∀ j x, j < k → l[j]? = some x → ∃ s ∈ W, s.to = x.route.to
theorem Q2.start (l : List Ic) : Q2 l 0 [] [] [] := ⟨List.Pairwise.nil, Sorted.nil, Sorted.nil, by simp, by simp, by simp, fun j x h => by omega⟩
theorem wd_to {r : Rt} {p : Px} (h : r.to = p) (hp : p.addr.length = 16) : wd r = ⟨p, 0, 0, hp⟩ := Rt.ext' h rfl rfl
theorem Q2.find {l : List Ic} {k : Nat} {W : List Sy} {was is : List Rt} (h : Q2 l k W was is) {p : Px} {z : Int} (hz : LastIs l k p z) : (z = -1 ∧ findS W p = none) ∨ ∃ (j : Nat) (s : Sy), z = j ∧ j < k ∧ l[j]? = some s.last ∧ findS W p = some s := by
  rcases hz with ⟨h1, h2⟩ | ⟨j, x, h1, h2, h3, h4, h5⟩
  · refine .inl ⟨h1, ?_⟩
    cases hf : findS W p with
    | none => rfl
    | some s =>
      obtain ⟨m1, m2⟩ := findS_some hf
      obtain ⟨j, j1, j2, _⟩ := h.lst s m1
      exact absurd m2 (h2 j s.last j1 j2)
  · obtain ⟨s, m1, m2⟩ := h.cov j x h2 h3
    rw [h4] at m2
    obtain ⟨j2, a1, a2, a3⟩ := h.lst s m1
    have hj : j2 = j := by
      rcases Nat.lt_trichotomy j2 j with e | e | e
      · exact absurd (by rw [h4, m2]) (a3 j x e h2 h3)
      · exact e
      · exact absurd m2 (h5 j2 s.last e a1 a2)
    subst hj
    refine .inr ⟨j2, s, h1, h2, a2, ?_⟩
    cases hf : findS W p with
    | none => exact absurd m2 (findS_none hf s m1)
    | some t =>
      obtain ⟨t1, t2⟩ := findS_some hf
      rw [keys_eq h.keys t1 m1 (by rw [t2, m2])]
theorem mem_drop {is : List Rt} (hs : Sorted is) (p : Px) (r : Rt) : r ∈ (dropS is p).1 ↔ r ∈ is ∧ r.to ≠ p := by
  unfold dropS
  cases hh : hasP is p
  · rw [if_neg (by simp)]
    exact ⟨fun h => ⟨h, fun e => by rw [has_iff.2 ⟨r, h, e⟩] at hh; cases hh⟩, fun h => h.1⟩
  · rw [if_pos rfl]
    exact mem_cut hs hh r
theorem drop_sorted {is : List Rt} (hs : Sorted is) (p : Px) : Sorted (dropS is p).1 := by
  unfold dropS
  split
  · exact cutP_sorted hs p
  · exact hs
theorem drop_has {is : List Rt} (hs : Sorted is) (p : Px) : hasP (dropS is p).1 p = false := has_none fun x hx => ((mem_drop hs p x).1 hx).2
/-- What is, behind one more. -/
def isN (is : List Rt) (i : Ic) : List Rt := if i.kind = 3 then (dropS is i.route.to).1 else putL (dropS is i.route.to).1 i.route
def wasN (W : List Sy) (was : List Rt) (i : Ic) : List Rt := if findS W i.route.to = none ∧ i.kind ≠ 1 then putL was (wd i.route) else was
theorem mem_isN {is : List Rt} (hs : Sorted is) (i : Ic) (r : Rt) : r ∈ isN is i ↔ (i.kind ≠ 3 ∧ r = i.route) ∨ (r ∈ is ∧ r.to ≠ i.route.to) := by
  unfold isN
  by_cases h : i.kind = 3
  · rw [if_pos h, mem_drop hs]
    simp [h]
  · rw [if_neg h, mem_put (drop_sorted hs _), mem_drop hs]
    constructor
    · rintro (e | ⟨e, e2⟩)
      · exact .inl ⟨h, e⟩
      · exact .inr e
    · rintro (⟨_, e⟩ | e)
      · exact .inl e
      · exact .inr ⟨e, e.2⟩
theorem isN_sorted {is : List Rt} (hs : Sorted is) (i : Ic) : Sorted (isN is i) := by
  unfold isN
  split
  · exact drop_sorted hs _
  · exact putL_sorted (drop_sorted hs _) _
theorem was_no {l : List Ic} {k : Nat} {W : List Sy} {was is : List Rt} (h : Q2 l k W was is) {p : Px} (hf : findS W p = none) : hasP was p = false := has_none fun x hx => by
  obtain ⟨s, m1, _, m3⟩ := (h.mwas x).1 hx
  rw [m3]
  exact findS_none hf s m1
theorem Q2.step {l : List Ic} {k : Nat} {W W' : List Sy} {was is : List Rt} {i : Ic} (h : Q2 l k W was is) (hi : l[k]? = some i) (hs : stepS W i = some W') : Q2 l (k + 1) W' (wasN W was i) (isN is i) := by
  obtain ⟨s', hW, hto, hlast, hwas⟩ : ∃ s' : Sy, W' = setS W s' ∧ s'.to = i.route.to ∧ s'.last = i ∧ ((findS W i.route.to = none ∧ s'.was = decide (i.kind ≠ 1)) ∨ ∃ s, findS W i.route.to = some s ∧ s'.was = s.was) := by
    unfold stepS at hs
    cases hf : findS W i.route.to with
    | none =>
      rw [hf] at hs
      simp only [Option.some.injEq] at hs
      exact ⟨_, hs.symm, rfl, rfl, .inl ⟨rfl, rfl⟩⟩
    | some s =>
      rw [hf] at hs
      simp only at hs
      split at hs
      · simp only [Option.some.injEq] at hs
        exact ⟨_, hs.symm, rfl, rfl, .inr ⟨s, rfl, rfl⟩⟩
      · simp at hs
  have hm := setS_mem h.keys s'
  subst hW
  refine ⟨setS_keys h.keys _, ?_, isN_sorted h.sis i, fun r => ?_, fun r => ?_, fun s hsm => ?_, fun j x hj hx => ?_⟩
  · unfold wasN
    split
    · exact putL_sorted h.swas _
    · exact h.swas
  · rcases hwas with ⟨hf, hw⟩ | ⟨s, hf, hw⟩
    · have hne := findS_none hf
      have hold : r ∈ was ↔ ∃ s ∈ W, s.was = true ∧ r = wd s.last.route := h.mwas r
      unfold wasN
      by_cases h1 : i.kind = 1
      · rw [if_neg (fun e => e.2 h1), hold]
        constructor
        · rintro ⟨s, a, b, c⟩
          exact ⟨s, (hm s).2 (.inr ⟨a, by rw [hto]; exact hne s a⟩), b, c⟩
        · rintro ⟨s, a, b, c⟩
          rcases (hm s).1 a with e | ⟨e, _⟩
          · rw [e, hw] at b
            simp [h1] at b
          · exact ⟨s, e, b, c⟩
      · rw [if_pos ⟨hf, h1⟩, mem_put h.swas, hold]
        constructor
        · rintro (e | ⟨⟨s, a, b, c⟩, e2⟩)
          · exact ⟨s', (hm s').2 (.inl rfl), by rw [hw]; simpa using h1, by rw [hlast, e]⟩
          · exact ⟨s, (hm s).2 (.inr ⟨a, by rw [hto]; exact hne s a⟩), b, c⟩
        · rintro ⟨s, a, b, c⟩
          rcases (hm s).1 a with e | ⟨e, e2⟩
          · exact .inl (by rw [c, e, hlast])
          · refine .inr ⟨⟨s, e, b, c⟩, ?_⟩
            rw [c]
            show s.to ≠ i.route.to
            exact hne s e
    · obtain ⟨f1, f2⟩ := findS_some hf
      unfold wasN
      rw [if_neg (fun e => by rw [hf] at e; simp at e), h.mwas]
      have hwd : wd s.last.route = wd s'.last.route := Rt.ext' (show s.to = s'.to by rw [f2, hto]) rfl rfl
      constructor
      · rintro ⟨t, a, b, c⟩
        by_cases e : t.to = i.route.to
        · have : t = s := keys_eq h.keys a f1 (by rw [e, f2])
          subst this
          exact ⟨s', (hm s').2 (.inl rfl), by rw [hw]; exact b, by rw [c, hwd]⟩
        · exact ⟨t, (hm t).2 (.inr ⟨a, by rw [hto]; exact e⟩), b, c⟩
      · rintro ⟨t, a, b, c⟩
        rcases (hm t).1 a with e | ⟨e, _⟩
        · subst e
          exact ⟨s, f1, by rw [← hw]; exact b, by rw [c, hwd]⟩
        · exact ⟨t, e, b, c⟩
  · rw [mem_isN h.sis, h.mis]
    constructor
    · rintro (⟨e1, e2⟩ | ⟨⟨s, a, b, c⟩, e2⟩)
      · exact ⟨s', (hm s').2 (.inl rfl), by unfold Sy.is; rw [hlast]; simpa using e1, by rw [hlast, e2]⟩
      · exact ⟨s, (hm s).2 (.inr ⟨a, by rw [hto]; rw [c] at e2; exact e2⟩), b, c⟩
    · rintro ⟨s, a, b, c⟩
      rcases (hm s).1 a with e | ⟨e, e2⟩
      · subst e
        refine .inl ⟨?_, by rw [c, hlast]⟩
        unfold Sy.is at b
        rw [hlast] at b
        simpa using b
      · refine .inr ⟨⟨s, e, b, c⟩, ?_⟩
        rw [c]
        rw [hto] at e2
        exact e2
  · rcases (hm s).1 hsm with e | ⟨e, e2⟩
    · subst e
      exact ⟨k, by omega, by rw [hlast]; exact hi, fun j' y h1 h2 => by omega⟩
    · obtain ⟨j, a1, a2, a3⟩ := h.lst s e
      refine ⟨j, by omega, a2, fun j' y h1 h2 h3 => ?_⟩
      rcases Nat.lt_or_ge j' k with h4 | h4
      · exact a3 j' y h1 h4 h3
      · obtain rfl : j' = k := by omega
        rw [hi] at h3
        simp only [Option.some.injEq] at h3
        rw [← h3]
        rw [hto] at e2
        exact fun e3 => e2 e3.symm
  · rcases Nat.lt_or_ge j k with h4 | h4
    · obtain ⟨s, a, b⟩ := h.cov j x h4 hx
      by_cases e : s.to = i.route.to
      · exact ⟨s', (hm s').2 (.inl rfl), by rw [hto, ← e, b]⟩
      · exact ⟨s, (hm s).2 (.inr ⟨a, by rw [hto]; exact e⟩), b⟩
    · obtain rfl : j = k := by omega
      rw [hi] at hx
      simp only [Option.some.injEq] at hx
      exact ⟨s', (hm s').2 (.inl rfl), by rw [hto, hx]⟩

/-! ### All of them, and their one change -/
theorem pigeon8 (l m : List Px) (hn : l.Nodup) (h : ∀ x ∈ l, x ∈ m) : l.length ≤ m.length := by
  induction l generalizing m with
  | nil => simp
  | cons x l ih =>
    obtain ⟨h1, h2⟩ := List.nodup_cons.1 hn
    have hx := h x (by simp)
    have := ih (m.erase x) h2 fun y hy => (List.mem_erase_of_ne (fun e => h1 (by rw [← e]; exact hy))).2 (h y (by simp [hy]))
    rw [List.length_erase_of_mem hx] at this
    have := List.length_pos_of_mem hx
    simp
    omega
theorem few_of {W : List Sy} {A : List Rt} (hs : Sorted A) (h : ∀ r ∈ A, ∃ s ∈ W, s.to = r.to) : A.length ≤ W.length := by
  have := pigeon8 (A.map (·.to)) (W.map Sy.to) (nodup_of hs) fun p hp => by
    obtain ⟨r, hr, rfl⟩ := List.mem_map.1 hp
    obtain ⟨s, a, b⟩ := h r hr
    exact List.mem_map.2 ⟨s, a, b⟩
  simpa using this
theorem Q2.fewW {l : List Ic} {k : Nat} {W : List Sy} {was is : List Rt} (h : Q2 l k W was is) : was.length ≤ W.length := few_of h.swas fun r hr => by
  obtain ⟨s, a, _, c⟩ := (h.mwas r).1 hr
  exact ⟨s, a, by rw [c]; rfl⟩
theorem Q2.fewI {l : List Ic} {k : Nat} {W : List Sy} {was is : List Rt} (h : Q2 l k W was is) : is.length ≤ W.length := few_of h.sis fun r hr => by
  obtain ⟨s, a, _, c⟩ := (h.mis r).1 hr
  exact ⟨s, a, by rw [c]; rfl⟩
/-- All that were or are. -/
structure Q3 (was is A : List Rt) (k : Nat) : Prop where
  sorted : Sorted A
  mem : ∀ r, r ∈ A ↔ r ∈ is ∨ (r ∈ was.take k ∧ hasP is r.to = false)
theorem Q3.few {l : List Ic} {k j : Nat} {W : List Sy} {was is A : List Rt} (h : Q2 l k W was is) (q : Q3 was is A j) : A.length ≤ W.length := few_of q.sorted fun r hr => by
  rcases (q.mem r).1 hr with e | ⟨e, _⟩
  · obtain ⟨s, a, _, c⟩ := (h.mis r).1 e
    exact ⟨s, a, by rw [c]; rfl⟩
  · obtain ⟨s, a, _, c⟩ := (h.mwas r).1 (List.mem_of_mem_take e)
    exact ⟨s, a, by rw [c]; rfl⟩
theorem Q3.start {was is : List Rt} (hs : Sorted is) : Q3 was is is 0 := ⟨hs, by simp⟩
theorem Q3.has {was is A : List Rt} {k : Nat} {x : Rt} (q : Q3 was is A k) (hw : Sorted was) (hx : was[k]? = some x) : hasP A x.to = hasP is x.to := by
  rw [Bool.eq_iff_iff, has_iff, has_iff]
  constructor
  · rintro ⟨r, a, b⟩
    rcases (q.mem r).1 a with e | ⟨e, _⟩
    · exact ⟨r, e, b⟩
    · exfalso
      rw [List.mem_take_iff_getElem] at e
      obtain ⟨j, hj, e⟩ := e
      have hk := (List.getElem?_eq_some_iff.1 hx)
      have := List.pairwise_iff_getElem.1 hw j k (by omega) hk.1 (by omega)
      rw [e, hk.2] at this
      exact ne_lt this b
  · rintro ⟨r, a, b⟩
    exact ⟨r, (q.mem r).2 (.inl a), b⟩
theorem Q3.yes {was is A : List Rt} {k : Nat} {x : Rt} (q : Q3 was is A k) (hx : was[k]? = some x) (h : hasP is x.to = true) : Q3 was is A (k + 1) := by
  refine ⟨q.sorted, fun r => ?_⟩
  rw [q.mem, List.take_add_one, hx]
  simp only [List.mem_append, Option.toList_some, List.mem_singleton]
  constructor
  · rintro (e | ⟨e, e2⟩)
    · exact .inl e
    · exact .inr ⟨.inl e, e2⟩
  · rintro (e | ⟨e | e, e2⟩)
    · exact .inl e
    · exact .inr ⟨e, e2⟩
    · rw [e, h] at e2
      cases e2
theorem Q3.no {was is A : List Rt} {k : Nat} {x : Rt} (q : Q3 was is A k) (hw : Sorted was) (hx : was[k]? = some x) (h : hasP is x.to = false) : Q3 was is (putL A x) (k + 1) := by
  have hA := q.has hw hx
  rw [h] at hA
  refine ⟨putL_sorted q.sorted x, fun r => ?_⟩
  rw [mem_put q.sorted, q.mem, List.take_add_one, hx]
  simp only [List.mem_append, Option.toList_some, List.mem_singleton]
  constructor
  · rintro (e | ⟨e | ⟨e, e2⟩, _⟩)
    · exact .inr ⟨.inr e, by rw [e]; exact h⟩
    · exact .inl e
    · exact .inr ⟨.inl e, e2⟩
  · intro e
    by_cases hr : r = x
    · exact .inl hr
    · have hm : r ∈ A := (q.mem r).2 (by
        rcases e with e | ⟨e | e, e2⟩
        · exact .inl e
        · exact .inr ⟨e, e2⟩
        · exact absurd e hr)
      exact .inr ⟨by
        rcases e with e | ⟨e | e, e2⟩
        · exact .inl e
        · exact .inr ⟨e, e2⟩
        · exact absurd e hr, fun e2 => by rw [has_iff.2 ⟨r, hm, e2⟩] at hA; cases hA⟩
/-- The one change of a prefix. -/
def gC (was is : List Rt) (r : Rt) : Ic := if hasP is r.to then (if hasP was r.to then ⟨2, r⟩ else ⟨1, r⟩) else ⟨3, wd r⟩
theorem gC_to (was is : List Rt) (r : Rt) : (gC was is r).route.to = r.to := by
  unfold gC
  split
  · split <;> rfl
  · rfl
theorem gC_sorted {was is A : List Rt} (h : Sorted A) : SortedI (A.map (gC was is)) := by
  unfold SortedI
  rw [List.pairwise_map]
  refine h.imp ?_
  intro a b hab
  rw [gC_to, gC_to]
  exact hab
theorem gC_mem {l : List Ic} {k : Nat} {W : List Sy} {was is A : List Rt} (h : Q2 l k W was is) (q : Q3 was is A was.length) (hr : ∀ s ∈ W, rightI s.last) (i : Ic) : i ∈ A.map (gC was is) ↔ ∃ s ∈ W, effS s = some i := by
  have hasI : ∀ s ∈ W, hasP is s.to = s.is := fun s hs => by
    rw [Bool.eq_iff_iff, has_iff]
    constructor
    · rintro ⟨x, a, b⟩
      obtain ⟨t, t1, t2, t3⟩ := (h.mis x).1 a
      have : t = s := keys_eq h.keys t1 hs (by rw [← b, t3]; rfl)
      rw [← this]
      exact t2
    · intro e
      exact ⟨s.last.route, (h.mis _).2 ⟨s, hs, e, rfl⟩, rfl⟩
  have hasW : ∀ s ∈ W, hasP was s.to = s.was := fun s hs => by
    rw [Bool.eq_iff_iff, has_iff]
    constructor
    · rintro ⟨x, a, b⟩
      obtain ⟨t, t1, t2, t3⟩ := (h.mwas x).1 a
      have : t = s := keys_eq h.keys t1 hs (by rw [← b, t3]; rfl)
      rw [← this]
      exact t2
    · intro e
      exact ⟨wd s.last.route, (h.mwas _).2 ⟨s, hs, e, rfl⟩, rfl⟩
  have hlast : ∀ s ∈ W, s.is = false → s.last = ⟨3, wd s.last.route⟩ := fun s hs e => by
    have hk : s.last.kind = 3 := by unfold Sy.is at e; simpa using e
    rcases hr s hs with ⟨e1, _⟩ | ⟨_, _, e2⟩
    · omega
    · exact Ic.ext' hk e2
  have hmem : ∀ r, r ∈ A ↔ r ∈ is ∨ (r ∈ was ∧ hasP is r.to = false) := fun r => by
    rw [q.mem, List.take_length]
  rw [List.mem_map]
  constructor
  · rintro ⟨r, hrA, rfl⟩
    rcases (hmem r).1 hrA with e | ⟨e, e2⟩
    · obtain ⟨s, s1, s2, s3⟩ := (h.mis r).1 e
      refine ⟨s, s1, ?_⟩
      have t1 := hasI s s1
      have t2 := hasW s s1
      have hto : r.to = s.to := by rw [s3]; rfl
      unfold effS gC
      rw [hto, t1, t2, s2, s3]
      cases s.was <;> rfl
    · obtain ⟨s, s1, s2, s3⟩ := (h.mwas r).1 e
      have hto : r.to = s.to := by rw [s3]; rfl
      have t1 := hasI s s1
      rw [← hto, e2] at t1
      refine ⟨s, s1, ?_⟩
      unfold effS gC
      rw [e2, s2, ← t1]
      have := hlast s s1 t1.symm
      simp only [if_true, Bool.false_eq_true, if_false]
      rw [this, s3]
      rfl
  · rintro ⟨s, s1, s2⟩
    have t1 := hasI s s1
    have t2 := hasW s s1
    unfold effS at s2
    cases hw : s.was <;> cases hi : s.is <;> rw [hw, hi] at s2 <;> simp only [if_true, if_false, Bool.false_eq_true, Option.some.injEq, reduceCtorEq] at s2
    · subst s2
      refine ⟨s.last.route, (hmem _).2 (.inl ((h.mis _).2 ⟨s, s1, hi, rfl⟩)), ?_⟩
      unfold gC
      rw [show s.last.route.to = s.to from rfl, t1, t2, hw, hi]
      rfl
    · subst s2
      refine ⟨wd s.last.route, (hmem _).2 (.inr ⟨(h.mwas _).2 ⟨s, s1, hw, rfl⟩, ?_⟩), ?_⟩
      · show hasP is s.to = false
        rw [t1, hi]
      · unfold gC
        rw [show (wd s.last.route).to = s.to from rfl, t1, hi]
        simp only [Bool.false_eq_true, if_false]
        exact (hlast s s1 hi).symm
    · subst s2
      refine ⟨s.last.route, (hmem _).2 (.inl ((h.mis _).2 ⟨s, s1, hi, rfl⟩)), ?_⟩
      unfold gC
      rw [show s.last.route.to = s.to from rfl, t1, t2, hw, hi]
      rfl
end Go.Proofs.YtgkgpdlakamgiaaGreat
