/- Proved: plain mathematics of digests: which range a prefix is of, a range's routes and digest, what becomes of them when routes come and go. No condition but lengths. -/
import Derived.Test.YtfikdeobejhblaaMd
import Derived.Test.YtfikdeobejhblaaMx
namespace Go.Proofs.Ytfikdeobejhblaa
open Go.RowKit

abbrev U (x : Int) : Int := IntKind.u64.wrap x
theorem U_eq (x : Int) : U x = x % 18446744073709551616 := IntKind.wrap_u64 x
def mixZ (x : Int) : Int :=
  let a := U (x + 11400714819323198485)
  let b := U (bits .xor .u64 a (a / 1073741824) * 13787848793156543929)
  let c := U (bits .xor .u64 b (b / 134217728) * 10723151780598845931)
  bits .xor .u64 c (c / 2147483648)
/-- A number's eight bytes, the highest first. -/
def byteE (n : Int) (k : Nat) : UInt8 := UInt8.ofNat (n / 2 ^ k % 256).toNat
def eightL (n : Int) : List UInt8 := (List.range 8).map fun k => byteE n (56 - 8 * k)
theorem eightL_len (n : Int) : (eightL n).length = 8 := by simp [eightL]
theorem eightL_get (n : Int) (k : Nat) (hk : k < 8) : (eightL n)[k]? = some (byteE n (56 - 8 * k)) := by
  unfold eightL
  rw [List.getElem?_map, List.getElem?_range hk]
  rfl
def bytesOf (p : Px) : List UInt8 := if rightP p then bytesL p else []
def stepM (x : Int) (c : UInt8) : Int := mixZ (bits .xor .u64 x (c.toNat : Nat))
def markL (l : List UInt8) : Int := l.foldl stepM 0
def markT (r : Rt) : List UInt8 := bytesOf r.to ++ (eightL (U r.metric) ++ eightL (U r.seq))
def markOf (r : Rt) : Int := markL (markT r)
theorem markL_snoc (l : List UInt8) (c : UInt8) : markL (l ++ [c]) = stepM (markL l) c := by simp [markL]

def bkt (p : Px) : Nat := if p.six then 16 else (p.addr.getD 0 0).toNat / 16
theorem bkt_lt (p : Px) : bkt p < 17 := by
  unfold bkt
  split
  · omega
  · have := (p.addr.getD 0 0).toNat_lt
    omega
def isB (k : Int) (r : Rt) : Bool := decide ((bkt r.to : Int) = k)
def partB (l : List Rt) (k : Int) : List Rt := l.filter (isB k)
def othB (l : List Rt) (k : Int) : List Rt := l.filter fun r => !isB k r
structure Dg where
  n : Int
  s : Int
deriving DecidableEq
def zeroD : Dg := ⟨0, 0⟩
instance : Inhabited Dg := ⟨zeroD⟩
def sumM (l : List Rt) : Int := (l.map markOf).sum
def dgR (l : List Rt) : Dg := ⟨(l.length : Nat), U (sumM l)⟩
def dgOf (l : List Rt) (k : Nat) : Dg := dgR (partB l k)
def allD (l : List Rt) : List Dg := (List.range 17).map (dgOf l)
def comeD (d : Dg) (m : Int) : Dg := ⟨wrap64 (d.n + 1), U (d.s + m)⟩
def leaveD (d : Dg) (m : Int) : Dg := ⟨wrap64 (d.n - 1), U (d.s - m)⟩

theorem allD_len (l : List Rt) : (allD l).length = 17 := by simp [allD]
theorem allD_get (l : List Rt) (k : Nat) (hk : k < 17) : (allD l)[k]? = some (dgOf l k) := by
  unfold allD
  rw [List.getElem?_map, List.getElem?_range hk]
  rfl
theorem allD_nil : allD [] = List.replicate 17 zeroD := by
  apply List.ext_getElem?
  intro k
  by_cases hk : k < 17
  · rw [allD_get _ k hk, List.getElem?_replicate, if_pos hk]
    rfl
  · rw [List.getElem?_eq_none (by rw [allD_len]; omega), List.getElem?_eq_none (by simp; omega)]
theorem sumM_perm {l m : List Rt} (h : l.Perm m) : sumM l = sumM m := by
  unfold sumM
  induction h with
  | nil => rfl
  | cons x _ ih => simp only [List.map_cons, List.sum_cons, ih]
  | swap x y l => simp only [List.map_cons, List.sum_cons]; omega
  | trans _ _ h1 h2 => rw [h1, h2]
theorem dgR_perm {l m : List Rt} (h : l.Perm m) : dgR l = dgR m := by
  unfold dgR
  rw [h.length_eq, sumM_perm h]
theorem allD_perm {l m : List Rt} (h : l.Perm m) : allD l = allD m := by
  unfold allD
  refine List.map_congr_left fun k _ => ?_
  exact dgR_perm (h.filter _)
theorem come_R (r : Rt) (l : List Rt) (hl : l.length < 1000000000) : comeD (dgR l) (markOf r) = dgR (r :: l) := by
  unfold comeD dgR sumM
  simp only [List.length_cons, List.map_cons, List.sum_cons, U_eq]
  congr 1
  · unfold wrap64; omega
  · omega
theorem leave_R (r : Rt) (l : List Rt) (hl : l.length < 1000000000) : leaveD (dgR (r :: l)) (markOf r) = dgR l := by
  unfold leaveD dgR sumM
  simp only [List.length_cons, List.map_cons, List.sum_cons, U_eq]
  congr 1
  · unfold wrap64; omega
  · omega
theorem part_len (l : List Rt) (k : Int) : (partB l k).length ≤ l.length := List.length_filter_le _ _
theorem part_cons (r : Rt) (l : List Rt) (k : Nat) : partB (r :: l) k = if bkt r.to = k then r :: partB l k else partB l k := by
  unfold partB isB
  by_cases h : bkt r.to = k
  · rw [if_pos h, List.filter_cons_of_pos (by simp [h])]
  · rw [if_neg h, List.filter_cons_of_neg (by simp; omega)]
/-- A route more: just its range's digest is another one. -/
theorem all_cons (r : Rt) (l : List Rt) (hl : l.length < 1000000000) : (allD l).set (bkt r.to) (comeD (dgOf l (bkt r.to)) (markOf r)) = allD (r :: l) := by
  have hb := bkt_lt r.to
  have hp := part_len l (bkt r.to : Nat)
  apply List.ext_getElem?
  intro k
  by_cases hk : k < 17
  · rw [allD_get _ k hk]
    by_cases h : bkt r.to = k
    · subst h
      rw [List.getElem?_set_self (by rw [allD_len]; exact hb)]
      unfold dgOf
      rw [part_cons, if_pos rfl, come_R r _ (by omega)]
    · rw [List.getElem?_set_ne h, allD_get _ k hk]
      unfold dgOf
      rw [part_cons, if_neg h]
  · rw [List.getElem?_eq_none (by rw [List.length_set, allD_len]; omega), List.getElem?_eq_none (by rw [allD_len]; omega)]
/-- A route less. -/
theorem all_uncons (r : Rt) (l : List Rt) (hl : l.length < 1000000000) : (allD (r :: l)).set (bkt r.to) (leaveD (dgOf (r :: l) (bkt r.to)) (markOf r)) = allD l := by
  have hb := bkt_lt r.to
  have hp := part_len l (bkt r.to : Nat)
  apply List.ext_getElem?
  intro k
  by_cases hk : k < 17
  · rw [allD_get _ k hk]
    by_cases h : bkt r.to = k
    · subst h
      rw [List.getElem?_set_self (by rw [allD_len]; exact hb)]
      unfold dgOf
      rw [part_cons, if_pos rfl, leave_R r _ (by omega)]
    · rw [List.getElem?_set_ne h, allD_get _ k hk]
      unfold dgOf
      rw [part_cons, if_neg h]
  · rw [List.getElem?_eq_none (by rw [List.length_set, allD_len]; omega), List.getElem?_eq_none (by rw [allD_len]; omega)]

/-! ### Behind a change -/
def addD (L : List Dg) (b : Nat) (m : Int) : List Dg := L.set b (comeD (L.getD b zeroD) m)
def subD (L : List Dg) (b : Nat) (m : Int) : List Dg := L.set b (leaveD (L.getD b zeroD) m)
def moreD (L : List Dg) (k : Int) (b : Nat) (m mw : Int) : List Dg :=
  if L.length ≠ 17 then L else if k = 1 then addD L b m else if k = 2 then addD (subD L b mw) b m else if k = 3 then subD L b mw else L
theorem addD_len (L : List Dg) (b : Nat) (m : Int) : (addD L b m).length = L.length := by simp [addD]
theorem subD_len (L : List Dg) (b : Nat) (m : Int) : (subD L b m).length = L.length := by simp [subD]
theorem moreD_len (L : List Dg) (k : Int) (b : Nat) (m mw : Int) : (moreD L k b m mw).length = L.length := by
  unfold moreD
  repeat' split
  all_goals simp [addD_len, subD_len]
theorem add_all (r : Rt) (l : List Rt) (hl : l.length < 1000000000) : addD (allD l) (bkt r.to) (markOf r) = allD (r :: l) := by
  unfold addD
  rw [← all_cons r l hl, List.getD_eq_getElem?_getD, allD_get _ _ (bkt_lt r.to)]
  rfl
theorem sub_all (r : Rt) (l : List Rt) (hl : l.length < 1000000000) : subD (allD (r :: l)) (bkt r.to) (markOf r) = allD l := by
  unfold subD
  rw [List.getD_eq_getElem?_getD, allD_get _ _ (bkt_lt r.to), Option.getD_some, all_uncons r l hl]
theorem do_casesD {t : List Rt} {k : Int} {r : Rt} (h : (doS t k r).2 = 0) : (k = 1 ∧ rightR r ∧ hasP t r.to = false ∧ (doS t k r).1 = putL t r) ∨ (k = 2 ∧ rightR r ∧ hasP t r.to = true ∧ (doS t k r).1 = putL t r) ∨ (k = 3 ∧ rightP r.to ∧ r = wd r ∧ hasP t r.to = true ∧ (doS t k r).1 = cutP t r.to) := by
  unfold doS at h ⊢
  by_cases h1 : k = 1
  · rw [if_pos h1] at h ⊢
    by_cases hr : rightR r
    · rw [if_pos hr] at h ⊢
      cases hh : hasP t r.to
      · simp only [hh, putS, if_pos hr, Bool.false_eq_true, if_false] at h ⊢
        by_cases hl : 300 ≤ t.length
        · simp [hl] at h
        · simp [hl, h1, hr]
      · simp [hh] at h
    · simp [hr] at h
  · rw [if_neg h1] at h ⊢
    by_cases h2 : k = 2
    · rw [if_pos h2] at h ⊢
      by_cases hr : rightR r
      · rw [if_pos hr] at h ⊢
        cases hh : hasP t r.to
        · simp [hh] at h
        · simp [hh, putS, hr, h2]
      · simp [hr] at h
    · rw [if_neg h2] at h ⊢
      by_cases h3 : k = 3
      · rw [if_pos h3] at h ⊢
        by_cases hr : rightP r.to ∧ r = wd r
        · rw [if_pos hr] at h ⊢
          cases hh : hasP t r.to
          · simp [hh, dropS] at h
          · simp [hh, dropS, h3, hr.1, ← hr.2]
        · simp [hr] at h
      · simp [h3] at h
theorem get_old {A B : List Rt} {y : Rt} (hA : ∀ x ∈ A, cmpP x.to y.to < 0) (hB : ∀ x ∈ B, 0 < cmpP x.to y.to) : getS (A ++ y :: B) y.to = y := by
  have hr : rank (A ++ y :: B) y.to = A.length := rank_split hA (fun x hx => by
    rcases List.mem_cons.1 hx with rfl | hx
    · rw [cmp_self]; omega
    · have := hB x hx; omega)
  unfold getS
  rw [if_pos (has_iff.2 ⟨y, by simp, rfl⟩), hr]
  simp
theorem mid_perm (A B : List Rt) (y : Rt) : (A ++ y :: B).Perm (y :: (A ++ B)) := List.perm_middle
/-- Behind a change that a table does. -/
theorem more_do {t : List Rt} {k : Int} {r : Rt} (hs : Sorted t) (hl : t.length ≤ 300) (h : (doS t k r).2 = 0) : moreD (allD t) k (bkt r.to) (markOf r) (markOf (getS t r.to)) = allD (doS t k r).1 := by
  unfold moreD
  rw [if_neg (by rw [allD_len]; simp)]
  rcases do_casesD h with ⟨rfl, _, hh, e⟩ | ⟨rfl, _, hh, e⟩ | ⟨rfl, _, _, hh, e⟩
  · obtain ⟨A, B, rfl, hA, hB⟩ := split_no hs hh
    rw [e, (put_new hA hB).2, if_pos rfl, add_all r _ (by omega)]
    exact (allD_perm (mid_perm A B r)).symm
  · obtain ⟨A, y, B, rfl, hy, hA, hB⟩ := split_has hs hh
    have hlen : (A ++ B).length < 1000000000 := by simp at hl ⊢; omega
    rw [← hy, get_old hA hB, e]
    rw [hy] at hA hB
    rw [(put_old hA hy).2 hB, if_neg (by omega), if_pos rfl, allD_perm (mid_perm A B y), sub_all y _ hlen, hy, add_all r _ hlen]
    exact (allD_perm (mid_perm A B r)).symm
  · obtain ⟨A, y, B, rfl, hy, hA, hB⟩ := split_has hs hh
    have hlen : (A ++ B).length < 1000000000 := by simp at hl ⊢; omega
    rw [e, ← hy, get_old hA hB, cut_old hA hB, if_neg (by omega), if_neg (by omega), if_pos rfl, allD_perm (mid_perm A B y), sub_all y _ hlen]

/-! ### Which ranges differ -/
def difK (a b : List Dg) (k : Nat) : Bool := decide (a.length ≠ 17 ∨ b.length ≠ 17 ∨ a[k]? ≠ b[k]?)
def diffD (a b : List Dg) : List Nat := (List.range 17).filter (difK a b)
theorem diff_self {a : List Dg} (h : a.length = 17) : diffD a a = [] := by
  unfold diffD
  rw [List.filter_eq_nil_iff]
  intro k _
  simp [difK, h]
theorem diff_nil {a b : List Dg} (ha : a.length = 17) (hb : b.length = 17) : diffD a b = [] ↔ a = b := by
  constructor
  · intro h
    unfold diffD at h
    rw [List.filter_eq_nil_iff] at h
    apply List.ext_getElem?
    intro k
    by_cases hk : k < 17
    · have := h k (by simpa using hk)
      simp [difK, ha, hb] at this
      exact this
    · rw [List.getElem?_eq_none (by omega), List.getElem?_eq_none (by omega)]
  · rintro rfl
    exact diff_self ha
theorem diff_mem {a b : List Dg} {k : Nat} : k ∈ diffD a b ↔ k < 17 ∧ (a.length ≠ 17 ∨ b.length ≠ 17 ∨ a[k]? ≠ b[k]?) := by
  simp [diffD, difK]
theorem diff_all {l m : List Rt} {k : Nat} : k ∈ diffD (allD l) (allD m) ↔ k < 17 ∧ dgOf l k ≠ dgOf m k := by
  rw [diff_mem]
  constructor
  · rintro ⟨hk, h⟩
    refine ⟨hk, ?_⟩
    simp only [allD_len, ne_eq, not_true, false_or, allD_get _ k hk] at h
    exact fun e => h (by rw [e])
  · rintro ⟨hk, h⟩
    refine ⟨hk, .inr (.inr ?_)⟩
    rw [allD_get _ k hk, allD_get _ k hk]
    exact fun e => h (Option.some.inj e)

end Go.Proofs.Ytfikdeobejhblaa
