/- Proved: what the reader's calls Bits, Code, Done and NewReader of package bits answer, and what becomes of memory. Condition: the reader is known (Rd), or the pointer is nil; numbers fit. -/
import Derived.Test.YtgfbiaidbkjeiaaI
namespace Go.Proofs.Ytgfbiaidbkjeiaa
open Go.RowKit

def RdPost (b : Nat) (w : World) (v : Value) (l : List Bool) (x : Int) (e : Ending) (w' : World) : Prop := e = .returned v ∧ Rd w' b l x ∧ Only b w w'
theorem Rd.any {w : World} {b : Nat} {l : List Bool} {x : Int} (h : Rd w b l x) (hx : x ≠ 0) (m : List Bool) : Rd w b m x := by
  obtain ⟨s, k, h1, _⟩ := h
  exact ⟨s, k, h1, fun e => absurd e hx⟩
theorem bits_at (b : Nat) (n : Int) (l : List Bool) (x : Int) (w : World) (h : Rd w b l x) : Calls Try.prog 18 #[.pointer (some ⟨b, 0, none⟩), .int .i64 n] w (RdPost b w (.int .u64 ((bitsF l x n).1 : Nat)) (bitsF l x n).2.1 (bitsF l x n).2.2) := by
  obtain ⟨s, k, h1, h2⟩ := h
  unfold bitsF
  by_cases hx : x = 0
  · subst hx
    rw [if_neg (by simp)]
    have hl : l.length = 8 * s.length - k := by rw [← h2 rfl, List.length_drop, ofL_len]
    by_cases hn : n < 0 ∨ 64 < n
    · rw [if_pos hn]
      refine (bits_arg b s k n w h1 hn).mono ?_
      rintro e w' ⟨rfl, hr, ho⟩
      exact ⟨rfl, ⟨s, k, hr, fun e => absurd e (by simp)⟩, ho⟩
    · rw [if_neg hn]
      by_cases hs : (l.length : Int) < n
      · rw [if_pos hs]
        refine (bits_short b s k n w h1 (by omega) (by omega) (by omega)).mono ?_
        rintro e w' ⟨rfl, hr, ho⟩
        exact ⟨rfl, ⟨s, k, hr, fun e => absurd e (by simp)⟩, ho⟩
      · rw [if_neg hs]
        obtain ⟨m, rfl⟩ := Int.eq_ofNat_of_zero_le (show 0 ≤ n by omega)
        rw [Int.toNat_natCast]
        have hle := h1.le
        refine (bits_ok b s k m w h1 (by omega) (by omega)).mono ?_
        rintro e w' ⟨rfl, hr, ho⟩
        refine ⟨by rw [← h2 rfl], ⟨s, k + m, hr, fun _ => ?_⟩, ho⟩
        rw [← h2 rfl, List.drop_drop]
  · rw [if_pos hx]
    refine (bits_err b s k x n w h1 hx).mono ?_
    rintro e w' ⟨rfl, rfl⟩
    exact ⟨rfl, ⟨s, k, h1, h2⟩, Only.refl _ _⟩

/-- What is read behind k noughts and a 1. -/
def behindF (m : List Bool) (k : Nat) : Nat × List Bool × Int := if m.length < k then (0, m, 3) else (valL (m.take k) + 2 ^ k - 1, m.drop k, 0)
theorem behind_num (k x : Nat) (hk : k < 64) (hx : x < 2 ^ k) : IntKind.u64.wrap (IntKind.u64.wrap (IntKind.u64.wrap (2 ^ k) + (x : Int)) - 1) = ((x + 2 ^ k - 1 : Nat) : Int) := by
  have h8 : 2 ^ k * 2 ≤ 2 ^ 64 := by
    have : 2 ^ k * 2 = 2 ^ (k + 1) := by rw [Nat.pow_succ]
    rw [this]; exact Nat.pow_le_pow_right (n := 2) (by omega) (show k + 1 ≤ 64 by omega)
  have hp : 0 < 2 ^ k := Nat.pow_pos (by omega)
  have e : ((2 : Int) ^ k) = ((2 ^ k : Nat) : Int) := by simp
  rw [e]
  generalize (2 ^ k : Nat) = z at *
  rw [IntKind.wrap_u64, IntKind.wrap_u64, IntKind.wrap_u64]
  omega
set_option maxRecDepth 100000 in
theorem behind_at (b k : Nat) (m : List Bool) (w : World) (h : Rd w b m 0) (hk : k < 64) : Calls Try.prog 32 #[.pointer (some ⟨b, 0, none⟩), .int .i64 k] w (RdPost b w (.int .u64 ((behindF m k).1 : Nat)) (behindF m k).2.1 (behindF m k).2.2) := by
  have HB := bits_at b k m 0 w h
  unfold bitsF at HB
  rw [if_neg (by simp), if_neg (by omega), Int.toNat_natCast] at HB
  unfold behindF
  by_cases hs : m.length < k
  · rw [if_pos hs]
    rw [if_pos (by omega)] at HB
    have HB := Lib.hid HB
    go_enter Try.func32, Try.ntmps32
    go_wp2_with fail
    refine HB.out.mono ?_
    rintro e w1 ⟨rfl, hr, ho⟩
    have HE := Lib.hid (err_at b _ _ w1 hr)
    go_wp2_with fail
    refine HE.out.mono ?_
    rintro e w1 ⟨rfl, rfl⟩
    go_wp2
    go_ret
    exact ⟨rfl, hr, ho⟩
  · rw [if_neg hs]
    rw [if_neg (by omega)] at HB
    have HB := Lib.hid HB
    have hv := val_le m k (by omega)
    have HN := Lib.hid (behind_num k _ hk hv)
    generalize valL (m.take k) = x at *
    go_enter Try.func32, Try.ntmps32
    go_wp2_with fail
    refine HB.out.mono ?_
    rintro e w1 ⟨rfl, hr, ho⟩
    have HE := Lib.hid (err_at b _ _ w1 hr)
    go_wp2_with fail
    refine HE.out.mono ?_
    rintro e w1 ⟨rfl, rfl⟩
    go_wp2
    go_ret
    refine ⟨?_, hr, ho⟩
    simp only
    rw [← HN.out]
    rfl

def CdRel (w : World) (b : Nat) (l : List Bool) (x : Int) (cv : Value) (wr : World) : Prop :=
  ∃ j : Nat, cv = .int .i64 j ∧ j ≤ 64 ∧ j ≤ noughts l ∧ Rd wr b (l.drop j) x ∧ Only b w wr ∧ (x ≠ 0 → j = 0)
theorem bits_one_err (l : List Bool) (x : Int) (hx : x ≠ 0) : bitsF l x 1 = (0, l, x) := by unfold bitsF; rw [if_pos hx]
theorem bits_one_end (l : List Bool) (j : Nat) (h : l.drop j = []) : bitsF (l.drop j) 0 1 = (0, [], 3) := by rw [h]; rfl
theorem bits_one (l : List Bool) (j : Nat) (B : Bool) (h : l[j]? = some B) : bitsF (l.drop j) 0 1 = (B.toNat, l.drop (j + 1), 0) := by
  have hj : j < l.length := (List.getElem?_eq_some_iff.1 h).1
  have e : l.drop j = B :: l.drop (j + 1) := by
    rw [List.drop_eq_getElem_cons hj]
    congr 1
    exact (List.getElem?_eq_some_iff.1 h).2
  rw [e]
  unfold bitsF
  rw [if_neg (by simp), if_neg (by omega), if_neg (by simp; omega)]
  simp [valL]
theorem code_err (l : List Bool) (x : Int) (hx : x ≠ 0) : codeF l x = (0, l, x) := by unfold codeF; rw [if_pos hx]
theorem code_full (l : List Bool) (h : 64 ≤ noughts l) : codeF l 0 = (0, l, 4) := by unfold codeF; rw [if_neg (by simp), if_pos h]
theorem code_end (l : List Bool) (h : ¬ 64 ≤ noughts l) (h2 : noughts l = l.length) : codeF l 0 = (0, l, 3) := by unfold codeF; rw [if_neg (by simp), if_neg h, if_pos (by omega)]
theorem code_behind (l : List Bool) (h : ¬ 64 ≤ noughts l) (h2 : noughts l < l.length) : (codeF l 0).1 = (behindF (l.drop (noughts l + 1)) (noughts l)).1 ∧ (codeF l 0).2.2 = (behindF (l.drop (noughts l + 1)) (noughts l)).2.2 ∧ ((codeF l 0).2.2 = 0 → (codeF l 0).2.1 = (behindF (l.drop (noughts l + 1)) (noughts l)).2.1) := by
  unfold codeF behindF
  rw [if_neg (by simp), if_neg h]
  by_cases h3 : l.length < 2 * noughts l + 1
  · rw [if_pos h3, if_pos (by rw [List.length_drop]; omega)]
    exact ⟨rfl, rfl, fun e => absurd e (by simp)⟩
  · rw [if_neg h3, if_neg (by rw [List.length_drop]; omega)]
    refine ⟨rfl, rfl, fun _ => ?_⟩
    simp only [List.drop_drop]
    congr 1
    omega
theorem Rd.cast {w : World} {b : Nat} {l m : List Bool} {x : Int} (h : Rd w b l x) (e : x = 0 → m = l) : Rd w b m x := by
  obtain ⟨s, k, h1, h2⟩ := h
  exact ⟨s, k, h1, fun hx => by rw [e hx]; exact h2 hx⟩
theorem rfail_at (b : Nat) (l m : List Bool) (x y : Int) (w : World) (h : Rd w b l x) (hy : y ≠ 0) : Calls Try.prog 30 #[.pointer (some ⟨b, 0, none⟩), .int .i64 y] w (RdPost b w (.int .u64 0) m y) := by
  obtain ⟨s, k, h1, _⟩ := h
  refine (fail_at b s k x y w h1).mono ?_
  rintro e w' ⟨rfl, hr, ho⟩
  exact ⟨rfl, ⟨s, k, hr, fun e => absurd e hy⟩, ho⟩

set_option maxRecDepth 100000 in
set_option maxHeartbeats 400000 in
theorem code_at (b : Nat) (l : List Bool) (x : Int) (w : World) (h : Rd w b l x) : Calls Try.prog 20 #[.pointer (some ⟨b, 0, none⟩)] w (RdPost b w (.int .u64 ((codeF l x).1 : Nat)) (codeF l x).2.1 (codeF l x).2.2) := by
  have HR := Lib.hid h
  clear h
  go_enter Try.func20, Try.ntmps20
  go_wp2_with fail
  go_loopw [5] (fun cv wr => CdRel w b l x cv wr) (fun cv _ => 64 - (intOf cv).toNat)
  case atStart => exact ⟨0, rfl, by omega, by omega, HR.out, Only.refl _ _, fun _ => rfl⟩
  case round =>
    obtain ⟨j, rfl, hj, hjn, hr, ho, hx0⟩ := hrel
    have HRr := Lib.hid hr
    have HO := Lib.hid ho
    have HX0 := Lib.hid hx0
    clear hr ho HR hx0
    by_cases hj64 : j < 64
    · have HB := Lib.hid (bits_at b 1 (l.drop j) x _ HRr.out)
      by_cases hx : x = 0
      · subst hx
        rcases noughts_get l j hjn with ⟨hg, hlt⟩ | ⟨hg, hlt⟩ | ⟨hg, hlt, hlt2⟩
        · rw [bits_one l j false hg] at HB
          go_wp2_with fail
          refine HB.out.mono ?_
          rintro e w1 ⟨rfl, hr, ho⟩
          have HE := Lib.hid (err_at b _ _ w1 hr)
          go_wp2_with fail
          refine HE.out.mono ?_
          rintro e w1 ⟨rfl, rfl⟩
          go_wp2
          go_roundw
          case rel => exact ⟨j + 1, by go_num, by omega, by omega, hr, HO.out.trans ho, fun e => absurd rfl e⟩
          case measure => simp [intOf]; omega
        · rw [bits_one l j true hg] at HB
          have hjl : j < l.length := (List.getElem?_eq_some_iff.1 hg).1
          obtain ⟨q1, q2, q3⟩ := code_behind l (by omega) (by omega)
          rw [← hlt] at q1 q2 q3
          have Q1 := Lib.hid q1
          have Q2 := Lib.hid q2
          have Q3 := Lib.hid q3
          clear q1 q2 q3 hlt hg
          go_wp2_with fail
          refine HB.out.mono ?_
          rintro e w1 ⟨rfl, hr, ho⟩
          have HE := Lib.hid (err_at b _ _ w1 hr)
          have HC := Lib.hid (behind_at b j _ w1 hr hj64)
          clear hr
          go_wp2_with fail
          refine HE.out.mono ?_
          rintro e w1 ⟨rfl, rfl⟩
          go_wp2_with fail
          refine HC.out.mono ?_
          rintro e w2 ⟨rfl, hr2, ho2⟩
          have HR2 := Lib.hid hr2
          have HO2 := Lib.hid ((HO.out.trans ho).trans ho2)
          clear hr2 ho2 ho
          go_wp2
          go_ret
          refine ⟨?_, ?_, HO2.out⟩
          · rw [Q1.out]; rfl
          · have h9 := HR2.out
            rw [← Q2.out] at h9
            exact h9.cast Q3.out
        · rw [bits_one_end l j hg] at HB
          have HC := Lib.hid (code_end l (by omega) (by omega))
          go_wp2_with fail
          refine HB.out.mono ?_
          rintro e w1 ⟨rfl, hr, ho⟩
          have HE := Lib.hid (err_at b _ _ w1 hr)
          go_wp2_with fail
          refine HE.out.mono ?_
          rintro e w1 ⟨rfl, rfl⟩
          go_wp2
          go_ret
          rw [HC.out]
          exact ⟨rfl, hr.any (by simp) _, HO.out.trans ho⟩
      · rw [bits_one_err _ x hx] at HB
        have HC := Lib.hid (code_err l x hx)
        go_wp2_with fail
        refine HB.out.mono ?_
        rintro e w1 ⟨rfl, hr, ho⟩
        have HE := Lib.hid (err_at b _ _ w1 hr)
        go_wp2_with fail
        refine HE.out.mono ?_
        rintro e w1 ⟨rfl, rfl⟩
        go_wp2
        go_ret
        rw [HC.out]
        exact ⟨rfl, hr.any hx _, HO.out.trans ho⟩
    · obtain rfl : x = 0 := Decidable.byContradiction fun hx => by have := HX0.out hx; omega
      have HF := Lib.hid (rfail_at b _ l 0 4 _ HRr.out (by decide))
      have HC := Lib.hid (code_full l (by omega))
      go_wp2_with fail
      refine HF.out.mono ?_
      rintro e w1 ⟨rfl, hr, ho⟩
      go_wp2
      go_ret
      rw [HC.out]
      exact ⟨rfl, hr, HO.out.trans ho⟩
end Go.Proofs.Ytgfbiaidbkjeiaa
