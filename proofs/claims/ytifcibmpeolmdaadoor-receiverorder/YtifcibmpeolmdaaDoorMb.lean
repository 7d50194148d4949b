/- Proved: what math/bits' TrailingZeros64 and OnesCount64, and sack's spot, Len, chunk and Has answer. Condition: the map lies in memory (M), or the pointer is nil; the library's table is as its text lays it; numbers fit. -/
import Derived.Test.YtifcibmpeolmdaaDoorMa
import Derived.IntWalk
namespace Go.Proofs.YtifcibmpeolmdaaDoor
open Go.RowKit

theorem tz_key (x a : Nat) (hx : x < 18446744073709551616) (hx0 : x ≠ 0) (hlow : x &&& (18446744073709551616 - x) = a) :
    IntKind.u64.wrap (bits BinOp.and IntKind.u64 (x : Int) (IntKind.u64.wrap (-(x : Int))) * 285870213051353865) / 288230376151711744 = ((a * 285870213051353865 % 18446744073709551616 / 288230376151711744 : Nat) : Int) := by
  have e1 : IntKind.u64.wrap (-(x : Int)) = ((18446744073709551616 - x : Nat) : Int) := by rw [IntKind.wrap_u64]; omega
  rw [e1, bits_and_u64_nat x _ hx (by omega), hlow, IntKind.wrap_u64]
  omega
set_option maxRecDepth 100000 in
theorem tz_core (x k idx : Nat) (w : World) (hx0 : ((x : Int) == 0) = false)
    (key : IntKind.u64.wrap (bits BinOp.and IntKind.u64 (x : Int) (IntKind.u64.wrap (-(x : Int))) * 285870213051353865) / 288230376151711744 = (idx : Int))
    (hi : idx < 64) (hk : k < 64) (hcell : w.cell? ⟨0, idx, none⟩ = some (.int .u8 k)) :
    Calls Tryd.prog 61 #[.int .u64 x] w fun e w' => e = .returned (.int .i64 k) ∧ w' = w := by
  go_enter Tryd.func61, Tryd.ntmps61
  go_wp2_with (simp only [key])
  go_ret
  exact ⟨rfl, rfl⟩
theorem tz_at (x : Nat) (hx : x < 18446744073709551616) (hx0 : x ≠ 0) (w : World) (hT : Tab w) :
    Calls Tryd.prog 61 #[.int .u64 x] w fun e w' => e = .returned (.int .i64 (Lib.ctz 64 x : Nat)) ∧ w' = w := by
  obtain ⟨hlow, hk⟩ := Lib.lowest_bit 64 x hx0 hx
  obtain ⟨hi, htab⟩ := Lib.deBruijn64_at _ hk
  have hcell := hT.cell _ hi
  rw [htab] at hcell
  exact tz_core x _ _ w (by simp; omega) (tz_key x _ hx hx0 hlow) hi hk hcell

set_option maxRecDepth 100000 in
theorem len_nil (w : World) : Calls Tryd.prog 77 #[.pointer none] w fun e w' => e = .returned (.int .i64 0) ∧ w' = w := by
  go_enter Tryd.func77, Tryd.ntmps77
  go_wp2
  go_ret
  exact ⟨rfl, rfl⟩
theorem len_at (b : Nat) (l : List Bool) (w : World) (h : M w b l) : Calls Tryd.prog 77 #[.pointer (some ⟨b, 0, none⟩)] w fun e w' => e = .returned (.int .i64 l.length) ∧ w' = w := by
  have c0 := h.n
  clear h
  go_enter Tryd.func77, Tryd.ntmps77
  go_wp2
  go_ret
  exact ⟨rfl, rfl⟩
set_option maxRecDepth 100000 in
theorem chunk_any (pv : Value) (n : Nat) (_hn : n ≤ 256) (i : Int) (w : World) (hL : ∀ w1, w1 = w → Calls Tryd.prog 77 #[pv] w1 fun e w' => e = .returned (.int .i64 n) ∧ w' = w1) : Calls Tryd.prog 66 #[pv, .int .i64 i] w fun e w' => e = .returned (.bool (decide (0 ≤ i) && decide (i < (n : Int)))) ∧ w' = w := by
  have HL := Lib.hid (hL w rfl)
  clear hL
  by_cases h0 : 0 ≤ i
  · have h1 : decide (i ≥ 0) = true := decide_eq_true h0
    go_enter Tryd.func66, Tryd.ntmps66
    go_wp2_with fail
    refine HL.out.mono ?_
    rintro e w1 ⟨rfl, rfl⟩
    go_wp2
    go_ret
    rw [decide_eq_true h0]
    exact ⟨rfl, rfl⟩
  · have h1 : decide (i ≥ 0) = false := decide_eq_false h0
    go_enter Tryd.func66, Tryd.ntmps66
    go_wp2
    go_ret
    exact ⟨rfl, rfl⟩
theorem chunk_at (b : Nat) (l : List Bool) (i : Int) (w : World) (h : M w b l) : Calls Tryd.prog 66 #[.pointer (some ⟨b, 0, none⟩), .int .i64 i] w fun e w' => e = .returned (.bool (decide (0 ≤ i) && decide (i < (l.length : Int)))) ∧ w' = w :=
  chunk_any _ _ h.few i w fun w1 e => len_at b l w1 (by rw [e]; exact h)
theorem chunk_nil (i : Int) (w : World) : Calls Tryd.prog 66 #[.pointer none, .int .i64 i] w fun e w' => e = .returned (.bool (decide (0 ≤ i) && decide (i < 0))) ∧ w' = w :=
  chunk_any _ 0 (by omega) i w fun w1 _ => len_nil w1
set_option maxRecDepth 100000 in
theorem spot_at (i : Nat) (hi : i < 256) (w : World) : Calls Tryd.prog 67 #[.int .i64 i] w fun e w' => e = .returned (.tuple #[.int .i64 (i / 64 : Nat), .int .u64 (2 ^ (i % 64) : Nat)]) ∧ Keep w w' := by
  have hp := pow_lt64 (i % 64) (Nat.mod_lt _ (by omega))
  go_enter Tryd.func67, Tryd.ntmps67
  go_wp2_with fail
  go_region
  go_wp2
  go_ret2
  refine ⟨?_, (Keep.refl w).drew⟩
  have e1 : ((2 : Int) ^ (i % 64)) = ((2 ^ (i % 64) : Nat) : Int) := by simp
  have e2 : IntKind.u64.wrap ((2 : Int) ^ (i % 64)) = ((2 ^ (i % 64) : Nat) : Int) := by
    rw [e1, IntKind.wrap_u64]
    generalize 2 ^ (i % 64) = p at *
    omega
  rw [← e2, show ((i / 64 : Nat) : Int) = (i : Int) / 64 by omega]
  rfl
set_option maxRecDepth 100000 in
theorem has_at (b : Nat) (l : List Bool) (i : Int) (w : World) (h : M w b l) : Calls Tryd.prog 44 #[.pointer (some ⟨b, 0, none⟩), .int .i64 i] w fun e w' => e = .returned (.bool (hasB l i)) ∧ Keep w w' := by
  have HC := Lib.hid (chunk_at b l i w h)
  have HM := Lib.hid h
  have hf := h.few
  clear h
  by_cases hc : 0 ≤ i ∧ i < (l.length : Int)
  · obtain ⟨k, rfl⟩ := Int.eq_ofNat_of_zero_le hc.1
    have hk : k < l.length := by omega
    rw [decide_eq_true hc.1, decide_eq_true hc.2] at HC
    have HS := Lib.hid (spot_at k (by omega) w)
    have Hh := Lib.hid (wd_has l k)
    have hE := show hasB l (k : Int) = l.getD k false from by unfold hasB; rw [decide_eq_true hc.1]; rfl
    have hlt := wd_lt l (k / 64)
    have hp := pow_lt64 (k % 64) (Nat.mod_lt _ (by omega))
    have hA := and64 (wd l (k / 64)) (2 ^ (k % 64)) hlt hp
    have HW := Lib.hid (fun w' (q : Keep w w') => (HM.out.keep q).word (k / 64) (by omega))
    rw [hE, ← Hh.out]
    generalize 2 ^ (k % 64) = p at *
    generalize wd l (k / 64) = x at *
    go_enter Tryd.func44, Tryd.ntmps44
    go_wp2_with fail
    refine HC.out.mono ?_
    rintro e w1 ⟨rfl, rfl⟩
    go_wp2_with fail
    refine HS.out.mono ?_
    rintro e w2 ⟨rfl, k2⟩
    have hw := HW.out w2 k2
    clear HM HC HS
    go_wp2
    go_ret
    refine ⟨?_, k2⟩
    have e : (((x &&& p : Nat) : Int) != 0) = decide (x &&& p ≠ 0) := by
      generalize x &&& p = z
      rw [Bool.eq_iff_iff]
      simp
    rw [← e]
    rfl
  · have hE := show hasB l i = false from by
      unfold hasB
      by_cases h0 : 0 ≤ i
      · rw [getD_out l _ (by omega), Bool.and_false]
      · rw [decide_eq_false h0]; rfl
    have hF := show (decide (0 ≤ i) && decide (i < (l.length : Int))) = false from by
      rw [← Bool.decide_and]; exact decide_eq_false hc
    rw [hF] at HC
    rw [hE]
    go_enter Tryd.func44, Tryd.ntmps44
    go_wp2_with fail
    refine HC.out.mono ?_
    rintro e w1 ⟨rfl, rfl⟩
    go_wp2
    go_ret
    exact ⟨rfl, Keep.refl _⟩
set_option maxRecDepth 100000 in
theorem has_nil (i : Int) (w : World) : Calls Tryd.prog 44 #[.pointer none, .int .i64 i] w fun e w' => e = .returned (.bool false) ∧ w' = w := by
  have HC := Lib.hid (chunk_nil i w)
  have hF := show (decide (0 ≤ i) && decide (i < 0)) = false from by rw [← Bool.decide_and]; exact decide_eq_false (by omega)
  rw [hF] at HC
  go_enter Tryd.func44, Tryd.ntmps44
  go_wp2_with fail
  refine HC.out.mono ?_
  rintro e w1 ⟨rfl, rfl⟩
  go_wp2
  go_ret
  exact ⟨rfl, rfl⟩
theorem or64 (x y : Nat) (hx : x < 18446744073709551616) (hy : y < 18446744073709551616) : bits .or .u64 (x : Int) (y : Int) = ((x ||| y : Nat) : Int) := u64_or_nat x y hx hy
set_option maxRecDepth 100000 in
theorem set_at (b : Nat) (l : List Bool) (i : Int) (w : World) (h : M w b l) : Calls Tryd.prog 59 #[.pointer (some ⟨b, 0, none⟩), .int .i64 i] w fun e w' => e = .returned (.bool (setB l i)) ∧ M w' b (setL l i) ∧ Only b w w' := by
  have HC := Lib.hid (chunk_at b l i w h)
  have HH := Lib.hid (has_at b l i w h)
  have HM := Lib.hid h
  have hf := h.few
  clear h
  by_cases hc : 0 ≤ i ∧ i < (l.length : Int)
  · have hE0 := show setB l i = !hasB l i from by unfold setB; rw [decide_eq_true hc.1, decide_eq_true hc.2]; rfl
    rw [decide_eq_true hc.1, decide_eq_true hc.2] at HC
    by_cases hh : hasB l i = true
    · rw [hh] at hE0 HH
      rw [hE0, setL_no l i hE0]
      go_enter Tryd.func59, Tryd.ntmps59
      go_wp2_with fail
      refine HC.out.mono ?_
      rintro e w1 ⟨rfl, rfl⟩
      go_wp2_with fail
      refine HH.out.mono ?_
      rintro e w2 ⟨rfl, k2⟩
      go_wp2
      go_ret
      exact ⟨rfl, HM.out.keep k2, Only.keep k2⟩
    · have hh2 : hasB l i = false := by simpa using hh
      rw [hh2] at hE0 HH
      obtain ⟨_, _, _, hL⟩ := setL_yes l i hE0
      obtain ⟨k, rfl⟩ := Int.eq_ofNat_of_zero_le hc.1
      have hk : k < l.length := by omega
      have HS := Lib.hid (spot_at k (by omega))
      have hlt := wd_lt l (k / 64)
      have hp := pow_lt64 (k % 64) (Nat.mod_lt _ (by omega))
      have hA := or64 (wd l (k / 64)) (2 ^ (k % 64)) hlt hp
      have HW := Lib.hid (fun w' (q : Keep w w') => (HM.out.keep q).word (k / 64) (by omega))
      have HF := Lib.hid (fun w' (q : Keep w w') => (HM.out.keep q).free)
      have HP := Lib.hid (fun w' (q : Keep w w') => (HM.out.keep q).set k hk)
      rw [hE0, hL, Int.toNat_natCast]
      generalize 2 ^ (k % 64) = p at *
      generalize wd l (k / 64) = x at *
      generalize l.set k true = l2 at *
      go_enter Tryd.func59, Tryd.ntmps59
      go_wp2_with fail
      refine HC.out.mono ?_
      rintro e w1 ⟨rfl, rfl⟩
      go_wp2_with fail
      refine HH.out.mono ?_
      rintro e w2 ⟨rfl, k2⟩
      go_wp2_with fail
      refine (HS.out w2).mono ?_
      rintro e w3 ⟨rfl, k3⟩
      have k23 := k2.trans k3
      have hw := HW.out w3 k23
      have hfr := HF.out w3 k23
      have HP3 := Lib.hid (HP.out w3 k23)
      have HK := Lib.hid k23
      clear HM HC HS HW HF HP HH k2 k3 k23
      go_wp2_with fail
      go_region
      go_wp2
      go_ret
      exact ⟨rfl, HP3.out.keep (Keep.refl _).drew, ((Only.keep HK.out).trans (Only.setCell b _ _ _)).drew⟩
  · have hE := show setB l i = false from by
      unfold setB
      by_cases h0 : 0 ≤ i
      · rw [decide_eq_false (show ¬ i < (l.length : Int) by omega), Bool.false_and, Bool.and_false]
      · rw [decide_eq_false h0]; rfl
    have hF := show (decide (0 ≤ i) && decide (i < (l.length : Int))) = false from by
      rw [← Bool.decide_and]; exact decide_eq_false hc
    rw [hF] at HC
    rw [hE, setL_no l i hE]
    go_enter Tryd.func59, Tryd.ntmps59
    go_wp2_with fail
    refine HC.out.mono ?_
    rintro e w1 ⟨rfl, rfl⟩
    go_wp2
    go_ret
    exact ⟨rfl, HM.out, Only.refl _ _⟩
set_option maxRecDepth 100000 in
theorem set_nil (i : Int) (w : World) : Calls Tryd.prog 59 #[.pointer none, .int .i64 i] w fun e w' => e = .returned (.bool false) ∧ w' = w := by
  have HC := Lib.hid (chunk_nil i w)
  have hF := show (decide (0 ≤ i) && decide (i < 0)) = false from by rw [← Bool.decide_and]; exact decide_eq_false (by omega)
  rw [hF] at HC
  go_enter Tryd.func59, Tryd.ntmps59
  go_wp2_with fail
  refine HC.out.mono ?_
  rintro e w1 ⟨rfl, rfl⟩
  go_wp2
  go_ret
  exact ⟨rfl, rfl⟩
end Go.Proofs.YtifcibmpeolmdaaDoor
