/- Proved: what the chunk's Size and Count, and the document's, answer. No condition. -/
import Derived.Test.YtlcdaagehamjlaaA2
import Derived.Test.YtlcdaagehamjlaaP
namespace Go.Proofs.Ytlcdaagehamjlaa
open Go.RowKit

theorem dsize (m : Int) (w : World) : Calls Try.prog 14 #[.int .i64 m] w fun e w' => e = .returned (.tuple #[.int .i64 (sizeI m), .int .i64 (if sizeI m = 0 then 1 else 0)]) ∧ w = w' := by
  by_cases h1 : m < 64
  · have hz : sizeI m = 0 := by unfold sizeI; rw [if_pos (by omega)]
    rw [hz]
    clear hz
    go_enter Try.func14, Try.ntmps14
    go_wp2
    go_ret2
    exact ⟨rfl, rfl⟩
  · by_cases h2 : 65535 < m
    · have hz : sizeI m = 0 := by unfold sizeI; rw [if_pos (by omega)]
      rw [hz]
      clear hz
      go_enter Try.func14, Try.ntmps14
      go_wp2
      go_ret2
      exact ⟨rfl, rfl⟩
    · by_cases h3 : 1019 < m
      · have hz : sizeI m = 1000 := by unfold sizeI; rw [if_neg (by omega), if_pos h3]
        rw [hz]
        clear hz
        go_enter Try.func14, Try.ntmps14
        go_wp2
        all_goals first | (exfalso; omega) | (go_ret2; exact ⟨rfl, rfl⟩)
      · have hz : sizeI m = m - 19 := by unfold sizeI; rw [if_neg (by omega), if_neg h3]
        have hn : ¬ m - 19 = 0 := by omega
        rw [hz, if_neg hn]
        clear hz hn
        go_enter Try.func14, Try.ntmps14
        go_wp2
        all_goals first | (exfalso; omega) | (go_ret2; exact ⟨rfl, rfl⟩)

theorem qsize (m : Int) (w : World) : Calls Try.prog 15 #[.int .i64 m] w fun e w' => e = .returned (.int .i64 (sizeI m)) ∧ w = w' := by
  by_cases h1 : m < 64
  · have hz : sizeI m = 0 := by unfold sizeI; rw [if_pos (by omega)]
    rw [hz]
    clear hz
    go_enter Try.func15, Try.ntmps15
    go_wp2
    go_ret
    exact ⟨rfl, rfl⟩
  · by_cases h2 : 65535 < m
    · have hz : sizeI m = 0 := by unfold sizeI; rw [if_pos (by omega)]
      rw [hz]
      clear hz
      go_enter Try.func15, Try.ntmps15
      go_wp2
      go_ret
      exact ⟨rfl, rfl⟩
    · by_cases h3 : 1019 < m
      · have hz : sizeI m = 1000 := by unfold sizeI; rw [if_neg (by omega), if_pos h3]
        rw [hz]
        clear hz
        go_enter Try.func15, Try.ntmps15
        go_wp2
        go_ret
        exact ⟨rfl, rfl⟩
      · have hz : sizeI m = m - 19 := by unfold sizeI; rw [if_neg (by omega), if_neg h3]
        rw [hz]
        clear hz
        go_enter Try.func15, Try.ntmps15
        go_wp2
        go_ret
        exact ⟨rfl, rfl⟩

set_option maxRecDepth 100000 in
theorem dmost (k : Nat) (hk : k ≤ 1000) (w : World) : Calls Try.prog 17 #[.int .i64 k] w fun e w' => e = .returned (.int .i64 (k * 256 : Nat)) ∧ w = w' := by
  go_enter Try.func17, Try.ntmps17
  go_wp2
  go_ret
  exact ⟨rfl, rfl⟩

set_option maxRecDepth 100000 in
theorem dcount (n m : Int) (w : World) : Calls Try.prog 13 #[.int .i64 n, .int .i64 m] w fun e w' => e = .returned (.int .i64 (countI n m)) ∧ w = w' := by
  have hs := dsize m w
  rcases sizeI_cases m with ⟨h, _⟩ | ⟨_, _, h1, h2, _⟩
  · rw [countI_no (.inl h)]
    rw [h] at hs
    have HS := Lib.hid hs
    clear hs h
    go_enter Try.func13, Try.ntmps13
    go_wp2_with fail
    refine HS.out.mono ?_
    rintro e w ⟨rfl, rfl⟩
    go_wp2
    go_ret
    exact ⟨rfl, rfl⟩
  · obtain ⟨k, hk⟩ := Int.eq_ofNat_of_zero_le (show 0 ≤ sizeI m by omega)
    rw [hk] at h1 h2
    have hk0 : ¬ ((k : Nat) : Int) = 0 := by omega
    rw [hk, if_neg hk0] at hs
    have HS := Lib.hid hs
    clear hs
    by_cases hneg : n < 0
    · rw [countI_no (.inr (.inl hneg))]
      clear hk
      go_enter Try.func13, Try.ntmps13
      go_wp2_with fail
      refine HS.out.mono ?_
      rintro e w ⟨rfl, rfl⟩
      go_wp2
      go_ret
      exact ⟨rfl, rfl⟩
    · obtain ⟨n, rfl⟩ := Int.eq_ofNat_of_zero_le (show 0 ≤ n by omega)
      have hk1 : k ≤ 1000 := by omega
      by_cases hbig : k * 256 < n
      · rw [countI_no (.inr (.inr (by omega)))]
        clear hk
        go_enter Try.func13, Try.ntmps13
        go_wp2_with fail
        refine HS.out.mono ?_
        rintro e w ⟨rfl, rfl⟩
        go_wp2_with fail
        refine (dmost k hk1 w).mono ?_
        rintro e w ⟨rfl, rfl⟩
        go_wp2
        go_ret
        exact ⟨rfl, rfl⟩
      · have hc : countI n m = (max ((n + k - 1) / k) 1 : Nat) := by rw [countI_ok hk (by omega) (by omega), cnt_max (by omega)]
        rw [hc]
        clear hk hc
        have hdiv : ((n : Int) + k - 1) / k = ((n + k - 1) / k : Nat) := by
          rw [show ((n : Int) + k - 1) = ((n + k - 1 : Nat) : Int) by omega]
          exact (Int.natCast_ediv _ _).symm
        have hle : (n + k - 1) / k ≤ 1000000 := Nat.le_trans (Nat.div_le_self _ _) (by omega)
        generalize hq : (n + k - 1) / k = q at hdiv hle
        have HD := Lib.hid hdiv
        clear hdiv hq
        go_enter Try.func13, Try.ntmps13
        go_wp2_with fail
        refine HS.out.mono ?_
        rintro e w ⟨rfl, rfl⟩
        go_wp2_with fail
        refine (dmost k hk1 w).mono ?_
        rintro e w ⟨rfl, rfl⟩
        go_wp2
        all_goals
          have hd := HD.out
          go_ret
          refine ⟨congrArg (fun z => Ending.returned (.int .i64 z)) ?_, rfl⟩
          try simp only [hd] at *
          omega

set_option maxRecDepth 100000 in
theorem qcount (n m : Int) (w : World) : Calls Try.prog 16 #[.int .i64 n, .int .i64 m] w fun e w' => e = .returned (.int .i64 (countI n m)) ∧ w = w' := by
  have hs := qsize m w
  rcases sizeI_cases m with ⟨h, _⟩ | ⟨_, _, h1, h2, _⟩
  · rw [countI_no (.inl h)]
    rw [h] at hs
    have HS := Lib.hid hs
    clear hs h
    go_enter Try.func16, Try.ntmps16
    go_wp2_with fail
    refine HS.out.mono ?_
    rintro e w ⟨rfl, rfl⟩
    go_wp2
    go_ret
    exact ⟨rfl, rfl⟩
  · obtain ⟨k, hk⟩ := Int.eq_ofNat_of_zero_le (show 0 ≤ sizeI m by omega)
    rw [hk] at h1 h2
    have hk0 : ¬ ((k : Nat) : Int) = 0 := by omega
    have hk2 : ((k : Int) == 0) = false := by simpa using hk0
    rw [hk] at hs
    have HS := Lib.hid hs
    clear hs
    by_cases hneg : n < 0
    · rw [countI_no (.inr (.inl hneg))]
      clear hk
      go_enter Try.func16, Try.ntmps16
      go_wp2_with fail
      refine HS.out.mono ?_
      rintro e w ⟨rfl, rfl⟩
      go_wp2
      go_ret
      exact ⟨rfl, rfl⟩
    · obtain ⟨n, rfl⟩ := Int.eq_ofNat_of_zero_le (show 0 ≤ n by omega)
      by_cases hbig : 256 * k < n
      · rw [countI_no (.inr (.inr (by omega)))]
        clear hk
        go_enter Try.func16, Try.ntmps16
        go_wp2_with fail
        refine HS.out.mono ?_
        rintro e w ⟨rfl, rfl⟩
        go_wp2
        go_ret
        exact ⟨rfl, rfl⟩
      · have hc : countI n m = (cnt k n : Nat) := countI_ok hk (by omega) (by omega)
        rw [hc]
        clear hk hc
        by_cases h0 : n = 0
        · subst h0
          rw [cnt_zero]
          go_enter Try.func16, Try.ntmps16
          go_wp2_with fail
          refine HS.out.mono ?_
          rintro e w ⟨rfl, rfl⟩
          go_wp2
          go_ret
          exact ⟨rfl, rfl⟩
        · have h0' : ((n : Int) == 0) = false := by simp; omega
          rw [cnt_one (by omega)]
          have hdiv : ((n : Int) - 1) / k = ((n - 1) / k : Nat) := by
            rw [show ((n : Int) - 1) = ((n - 1 : Nat) : Int) by omega]
            exact (Int.natCast_ediv _ _).symm
          have hle : (n - 1) / k ≤ 1000000 := Nat.le_trans (Nat.div_le_self _ _) (by omega)
          generalize hq : (n - 1) / k = q at hdiv hle
          have HD := Lib.hid hdiv
          clear hdiv hq
          go_enter Try.func16, Try.ntmps16
          go_wp2_with fail
          refine HS.out.mono ?_
          rintro e w ⟨rfl, rfl⟩
          go_wp2
          go_ret
          refine ⟨congrArg (fun z => Ending.returned (.int .i64 z)) ?_, rfl⟩
          show wrap64 _ = _
          rw [HD.out]
          rw [IntWalk.wrap64_in _ (by omega)]; omega
end Go.Proofs.Ytlcdaagehamjlaa
