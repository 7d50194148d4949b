/- Proved: what lz's takeCopy and take answer, and what becomes of memory. Condition: the reader is known (Rd); there are at most 65536 bytes. -/
import Derived.Test.YtpimecnpdpcceaaGreatLf
namespace Go.Proofs.YtpimecnpdpcceaaGreat
open Go.RowKit

/-- A copy's two codes: the token, what is left, what was wrong. -/
def copyF (has n : Nat) (l1 : List Bool) (x1 : Int) : Lz.Tk × List Bool × Int :=
  let (back, l2, x2) := Bit.codeF l1 x1
  let (more, l3, x3) := Bit.codeF l2 x2
  if x3 ≠ 0 then (⟨0, 0, 0⟩, l3, x3)
  else if has ≤ back then (⟨0, 0, 0⟩, l3, 2)
  else if n - has < 3 ∨ n - has - 3 < more then (⟨0, 0, 0⟩, l3, 4)
  else (⟨0, back + 1, more + 3⟩, l3, 0)
theorem takeF_eq (has n : Nat) (l : List Bool) : Lz.takeF has n l = if (Bit.bitsF l 0 1).1 = 1 then copyF has n (Bit.bitsF l 0 1).2.1 (Bit.bitsF l 0 1).2.2
    else (if (Bit.bitsF (Bit.bitsF l 0 1).2.1 (Bit.bitsF l 0 1).2.2 8).2.2 ≠ 0 then (⟨0, 0, 0⟩, (Bit.bitsF (Bit.bitsF l 0 1).2.1 (Bit.bitsF l 0 1).2.2 8).2.1, (Bit.bitsF (Bit.bitsF l 0 1).2.1 (Bit.bitsF l 0 1).2.2 8).2.2)
      else (⟨UInt8.ofNat (Bit.bitsF (Bit.bitsF l 0 1).2.1 (Bit.bitsF l 0 1).2.2 8).1, 0, 0⟩, (Bit.bitsF (Bit.bitsF l 0 1).2.1 (Bit.bitsF l 0 1).2.2 8).2.1, 0)) := rfl
def TkPost (b : Nat) (w : World) (r : Lz.Tk × List Bool × Int) (e : Ending) (w' : World) : Prop :=
  e = .returned (.tuple #[.agg (tc r.1), .int .i64 r.2.2]) ∧ (r.2.2 = 0 → Bit.Rd w' b r.2.1 0) ∧ Only b w w'

set_option maxRecDepth 100000 in
set_option maxHeartbeats 4000000 in
theorem zcopy (b has n : Nat) (l : List Bool) (x : Int) (w : World) (h : Bit.Rd w b l x) (hh : has ≤ n) (hn : n ≤ 65536) : Calls Tryz.prog 120 #[.pointer (some ⟨b, 0, none⟩), .int .i64 has, .int .i64 (n - has : Nat)] w (TkPost b w (copyF has n l x)) := by
  obtain ⟨R, hR⟩ : ∃ R, R = copyF has n l x := ⟨_, rfl⟩
  rw [← hR]
  obtain ⟨hz, hi⟩ := zero_of_info infoT2
  obtain ⟨m, hm3⟩ : ∃ n, n = 3 := ⟨3, rfl⟩
  have hsz : ∀ w, (Go.sizeOf 119).run Tryz.prog w = .ok m w := fun w => by rw [hm3]; exact Tryz.sizeOf119 w
  have hm0 : ¬ m = 0 := by omega
  have htn : ∀ t : Lz.Tk, (tc t).size = m := fun t => by rw [hm3]; rfl
  have HM := Lib.hid hm3
  have hlt := h.lt
  have hne : w.heap.size ≠ b := by omega
  have HA0 := Lib.hid (TAt.new w zeroT)
  have HO0 := Lib.hid (show Only b w (w.alloc (.cells (tc zeroT) 119)) from Only.keep ((Keep.refl w).alloc _))
  have hc1 := Bit.code_at b l x _ (h.same (kb ((Keep.refl w).alloc (.cells (tc zeroT) 119))))
  unfold copyF at hR
  obtain ⟨K, hK⟩ : ∃ K, n - has = K := ⟨_, rfl⟩
  rw [hK] at hR ⊢
  have hKn : K ≤ 65536 := by omega
  have hhn : has ≤ 65536 := by omega
  have HHN := Lib.hid hh
  clear hK hh hn
  generalize Bit.codeF l x = c1 at hR hc1
  obtain ⟨back, l2, x2⟩ := c1
  simp only at hR hc1
  have HC1 := Lib.hid hc1
  have HBZ := Lib.hid build_zero
  have HR0 := Lib.hid hR
  clear hc1 hm3 h hR
  go_enter Tryz.func120, Tryz.ntmps120
  go_wp2_with fail
  refine HC1.out.mono ?_
  rintro e w1 ⟨rfl, r1, o1⟩
  have hc2 := Bit.code_at b l2 x2 w1 r1
  have hR := HR0.out
  generalize Bit.codeF l2 x2 = c2 at hR hc2
  obtain ⟨more, l3, x3⟩ := c2
  simp only at hR hc2
  have HC2 := Lib.hid hc2
  have HA1 := Lib.hid (HA0.out.only o1 hne)
  have HO1 := Lib.hid (HO0.out.trans (bo o1))
  have HR := Lib.hid hR
  clear hc2 r1 o1 HC1 HA0 HO0 hR HR0
  go_wp2_with fail
  refine HC2.out.mono ?_
  rintro e w2 ⟨rfl, r2, o2⟩
  have HA2 := Lib.hid (HA1.out.only o2 hne)
  have HO2 := Lib.hid (HO1.out.trans (bo o2))
  have HR2 := Lib.hid r2
  have HE := Lib.hid (Bit.err_at b l3 x3 w2 r2)
  clear r2 o2 HC2 HA1 HO1
  go_wp2_with fail
  refine HE.out.mono ?_
  rintro e w2 ⟨rfl, rfl⟩
  have hst0 := HA2.out.store zeroT
  have hld0 := (HA2.out.put zeroT).whole HM.out
  by_cases hx3 : x3 = 0
  · have hx3b : (x3 != 0) = false := by simp [hx3]
    have HRE := Lib.hid (show R = if has ≤ back then (zeroT, l3, 2) else if K < 3 ∨ K - 3 < more then (zeroT, l3, 4) else (⟨0, back + 1, more + 3⟩, l3, 0) from by rw [HR.out, if_neg (by simp [hx3])]; rfl)
    have HR3 := Lib.hid (show Bit.Rd w2 b l3 0 from by rw [← hx3]; exact HR2.out)
    clear HR HR2
    by_cases h1 : has ≤ back
    · have h1i : (has : Int) ≤ back := by omega
      go_wp2_with (first | (refine at_build [] rfl _ (HBZ.out _) ?_) | fail)
      rw [HRE.out, if_pos h1]
      refine bodyPost_ret (v := .tuple #[.agg (tc zeroT), .int .i64 (2)]) ?_ rfl ⟨rfl, fun h => by simp at h, bo ((ob HO2.out).rowNew _ _ (Nat.le_refl _))⟩
      simp [results, Tryz.results120, go_sem, hsz, hld0]
    · have h1i : ¬ (has : Int) ≤ back := by omega
      by_cases h2 : K < 3
      · have h2i : (K : Int) < 3 := by omega
        go_wp2_with (first | (refine at_build [] rfl _ (HBZ.out _) ?_) | fail)
        rw [HRE.out, if_neg h1, if_pos (.inl h2)]
        refine bodyPost_ret (v := .tuple #[.agg (tc zeroT), .int .i64 (4)]) ?_ rfl ⟨rfl, fun h => by simp at h, bo ((ob HO2.out).rowNew _ _ (Nat.le_refl _))⟩
        simp [results, Tryz.results120, go_sem, hsz, hld0]
      · have h2i : ¬ (K : Int) < 3 := by omega
        by_cases h3 : K - 3 < more
        · have h3i : (more : Int) > (K : Int) - 3 := by omega
          go_wp2_with (first | (refine at_build [] rfl _ (HBZ.out _) ?_) | fail)
          rw [HRE.out, if_neg h1, if_pos (.inr h3)]
          refine bodyPost_ret (v := .tuple #[.agg (tc zeroT), .int .i64 (4)]) ?_ rfl ⟨rfl, fun h => by simp at h, bo ((ob HO2.out).rowNew _ _ (Nat.le_refl _))⟩
          simp [results, Tryz.results120, go_sem, hsz, hld0]
        · have h3i : ¬ (more : Int) > (K : Int) - 3 := by omega
          have HBC := Lib.hid (fun w => build_copy (back + 1) (more + 3) w)
          rw [show ((back + 1 : Nat) : Int) = (back : Int) + 1 by omega, show ((more + 3 : Nat) : Int) = (more : Int) + 3 by omega] at HBC
          have hst1 := HA2.out.store ⟨0, back + 1, more + 3⟩
          have hld1 := (HA2.out.put ⟨0, back + 1, more + 3⟩).whole HM.out
          have hbs : back ≤ 65536 := by omega
          have hms : more ≤ 65536 := by omega
          go_wp2_with (first | (refine at_build [(1, .int .i64 ((back : Int) + 1)), (2, .int .i64 ((more : Int) + 3))] rfl _ (HBC.out _) ?_) | fail)
          rw [HRE.out, if_neg h1, if_neg (by omega)]
          refine bodyPost_ret (v := .tuple #[.agg (tc ⟨0, back + 1, more + 3⟩), .int .i64 (0)]) ?_ rfl ⟨rfl, fun _ => HR3.out.other (Bit.Only.setRow _ _ _) (Ne.symm hne), bo ((ob HO2.out).rowNew _ _ (Nat.le_refl _))⟩
          simp [results, Tryz.results120, go_sem, hsz, hld1]
  · have hx3b : (x3 != 0) = true := by simpa using hx3
    have HRE := Lib.hid (show R = (zeroT, l3, x3) from by rw [HR.out, if_pos hx3]; rfl)
    go_wp2_with (first | (refine at_build [] rfl _ (HBZ.out _) ?_) | fail)
    refine HE.out.mono ?_
    rintro e w2 ⟨rfl, rfl⟩
    go_wp2
    rw [HRE.out]
    refine bodyPost_ret (v := .tuple #[.agg (tc zeroT), .int .i64 (x3)]) ?_ rfl ⟨rfl, fun h => absurd h hx3, bo ((ob HO2.out).rowNew _ _ (Nat.le_refl _))⟩
    simp [results, Tryz.results120, go_sem, hsz, hld0]
end Go.Proofs.YtpimecnpdpcceaaGreat
