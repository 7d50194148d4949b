/- Proved: what sack's Merge and Behind answer, and what they do to memory. Condition: the map lies in memory (M), or the pointer is nil; numbers are ints; a text has at most a million bytes. -/
import Derived.Test.YtcnaaoakcmdfkaaDoorMe
namespace Go.Proofs.YtcnaaoakcmdfkaaDoor
open Go.RowKit

def MgRel (w : World) (p : Nat) (l : List Bool) (a : Int) (s : List UInt8) (cv iv : Value) (wr : World) : Prop :=
  ∃ k : Nat, iv = .int .i64 k ∧ cv = .int .i64 (newK l a s k : Nat) ∧ k ≤ l.length ∧ M wr p (merK l a s k) ∧ Only p w wr
theorem setB_merK (l : List Bool) (a : Int) (s : List UInt8) (k : Nat) (hk : k < l.length) : setB (merK l a s k) k = !l.getD k false := by
  unfold setB
  rw [hasB_nat, merK_get l a s k k hk, merK_len, decide_eq_true (by omega : (0 : Int) ≤ k), decide_eq_true (by omega : (k : Int) < l.length), decide_eq_false (Nat.lt_irrefl k)]
  simp

set_option maxRecDepth 100000 in
set_option maxHeartbeats 400000 in
theorem merge_at (p : Nat) (l : List Bool) (a : Int) (s : List UInt8) (w : World) (h : M w p l) (h1 : -9223372036854775808 ≤ a) (h2 : a < 9223372036854775808) (hs : s.length ≤ 1000000) : Calls Tryd.prog 34 #[.pointer (some ⟨p, 0, none⟩), .int .i64 a, .string ⟨s.toArray⟩] w fun e w' => e = .returned (.int .i64 (newN l a s : Nat)) ∧ M w' p (merL l a s) ∧ Only p w w' := by
  have hf := h.few
  have HL := Lib.hid (len_at p l w h)
  have HT := Lib.hid (fun i (hi : i < 256) w => tells_at a s i w h1 h2 hi hs)
  have H0 := Lib.hid (show MgRel w p l a s (.int .i64 0) (.int .i64 0) w from ⟨0, rfl, rfl, Nat.zero_le _, by rw [merK_zero]; exact h, Only.refl _ _⟩)
  clear h h1 h2 hs
  go_enter Tryd.func34, Tryd.ntmps34
  go_wp2_with fail
  refine HL.out.mono ?_
  rintro e w1 ⟨rfl, rfl⟩
  go_wp2
  go_loopw [7, 11] (fun c i wr => MgRel w1 p l a s c i wr) (fun _ i _ => l.length - (intOf i).toNat)
  case atStart => exact H0.out
  case round =>
    obtain ⟨k, rfl, rfl, hk, hM, hO⟩ := hrel
    have HM := Lib.hid hM
    have HO := Lib.hid hO
    have hnk := newK_le l a s k
    clear hM hO H0 HL
    by_cases hlt : k < l.length
    · have HTk := Lib.hid (HT.out k (by omega) wr)
      have HN := Lib.hid (newK_succ l a s k)
      cases ht : toldB a s k
      · have HE := Lib.hid (merK_no l a s k ht)
        have HN2 := Lib.hid (show newK l a s (k + 1) = newK l a s k by rw [HN.out, ht]; simp)
        rw [ht] at HTk
        generalize newK l a s k = c at *
        go_wp2_with fail
        refine HTk.out.mono ?_
        rintro e w2 ⟨rfl, rfl⟩
        go_wp2
        go_roundw
        case rel => exact ⟨k + 1, by go_num, by rw [HN2.out], hlt, by rw [HE.out]; exact HM.out, HO.out⟩
        case measure => simp [intOf]; omega
      · have HE := Lib.hid (merK_yes l a s k hlt ht)
        have HSE := Lib.hid (set_at p _ k wr HM.out)
        rw [setB_merK l a s k hlt] at HSE
        rw [ht] at HTk HN
        cases hg : l.getD k false
        · have HN2 := Lib.hid (show newK l a s (k + 1) = newK l a s k + 1 by rw [HN.out, hg]; rfl)
          rw [hg] at HSE
          generalize newK l a s k = c at *
          go_wp2_with fail
          refine HTk.out.mono ?_
          rintro e w2 ⟨rfl, rfl⟩
          go_wp2_with fail
          refine HSE.out.mono ?_
          rintro e w3 ⟨rfl, m3, o3⟩
          go_wp2
          go_roundw
          case rel => exact ⟨k + 1, by go_num, by rw [HN2.out]; go_num, hlt, by rw [HE.out]; exact m3, HO.out.trans o3⟩
          case measure => simp [intOf]; omega
        · have HN2 := Lib.hid (show newK l a s (k + 1) = newK l a s k by rw [HN.out, hg]; simp)
          rw [hg] at HSE
          generalize newK l a s k = c at *
          go_wp2_with fail
          refine HTk.out.mono ?_
          rintro e w2 ⟨rfl, rfl⟩
          go_wp2_with fail
          refine HSE.out.mono ?_
          rintro e w3 ⟨rfl, m3, o3⟩
          go_wp2
          go_roundw
          case rel => exact ⟨k + 1, by go_num, by rw [HN2.out], hlt, by rw [HE.out]; exact m3, HO.out.trans o3⟩
          case measure => simp [intOf]; omega
    · obtain rfl : k = l.length := by omega
      go_wp2
      go_ret
      exact ⟨rfl, HM.out, HO.out⟩
set_option maxRecDepth 100000 in
theorem merge_nil (a : Int) (s : ByteArray) (w : World) : Calls Tryd.prog 34 #[.pointer none, .int .i64 a, .string s] w fun e w' => e = .returned (.int .i64 0) ∧ w' = w := by
  have HL := Lib.hid (len_nil w)
  go_enter Tryd.func34, Tryd.ntmps34
  go_wp2_with fail
  refine HL.out.mono ?_
  rintro e w1 ⟨rfl, rfl⟩
  go_wp2
  go_loopw [7, 11] (fun c i wr => c = .int .i64 0 ∧ i = .int .i64 0 ∧ wr = w1) (fun _ _ _ => 0)
  case atStart => exact ⟨rfl, rfl, rfl⟩
  case round =>
    obtain ⟨rfl, rfl, rfl⟩ := hrel
    go_wp2
    go_ret
    exact ⟨rfl, rfl⟩
end Go.Proofs.YtcnaaoakcmdfkaaDoor
