/- Proved: what common of dump (and of the document) answers: how many first bytes two texts have in common. Condition: the texts' lengths fit. -/
import Derived.Test.YtpimecnpdpcceaaGreatMz1
namespace Go.Proofs.YtpimecnpdpcceaaGreat
open Go.RowKit

def CmRel (w : World) (a b : List UInt8) (i : Value) (wr : World) : Prop :=
  ∃ k : Nat, i = .int .i64 k ∧ k ≤ a.length ∧ k ≤ b.length ∧ Dm.com a b = k + Dm.com (a.drop k) (b.drop k) ∧ Keep w wr

set_option maxRecDepth 100000 in
theorem dcommon (a b : List UInt8) (ha : a.length ≤ 1000000000000) (hb : b.length ≤ 1000000000000) : GivesK Tryz.prog 37 #[.string ⟨a.toArray⟩, .string ⟨b.toArray⟩] (.int .i64 (Dm.com a b : Nat)) := by
  intro w
  obtain ⟨R, hR⟩ : ∃ R : Nat, R = Dm.com a b := ⟨_, rfl⟩
  rw [← hR]
  have HR := Lib.hid hR
  clear hR
  have HI := Lib.hid (fun (s : List UInt8) (i : Nat) (hi : i < s.length) (w : World) => Bit.index_at s i hi w)
  have hla : (⟨a.toArray⟩ : ByteArray).size = a.length := by simp [ByteArray.size]
  have hlb : (⟨b.toArray⟩ : ByteArray).size = b.length := by simp [ByteArray.size]
  go_enter Tryz.func37, Tryz.ntmps37
  go_wp2
  go_loopw [5] (fun i wr => CmRel w a b i wr) (fun i _ => a.length - (intOf i).toNat)
  case atStart => exact ⟨0, rfl, by omega, by omega, by simp, Keep.refl _⟩
  case round =>
    obtain ⟨k, rfl, hk1, hk2, hc, hw⟩ := hrel
    have HC := Lib.hid hc
    have HK := Lib.hid hw
    clear hc hw
    by_cases h1 : k < a.length
    · have h1i : (k : Int) < a.length := by omega
      have h1d : decide ((k : Int) < a.length) = true := decide_eq_true h1i
      by_cases h2 : k < b.length
      · have h2i : (k : Int) < b.length := by omega
        have h2d : decide ((k : Int) < b.length) = true := decide_eq_true h2i
        have i1 := HI.out a k h1
        have i2 := HI.out b k h2
        have HCD := Lib.hid (com_drop a b k k h1 h2)
        generalize (a[k]'h1) = x at *
        generalize (b[k]'h2) = y at *
        by_cases hxy : x = y
        · subst hxy
          go_wp2_with fail
          refine wp_region_keep (Keep.refl wr) (by kernel_rfl) (by kernel_rfl) ?_
          repeat (first | go_big_quiet_step (fail) | quiet_step (fail))
          refine wpQuiet_nil ?_
          rintro w6 ⟨⟨w7, b7⟩, rfl⟩
          go_wp2
          go_roundw
          case rel => exact ⟨k + 1, by go_num, by omega, by omega, by rw [HC.out, HCD.out, if_pos trivial]; omega, HK.out.trans b7⟩
          case measure => simp [intOf]; omega
        · have hne : ¬ ((x.toNat : Nat) : Int) = (y.toNat : Nat) := fun h => hxy (UInt8.toNat_inj.1 (by omega))
          go_wp2_with fail
          refine wp_region_keep (Keep.refl wr) (by kernel_rfl) (by kernel_rfl) ?_
          repeat (first | go_big_quiet_step (fail) | quiet_step (fail))
          refine wpQuiet_nil ?_
          rintro w6 ⟨⟨w7, b7⟩, rfl⟩
          go_wp2
          go_ret
          refine ⟨?_, HK.out.trans b7⟩
          rw [HR.out, HC.out, HCD.out, if_neg hxy]
          rfl
      · have h2i : ¬ (k : Int) < b.length := by omega
        have h2d : decide ((k : Int) < b.length) = false := decide_eq_false h2i
        go_wp2_with fail
        refine wp_region_keep (Keep.refl wr) (by kernel_rfl) (by kernel_rfl) ?_
        repeat (first | go_big_quiet_step (fail) | quiet_step (fail))
        refine wpQuiet_nil ?_
        rintro w6 ⟨⟨w7, b7⟩, rfl⟩
        go_wp2
        go_ret
        refine ⟨?_, HK.out.trans b7⟩
        rw [HR.out, HC.out, com_endr _ _ _ (by omega)]
        rfl
    · have h1i : ¬ (k : Int) < a.length := by omega
      have h1d : decide ((k : Int) < a.length) = false := decide_eq_false h1i
      go_wp2_with fail
      refine wp_region_keep (Keep.refl wr) (by kernel_rfl) (by kernel_rfl) ?_
      repeat (first | go_big_quiet_step (fail) | quiet_step (fail))
      refine wpQuiet_nil ?_
      rintro w6 ⟨⟨w7, b7⟩, rfl⟩
      go_wp2
      go_ret
      refine ⟨?_, HK.out.trans b7⟩
      rw [HR.out, HC.out, com_endl _ _ _ (by omega)]
      rfl

set_option maxRecDepth 100000 in
theorem qcommon7 (a b : List UInt8) (ha : a.length ≤ 1000000000000) (hb : b.length ≤ 1000000000000) : GivesK Tryz.prog 29 #[.string ⟨a.toArray⟩, .string ⟨b.toArray⟩] (.int .i64 (Dm.com a b : Nat)) := by
  intro w
  obtain ⟨R, hR⟩ : ∃ R : Nat, R = Dm.com a b := ⟨_, rfl⟩
  rw [← hR]
  have HR := Lib.hid hR
  clear hR
  have HI := Lib.hid (fun (s : List UInt8) (i : Nat) (hi : i < s.length) (w : World) => Bit.index_at s i hi w)
  have hla : (⟨a.toArray⟩ : ByteArray).size = a.length := by simp [ByteArray.size]
  have hlb : (⟨b.toArray⟩ : ByteArray).size = b.length := by simp [ByteArray.size]
  go_enter Tryz.func29, Tryz.ntmps29
  go_wp2
  go_loopw [5] (fun i wr => CmRel w a b i wr) (fun i _ => a.length - (intOf i).toNat)
  case atStart => exact ⟨0, rfl, by omega, by omega, by simp, Keep.refl _⟩
  case round =>
    obtain ⟨k, rfl, hk1, hk2, hc, hw⟩ := hrel
    have HC := Lib.hid hc
    have HK := Lib.hid hw
    clear hc hw
    by_cases h1 : k < a.length
    · have h1i : (k : Int) < a.length := by omega
      have h1d : decide ((k : Int) < a.length) = true := decide_eq_true h1i
      by_cases h2 : k < b.length
      · have h2i : (k : Int) < b.length := by omega
        have h2d : decide ((k : Int) < b.length) = true := decide_eq_true h2i
        have i1 := HI.out a k h1
        have i2 := HI.out b k h2
        have HCD := Lib.hid (com_drop a b k k h1 h2)
        generalize (a[k]'h1) = x at *
        generalize (b[k]'h2) = y at *
        by_cases hxy : x = y
        · subst hxy
          go_wp2_with fail
          refine wp_region_keep (Keep.refl wr) (by kernel_rfl) (by kernel_rfl) ?_
          repeat (first | go_big_quiet_step (fail) | quiet_step (fail))
          refine wpQuiet_nil ?_
          rintro w6 ⟨⟨w7, b7⟩, rfl⟩
          go_wp2
          go_roundw
          case rel => exact ⟨k + 1, by go_num, by omega, by omega, by rw [HC.out, HCD.out, if_pos trivial]; omega, HK.out.trans b7⟩
          case measure => simp [intOf]; omega
        · have hne : ¬ ((x.toNat : Nat) : Int) = (y.toNat : Nat) := fun h => hxy (UInt8.toNat_inj.1 (by omega))
          go_wp2_with fail
          refine wp_region_keep (Keep.refl wr) (by kernel_rfl) (by kernel_rfl) ?_
          repeat (first | go_big_quiet_step (fail) | quiet_step (fail))
          refine wpQuiet_nil ?_
          rintro w6 ⟨⟨w7, b7⟩, rfl⟩
          go_wp2
          go_ret
          refine ⟨?_, HK.out.trans b7⟩
          rw [HR.out, HC.out, HCD.out, if_neg hxy]
          rfl
      · have h2i : ¬ (k : Int) < b.length := by omega
        have h2d : decide ((k : Int) < b.length) = false := decide_eq_false h2i
        go_wp2_with fail
        refine wp_region_keep (Keep.refl wr) (by kernel_rfl) (by kernel_rfl) ?_
        repeat (first | go_big_quiet_step (fail) | quiet_step (fail))
        refine wpQuiet_nil ?_
        rintro w6 ⟨⟨w7, b7⟩, rfl⟩
        go_wp2
        go_ret
        refine ⟨?_, HK.out.trans b7⟩
        rw [HR.out, HC.out, com_endr _ _ _ (by omega)]
        rfl
    · have h1i : ¬ (k : Int) < a.length := by omega
      have h1d : decide ((k : Int) < a.length) = false := decide_eq_false h1i
      go_wp2_with fail
      refine wp_region_keep (Keep.refl wr) (by kernel_rfl) (by kernel_rfl) ?_
      repeat (first | go_big_quiet_step (fail) | quiet_step (fail))
      refine wpQuiet_nil ?_
      rintro w6 ⟨⟨w7, b7⟩, rfl⟩
      go_wp2
      go_ret
      refine ⟨?_, HK.out.trans b7⟩
      rw [HR.out, HC.out, com_endl _ _ _ (by omega)]
      rfl
end Go.Proofs.YtpimecnpdpcceaaGreat
