/- Proved: what the writer's Bits, Code and Len of package bits do to memory and answer. Condition: the writer is known (Wr) and has fewer than 10^12 bits, or the pointer is nil; numbers fit. -/
import Derived.Test.YtgfbiaidbkjeiaaC
import Derived.Test.YtgfbiaidbkjeiaaShelf
namespace Go.Proofs.Ytgfbiaidbkjeiaa
open Go.RowKit

/-- How many bits a call of a writer's Bits writes. -/
def manyN (n : Int) : Nat := (min n 64).toNat
def WrPost (b : Nat) (w : World) (bs : List Bool) (e : Ending) (w' : World) : Prop := e = .returned (.tuple #[]) ∧ Wr w' b bs ∧ Only b w w'
def BRel (w : World) (b v : Nat) (bs : List Bool) (m : Nat) (cv : Value) (wr : World) : Prop :=
  ∃ k : Nat, cv = .int .i64 k ∧ k ≤ m ∧ Wr wr b (bs ++ bitsL v k) ∧ Only b w wr

theorem bit_div (v k : Nat) : ((v.testBit k).toNat : Nat) = v / 2 ^ k % 2 := by
  rw [Nat.testBit_eq_decide_div_mod_eq]
  rcases (show v / 2 ^ k % 2 = 0 ∨ v / 2 ^ k % 2 = 1 by omega) with h | h <;> simp [h]
theorem and_bit (v k : Nat) (hv : v < 2 ^ 64) : bits .and .u64 ((v : Int) / 2 ^ k) 1 % 256 = ((v.testBit k).toNat : Nat) := by
  have h2 : v / 2 ^ k ≤ v := Nat.div_le_self _ _
  have h := u64_and_nat (v / 2 ^ k) 1 (by omega) (by omega)
  rw [show ((v : Int) / 2 ^ k) = ((v / 2 ^ k : Nat) : Int) by simp, show (1 : Int) = ((1 : Nat) : Int) by rfl, h, Nat.and_one_is_mod, bit_div]
  omega

set_option maxRecDepth 100000 in
set_option maxHeartbeats 400000 in
theorem wbits_at (b v : Nat) (n : Int) (bs : List Bool) (w : World) (hv : v < 2 ^ 64) (h : Wr w b bs) (hl : bs.length + 64 ≤ 1000000000000) : Calls Try.prog 10 #[.pointer (some ⟨b, 0, none⟩), .int .u64 v, .int .i64 n] w (WrPost b w (bs ++ bitsL v (manyN n))) := by
  obtain ⟨m, hm⟩ : ∃ m, min n 64 = m := ⟨_, rfl⟩
  have hmin : ∀ w ts t, (Builtin.min_ ts t #[.int .i64 n, .int .i64 64]).run Try.prog w = .ok (.int .i64 m) w := fun w ts t => by
    rw [run_min_int2, show (if (64 : Int) < n then 64 else n) = m by omega]
  have hm64 : m ≤ 64 := by omega
  rw [manyN, hm]
  have HV := Lib.hid hv
  have HL := Lib.hid hl
  have HW := Lib.hid h
  clear hm hv hl h
  go_enter Try.func10, Try.ntmps10
  go_wp2_with fail
  go_loopw [11] (fun cv wr => BRel w b v bs m.toNat cv wr) (fun cv _ => 64 - (intOf cv).toNat)
  case atStart => exact ⟨0, rfl, by omega, by rw [bitsL_zero, List.append_nil]; exact HW.out, Only.refl _ _⟩
  case round =>
    obtain ⟨k, rfl, hk, hw, ho⟩ := hrel
    have HWr := Lib.hid hw
    have HOr := Lib.hid ho
    clear hw ho HW
    by_cases hkm : (k : Int) < m
    · go_wp2_with fail
      rw [and_bit v k HV.out]
      refine (put_at b (v.testBit k) _ wr HWr.out (by have := HL.out; simp [bitsL_len]; omega)).mono ?_
      rintro e w2 ⟨rfl, hw2, ho2⟩
      rw [List.append_assoc, ← bitsL_succ] at hw2
      go_wp2
      go_roundw
      case rel => exact ⟨k + 1, by go_num, by omega, hw2, HOr.out.trans ho2⟩
      case measure => simp [intOf]; omega
    · go_wp2
      go_returns
      have e : m.toNat = k := by omega
      rw [e]
      exact ⟨rfl, HWr.out, HOr.out⟩

set_option maxHeartbeats 400000 in
theorem wbits_nil (v n : Int) (w : World) : Calls Try.prog 10 #[.pointer none, .int .u64 v, .int .i64 n] w fun e w' => e = .returned (.tuple #[]) ∧ w' = w := by
  go_enter Try.func10, Try.ntmps10
  go_wp2
  go_returns
  exact ⟨rfl, rfl⟩

theorem bitLen_log (x : Nat) (h : x + 1 < 2 ^ 64) : Lib.bitLen (x + 1) = (x + 1).log2 + 1 := by
  have h1 : 2 ^ (x + 1).log2 ≤ x + 1 := Nat.log2_self_le (by omega)
  have h2 : x + 1 < 2 ^ ((x + 1).log2 + 1) := Nat.lt_log2_self
  rw [Lib.bitLen_shift _ _ h1 h]
  have e : (x + 1) / 2 ^ (x + 1).log2 = 1 := by
    rw [Nat.pow_succ] at h2
    have hpos : 0 < 2 ^ (x + 1).log2 := Nat.pow_pos (by omega)
    exact Nat.div_eq_of_lt_le (by omega) (by omega)
  rw [e]
  rfl
/-- The greatest number that has a code. -/
def capN (v : Nat) : Nat := min v 9223372036854775808
theorem code_parts (bs : List Bool) (x : Nat) : bs ++ bitsL 0 (x + 1).log2 ++ bitsL 1 1 ++ bitsL (x + 1) (x + 1).log2 = bs ++ codeL x := by
  rw [bitsL_of_zero, show bitsL 1 1 = [true] from rfl]
  simp [codeL]

set_option maxRecDepth 100000 in
set_option maxHeartbeats 400000 in
theorem wcode_core (pv : Value) (v : Nat) (w : World) (hv : v < 2 ^ 64) (J : List Bool → World → Prop) (h : J [] w)
    (hB : ∀ (u k : Nat) (bs : List Bool) (w : World), u < 2 ^ 64 → k ≤ 64 → bs.length + k ≤ 127 → J bs w → Calls Try.prog 10 #[pv, .int .u64 u, .int .i64 k] w fun e w' => e = .returned (.tuple #[]) ∧ J (bs ++ bitsL u k) w') :
    Calls Try.prog 12 #[pv, .int .u64 v] w fun e w' => e = .returned (.tuple #[]) ∧ J (codeL (capN v)) w' := by
  obtain ⟨x, hx⟩ : ∃ x, capN v = x := ⟨_, rfl⟩
  have hx2 : x ≤ 9223372036854775808 := by unfold capN at hx; omega
  have hmin : ∀ w ts t, (Builtin.min_ ts t #[.int .u64 v, .int .u64 9223372036854775808]).run Try.prog w = .ok (.int .u64 x) w := fun w ts t => by
    rw [run_min_int2, show (if (9223372036854775808 : Int) < v then 9223372036854775808 else (v : Int)) = x by unfold capN at hx; split <;> omega]
  have hlen := bitLen_log x (by omega)
  have hk : (x + 1).log2 < 64 := log2_succ_lt x 64 (by omega)
  have hcp := code_parts [] x
  have HJ := Lib.hid h
  have HB := Lib.hid hB
  have HLn := Lib.hid (fun w => Try.bits_Len64 (x + 1 : Nat) w (by omega) (by omega))
  rw [Int.toNat_natCast, hlen] at HLn
  have HCP := Lib.hid hcp
  have HX := Lib.hid hx
  clear h hB hcp hlen hv hx
  generalize hkk : (x + 1).log2 = k at *
  have HKK := Lib.hid hkk
  clear hkk
  go_enter Try.func12, Try.ntmps12
  go_wp2_with fail
  refine (HLn.out _).mono ?_
  rintro e w1 ⟨rfl, rfl⟩
  go_wp2_with fail
  refine (HB.out 0 k [] _ (by omega) (by omega) (by simp; omega) HJ.out).mono ?_
  rintro e w2 ⟨rfl, hj2⟩
  go_wp2_with fail
  refine (HB.out 1 1 _ _ (by omega) (by omega) (by simp [bitsL_len]; omega) hj2).mono ?_
  rintro e w3 ⟨rfl, hj3⟩
  go_wp2_with fail
  refine (HB.out (x + 1) k _ _ (by omega) (by omega) (by simp [bitsL_len]; omega) hj3).mono ?_
  rintro e w4 ⟨rfl, hj4⟩
  rw [HCP.out] at hj4
  go_wp2
  go_returns
  rw [HX.out]
  exact ⟨rfl, hj4⟩
theorem codeL_short (v : Nat) : (codeL (capN v)).length ≤ 127 := by
  rw [codeL_len]
  have := log2_succ_lt (capN v) 64 (by unfold capN; omega)
  omega
theorem wcode_at (b v : Nat) (bs : List Bool) (w : World) (hv : v < 2 ^ 64) (h : Wr w b bs) (hl : bs.length + 192 ≤ 1000000000000) : Calls Try.prog 12 #[.pointer (some ⟨b, 0, none⟩), .int .u64 v] w (WrPost b w (bs ++ codeL (capN v))) := by
  refine wcode_core _ v w hv (fun l w' => Wr w' b (bs ++ l) ∧ Only b w w') ⟨by rw [List.append_nil]; exact h, Only.refl _ _⟩ ?_
  rintro u k l w1 hu hk hlk ⟨h1, h2⟩
  refine (wbits_at b u k (bs ++ l) w1 hu h1 (by rw [List.length_append]; omega)).mono ?_
  rintro e w2 ⟨rfl, h3, h4⟩
  refine ⟨rfl, ?_, h2.trans h4⟩
  rw [← List.append_assoc]
  have e : manyN (k : Int) = k := by unfold manyN; omega
  rw [e] at h3
  exact h3
theorem wcode_nil (v : Nat) (w : World) (hv : v < 2 ^ 64) : Calls Try.prog 12 #[.pointer none, .int .u64 v] w fun e w' => e = .returned (.tuple #[]) ∧ w' = w := by
  refine wcode_core _ v w hv (fun _ w' => w' = w) rfl ?_
  rintro u k l w1 hu hk hlk rfl
  exact wbits_nil u k w1

set_option maxHeartbeats 400000 in
theorem wlen_at (b : Nat) (bs : List Bool) (w : World) (h : Wr w b bs) : Calls Try.prog 14 #[.pointer (some ⟨b, 0, none⟩)] w fun e w' => e = .returned (.int .i64 bs.length) ∧ w' = w := by
  obtain ⟨p, cs, last, hp⟩ := h
  have c65 : w.cell? ⟨b, 65, none⟩ = some (.int .i64 bs.length) := cell_obj hp.block (wc_n p last _ hp.len)
  clear hp
  go_enter Try.func14, Try.ntmps14
  go_wp2
  go_ret
  exact ⟨rfl, rfl⟩
set_option maxHeartbeats 400000 in
theorem wlen_nil (w : World) : Calls Try.prog 14 #[.pointer none] w fun e w' => e = .returned (.int .i64 0) ∧ w' = w := by
  go_enter Try.func14, Try.ntmps14
  go_wp2
  go_ret
  exact ⟨rfl, rfl⟩
set_option maxHeartbeats 400000 in
theorem wstring_nil (w : World) : Calls Try.prog 15 #[.pointer none] w fun e w' => e = .returned (.string ⟨#[]⟩) ∧ w' = w := by
  go_enter Try.func15, Try.ntmps15
  go_wp2
  go_ret
  exact ⟨rfl, rfl⟩
end Go.Proofs.Ytgfbiaidbkjeiaa
