/- Proved: what crc's More, Sum, sumBytes, Seal and Open, and the document's own Sum, Seal and Open answer. Condition: numbers of 32 bits; a text's length fits. -/
import Derived.Test.YtcdcnlaijbjonaaKb
import Derived.Laws.BytesArg
namespace Go.Proofs.Ytcdcnlaijbjonaa
open Go.RowKit

def moreN (m : Nat) (s : List UInt8) : Nat := K.run (m ^^^ K.ones) (K.bitsOf s) ^^^ K.ones

theorem not32 (m : Nat) (hm : m < 4294967296) : bits .xor .u32 IntKind.u32.max (m : Int) = ((m ^^^ K.ones : Nat) : Int) := by
  have := u32_xor_nat 4294967295 m (by omega) hm
  rw [Nat.xor_comm m]
  exact this
theorem not_lt (m : Nat) (hm : m < 4294967296) : m ^^^ K.ones < 4294967296 := Nat.xor_lt_two_pow (n := 32) hm (by decide)

set_option maxRecDepth 100000 in
theorem more (m : Nat) (s : List UInt8) (hm : m < 4294967296) (hs : s.length ≤ 9223372036854775807) : Gives Try.prog 31 #[.int .u32 m, .string ⟨s.toArray⟩] (.int .u32 (moreN m s : Nat)) := by
  intro w
  have h1 := not32 m hm
  have hl1 := not_lt m hm
  have hl2 : K.run (m ^^^ K.ones) (K.bitsOf s) < 4294967296 := K.run_lt _ _ hl1
  have h2 := not32 _ hl2
  have HB := Lib.hid (byShifts_at (m ^^^ K.ones) s w hl1 hs)
  have HT := Lib.hid (byTable_at (m ^^^ K.ones) s w hl1 hs)
  unfold moreN
  generalize K.run (m ^^^ K.ones) (K.bitsOf s) = x at *
  generalize m ^^^ K.ones = y at *
  generalize x ^^^ K.ones = z at *
  by_cases h : s.length < 256
  · go_enter Try.func31, Try.ntmps31
    go_wp2_with fail
    refine (HB.out).mono ?_
    rintro e w1 ⟨rfl, rfl⟩
    go_wp2
    go_ret
    exact ⟨rfl, Same.refl _⟩
  · go_enter Try.func31, Try.ntmps31
    go_wp2_with fail
    refine (HT.out).mono ?_
    rintro e w1 ⟨rfl, b1⟩
    go_wp2
    go_ret
    exact ⟨rfl, b1⟩
theorem moreN_zero (s : List UInt8) : moreN 0 s = K.sum s := by unfold moreN K.sum; rw [Nat.zero_xor]
theorem moreN_lt (m : Nat) (s : List UInt8) (hm : m < 4294967296) : moreN m s < 4294967296 := not_lt _ (K.run_lt _ _ (not_lt m hm))
theorem moreN_sum (s t : List UInt8) : moreN (K.sum s) t = K.sum (s ++ t) := by
  unfold moreN K.sum
  rw [Nat.xor_assoc, Nat.xor_self, Nat.xor_zero, K.bitsOf_append, K.run_append]

set_option maxRecDepth 100000 in
theorem sum (s : List UInt8) (hs : s.length ≤ 9223372036854775807) : Gives Try.prog 29 #[.string ⟨s.toArray⟩] (.int .u32 (K.sum s : Nat)) := by
  intro w
  have H := Lib.hid (more 0 s (by omega) hs)
  rw [← moreN_zero]
  generalize moreN 0 s = x at *
  go_enter Try.func29, Try.ntmps29
  go_wp2_with fail
  refine (H.out w).mono ?_
  rintro e w1 ⟨rfl, b1⟩
  go_wp2
  go_ret
  exact ⟨rfl, b1⟩

theorem ext_take (l : List UInt8) (n : Nat) : (⟨l.toArray⟩ : ByteArray).extract 0 n = ⟨(l.take n).toArray⟩ := by
  apply ByteArray.ext; simp [ByteArray.data_extract]
theorem ext_drop (l : List UInt8) (n : Nat) : (⟨l.toArray⟩ : ByteArray).extract n l.length = ⟨(l.drop n).toArray⟩ := by
  apply ByteArray.ext; simp [ByteArray.data_extract]; rw [List.take_of_length_le (by simp)]
theorem app_list (x y : List UInt8) : (⟨x.toArray⟩ ++ ⟨y.toArray⟩ : ByteArray) = ⟨(x ++ y).toArray⟩ := by
  apply ByteArray.ext; simp

/-- Four bytes in new memory, as a text. -/
theorem conv4 (m : Nat) (hm : m < 4294967296) (w : World) :
    (convert 44 9 (.slice (some ⟨w.heap.size, 0, none⟩) 4 4)).run Try.prog (w.alloc (.cells #[.int .u8 ((m : Int) % 256), .int .u8 ((m : Int) / 256 % 256), .int .u8 ((m : Int) / 65536 % 256), .int .u8 ((m : Int) / 16777216)] 5)) =
      .ok (.string ⟨(K.le4 m).toArray⟩) (w.alloc (.cells #[.int .u8 ((m : Int) % 256), .int .u8 ((m : Int) / 256 % 256), .int .u8 ((m : Int) / 65536 % 256), .int .u8 ((m : Int) / 16777216)] 5)) := by
  have e : K.le4 m = [((m : Int) % 256), ((m : Int) / 256 % 256), ((m : Int) / 65536 % 256), ((m : Int) / 16777216)].map fun c => UInt8.ofNat c.toNat := by
    unfold K.le4
    simp only [List.map_cons, List.map_nil]
    rw [show ((m : Int) % 256).toNat = m % 256 by omega, show ((m : Int) / 256 % 256).toNat = m / 256 % 256 by omega, show ((m : Int) / 65536 % 256).toNat = m / 65536 % 256 by omega, show ((m : Int) / 16777216).toNat = m / 16777216 % 256 by omega]
  rw [e]
  refine run_convert_bytes_arg (w.alloc _) 44 5 Try.underlying44 Try.underlying5 w.heap.size 0 4 4 [((m : Int) % 256), ((m : Int) / 256 % 256), ((m : Int) / 65536 % 256), ((m : Int) / 16777216)] rfl ?_ 9 Try.underlying9
  intro i hi
  rcases (show i = 0 ∨ i = 1 ∨ i = 2 ∨ i = 3 by omega) with rfl | rfl | rfl | rfl <;> go_simp

set_option maxRecDepth 100000 in
theorem sumBytes (s : List UInt8) (hs : s.length ≤ 9223372036854775807) : Gives Try.prog 27 #[.string ⟨s.toArray⟩] (.string ⟨(K.le4 (K.sum s)).toArray⟩) := by
  intro w
  have H := Lib.hid (sum s hs)
  have hlt := K.sum_lt s
  generalize K.sum s = m at *
  go_enter Try.func27, Try.ntmps27
  go_wp2_with fail
  refine (H.out w).mono ?_
  rintro e w1 ⟨rfl, b1⟩
  have hcv := conv4 m hlt w1
  go_wp2
  go_ret
  exact ⟨rfl, b1.alloc _⟩

set_option maxRecDepth 100000 in
theorem sealed (s : List UInt8) (hs : s.length ≤ 1000000000000) : Gives Try.prog 17 #[.string ⟨s.toArray⟩] (.string ⟨(K.sealB s).toArray⟩) := by
  intro w
  have H := Lib.hid (sumBytes s (by omega))
  have ha := app_list s (K.le4 (K.sum s))
  have hl4 := K.le4_len (K.sum s)
  unfold K.sealB
  generalize K.le4 (K.sum s) = m at *
  go_enter Try.func17, Try.ntmps17
  go_wp2_with fail
  refine (H.out w).mono ?_
  rintro e w1 ⟨rfl, b1⟩
  go_wp2
  go_ret
  exact ⟨rfl, b1⟩

theorem byte_drop (c : UInt8) (j : Nat) (h : j < 8) : (K.byteBits c).drop j = c.toNat.testBit j :: (K.byteBits c).drop (j + 1) := by
  rcases (show j = 0 ∨ j = 1 ∨ j = 2 ∨ j = 3 ∨ j = 4 ∨ j = 5 ∨ j = 6 ∨ j = 7 by omega) with rfl | rfl | rfl | rfl | rfl | rfl | rfl | rfl <;> rfl
theorem bit_nat (n j : Nat) : (n.testBit j).toNat = n / 2 ^ j % 2 := by
  rw [Nat.testBit_eq_decide_div_mod_eq]
  have := Nat.mod_two_eq_zero_or_one (n / 2 ^ j)
  rcases this with h | h <;> simp [h]
theorem bit_int (n j : Nat) : (n : Int) / 2 ^ j % 2 = (((n.testBit j).toNat : Nat) : Int) := by
  rw [bit_nat]; simp

def SumRel (s : List UInt8) (w : World) (a i : Value) (wr : World) : Prop :=
  wr = w ∧ ∃ k n : Nat, i = .int .i64 k ∧ a = .int .u32 n ∧ n < 4294967296 ∧ k ≤ s.length ∧ K.run n (K.bitsOf (s.drop k)) = K.run K.ones (K.bitsOf s)
def InRel (n : Nat) (c : UInt8) (w : World) (a i : Value) (wr : World) : Prop :=
  wr = w ∧ ∃ k x : Nat, i = .int .i64 k ∧ a = .int .u32 x ∧ x < 4294967296 ∧ k ≤ 8 ∧ K.run x ((K.byteBits c).drop k) = K.run n (K.byteBits c)

set_option maxRecDepth 100000 in
theorem refSum_at (s : List UInt8) (w : World) (hs : s.length ≤ 9223372036854775807) :
    Calls Try.prog 28 #[.string ⟨s.toArray⟩] w fun e w' => e = .returned (.int .u32 (K.sum s : Nat)) ∧ w' = w := by
  go_enter Try.func28, Try.ntmps28
  go_wp2
  go_loopw [3, 4] (fun a i wr => SumRel s w a i wr) (fun _ i _ => s.length - (intOf i).toNat)
  case atStart => exact ⟨rfl, 0, K.ones, rfl, rfl, by decide, by omega, rfl⟩
  case round =>
    obtain ⟨rfl, k, n, rfl, rfl, hn, hk, he⟩ := hrel
    have He := Lib.hid he
    clear he
    by_cases hk2 : k < s.length
    · go_wp2
      go_loopw [3, 5] (fun a i wx => InRel n s[k] wr a i wx) (fun _ i _ => 9 - (intOf i).toNat)
      case atStart => exact ⟨rfl, 0, n, rfl, rfl, hn, by omega, rfl⟩
      case round =>
        obtain ⟨rfl, j, x, rfl, rfl, hx, hj, hi⟩ := hrel
        have Hi := Lib.hid hi
        clear hi
        by_cases hj2 : j < 8
        · have hb := bit_int s[k].toNat j
          have hlt2 := K.toNat_lt (s[k].toNat.testBit j)
          go_wp2_with fail
          rw [show (({ data := s.toArray } : ByteArray)[k]'hk2) = s[k] from rfl, hb]
          refine (step_at x _ _ hx hlt2).mono ?_
          rintro e w' ⟨rfl, rfl⟩
          go_wp2
          go_roundw
          case rel =>
            refine ⟨rfl, j + 1, K.stp x (s[k].toNat.testBit j).toNat, by go_num, rfl, stp_lt x _ hx hlt2, by omega, ?_⟩
            have := Hi.out
            rw [byte_drop _ _ hj2, K.run] at this
            exact this
          case measure => simp [intOf]; omega
        · have h2 : K.run n (K.byteBits s[k]) = x := by
            have := Hi.out
            rw [show j = 8 by omega] at this
            exact this.symm
          go_wp2
          go_roundw
          case rel =>
            refine ⟨rfl, k + 1, x, by go_num, rfl, hx, by omega, ?_⟩
            rw [← h2, ← K.run_append, ← drop_bits s k hk2]
            exact He.out
          case measure => simp [intOf]; omega
    · have h2 : K.run K.ones (K.bitsOf s) = n := by
        have := He.out
        rw [show k = s.length by omega, List.drop_length] at this
        exact this.symm
      have h3 := not32 n hn
      go_wp2
      go_ret
      unfold K.sum
      rw [h2]
      exact ⟨rfl, rfl⟩
theorem refSum (s : List UInt8) (hs : s.length ≤ 9223372036854775807) : Gives Try.prog 28 #[.string ⟨s.toArray⟩] (.int .u32 (K.sum s : Nat)) := Gives.of_same fun w => refSum_at s w hs

set_option maxRecDepth 100000 in
theorem refSealed (s : List UInt8) (hs : s.length ≤ 1000000000000) : Gives Try.prog 22 #[.string ⟨s.toArray⟩] (.string ⟨(K.sealB s).toArray⟩) := by
  intro w
  have H := Lib.hid (refSum s (by omega))
  have hlt := K.sum_lt s
  have ha := app_list s (K.le4 (K.sum s))
  have hl4 := K.le4_len (K.sum s)
  unfold K.sealB
  generalize K.sum s = m at *
  have hcv := fun w => conv4 m hlt w
  generalize K.le4 m = f at *
  go_enter Try.func22, Try.ntmps22
  go_wp2_with fail
  refine (H.out w).mono ?_
  rintro e w1 ⟨rfl, b1⟩
  go_wp2
  go_ret
  exact ⟨rfl, b1.alloc _⟩

def openV (s : List UInt8) : Value := .tuple #[.string ⟨(K.openB s).1.toArray⟩, .int .i64 (K.openB s).2]
set_option maxRecDepth 100000 in
theorem opened (s : List UInt8) (hs : s.length ≤ 1000000000000) : Gives Try.prog 20 #[.string ⟨s.toArray⟩] (openV s) := by
  intro w
  by_cases h4 : s.length < 4
  · have e : openV s = .tuple #[.string ⟨#[]⟩, .int .i64 3] := by unfold openV K.openB; rw [if_pos h4]
    rw [e]
    go_enter Try.func20, Try.ntmps20
    go_wp2
    go_ret2
    exact ⟨rfl, Same.refl _⟩
  · have H := Lib.hid (sumBytes (s.take (s.length - 4)) (by rw [List.length_take]; omega))
    have ht := ext_take s (s.length - 4)
    have hd := ext_drop s (s.length - 4)
    have hlt : (s.take (s.length - 4)).length = s.length - 4 := by rw [List.length_take]; omega
    by_cases hq : K.le4 (K.sum (s.take (s.length - 4))) = s.drop (s.length - 4)
    · have e : openV s = .tuple #[.string ⟨(s.take (s.length - 4)).toArray⟩, .int .i64 0] := by unfold openV K.openB; rw [if_neg h4, if_pos hq]
      rw [e]
      rw [hq] at H
      clear e
      go_enter Try.func20, Try.ntmps20
      go_wp2_with fail
      rw [ht]
      refine wp_region_same (Same.refl w) (by kernel_rfl) (by kernel_rfl) ?_
      repeat (first | go_big_quiet_step (exact H.out.at _) | quiet_step (exact H.out.at _))
      refine wpQuiet_nil ?_
      rintro w1 ⟨⟨w2, b2⟩, rfl⟩
      go_wp2
      go_ret2
      exact ⟨rfl, b2⟩
    · have e : openV s = .tuple #[.string ⟨#[]⟩, .int .i64 5] := by unfold openV K.openB; rw [if_neg h4, if_neg hq]
      rw [e]
      clear e
      have hne : (K.le4 (K.sum (s.take (s.length - 4))) == s.drop (s.length - 4)) = false := beq_eq_false_iff_ne.2 hq
      generalize K.le4 (K.sum (s.take (s.length - 4))) = f at *
      go_enter Try.func20, Try.ntmps20
      go_wp2_with fail
      rw [ht]
      refine wp_region_same (Same.refl w) (by kernel_rfl) (by kernel_rfl) ?_
      repeat (first | go_big_quiet_step (exact H.out.at _) | quiet_step (exact H.out.at _))
      refine wpQuiet_nil ?_
      rintro w1 ⟨⟨w2, b2⟩, rfl⟩
      go_wp2
      go_ret2
      exact ⟨rfl, b2⟩

set_option maxRecDepth 100000 in
theorem refOpened (s : List UInt8) (hs : s.length ≤ 1000000000000) : Gives Try.prog 25 #[.string ⟨s.toArray⟩] (openV s) := by
  intro w
  by_cases h4 : s.length < 4
  · have e : openV s = .tuple #[.string ⟨#[]⟩, .int .i64 3] := by unfold openV K.openB; rw [if_pos h4]
    rw [e]
    go_enter Try.func25, Try.ntmps25
    go_wp2
    go_ret2
    exact ⟨rfl, Same.refl _⟩
  · have H := Lib.hid (refSealed (s.take (s.length - 4)) (by rw [List.length_take]; omega))
    have ht := ext_take s (s.length - 4)
    have hlt : (s.take (s.length - 4)).length = s.length - 4 := by rw [List.length_take]; omega
    by_cases hq : K.le4 (K.sum (s.take (s.length - 4))) = s.drop (s.length - 4)
    · have e : openV s = .tuple #[.string ⟨(s.take (s.length - 4)).toArray⟩, .int .i64 0] := by unfold openV K.openB; rw [if_neg h4, if_pos hq]
      have e2 : K.sealB (s.take (s.length - 4)) = s := by unfold K.sealB; rw [hq, List.take_append_drop]
      rw [e]
      rw [e2] at H
      clear e e2 hq
      go_enter Try.func25, Try.ntmps25
      go_wp2_with fail
      rw [ht]
      refine (H.out w).mono ?_
      rintro e w1 ⟨rfl, b1⟩
      go_wp2
      go_ret2
      exact ⟨rfl, b1⟩
    · have e : openV s = .tuple #[.string ⟨#[]⟩, .int .i64 5] := by unfold openV K.openB; rw [if_neg h4, if_neg hq]
      have e2 : (K.sealB (s.take (s.length - 4)) == s) = false := beq_eq_false_iff_ne.2 fun h => by
        have h2 := congrArg (List.drop (s.length - 4)) h
        unfold K.sealB at h2
        rw [List.drop_append_of_le_length (by omega), List.drop_of_length_le (by omega), List.nil_append] at h2
        exact hq h2
      rw [e]
      clear e
      generalize K.sealB (s.take (s.length - 4)) = f at *
      go_enter Try.func25, Try.ntmps25
      go_wp2_with fail
      rw [ht]
      refine (H.out w).mono ?_
      rintro e w1 ⟨rfl, b1⟩
      go_wp2
      go_ret2
      exact ⟨rfl, b1⟩
end Go.Proofs.Ytcdcnlaijbjonaa
