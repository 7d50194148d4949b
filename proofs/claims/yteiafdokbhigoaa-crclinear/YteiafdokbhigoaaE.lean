/- Proved: the laws' first line, awake, answers true and turns nothing that was there. No condition. -/
import Derived.Test.YteiafdokbhigoaaD
namespace Go.Proofs.Yteiafdokbhigoaa
open Go.RowKit

theorem digits_sum : K.sum [49, 50, 51, 52, 53, 54, 55, 56, 57] = 3421780262 := by decide +kernel
theorem digits_seal : K.sealB [49, 50, 51, 52, 53, 54, 55, 56, 57] = [49, 50, 51, 52, 53, 54, 55, 56, 57, 38, 57, 244, 203] := by decide +kernel
theorem digits_flip : K.openB (K.xorN [49, 50, 51, 52, 53, 54, 55, 56, 57, 38, 57, 244, 203] (K.big 7 5)) = ([], 5) := by decide +kernel
theorem tab1 : K.Sn 8 1 = 1996959894 := by decide +kernel
theorem five_sum : moreN (K.sum [49, 50, 51, 52, 53]) [54, 55, 56, 57] = 3421780262 := by decide +kernel
theorem one_flip : K.xorN [0] (K.big 1 1) = [2] := by decide +kernel
theorem index_tab (T : Array Value) (k : IntKind) (n : Nat) (v : Value) (h : T[n]? = some v) (hn : n < 256) (w : World) : (Instr.index 31 (.agg T) (.int k n)).run Try.prog w = .ok v w := by
  have hn2 : (n : Int) < 256 := by omega
  simp [Instr.index, go_sem, asIntOf, h]
  omega

set_option maxRecDepth 100000 in
set_option maxHeartbeats 1000000 in
theorem awake : Gives Try.prog 11 #[] (.bool true) := by
  intro w
  have hix : ∀ w, (Instr.index 31 (.agg (tabCells 256)) (.int .i64 1)).run Try.prog w = .ok (.int .u32 1996959894) w := fun w => by
    have h := tabCells_get 256 1 (by omega)
    rw [if_pos (by omega), tab1] at h
    exact index_tab (tabCells 256) .i64 1 _ h (by omega) w
  have Hix := Lib.hid hix
  have c13 := Lib.hid (sealed [49, 50, 51, 52, 53, 54, 55, 56, 57] (by decide))
  rw [digits_seal] at c13
  have c12 := Lib.hid (opened [49, 50, 51, 52, 53, 54, 55, 56, 57, 38, 57, 244, 203] (by decide))
  unfold openV at c12
  rw [← digits_seal, K.open_seal] at c12
  rw [digits_seal] at c12
  have c20 := Lib.hid (flip [49, 50, 51, 52, 53, 54, 55, 56, 57, 38, 57, 244, 203] 7 5 (by decide) (by decide) (by decide) (by decide))
  have c12b := Lib.hid (opened (K.xorN [49, 50, 51, 52, 53, 54, 55, 56, 57, 38, 57, 244, 203] (K.big 7 5)) (by rw [K.xorN_len]; decide))
  unfold openV at c12b
  rw [digits_flip] at c12b
  have c12c : Hid (Gives Try.prog 12 #[.string ⟨#[97, 98, 99]⟩] (.tuple #[.string ⟨#[]⟩, .int .i64 3])) := Lib.hid (opened [97, 98, 99] (by decide))
  have c15 := Lib.hid (sum [49, 50, 51, 52, 53, 54, 55, 56, 57] (by decide))
  rw [digits_sum] at c15
  have c15b := Lib.hid (sum [49, 50, 51, 52, 53] (by decide))
  have c21 := Lib.hid (more (K.sum [49, 50, 51, 52, 53]) [54, 55, 56, 57] (K.sum_lt _) (by decide))
  rw [five_sum] at c21
  have c20b := Lib.hid (flip [0] 1 1 (by decide) (by decide) (by decide) (by decide))
  rw [one_flip] at c20b
  have c18 := Lib.hid table
  generalize K.sum [49, 50, 51, 52, 53] = x at *
  generalize K.xorN [49, 50, 51, 52, 53, 54, 55, 56, 57, 38, 57, 244, 203] (K.big 7 5) = y at *
  generalize tabCells 256 = T at *
  clear hix
  go_enter Try.func11, Try.ntmps11
  go_wp2_with fail
  refine (c13.out w).mono ?_
  rintro e w1 ⟨rfl, b1⟩
  go_wp2_with fail
  refine (c12.out w1).mono ?_
  rintro e w2 ⟨rfl, b2⟩
  go_wp2_with fail
  refine (c20.out w2).mono ?_
  rintro e w3 ⟨rfl, b3⟩
  go_wp2_with fail
  refine (c12b.out w3).mono ?_
  rintro e w4 ⟨rfl, b4⟩
  go_wp2_with fail
  refine (c12c.out w4).mono ?_
  rintro e w5 ⟨rfl, b5⟩
  have B5 := Lib.hid ((((b1.trans b2).trans b3).trans b4).trans b5)
  clear b1 b2 b3 b4 b5
  go_wp2_with fail
  refine (c15.out w5).mono ?_
  rintro e w6 ⟨rfl, b6⟩
  go_wp2_with fail
  refine (c18.out w6).mono ?_
  rintro e w7 ⟨rfl, b7⟩
  have hix := Hix.out
  go_wp2_with fail
  refine (c15b.out w7).mono ?_
  rintro e w8 ⟨rfl, b8⟩
  go_wp2_with fail
  refine (c21.out w8).mono ?_
  rintro e w9 ⟨rfl, b9⟩
  go_wp2_with fail
  refine (c20b.out w9).mono ?_
  rintro e w10 ⟨rfl, b10⟩
  have B10 := Lib.hid (((((B5.out.trans b6).trans b7).trans b8).trans b9).trans b10)
  clear b6 b7 b8 b9 b10
  go_wp2
  go_ret
  exact ⟨rfl, B10.out⟩
end Go.Proofs.Yteiafdokbhigoaa
