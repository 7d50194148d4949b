/- Proved: what math/bits' OnesCount64 and sack's Count, Base, Full, New and Copy answer, and what they do to memory. Condition: the map lies in memory (M), or the pointer is nil; the library's table is as its text lays it; numbers fit. -/
import Derived.Test.YtcnaaoakcmdfkaaDoorMb
import Derived.Laws.Bits128
namespace Go.Proofs.YtcnaaoakcmdfkaaDoor
open Go.RowKit

theorem m85 : mask 85 8 = 6148914691236517205 := rfl
theorem m51 : mask 51 8 = 3689348814741910323 := rfl
theorem m15 : mask 15 8 = 1085102592571150095 := rfl
theorem wrap_nat (x : Nat) (h : x < 18446744073709551616) : IntKind.u64.wrap (x : Int) = x := by rw [IntKind.wrap_u64]; omega
set_option maxRecDepth 100000 in
theorem ones_at (x : Nat) (hx : x < 18446744073709551616) (w : World) : Calls Tryd.prog 37 #[.int .u64 x] w fun e w' => e = .returned (.int .i64 (popN x : Nat)) ∧ w' = w := by
  obtain ⟨P, hP⟩ : ∃ P, popN x = P := ⟨_, rfl⟩
  rw [hP]
  unfold popN at hP
  simp only at hP
  rw [m85, m51, m15] at hP
  have h1 := and64 (x / 2) 6148914691236517205 (by omega) (by omega)
  have h2 := and64 x 6148914691236517205 hx (by omega)
  rw [show ((6148914691236517205 : Nat) : Int) = 6148914691236517205 from rfl] at h1 h2
  have b1 : x / 2 &&& 6148914691236517205 ≤ 6148914691236517205 := Nat.and_le_right
  have b2 : x &&& 6148914691236517205 ≤ 6148914691236517205 := Nat.and_le_right
  rw [show ((x / 2 : Nat) : Int) = (x : Int) / 2 by omega] at h1
  generalize x / 2 &&& 6148914691236517205 = a1 at *
  generalize x &&& 6148914691236517205 = a2 at *
  have w1 := wrap_nat (a1 + a2) (by omega)
  have c1 : ((a1 + a2 : Nat) : Int) = (a1 : Int) + a2 := by omega
  have l1 : a1 + a2 ≤ 12297829382473034410 := by omega
  rw [c1] at w1
  have w1b := w1.trans c1.symm
  generalize a1 + a2 = a at *
  clear w1 c1 b1 b2
  have h3 := and64 (a / 4) 3689348814741910323 (by omega) (by omega)
  have h4 := and64 a 3689348814741910323 (by omega) (by omega)
  rw [show ((3689348814741910323 : Nat) : Int) = 3689348814741910323 from rfl] at h3 h4
  have b1 : a / 4 &&& 3689348814741910323 ≤ 3689348814741910323 := Nat.and_le_right
  have b2 : a &&& 3689348814741910323 ≤ 3689348814741910323 := Nat.and_le_right
  rw [show ((a / 4 : Nat) : Int) = (a : Int) / 4 by omega] at h3
  generalize a / 4 &&& 3689348814741910323 = d1 at *
  generalize a &&& 3689348814741910323 = d2 at *
  have w2 := wrap_nat (d1 + d2) (by omega)
  have c2 : ((d1 + d2 : Nat) : Int) = (d1 : Int) + d2 := by omega
  have l2 : d1 + d2 ≤ 7378697629483820646 := by omega
  rw [c2] at w2
  have w2b := w2.trans c2.symm
  generalize d1 + d2 = b at *
  clear w2 c2 b1 b2
  have w3 := wrap_nat (b / 16 + b) (by omega)
  have c3 : ((b / 16 + b : Nat) : Int) = (b : Int) / 16 + b := by omega
  have l3 : b / 16 + b < 18446744073709551616 := by omega
  rw [c3] at w3
  have w3b := w3.trans c3.symm
  generalize b / 16 + b = z at *
  clear w3 c3
  have h5 := and64 z 1085102592571150095 l3 (by omega)
  rw [show ((1085102592571150095 : Nat) : Int) = 1085102592571150095 from rfl] at h5
  have b1 : z &&& 1085102592571150095 ≤ 1085102592571150095 := Nat.and_le_right
  generalize z &&& 1085102592571150095 = c at *
  have w4 := wrap_nat (c + c / 256) (by omega)
  have c4 : ((c + c / 256 : Nat) : Int) = (c : Int) + c / 256 := by omega
  have l4 : c + c / 256 ≤ 1152921504606846976 := by omega
  rw [c4] at w4
  have w4b := w4.trans c4.symm
  generalize c + c / 256 = d at *
  clear w4 c4
  have w5 := wrap_nat (d + d / 65536) (by omega)
  have c5 : ((d + d / 65536 : Nat) : Int) = (d : Int) + d / 65536 := by omega
  have l5 : d + d / 65536 ≤ 2305843009213693952 := by omega
  rw [c5] at w5
  have w5b := w5.trans c5.symm
  generalize d + d / 65536 = e at *
  clear w5 c5
  have w6 := wrap_nat (e + e / 4294967296) (by omega)
  have c6 : ((e + e / 4294967296 : Nat) : Int) = (e : Int) + e / 4294967296 := by omega
  have l6 : e + e / 4294967296 ≤ 4611686018427387904 := by omega
  rw [c6] at w6
  have w6b := w6.trans c6.symm
  generalize e + e / 4294967296 = f at *
  clear w6 c6
  have hw : wrap64 (f : Int) = f := by unfold wrap64; omega
  have h7 := i64_and127 (f : Int)
  have HP := Lib.hid hP
  clear l1 l2 l3 l4 l5 b1 hP hx
  have HL := Lib.hid l6
  clear l6
  go_enter Tryd.func37, Tryd.ntmps37
  go_wp2
  go_ret
  rw [← HP.out]
  refine ⟨?_, rfl⟩
  rw [show ((f % 128 : Nat) : Int) = (f : Int) % 128 by omega]
  rfl
end Go.Proofs.YtcnaaoakcmdfkaaDoor
