/- Proved: what the document's own step and Row, and crc's eightShifts answer. Condition: numbers of 32 bits. -/
import Derived.Test.YtbakmfeikkpmjaaRows
import Derived.Test.YtbakmfeikkpmjaaKp
import Derived.WalkKit
import Derived.Lib.Hide
import Derived.WalkSpells
import Derived.WalkLawsBesides
import Derived.Laws.BitsAllLaws
import Derived.IntWalk
import Derived.OpenShut
import Derived.Handy
import Derived.ScopeJumps
import Derived.Test.YtbakmfeikkpmjaaG
namespace Go.Proofs.Ytbakmfeikkpmjaa
open Go.RowKit

theorem stp_lt (x b : Nat) (h : x < 2 ^ 32) (hb : b < 2) : K.stp x b < 2 ^ 32 := by
  rw [K.stp_S _ _ hb]
  exact K.S_lt _ (Nat.xor_lt_two_pow h (by omega))

theorem xorP (x : Nat) (h : x < 4294967296) : bits .xor .u32 ((x : Int) / 2) 3988292384 = ((x / 2 ^^^ 3988292384 : Nat) : Int) := by
  have := u32_xor_nat (x / 2) 3988292384 (by omega) (by omega)
  simpa using this
theorem andP (x : Nat) (h : x < 4294967296) : bits .and .u32 (x : Int) 1 = ((x % 2 : Nat) : Int) := by
  have := u32_and_nat x 1 (by omega) (by omega)
  rw [Nat.and_one_is_mod] at this
  exact this

def EightJ (x : Nat) (w : World) (a : Act) (w' : World) : Prop :=
  w' = w ∧ ∃ n y : Nat, ∃ u4 u5 u6 u7 u8 u9 u10 u11 u12 u13 u14 u15, a = { tmps := #[.int .u32 y, undef, .int .u32 0, .int .i64 (n + 1 : Nat), u4, u5, u6, u7, u8, u9, u10, u11, u12, u13, u14, u15, undef], defers := [] } ∧ y < 4294967296 ∧ K.Sn (n + 1) y = K.Sn 8 x ∧ n < 8
def EightM (a : Act) (_ : World) : Nat := (intOf (a.tmps.getD 3 undef)).toNat

def RowRel (x : Nat) (r i : Value) : Prop := ∃ n k : Nat, r = .int .u32 n ∧ i = .int .i64 k ∧ n < 4294967296 ∧ k ≤ 8 ∧ K.Sn (8 - k) n = K.Sn 8 x

end Go.Proofs.Ytbakmfeikkpmjaa
