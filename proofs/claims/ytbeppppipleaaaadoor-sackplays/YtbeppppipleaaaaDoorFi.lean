/- Proved: how the laws fill a map with the numbers of a list of bytes: what a round of that loop brings. No condition. -/
import Derived.Test.YtbeppppipleaaaaDoorOp
import Derived.Test.YtbeppppipleaaaaDoorSq
namespace Go.Proofs.YtbeppppipleaaaaDoor
open Go.RowKit

/-- A map that is filled with the first ones of a list. -/
def FRel (w : World) (b : Nat) (l0 : List Bool) (xs : List Nat) (iv : Value) (wr : World) : Prop :=
  ∃ k : Nat, iv = .int .i64 k ∧ k ≤ xs.length ∧ M wr b (fillN l0 (xs.take k)) ∧ Only b w wr
def nums (xs : List UInt8) : List Nat := xs.map UInt8.toNat
theorem nums_len (xs : List UInt8) : (nums xs).length = xs.length := by simp [nums]
theorem nums_get (xs : List UInt8) (k : Nat) (x : UInt8) (h : xs[k]? = some x) : (nums xs)[k]? = some x.toNat := by simp [nums, h]
theorem FRel.start {w : World} {b : Nat} {l0 : List Bool} (xs : List Nat) (h : M w b l0) : FRel w b l0 xs (.int .i64 0) w := ⟨0, rfl, Nat.zero_le _, h, Only.refl _ _⟩
/-- How many chunks the laws take. -/
def sizeN (n : Int) : Nat := 1 + (n % 256).toNat
theorem sizeN_pos (n : Int) : 1 ≤ sizeN n := by unfold sizeN; omega
theorem sizeN_le (n : Int) : sizeN n ≤ 256 := by unfold sizeN; omega
theorem size_law (n : Int) : wrap64 (1 + wrap64 ((IntKind.u64.wrap n).tmod 256)) = (sizeN n : Int) := by
  have h : 0 ≤ IntKind.u64.wrap n := by rw [IntKind.wrap_u64]; omega
  rw [Int.tmod_eq_emod_of_nonneg h, IntKind.wrap_u64]
  unfold wrap64 sizeN
  omega
end Go.Proofs.YtbeppppipleaaaaDoor
