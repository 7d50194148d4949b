/- Proved: what sack's Merge and Behind answer, and what they do to memory. Condition: the map lies in memory (M), or the pointer is nil; numbers are ints; a text has at most a million bytes. -/
import Derived.Test.YtifcibmpeolmdaaDoorMe
namespace Go.Proofs.YtifcibmpeolmdaaDoor
open Go.RowKit

def MgRel (w : World) (p : Nat) (l : List Bool) (a : Int) (s : List UInt8) (cv iv : Value) (wr : World) : Prop :=
  ∃ k : Nat, iv = .int .i64 k ∧ cv = .int .i64 (newK l a s k : Nat) ∧ k ≤ l.length ∧ M wr p (merK l a s k) ∧ Only p w wr
theorem setB_merK (l : List Bool) (a : Int) (s : List UInt8) (k : Nat) (hk : k < l.length) : setB (merK l a s k) k = !l.getD k false := by
  unfold setB
  rw [hasB_nat, merK_get l a s k k hk, merK_len, decide_eq_true (by omega : (0 : Int) ≤ k), decide_eq_true (by omega : (k : Int) < l.length), decide_eq_false (Nat.lt_irrefl k)]
  simp

end Go.Proofs.YtifcibmpeolmdaaDoor
