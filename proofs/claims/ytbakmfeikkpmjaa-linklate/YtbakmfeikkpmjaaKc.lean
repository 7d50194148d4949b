/- Proved: what crc's More, Sum, sumBytes, Seal and Open, and the document's own Sum, Seal and Open answer. Condition: numbers of 32 bits; a text's length fits. -/
import Derived.Test.YtbakmfeikkpmjaaKb
import Derived.Laws.BytesArg
namespace Go.Proofs.Ytbakmfeikkpmjaa
open Go.RowKit

def moreN (m : Nat) (s : List UInt8) : Nat := K.run (m ^^^ K.ones) (K.bitsOf s) ^^^ K.ones

theorem not32 (m : Nat) (hm : m < 4294967296) : bits .xor .u32 IntKind.u32.max (m : Int) = ((m ^^^ K.ones : Nat) : Int) := by
  have := u32_xor_nat 4294967295 m (by omega) hm
  rw [Nat.xor_comm m]
  exact this
theorem not_lt (m : Nat) (hm : m < 4294967296) : m ^^^ K.ones < 4294967296 := Nat.xor_lt_two_pow (n := 32) hm (by decide)

theorem moreN_zero (s : List UInt8) : moreN 0 s = K.sum s := by unfold moreN K.sum; rw [Nat.zero_xor]
theorem moreN_lt (m : Nat) (s : List UInt8) (hm : m < 4294967296) : moreN m s < 4294967296 := not_lt _ (K.run_lt _ _ (not_lt m hm))
theorem moreN_sum (s t : List UInt8) : moreN (K.sum s) t = K.sum (s ++ t) := by
  unfold moreN K.sum
  rw [Nat.xor_assoc, Nat.xor_self, Nat.xor_zero, K.bitsOf_append, K.run_append]

theorem ext_take (l : List UInt8) (n : Nat) : (⟨l.toArray⟩ : ByteArray).extract 0 n = ⟨(l.take n).toArray⟩ := by
  apply ByteArray.ext; simp [ByteArray.data_extract]
theorem ext_drop (l : List UInt8) (n : Nat) : (⟨l.toArray⟩ : ByteArray).extract n l.length = ⟨(l.drop n).toArray⟩ := by
  apply ByteArray.ext; simp [ByteArray.data_extract]; rw [List.take_of_length_le (by simp)]
theorem app_list (x y : List UInt8) : (⟨x.toArray⟩ ++ ⟨y.toArray⟩ : ByteArray) = ⟨(x ++ y).toArray⟩ := by
  apply ByteArray.ext; simp

/-- Four bytes in new memory, as a text. -/
theorem conv4 (m : Nat) (hm : m < 4294967296) (w : World) :
    (convert 46 9 (.slice (some ⟨w.heap.size, 0, none⟩) 4 4)).run Try.prog (w.alloc (.cells #[.int .u8 ((m : Int) % 256), .int .u8 ((m : Int) / 256 % 256), .int .u8 ((m : Int) / 65536 % 256), .int .u8 ((m : Int) / 16777216)] 5)) =
      .ok (.string ⟨(K.le4 m).toArray⟩) (w.alloc (.cells #[.int .u8 ((m : Int) % 256), .int .u8 ((m : Int) / 256 % 256), .int .u8 ((m : Int) / 65536 % 256), .int .u8 ((m : Int) / 16777216)] 5)) := by
  have e : K.le4 m = [((m : Int) % 256), ((m : Int) / 256 % 256), ((m : Int) / 65536 % 256), ((m : Int) / 16777216)].map fun c => UInt8.ofNat c.toNat := by
    unfold K.le4
    simp only [List.map_cons, List.map_nil]
    rw [show ((m : Int) % 256).toNat = m % 256 by omega, show ((m : Int) / 256 % 256).toNat = m / 256 % 256 by omega, show ((m : Int) / 65536 % 256).toNat = m / 65536 % 256 by omega, show ((m : Int) / 16777216).toNat = m / 16777216 % 256 by omega]
  rw [e]
  refine run_convert_bytes_arg (w.alloc _) 46 5 Try.underlying46 Try.underlying5 w.heap.size 0 4 4 [((m : Int) % 256), ((m : Int) / 256 % 256), ((m : Int) / 65536 % 256), ((m : Int) / 16777216)] rfl ?_ 9 Try.underlying9
  intro i hi
  rcases (show i = 0 ∨ i = 1 ∨ i = 2 ∨ i = 3 by omega) with rfl | rfl | rfl | rfl <;> go_simp

theorem byte_drop (c : UInt8) (j : Nat) (h : j < 8) : (K.byteBits c).drop j = c.toNat.testBit j :: (K.byteBits c).drop (j + 1) := by
  rcases (show j = 0 ∨ j = 1 ∨ j = 2 ∨ j = 3 ∨ j = 4 ∨ j = 5 ∨ j = 6 ∨ j = 7 by omega) with rfl | rfl | rfl | rfl | rfl | rfl | rfl | rfl <;> rfl
theorem bit_nat (n j : Nat) : (n.testBit j).toNat = n / 2 ^ j % 2 := by
  rw [Nat.testBit_eq_decide_div_mod_eq]
  have := Nat.mod_two_eq_zero_or_one (n / 2 ^ j)
  rcases this with h | h <;> simp [h]
theorem bit_int (n j : Nat) : (n : Int) / 2 ^ j % 2 = (((n.testBit j).toNat : Nat) : Int) := by
  rw [bit_nat]; simp

def SumRel (s : List UInt8) (w : World) (a i : Value) (wr : World) : Prop :=
  wr = w ∧ ∃ k n : Nat, i = .int .i64 k ∧ a = .int .u32 n ∧ n < 4294967296 ∧ k ≤ s.length ∧ K.run n (K.bitsOf (s.drop k)) = K.run K.ones (K.bitsOf s)
def InRel (n : Nat) (c : UInt8) (w : World) (a i : Value) (wr : World) : Prop :=
  wr = w ∧ ∃ k x : Nat, i = .int .i64 k ∧ a = .int .u32 x ∧ x < 4294967296 ∧ k ≤ 8 ∧ K.run x ((K.byteBits c).drop k) = K.run n (K.byteBits c)

def openV (s : List UInt8) : Value := .tuple #[.string ⟨(K.openB s).1.toArray⟩, .int .i64 (K.openB s).2]
end Go.Proofs.Ytbakmfeikkpmjaa
