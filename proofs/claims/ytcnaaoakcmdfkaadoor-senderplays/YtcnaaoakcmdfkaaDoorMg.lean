/- Proved: bytes in memory; what Behind of sack and of the document answer: the bits of those behind a base, as bytes. Condition: the map lies in memory (M, or a list of bools in memory), or the pointer is nil. -/
import Derived.Test.YtcnaaoakcmdfkaaDoorMf
import Derived.Laws.BytesArg
import Derived.Laws.IdiomStrings
namespace Go.Proofs.YtcnaaoakcmdfkaaDoor
open Go.RowKit

def bv (c : UInt8) : Value := .int .u8 (c.toNat : Nat)
def ac (l : List UInt8) : Array Value := (l.map bv).toArray
theorem ac_get (l : List UInt8) (i : Nat) (h : i < l.length) : (ac l)[i]? = some (.int .u8 (l[i].toNat : Nat)) := by
  simp [ac, h, bv]
theorem ac_size (l : List UInt8) : (ac l).size = l.length := by simp [ac]
theorem ac_set (l : List UInt8) (i c : Nat) (hc : c < 256) : (ac l).setIfInBounds i (.int .u8 (c : Nat)) = ac (l.set i (UInt8.ofNat c)) := by
  have e : Value.int .u8 (c : Nat) = bv (UInt8.ofNat c) := by unfold bv; rw [UInt8.toNat_ofNat_of_lt' hc]
  rw [e]
  unfold ac
  rw [List.map_set]
  simp
theorem made_ac (k : Nat) : madeCells (Value.int .u8 0).cells (k * 1) = ac (List.replicate k 0) := by
  apply Array.ext
  · rw [size_madeCells, ac_size]; simp
  · intro i h1 h2
    simp [madeCells, Value.cells, ac, bv, Nat.mod_one]
theorem make_at (k : Nat) (hk : k ≤ 281474976710656) (w : World) : (Instr.makeSlice 57 (.int .i64 k) (.int .i64 k)).run Tryd.prog w = .ok (.slice (some ⟨w.heap.size, 0, none⟩) k k) (w.alloc (.cells (ac (List.replicate k 0)) 5)) := by
  obtain ⟨i0, hi, hz0, hz1, hz2⟩ := info_parts info5
  have h := run_make (P := Tryd.prog) w 57 5 i0 (.int .u8 0) Tryd.underlying57 hi hz0 .i64 .i64 k k (by omega) (Int.le_refl _) (by rw [hz2]; omega) (by omega)
  rw [h, hz1, Int.toNat_natCast, made_ac]
theorem conv_bytes {w : World} {b : Nat} {t : TypeId} {fz : Nat × Nat} (L : List UInt8) (h : w.heap[b]? = some (.cells (ac L) t fz)) (n cap : Nat) (hn : n = L.length) : (convert 57 9 (.slice (some ⟨b, 0, none⟩) n cap)).run Tryd.prog w = .ok (.string ⟨L.toArray⟩) w := by
  subst hn
  refine run_convert_bytes_back (P := Tryd.prog) w 57 9 5 ⟨b, 0, none⟩ cap L Tryd.underlying57 Tryd.underlying5 Tryd.underlying9 ?_
  intro j hj
  have hadd : (⟨b, 0, none⟩ : Addr).add j = ⟨b, j, none⟩ := by unfold Addr.add; split <;> simp_all
  rw [hadd]
  exact cell_obj h (ac_get L j hj)
theorem pow_le8 (k : Nat) (hk : k < 8) : 2 ^ k * 2 ≤ 256 := by
  have : 2 ^ k * 2 = 2 ^ (k + 1) := by rw [Nat.pow_succ]
  rw [this]; exact Nat.pow_le_pow_right (n := 2) (by omega) (show k + 1 ≤ 8 by omega)
theorem or_bit (x k : Nat) (hk : k < 8) (hx : x < 2 ^ k) : bits .or .u8 (x : Int) ((2 : Int) ^ k % 256) = ((x + 2 ^ k : Nat) : Int) ∧ x + 2 ^ k < 256 := by
  have h8 := pow_le8 k hk
  have e : ((2 : Int) ^ k % 256) = ((2 ^ k : Nat) : Int) := by
    have : ((2 : Int) ^ k) = ((2 ^ k : Nat) : Int) := by simp
    rw [this]
    generalize 2 ^ k = p at *
    omega
  refine ⟨?_, by omega⟩
  rw [e, u8_or_nat x (2 ^ k) (by omega) (by omega)]
  congr 1
  have h1 := Nat.two_pow_add_eq_or_of_lt hx 1
  rw [Nat.mul_one] at h1
  rw [Nat.or_comm, ← h1, Nat.add_comm]
theorem add_bit (x k : Nat) (hk : k < 8) (hx : x < 2 ^ k) : ((x : Int) + (2 : Int) ^ k % 256) % 256 = ((x + 2 ^ k : Nat) : Int) ∧ x + 2 ^ k < 256 := by
  have h8 := pow_le8 k hk
  have : ((2 : Int) ^ k) = ((2 ^ k : Nat) : Int) := by simp
  rw [this]
  generalize 2 ^ k = p at *
  omega
/-- The bytes so far as they are told. -/
def tolK (l : List Bool) (kk j : Nat) : List UInt8 := bytesN (behL l j) ((kk + 7) / 8)
theorem tolK_len (l : List Bool) (kk j : Nat) : (tolK l kk j).length = (kk + 7) / 8 := bytesN_len _ _
theorem tolK_zero (l : List Bool) (kk : Nat) : tolK l kk 0 = List.replicate ((kk + 7) / 8) 0 := by
  unfold tolK
  rw [show behL l 0 = [] from rfl, bytesN_nil]
theorem tolK_full (l : List Bool) (kk : Nat) : tolK l kk kk = bytesL (behL l kk) := by
  unfold tolK bytesL
  rw [behL_len]
theorem tolK_get (l : List Bool) (kk j i : Nat) (h : i < (tolK l kk j).length) : ((tolK l kk j)[i]'h).toNat = byteN (behL l j) i := by
  have h2 : (tolK l kk j)[i]? = some (UInt8.ofNat (byteN (behL l j) i)) := bytesN_get _ _ _ (by rw [tolK_len] at h; exact h)
  rw [List.getElem?_eq_getElem h] at h2
  injection h2 with h2
  rw [h2, UInt8.toNat_ofNat_of_lt' (byteN_lt _ _)]
theorem tolK_yes (l : List Bool) (kk j : Nat) (h : l.getD (baseN l + 1 + j) false = true) : tolK l kk (j + 1) = (tolK l kk j).set (j / 8) (UInt8.ofNat (byteN (behL l j) (j / 8) + 2 ^ (j % 8))) := by
  unfold tolK
  rw [behL_succ, bytesN_snoc, behL_len, h, Bool.toNat_true, Nat.one_mul]
theorem tolK_no (l : List Bool) (kk j : Nat) (hj : j < kk) (h : l.getD (baseN l + 1 + j) false = false) : tolK l kk (j + 1) = tolK l kk j := by
  unfold tolK
  rw [behL_succ, bytesN_snoc, behL_len, h, Bool.toNat_false, Nat.zero_mul]
  have hg := bytesN_get (behL l j) ((kk + 7) / 8) (j / 8) (by omega)
  refine List.ext_getElem? fun i => ?_
  rw [List.getElem?_set]
  split
  · rename_i e
    subst e
    rw [bytesN_len, if_pos (by omega), hg, Nat.add_zero]
  · rfl
theorem tol_last (l : List Bool) (j : Nat) : byteN (behL l j) (j / 8) < 2 ^ (j % 8) := by
  have := byteN_last_lt (behL l j)
  rwa [behL_len] at this

def BhRel (w : World) (l : List Bool) (g kk : Nat) (iv : Value) (wr : World) : Prop :=
  ∃ j : Nat, iv = .int .i64 j ∧ j ≤ kk ∧ wr.heap[g]? = some (.cells (ac (tolK l kk j)) 5 (0, 0)) ∧ Keep w wr

end Go.Proofs.YtcnaaoakcmdfkaaDoor
