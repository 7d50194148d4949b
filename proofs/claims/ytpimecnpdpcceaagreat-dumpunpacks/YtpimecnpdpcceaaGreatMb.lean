/- Proved: several texts in one: plain mathematics of bits, with no program in it: bits of numbers and of bytes, numbers' codes, and what a reader's calls take of some bits, as functions on lists; rules of the walk (a region that draws its order, whose calls make memory but turn nothing that was there), and how rows of cells lie in memory; how a writer of package bits lies in memory; what the writer's put of package bits does to memory; Laid at this program: the library's contracts of bits_Len64, each with the facts on this program's functions and types that it asks; what the writer's Bits, Code and Len of package bits do to memory and answer; what the writer's String of package bits answers; what the reader's calls Err, Left, Bits and Code of package bits answer, and what becomes of memory; what the reader's calls Bits, Code, Done and NewReader of package bits answer, and what becomes of memory; what the reader's Done and NewReader of package bits answer, and what a nil reader's Code and Done do. Each with its conditions where it stands. -/
import Derived.Test.YtpimecnpdpcceaaGreatRows
import Derived.WalkKit
import Derived.Lib.Hide
import Derived.WalkSpells
import Derived.WalkLawsBesides
import Derived.Deep.QuietTactic
import Derived.BigQuiet
import Derived.BigRegion
import Derived.Deep.RegionWith
import Derived.Deep.WholeRow
import Derived.Laws.BitsAllLaws
import Derived.Laws.BytesArg
import Derived.Laws.CopyRow
import Derived.Laws.OwnMore
import Derived.IntWalk
import Derived.OpenShut
import Derived.Handy
import Derived.Shelf.Strconv.Itoa0
import Derived.Test.YtpimecnpdpcceaaGreatProg

/- Proved: plain mathematics of bits, with no program in it: bits of numbers and of bytes, numbers' codes, and what a reader's calls take of some bits, as functions on lists. No condition. -/
namespace Go.Proofs.YtpimecnpdpcceaaGreat.Bit

/-- The n lowest bits of v, the lowest first. -/
def bitsL (v n : Nat) : List Bool := (List.range n).map v.testBit
/-- The number that bits make. -/
def valL : List Bool → Nat
  | [] => 0
  | b :: l => b.toNat + 2 * valL l
/-- The byte at place j. -/
def byteN (l : List Bool) (j : Nat) : Nat := valL ((l.drop (8 * j)).take 8)
/-- The first n bytes of bits. -/
def bytesN (l : List Bool) (n : Nat) : List UInt8 := (List.range n).map fun j => UInt8.ofNat (byteN l j)
/-- Bits as bytes. -/
def bytesL (l : List Bool) : List UInt8 := bytesN l ((l.length + 7) / 8)
/-- The bits of bytes. -/
def ofL (s : List UInt8) : List Bool := s.flatMap fun c => bitsL c.toNat 8
/-- A number's code. -/
def codeL (v : Nat) : List Bool := List.replicate (v + 1).log2 false ++ true :: bitsL (v + 1) (v + 1).log2
/-- Noughts and ones. -/
def strL (l : List Bool) : List UInt8 := l.map fun b => if b then 49 else 48
/-- How many noughts stand ahead. -/
def noughts : List Bool → Nat
  | false :: l => noughts l + 1
  | _ => 0
/-- A reader's Bits: the answer, what is left, what was wrong. -/
def bitsF (l : List Bool) (x n : Int) : Nat × List Bool × Int :=
  if x ≠ 0 then (0, l, x) else if n < 0 ∨ 64 < n then (0, l, 1) else if (l.length : Int) < n then (0, l, 3) else (valL (l.take n.toNat), l.drop n.toNat, 0)
/-- A reader's Code. -/
def codeF (l : List Bool) (x : Int) : Nat × List Bool × Int :=
  if x ≠ 0 then (0, l, x) else if 64 ≤ noughts l then (0, l, 4) else if l.length < 2 * noughts l + 1 then (0, l, 3)
  else (valL ((l.drop (noughts l + 1)).take (noughts l)) + 2 ^ noughts l - 1, l.drop (2 * noughts l + 1), 0)
/-- A reader's Done. -/
def doneF (l : List Bool) (x : Int) : Int := if x ≠ 0 then x else if 8 ≤ l.length ∨ valL l ≠ 0 then 4 else 0

theorem bitsL_len (v n : Nat) : (bitsL v n).length = n := by simp [bitsL]
theorem bitsL_zero (v : Nat) : bitsL v 0 = [] := rfl
theorem bitsL_succ (v n : Nat) : bitsL v (n + 1) = bitsL v n ++ [v.testBit n] := by simp [bitsL, List.range_succ]
theorem bitsL_cons (v n : Nat) : bitsL v (n + 1) = decide (v % 2 = 1) :: bitsL (v / 2) n := by
  simp only [bitsL, List.range_succ_eq_map, List.map_cons, List.map_map, Nat.testBit_zero]
  congr 1
  exact List.map_congr_left fun i _ => by simp [Nat.testBit_succ]
theorem bitsL_get (v n i : Nat) (h : i < n) : (bitsL v n)[i]? = some (v.testBit i) := by
  simp [bitsL, h]
theorem bitsL_of_zero (n : Nat) : bitsL 0 n = List.replicate n false := by
  refine List.ext_getElem? fun i => ?_
  by_cases h : i < n
  · rw [bitsL_get 0 n i h]; simp [h]
  · simp [bitsL, h]
theorem valL_lt : ∀ l : List Bool, valL l < 2 ^ l.length
  | [] => by simp [valL]
  | b :: l => by
    have := valL_lt l
    simp only [valL, List.length_cons, Nat.pow_succ]
    cases b <;> simp <;> omega
theorem valL_append : ∀ l m : List Bool, valL (l ++ m) = valL l + 2 ^ l.length * valL m
  | [], m => by simp [valL]
  | b :: l, m => by
    simp only [List.cons_append, valL, valL_append l m, List.length_cons, Nat.pow_succ]
    rw [Nat.mul_add, Nat.add_assoc, ← Nat.mul_assoc, Nat.mul_comm 2 (2 ^ l.length)]
theorem valL_snoc (l : List Bool) (c : Bool) : valL (l ++ [c]) = valL l + c.toNat * 2 ^ l.length := by
  rw [valL_append]; simp [valL, Nat.mul_comm]
theorem valL_noughts (n : Nat) : valL (List.replicate n false) = 0 := by
  induction n with
  | zero => rfl
  | succ n ih => simp [List.replicate_succ, valL, ih]
theorem valL_bitsL : ∀ n v : Nat, valL (bitsL v n) = v % 2 ^ n
  | 0, v => by simp [bitsL, valL, Nat.mod_one]
  | n + 1, v => by
    rw [bitsL_cons]
    simp only [valL, valL_bitsL n (v / 2), Nat.pow_succ]
    rw [Nat.mul_comm (2 ^ n) 2, Nat.mod_mul]
    by_cases h : v % 2 = 1
    · simp [h]
    · have : v % 2 = 0 := by omega
      simp [this]
theorem valL_bit : ∀ (l : List Bool) (i : Nat), (valL l).testBit i = l.getD i false
  | [], i => by simp [valL]
  | b :: l, 0 => by cases b <;> simp [valL, Nat.testBit_zero] <;> omega
  | b :: l, i + 1 => by
    rw [Nat.testBit_succ]
    simp only [valL]
    have : (b.toNat + 2 * valL l) / 2 = valL l := by cases b <;> simp <;> omega
    rw [this, valL_bit l i]; simp
theorem bitsL_valL (l : List Bool) (n : Nat) (h : l.length ≤ n) : bitsL (valL l) n = l ++ List.replicate (n - l.length) false := by
  refine List.ext_getElem? fun i => ?_
  by_cases hi : i < n
  · rw [bitsL_get _ n i hi, valL_bit]
    by_cases h2 : i < l.length
    · simp [List.getElem?_append_left, h2]
    · rw [List.getElem?_append_right (by omega), List.getElem?_replicate, if_pos (by omega)]
      simp [h2]
  · rw [List.getElem?_eq_none (by simp [bitsL]; omega), List.getElem?_eq_none (by simp; omega)]

theorem byteN_lt (l : List Bool) (j : Nat) : byteN l j < 256 := by
  have h := valL_lt ((l.drop (8 * j)).take 8)
  have h2 : 2 ^ ((l.drop (8 * j)).take 8).length ≤ 2 ^ 8 := Nat.pow_le_pow_right (by omega) (by simp; omega)
  unfold byteN; omega
theorem byteN_out (l : List Bool) (j : Nat) (h : l.length ≤ 8 * j) : byteN l j = 0 := by
  unfold byteN; rw [List.drop_eq_nil_of_le h]; rfl
theorem byteN_last_lt (l : List Bool) : byteN l (l.length / 8) < 2 ^ (l.length % 8) := by
  have h := valL_lt ((l.drop (8 * (l.length / 8))).take 8)
  have h2 : ((l.drop (8 * (l.length / 8))).take 8).length = l.length % 8 := by simp; omega
  rw [h2] at h; exact h
theorem byteN_snoc (l : List Bool) (c : Bool) : byteN (l ++ [c]) (l.length / 8) = byteN l (l.length / 8) + c.toNat * 2 ^ (l.length % 8) := by
  unfold byteN
  have h2 : (l.drop (8 * (l.length / 8))).length = l.length % 8 := by simp; omega
  rw [List.drop_append, show 8 * (l.length / 8) - l.length = 0 by omega, List.drop_zero, List.take_of_length_le (by simp; omega), List.take_of_length_le (by omega), valL_snoc, h2]
theorem byteN_snoc_other (l : List Bool) (c : Bool) (j : Nat) (h : j ≠ l.length / 8) : byteN (l ++ [c]) j = byteN l j := by
  unfold byteN
  by_cases hj : j < l.length / 8
  · rw [List.drop_append, show 8 * j - l.length = 0 by omega, List.drop_zero, List.take_append_of_le_length (by simp; omega)]
  · rw [List.drop_eq_nil_of_le (by simp; omega), List.drop_eq_nil_of_le (by omega)]
theorem bytesN_len (l : List Bool) (n : Nat) : (bytesN l n).length = n := by simp [bytesN]
theorem bytesL_len (l : List Bool) : (bytesL l).length = (l.length + 7) / 8 := bytesN_len _ _
theorem bytesN_get (l : List Bool) (n i : Nat) (h : i < n) : (bytesN l n)[i]? = some (UInt8.ofNat (byteN l i)) := by simp [bytesN, h]
theorem bytesN_snoc (l : List Bool) (c : Bool) (n : Nat) : bytesN (l ++ [c]) n = (bytesN l n).set (l.length / 8) (UInt8.ofNat (byteN l (l.length / 8) + c.toNat * 2 ^ (l.length % 8))) := by
  refine List.ext_getElem? fun i => ?_
  rw [List.getElem?_set]
  by_cases hi : i < n
  · rw [bytesN_get _ n i hi]
    by_cases h : l.length / 8 = i
    · rw [if_pos h, bytesN_len, if_pos (by omega), ← byteN_snoc, h]
    · rw [if_neg h, bytesN_get _ n i hi, byteN_snoc_other l c i (by omega)]
  · rw [List.getElem?_eq_none (by rw [bytesN_len]; omega)]
    by_cases h : l.length / 8 = i
    · rw [if_pos h, bytesN_len, if_neg (by omega)]
    · rw [if_neg h, List.getElem?_eq_none (by rw [bytesN_len]; omega)]
theorem bytesN_more (l : List Bool) (n k : Nat) (h : l.length ≤ 8 * n) : bytesN l (n + k) = bytesN l n ++ List.replicate k 0 := by
  refine List.ext_getElem? fun i => ?_
  by_cases hi : i < n + k
  · rw [bytesN_get _ _ i hi]
    by_cases h2 : i < n
    · rw [List.getElem?_append_left (by rw [bytesN_len]; omega), bytesN_get _ _ i h2]
    · rw [List.getElem?_append_right (by rw [bytesN_len]; omega), byteN_out l i (by omega), List.getElem?_replicate, if_pos (by rw [bytesN_len]; omega)]
      rfl
  · rw [List.getElem?_eq_none (by rw [bytesN_len]; omega), List.getElem?_eq_none (by simp [bytesN_len]; omega)]
theorem bytesN_take (l : List Bool) (n k : Nat) (h : k ≤ n) : (bytesN l n).take k = bytesN l k := by
  simp [bytesN, ← List.map_take, List.take_range, Nat.min_eq_left h]
theorem bytesN_nil (n : Nat) : bytesN [] n = List.replicate n 0 := by
  have := bytesN_more [] 0 n (by simp)
  simpa [bytesN] using this

theorem ofL_nil : ofL [] = [] := rfl
theorem ofL_snoc (s : List UInt8) (c : UInt8) : ofL (s ++ [c]) = ofL s ++ bitsL c.toNat 8 := by simp [ofL]
theorem ofL_append (s t : List UInt8) : ofL (s ++ t) = ofL s ++ ofL t := by simp [ofL]
theorem ofL_cons (c : UInt8) (s : List UInt8) : ofL (c :: s) = bitsL c.toNat 8 ++ ofL s := by simp [ofL]
theorem ofL_len : ∀ s : List UInt8, (ofL s).length = 8 * s.length
  | [] => rfl
  | c :: s => by rw [ofL_cons, List.length_append, bitsL_len, ofL_len s, List.length_cons]; omega
theorem ofL_get : ∀ (s : List UInt8) (i : Nat) (h : i / 8 < s.length), (ofL s)[i]? = some ((s[i / 8]'h).toNat.testBit (i % 8))
  | [], i, h => by simp at h
  | c :: s, i, h => by
    rw [ofL_cons]
    by_cases hi : i < 8
    · rw [List.getElem?_append_left (by rw [bitsL_len]; omega), bitsL_get _ _ _ hi]
      have e : i / 8 = 0 := by omega
      have e2 : i % 8 = i := by omega
      simp [e, e2]
    · obtain ⟨k, rfl⟩ : ∃ k, i = k + 8 := ⟨i - 8, by omega⟩
      have e : (k + 8) / 8 = k / 8 + 1 := by omega
      have e2 : (k + 8) % 8 = k % 8 := by omega
      rw [List.getElem?_append_right (by rw [bitsL_len]; omega), bitsL_len, Nat.add_sub_cancel, ofL_get s k (by simp at h; omega)]
      simp [e2]
theorem ofL_bytesN (l : List Bool) : ∀ n, ofL (bytesN l n) = l.take (8 * n) ++ List.replicate (8 * n - l.length) false
  | 0 => by simp [bytesN, ofL]
  | n + 1 => by
    have e : bytesN l (n + 1) = bytesN l n ++ [UInt8.ofNat (byteN l n)] := by simp [bytesN, List.range_succ]
    rw [e, ofL_snoc, ofL_bytesN l n, UInt8.toNat_ofNat_of_lt' (byteN_lt l n)]
    unfold byteN
    rw [bitsL_valL _ 8 (by simp; omega)]
    by_cases h : 8 * n ≤ l.length
    · rw [show 8 * n - l.length = 0 by omega, List.replicate_zero, List.append_nil, ← List.append_assoc]
      have e2 : l.take (8 * (n + 1)) = l.take (8 * n) ++ (l.drop (8 * n)).take 8 := by
        rw [show 8 * (n + 1) = 8 * n + 8 by omega, List.take_add]
      rw [e2]
      congr 2
      simp; omega
    · rw [List.drop_eq_nil_of_le (by omega), List.take_nil, List.nil_append, List.take_of_length_le (by omega), List.take_of_length_le (by omega), List.append_assoc, List.replicate_append_replicate]
      congr 2
      simp; omega
theorem ofL_bytesL (l : List Bool) : ∃ k, k < 8 ∧ ofL (bytesL l) = l ++ List.replicate k false := by
  refine ⟨8 * ((l.length + 7) / 8) - l.length, by omega, ?_⟩
  unfold bytesL
  rw [ofL_bytesN, List.take_of_length_le (by omega)]

theorem codeL_len (v : Nat) : (codeL v).length = 2 * (v + 1).log2 + 1 := by simp [codeL, bitsL_len]; omega
theorem noughts_code (k : Nat) (l : List Bool) : noughts (List.replicate k false ++ true :: l) = k := by
  induction k with
  | zero => rfl
  | succ k ih => simp [List.replicate_succ, noughts, ih]
theorem noughts_le : ∀ l : List Bool, noughts l ≤ l.length
  | [] => by simp [noughts]
  | false :: l => by have := noughts_le l; simp [noughts]; omega
  | true :: l => by simp [noughts]
theorem noughts_drop : ∀ (l : List Bool) (i : Nat), i ≤ noughts l → noughts (l.drop i) = noughts l - i
  | l, 0, _ => by simp
  | [], i + 1, h => by simp [noughts] at h
  | false :: l, i + 1, h => by
    simp only [noughts] at h ⊢
    rw [List.drop_succ_cons, noughts_drop l i (by omega)]; omega
  | true :: l, i + 1, h => by simp [noughts] at h
theorem noughts_get (l : List Bool) (i : Nat) (h : i ≤ noughts l) : l[i]? = some false ∧ i < noughts l ∨ l[i]? = some true ∧ i = noughts l ∨ l.drop i = [] ∧ i = noughts l ∧ i = l.length := by
  have e := noughts_drop l i h
  have e2 : l[i]? = (l.drop i)[0]? := by simp
  rcases hd : l.drop i with _ | ⟨b, m⟩
  · right; right
    have := noughts_le l
    have h3 : (l.drop i).length = 0 := by rw [hd]; rfl
    simp at h3
    exact ⟨rfl, by omega, by omega⟩
  · rw [hd] at e e2
    cases b
    · left; exact ⟨by rw [e2]; rfl, by simp [noughts] at e; omega⟩
    · right; left; exact ⟨by rw [e2]; rfl, by simp [noughts] at e; omega⟩
theorem log2_succ_lt (v k : Nat) (h : v + 1 < 2 ^ k) : (v + 1).log2 < k := (Nat.log2_lt (by omega)).2 h
theorem code_read (v : Nat) (r : List Bool) (h : v ≤ 2 ^ 63) : codeF (codeL v ++ r) 0 = (v, r, 0) := by
  have hk : (v + 1).log2 < 64 := log2_succ_lt v 64 (by omega)
  have hlo : 2 ^ (v + 1).log2 ≤ v + 1 := Nat.log2_self_le (by omega)
  have hhi : v + 1 < 2 ^ ((v + 1).log2 + 1) := Nat.lt_log2_self
  have hn : noughts (codeL v ++ r) = (v + 1).log2 := by
    unfold codeL; rw [List.append_assoc, List.cons_append]; exact noughts_code _ _
  have hl := codeL_len v
  unfold codeF
  rw [hn, if_neg (by simp), if_neg (by omega), if_neg (by rw [List.length_append]; omega)]
  have e1 : (codeL v ++ r).drop ((v + 1).log2 + 1) = bitsL (v + 1) (v + 1).log2 ++ r := by
    unfold codeL
    rw [List.append_assoc, List.drop_append, List.drop_eq_nil_of_le (by simp)]
    simp
  have e2 : (codeL v ++ r).drop (2 * (v + 1).log2 + 1) = r := by
    rw [← hl]; exact List.drop_left
  rw [e1, e2, List.take_left' (bitsL_len _ _), valL_bitsL]
  have h3 : (v + 1) % 2 ^ (v + 1).log2 = v + 1 - 2 ^ (v + 1).log2 := by
    rw [Nat.pow_succ] at hhi
    rw [Nat.mod_eq_sub_mod hlo, Nat.mod_eq_of_lt (by omega)]
  rw [h3]
  congr 1
  omega
theorem bits_read (v n : Nat) (r : List Bool) (h : n ≤ 64) : bitsF (bitsL v n ++ r) 0 n = (v % 2 ^ n, r, 0) := by
  unfold bitsF
  rw [if_neg (by simp), if_neg (by omega), if_neg (by rw [List.length_append, bitsL_len]; omega), Int.toNat_natCast, List.take_left' (bitsL_len _ _), List.drop_left' (bitsL_len _ _), valL_bitsL]
theorem codeL_one (a b : Nat) (ha : a ≤ 2 ^ 63) (hb : b ≤ 2 ^ 63) (k : Nat) (hk : k = min (codeL a).length (codeL b).length) (h : (codeL a).take k = (codeL b).take k) : a = b := by
  have ra := code_read a
  have rb := code_read b
  rcases Nat.le_total (codeL a).length (codeL b).length with hl | hl
  · rw [Nat.min_eq_left hl] at hk
    rw [hk, List.take_length] at h
    have e : codeL b = codeL a ++ (codeL b).drop (codeL a).length := by
      rw [h, List.length_take, Nat.min_eq_left hl]; exact (List.take_append_drop _ _).symm
    have h1 := rb [] hb
    rw [List.append_nil, e, ra _ ha] at h1
    exact congrArg Prod.fst h1
  · rw [Nat.min_eq_right hl] at hk
    rw [hk, List.take_length] at h
    have e : codeL a = codeL b ++ (codeL a).drop (codeL b).length := by
      rw [← h, List.length_take, Nat.min_eq_left hl]; exact (List.take_append_drop _ _).symm
    have h1 := ra [] ha
    rw [List.append_nil, e, rb _ hb] at h1
    exact (congrArg Prod.fst h1).symm
theorem codeL_mono (a b : Nat) (h : a ≤ b) : (codeL a).length ≤ (codeL b).length := by
  rw [codeL_len, codeL_len]
  have h1 : 2 ^ (a + 1).log2 ≤ b + 1 := Nat.le_trans (Nat.log2_self_le (by omega)) (by omega)
  have := (Nat.le_log2 (n := b + 1) (k := (a + 1).log2) (by omega)).2 h1
  omega
theorem strL_len (l : List Bool) : (strL l).length = l.length := by simp [strL]
theorem strL_append (l m : List Bool) : strL (l ++ m) = strL l ++ strL m := by simp [strL]
theorem strL_inj : ∀ l m : List Bool, strL l = strL m → l = m
  | [], [], _ => rfl
  | [], b :: m, h => by simp [strL] at h
  | b :: l, [], h => by simp [strL] at h
  | b :: l, c :: m, h => by
    simp only [strL, List.map_cons, List.cons.injEq] at h
    have hbc : b = c := by cases b <;> cases c <;> simp at h ⊢
    rw [hbc, strL_inj l m h.2]
theorem done_pad (k : Nat) (h : k < 8) : doneF (List.replicate k false) 0 = 0 := by
  unfold doneF
  rw [if_neg (by simp), if_neg (by rw [valL_noughts]; simp; omega)]
theorem val_next (l : List Bool) (k : Nat) (h : k < l.length) : valL (l.take (k + 1)) = valL (l.take k) + (l[k]'h).toNat * 2 ^ k := by
  rw [List.take_add_one, List.getElem?_eq_getElem h, Option.toList_some, valL_snoc, List.length_take, Nat.min_eq_left (by omega)]
end Go.Proofs.YtpimecnpdpcceaaGreat.Bit

/- Proved: rules of the walk (a region that draws its order, whose calls make memory but turn nothing that was there), and how rows of cells lie in memory. No condition. -/
namespace Go.Proofs.YtpimecnpdpcceaaGreat.Bit
open Go.RowKit

/-- Nothing that was there has turned. -/
def Same (w w' : World) : Prop := Below w.heap.size w w'
theorem Same.refl (w : World) : Same w w := Below.refl _ _
theorem Same.drew {w w' : World} (h : Same w w') : Same w w'.drew := Below.drew h
theorem Same.drewN {w w' : World} (h : Same w w') (n : Nat) : Same w (w'.drewN n) := by
  exact ⟨h.1, h.2, h.3, h.4, h.5⟩
theorem Same.trans {u v w : World} (h : Same u v) (k : Same v w) : Same u w :=
  Below.trans h ⟨k.1, k.2, k.3, k.4, fun i hi => k.5 i (Nat.lt_of_lt_of_le hi h.4)⟩

/-- What a call answers: whatever memory is, and it turns nothing that was there. -/
def Gives (P : Program) (f : FuncId) (args : Array Value) (v : Value) : Prop := ∀ w, Calls P f args w fun e w' => e = .returned v ∧ Same w w'
theorem Gives.of_same {P : Program} {f : FuncId} {args : Array Value} {v : Value} (h : ∀ w, Calls P f args w fun e w' => e = .returned v ∧ w' = w) : Gives P f args v :=
  fun w => (h w).mono fun _ _ ⟨he, hw⟩ => ⟨he, by rw [hw]; exact Same.refl w⟩
/-- The worlds in which nothing that was there has turned. -/
def SW (w : World) : Type := { w' : World // Same w w' }
instance (w : World) : Nonempty (SW w) := ⟨⟨w, Same.refl w⟩⟩
/-- .. in a region's walk. -/
theorem Gives.at {P : Program} {f : FuncId} {args : Array Value} {v : Value} (h : Gives P f args v) {w0 : World} (u : SW w0) : Calls P f args u.1 fun e w'' => e = .returned v ∧ ∃ m : SW w0, w'' = m.1 :=
  (h u.1).mono fun _ w' ⟨he, hb⟩ => ⟨he, ⟨w', u.2.trans hb⟩, rfl⟩

theorem wpAny_same {P : Program} {ops : Array Oper} {fuel : Nat} {listed : Array Bool} {a : Act} {w0 w : World} {Q : Exit → Act → World → Prop} (l : List Oper) (k : Nat) (hs : Region.noSelect ops = true)
    (hw : Same w0 w) (hl : ops.toList.drop k = l) (hf : l.length = fuel) (hB : Region.lexFrom .any ops fuel k listed = true)
    (h : wpQuiet P ops (fun w' => ∃ u : SW w0, w' = u.1) (fun a' => ∀ w', (∃ u : SW w0, w' = u.1) → Q .normal a' w') l a) : wpAny P .any ops Q fuel listed a w := by
  subst hf
  refine wpAny_of_quiet (C := fun w' => ∃ u : SW w0, w' = u.1) (Q := fun a' => ∀ w', (∃ u : SW w0, w' = u.1) → Q .normal a' w') (fun _ w' hw' h => h w' hw') _ _ _ _ ⟨⟨w, hw⟩, rfl⟩ ?_
  refine wpAnyQ_lex hs l k listed a ?_ hB h
  intro j
  rw [← hl, List.getElem?_drop, Array.getElem?_toList]

theorem wp_region_same {P : Program} {id : Nat} {Q : Exit → Act → World → Prop} {a : Act} {w0 w : World} {l : List Oper} (hw : Same w0 w) (hm : P.follows .mixedOrders = true) (hB : Region.lexB .any l.toArray = true)
    (h : wpQuiet P l.toArray (fun w' => ∃ u : SW w0, w' = u.1) (fun a' => ∀ w', (∃ u : SW w0, w' = u.1) → Q .normal a' w') l a) : (Code.region id l.toArray true).wp P Q a w :=
  wp_region_quiet (C := fun w' => ∃ u : SW w0, w' = u.1) hm hB ⟨⟨w.drew, hw.drew⟩, rfl⟩ (by simpa using h)
/-- Nothing but block b, of what was there, may have turned. -/
structure Only (b : Nat) (w w' : World) : Prop where
  os : w'.os = w.os
  tape : w'.tape = w.tape
  output : w'.output = w.output
  size : w.heap.size ≤ w'.heap.size
  block : ∀ k, k < w.heap.size → k ≠ b → w'.heap[k]? = w.heap[k]?
theorem Only.refl (b : Nat) (w : World) : Only b w w := ⟨rfl, rfl, rfl, Nat.le_refl _, fun _ _ _ => rfl⟩
theorem Only.trans {b : Nat} {u v w : World} (h : Only b u v) (k : Only b v w) : Only b u w :=
  ⟨k.os.trans h.os, k.tape.trans h.tape, k.output.trans h.output, Nat.le_trans h.size k.size, fun i hi hb => (k.block i (Nat.lt_of_lt_of_le hi h.size) hb).trans (h.block i hi hb)⟩
theorem Only.setCell (b o : Nat) (w : World) (v : Value) : Only b w (w.setCell ⟨b, o, none⟩ v) :=
  ⟨rfl, rfl, rfl, by simp [World.setCell], fun k _ hb => Below.heap_setCell _ _ _ _ hb⟩
theorem Only.cell {b : Nat} {w w' : World} (h : Only b w w') {p : Addr} (hp : p.block < w.heap.size) (hb : p.block ≠ b) : w'.cell? p = w.cell? p := World.cell?_of_block (w := w) (h.block p.block hp hb)
theorem Only.frozen {b : Nat} {w w' : World} (h : Only b w w') {p : Addr} (hp : p.block < w.heap.size) (hb : p.block ≠ b) : w'.frozen? p = w.frozen? p := World.frozen?_of_block (w := w) (h.block p.block hp hb)
def bv (c : UInt8) : Value := .int .u8 (c.toNat : Nat)
def ac (l : List UInt8) : Array Value := (l.map bv).toArray
theorem ac_get (l : List UInt8) (i : Nat) (h : i < l.length) : (ac l)[i]? = some (.int .u8 (l[i].toNat : Nat)) := by
  simp [ac, h, bv]
theorem Same.alloc {w w' : World} (h : Same w w') (o : Obj) : Same w (w'.alloc o) := Below.alloc h h.size o
theorem load_part {P : Program} {w : World} {b o n : Nat} {c : Array Value} {t : TypeId} {fz : Nat × Nat} (l : List Value) (hn : l.length = n) (h : w.heap[b]? = some (.cells c t fz)) (hl : ∀ j v, l[j]? = some v → c[o + j]? = some v) :
    (loadCellsFrom ⟨b, o, none⟩ 0 n #[]).run P w = .ok l.toArray w := by
  subst hn
  have := run_loadCells_list (P := P) w ⟨b, o, none⟩ l (fun j v hv => by
    have hadd : (⟨b, o, none⟩ : Addr).add j = ⟨b, o + j, none⟩ := by unfold Addr.add; split <;> simp_all
    rw [hadd, cell_of_row _ _ _ c t fz h]
    exact hl j v hv)
  simpa [loadCells] using this
/-- A block that lay there lies there yet. -/
theorem SW.block {w : World} {b : Nat} (u : SW w) {o : Obj} (h : w.heap[b]? = some o) : u.1.heap[b]? = some o := by
  have hb : b < w.heap.size := by
    rcases Nat.lt_or_ge b w.heap.size with h1 | h1
    · exact h1
    · rw [Array.getElem?_eq_none h1] at h
      cases h
  rw [← h]
  exact u.2.block b hb
theorem Same.obj {w w' : World} {b : Nat} (k : Same w w') {o : Obj} (h : w.heap[b]? = some o) : w'.heap[b]? = some o := SW.block ⟨w', k⟩ h
theorem cell_obj {w : World} {b i : Nat} {c : Array Value} {t : TypeId} {fz : Nat × Nat} {v : Value} (h : w.heap[b]? = some (.cells c t fz)) (hv : c[i]? = some v) : w.cell? ⟨b, i, none⟩ = some v := by
  rw [cell_of_row _ _ _ _ _ _ h, hv]
theorem ac_one (l : List UInt8) : ∀ v ∈ (ac l).toList, v.oneCell' = true := by
  intro v hv
  simp only [ac, List.mem_map] at hv
  obtain ⟨c, _, rfl⟩ := hv
  rfl
theorem ac_size (l : List UInt8) : (ac l).size = l.length := by simp [ac]
theorem block_set {w : World} {b : Nat} {c : Array Value} {t : TypeId} {fz : Nat × Nat} (h : w.heap[b]? = some (.cells c t fz)) (i : Nat) (v : Value) : (w.setCell ⟨b, i, none⟩ v).heap[b]? = some (.cells (c.setIfInBounds i v) t fz) := by
  simp only [World.setCell, Array.getElem?_modify, if_true, h, Option.map_some]
  rfl
theorem block_row {w : World} {b : Nat} {c : Array Value} {t : TypeId} {fz : Nat × Nat} (h : w.heap[b]? = some (.cells c t fz)) (c' : Array Value) : (w.setRow b c').heap[b]? = some (.cells c' t fz) := by
  simp only [World.setRow, Array.getElem?_modify, if_true, h, Option.map_some]
theorem setRow_old {w : World} {b : Nat} {o : Obj} (h : w.heap[b]? = some o) (g : Nat) (c : Array Value) (hg : b ≠ g) : (w.setRow g c).heap[b]? = some o := by
  simp only [World.setRow, Array.getElem?_modify]
  rw [if_neg (Ne.symm hg), h]
theorem Same.setCell {w w' : World} (h : Same w w') (b i : Nat) (v : Value) (hb : w.heap.size ≤ b) : Same w (w'.setCell ⟨b, i, none⟩ v) :=
  ⟨h.os, h.tape, h.output, by have := h.size; simpa [World.setCell] using this, fun k hk => (Below.heap_setCell _ _ _ _ (by show k ≠ b; omega)).trans (h.block k hk)⟩
theorem Same.setRow {w w' : World} (h : Same w w') (b : Nat) (c : Array Value) (hb : w.heap.size ≤ b) : Same w (w'.setRow b c) :=
  ⟨h.os, h.tape, h.output, by have := h.size; simpa [World.setRow] using this, fun k hk => by
    rw [← h.block k hk]
    simp only [World.setRow, Array.getElem?_modify]
    rw [if_neg (by omega)]⟩
theorem load_block {P : Program} {w : World} {b : Nat} {c : Array Value} {t : TypeId} {fz : Nat × Nat} (n : Nat) (hn : c.size = n) (h : w.heap[b]? = some (.cells c t fz)) :
    (loadCellsFrom ⟨b, 0, none⟩ 0 n #[]).run P w = .ok c w := by
  have := load_part (P := P) (o := 0) (n := n) c.toList (by simpa using hn) h (fun j v hv => by simpa using hv)
  simpa using this
theorem setCell_old {w : World} {b : Nat} {o : Obj} (h : w.heap[b]? = some o) (g i : Nat) (v : Value) (hg : b ≠ g) : (w.setCell ⟨g, i, none⟩ v).heap[b]? = some o := by
  rw [Below.heap_setCell _ _ _ _ hg, h]
theorem ac_set (l : List UInt8) (i c : Nat) (hc : c < 256) : (ac l).setIfInBounds i (.int .u8 (c : Nat)) = ac (l.set i (UInt8.ofNat c)) := by
  have e : Value.int .u8 (c : Nat) = bv (UInt8.ofNat c) := by unfold bv; rw [UInt8.toNat_ofNat_of_lt' hc]
  rw [e]
  unfold ac
  rw [List.map_set]
  simp
theorem alloc_old {w : World} {b : Nat} {o : Obj} (h : w.heap[b]? = some o) (o' : Obj) : (w.alloc o').heap[b]? = some o := ((Same.refl w).alloc o').obj h
theorem Only.same {b : Nat} {w w' : World} (k : Same w w') : Only b w w' := ⟨k.os, k.tape, k.output, k.size, fun i hi _ => k.block i hi⟩
theorem Only.rowNew {b : Nat} {u v : World} (h : Only b u v) (g : Nat) (c : Array Value) (hg : u.heap.size ≤ g) : Only b u (v.setRow g c) :=
  ⟨h.os, h.tape, h.output, by have := h.size; simpa [World.setRow] using this, fun i hi hb => by
    rw [← h.block i hi hb]
    simp only [World.setRow, Array.getElem?_modify]
    rw [if_neg (by omega)]⟩
theorem Only.cellNew {b : Nat} {u v : World} (h : Only b u v) (g i : Nat) (x : Value) (hg : u.heap.size ≤ g) : Only b u (v.setCell ⟨g, i, none⟩ x) :=
  ⟨h.os, h.tape, h.output, by have := h.size; simpa [World.setCell] using this, fun k hk hb => (Below.heap_setCell _ _ _ _ (by show k ≠ g; omega)).trans (h.block k hk hb)⟩
theorem Only.allocNew {b : Nat} {u v : World} (h : Only b u v) (o : Obj) : Only b u (v.alloc o) := h.trans (Only.same ((Same.refl v).alloc o))
theorem Only.drewNew {b : Nat} {u v : World} (h : Only b u v) : Only b u v.drew := ⟨h.os, h.tape, h.output, h.size, h.block⟩
theorem Same.only {u v w : World} {b : Nat} (h : Same u v) (k : Only b v w) (hb : u.heap.size ≤ b) : Same u w :=
  ⟨by rw [k.os]; exact h.os, by rw [k.tape]; exact h.tape, by rw [k.output]; exact h.output, Nat.le_trans h.size k.size, fun i hi => by rw [k.block i (Nat.lt_of_lt_of_le hi h.size) (by omega)]; exact h.block i hi⟩
theorem app_list (x y : List UInt8) : (⟨x.toArray⟩ ++ ⟨y.toArray⟩ : ByteArray) = ⟨(x ++ y).toArray⟩ := by
  apply ByteArray.ext; simp
theorem set_seg (L xs : List Value) (i : Nat) (x : Value) (h : i < L.length) : (L.set i x).take (i + 1) ++ xs ++ (L.set i x).drop (i + 1 + xs.length) = L.take i ++ (x :: xs) ++ L.drop (i + (x :: xs).length) := by
  rw [List.drop_set_of_lt (by omega), List.take_add_one, List.take_set_of_le (Nat.le_refl i)]
  simp [h, Nat.add_assoc, Nat.add_comm 1]
theorem fold_sets (o : Nat) : ∀ (xs : List Value) (k : Nat) (A : Array Value), o + k + xs.length ≤ A.size → (xs.zipIdx k).foldl (fun cs x => cs.setIfInBounds (o + x.snd) x.fst) A = (A.toList.take (o + k) ++ xs ++ A.toList.drop (o + k + xs.length)).toArray
  | [], k, A, _ => by simp
  | x :: xs, k, A, h => by
    have h2 : o + k < A.size := by simp at h; omega
    rw [List.zipIdx_cons, List.foldl_cons, fold_sets o xs (k + 1) _ (by simp at h ⊢; omega)]
    apply Array.ext'
    simp only [Array.toList_setIfInBounds]
    exact set_seg A.toList xs (o + k) x (by simpa using h2)
end Go.Proofs.YtpimecnpdpcceaaGreat.Bit

/- Proved: how a writer of package bits lies in memory. No condition. -/
namespace Go.Proofs.YtpimecnpdpcceaaGreat.Bit
open Go.RowKit

/-- A writer's cells. -/
def wc (p : Value) (l : List UInt8) (n : Nat) : Array Value := (p :: (l.map bv ++ [.int .i64 n])).toArray
/-- A block's cells. -/
def bc (p : Value) (l : List UInt8) : Array Value := (p :: l.map bv).toArray
/-- Blocks, the last one first. -/
def Chain (w : World) : List (List UInt8) → Value → Prop
  | [], p => p = .pointer none
  | c :: cs, p => ∃ g q, p = .pointer (some ⟨g, 0, none⟩) ∧ w.heap[g]? = some (.cells (bc q c) 145 (0, 0)) ∧ c.length = 64 ∧ Chain w cs q
/-- Every block of a chain stays. -/
def Keeps (w w' : World) : Prop := ∀ (g : Nat) (c : Array Value), w.heap[g]? = some (.cells c 145 (0, 0)) → w'.heap[g]? = some (.cells c 145 (0, 0))
theorem Chain.keep {w w' : World} (k : Keeps w w') : ∀ {cs : List (List UInt8)} {p : Value}, Chain w cs p → Chain w' cs p
  | [], _, h => h
  | _ :: _, _, ⟨g, q, hp, hg, hc, h⟩ => ⟨g, q, hp, k g _ hg, hc, Chain.keep k h⟩
theorem lt_of_block {w : World} {b : Nat} {o : Obj} (h : w.heap[b]? = some o) : b < w.heap.size := by
  rcases Nat.lt_or_ge b w.heap.size with h1 | h1
  · exact h1
  · rw [Array.getElem?_eq_none h1] at h; cases h
theorem Only.keeps {b : Nat} {w w' : World} (k : Only b w w') (h : ∀ c, w.heap[b]? ≠ some (.cells c 145 (0, 0))) : Keeps w w' := by
  intro g c hg
  by_cases e : g = b
  · subst e; exact absurd hg (h c)
  · rw [k.block g (lt_of_block hg) e]; exact hg
theorem Same.keeps {w w' : World} (k : Same w w') : Keeps w w' := fun _ _ hg => k.obj hg

/-- A writer lies in block b, of these parts. -/
structure WrP (w : World) (b : Nat) (bs : List Bool) (p : Value) (cs : List (List UInt8)) (last : List UInt8) : Prop where
  block : w.heap[b]? = some (.cells (wc p last bs.length) 117 (0, 0))
  len : last.length = 64
  chain : Chain w cs p
  count : cs.length = bs.length / 512
  bytes : cs.reverse.flatten ++ last = bytesN bs (64 * (bs.length / 512) + 64)
/-- A writer lies in block b: these bits are written. -/
def Wr (w : World) (b : Nat) (bs : List Bool) : Prop := ∃ p cs last, WrP w b bs p cs last
theorem Wr.other {w w' : World} {b c : Nat} {bs : List Bool} (h : Wr w b bs) (k : Only c w w') (hb : b ≠ c) (hc : ∀ a, w.heap[c]? ≠ some (.cells a 145 (0, 0))) : Wr w' b bs := by
  obtain ⟨p, cs, last, hp⟩ := h
  exact ⟨p, cs, last, by rw [k.block b (lt_of_block hp.block) hb]; exact hp.block, hp.len, hp.chain.keep (k.keeps hc), hp.count, hp.bytes⟩
theorem Wr.same {w w' : World} {b : Nat} {bs : List Bool} (h : Wr w b bs) (k : Same w w') : Wr w' b bs := by
  obtain ⟨p, cs, last, hp⟩ := h
  exact ⟨p, cs, last, k.obj hp.block, hp.len, hp.chain.keep k.keeps, hp.count, hp.bytes⟩
theorem Wr.lt {w : World} {b : Nat} {bs : List Bool} (h : Wr w b bs) : b < w.heap.size := by
  obtain ⟨p, cs, last, hp⟩ := h
  exact lt_of_block hp.block
theorem Wr.noBlock {w : World} {b : Nat} {bs : List Bool} (h : Wr w b bs) : ∀ a, w.heap[b]? ≠ some (.cells a 145 (0, 0)) := by
  obtain ⟨p, cs, last, hp⟩ := h
  intro a h
  rw [hp.block] at h
  injection h with h
  injection h with _ h _
  cases h

theorem chain_len : ∀ {w : World} {cs : List (List UInt8)} {p : Value}, Chain w cs p → cs.reverse.flatten.length = 64 * cs.length
  | _, [], _, _ => rfl
  | w, c :: cs, _, ⟨_, _, _, _, hc, h⟩ => by
    have := chain_len h
    simp only [List.reverse_cons, List.flatten_append, List.length_append, List.flatten_cons, List.flatten_nil, List.append_nil, List.length_cons, this, hc]
    omega
theorem wc_size (p : Value) (l : List UInt8) (n : Nat) (h : l.length = 64) : (wc p l n).size = 66 := by simp [wc, h]
theorem bc_size (p : Value) (l : List UInt8) (h : l.length = 64) : (bc p l).size = 65 := by simp [bc, h]
theorem wc_full (p : Value) (l : List UInt8) (n : Nat) : (wc p l n)[0]? = some p := by simp [wc]
theorem wc_n (p : Value) (l : List UInt8) (n : Nat) (h : l.length = 64) : (wc p l n)[65]? = some (.int .i64 n) := by simp [wc, h]
theorem wc_get (p : Value) (l : List UInt8) (n i : Nat) (h : i < l.length) : (wc p l n)[1 + i]? = some (.int .u8 (l[i].toNat : Nat)) := by
  rw [Nat.add_comm]
  simp [wc, List.getElem?_append, h, bv]
theorem bc_get (p : Value) (l : List UInt8) (i : Nat) (h : i < l.length) : (bc p l)[1 + i]? = some (.int .u8 (l[i].toNat : Nat)) := by
  rw [Nat.add_comm]
  simp [bc, h, bv]
theorem bc_full (p : Value) (l : List UInt8) : (bc p l)[0]? = some p := by simp [bc]
theorem wc_setn (p : Value) (l : List UInt8) (n m : Nat) (h : l.length = 64) : (wc p l n).setIfInBounds 65 (.int .i64 m) = wc p l m := by
  unfold wc
  apply Array.ext'
  simp only [Array.toList_setIfInBounds]
  rw [List.set_cons_succ, List.set_append_right _ _ (by simp; omega)]
  simp [h]
theorem wc_setp (p q : Value) (l : List UInt8) (n : Nat) : (wc p l n).setIfInBounds 0 q = wc q l n := by simp [wc]
theorem wc_setb (p : Value) (l : List UInt8) (n i c : Nat) (hi : i < l.length) (hc : c < 256) : (wc p l n).setIfInBounds (1 + i) (.int .u8 (c : Nat)) = wc p (l.set i (UInt8.ofNat c)) n := by
  have e : Value.int .u8 (c : Nat) = bv (UInt8.ofNat c) := by unfold bv; rw [UInt8.toNat_ofNat_of_lt' hc]
  rw [e]
  unfold wc
  apply Array.ext'
  simp only [Array.toList_setIfInBounds, List.map_set]
  rw [Nat.add_comm, List.set_cons_succ, List.set_append_left _ _ (by simp; omega)]
theorem wc_setl (p : Value) (l m : List UInt8) (n : Nat) (h : l.length = 64) (hm : m.length = 64) : ((wc p l n).toList.take 1 ++ (ac m).toList ++ (wc p l n).toList.drop (1 + (ac m).toList.length)).toArray = wc p m n := by
  unfold wc ac
  refine congrArg _ ?_
  simp only [List.length_map, hm]
  rw [List.take_succ_cons, List.take_zero, Nat.add_comm, List.drop_succ_cons, List.drop_append, List.drop_eq_nil_of_le (by simp; omega)]
  simp [h]
end Go.Proofs.YtpimecnpdpcceaaGreat.Bit

/- Proved: what the writer's put of package bits does to memory. Condition: the writer is known (Wr) and has fewer than 10^12 bits. -/
namespace Go.Proofs.YtpimecnpdpcceaaGreat.Bit
open Go.RowKit

theorem Only.setRow (b : Nat) (w : World) (c : Array Value) : Only b w (w.setRow b c) :=
  ⟨rfl, rfl, rfl, by simp [World.setRow], fun i _ hb => by
    simp only [World.setRow, Array.getElem?_modify]
    rw [if_neg (Ne.symm hb)]⟩
theorem or_bit (x c k : Nat) (hk : k < 8) (hx : x < 2 ^ k) (hc : c < 2) : bits .or .u8 (x : Int) ((c : Int) * 2 ^ k % 256) = ((x + c * 2 ^ k : Nat) : Int) ∧ x + c * 2 ^ k < 256 := by
  have h8 : 2 ^ k * 2 ≤ 256 := by
    have : 2 ^ k * 2 = 2 ^ (k + 1) := by rw [Nat.pow_succ]
    rw [this]; exact Nat.pow_le_pow_right (n := 2) (by omega) (show k + 1 ≤ 8 by omega)
  have hcp : c * 2 ^ k < 256 := by rcases (show c = 0 ∨ c = 1 by omega) with rfl | rfl <;> omega
  have e : ((c : Int) * 2 ^ k % 256) = ((c * 2 ^ k : Nat) : Int) := by
    have : ((c : Int) * 2 ^ k) = ((c * 2 ^ k : Nat) : Int) := by simp
    rw [this]; omega
  have hs : x + c * 2 ^ k < 256 := by rcases (show c = 0 ∨ c = 1 by omega) with rfl | rfl <;> omega
  refine ⟨?_, hs⟩
  rw [e, u8_or_nat x (c * 2 ^ k) (by omega) (by omega)]
  congr 1
  rw [Nat.or_comm, Nat.mul_comm, Nat.add_comm, Nat.two_pow_add_eq_or_of_lt hx]

theorem WrP.lastGet {w : World} {b : Nat} {bs : List Bool} {p : Value} {cs : List (List UInt8)} {last : List UInt8} (h : WrP w b bs p cs last) (hi : bs.length / 8 % 64 < last.length) : (last[bs.length / 8 % 64]'hi).toNat = byteN bs (bs.length / 8) := by
  have h1 : (cs.reverse.flatten ++ last)[bs.length / 8]? = last[bs.length / 8 % 64]? := by
    have hl := chain_len h.chain
    rw [h.count] at hl
    rw [List.getElem?_append_right (by omega), hl]
    congr 1
    omega
  rw [h.bytes, bytesN_get _ _ _ (by omega), List.getElem?_eq_getElem hi] at h1
  injection h1 with h1
  rw [← h1, UInt8.toNat_ofNat_of_lt' (byteN_lt _ _)]
theorem WrP.lastSet {w : World} {b : Nat} {bs : List Bool} {p : Value} {cs : List (List UInt8)} {last : List UInt8} (h : WrP w b bs p cs last) (c : Bool) :
    cs.reverse.flatten ++ last.set (bs.length / 8 % 64) (UInt8.ofNat (byteN bs (bs.length / 8) + c.toNat * 2 ^ (bs.length % 8))) = bytesN (bs ++ [c]) (64 * (bs.length / 512) + 64) := by
  rw [bytesN_snoc, ← h.bytes]
  have hl := chain_len h.chain
  rw [h.count] at hl
  rw [List.set_append_right _ _ (by omega), hl]
  congr 2
  omega
theorem load_last {P : Program} {w : World} {b k : Nat} {t : TypeId} {fz : Nat × Nat} (p : Value) (l : List UInt8) (n : Nat) (hk : l.length = k) (h : w.heap[b]? = some (.cells (wc p l n) t fz)) :
    (loadCellsFrom ⟨b, 1, none⟩ 0 k #[]).run P w = .ok (ac l) w := by
  refine load_part (l.map bv) (by simpa using hk) h ?_
  intro j v hv
  have hj : j < l.length := by
    have := (List.getElem?_eq_some_iff.1 hv).1
    simpa using this
  rw [wc_get p l n j hj]
  simp [hj, bv] at hv
  rw [hv]
def zl : List UInt8 := List.replicate 64 0
theorem zl_len : zl.length = 64 := rfl
theorem chain_ptr {w : World} : ∀ {cs : List (List UInt8)} {p : Value}, Chain w cs p → ∃ q, p = .pointer q
  | [], _, h => ⟨none, h⟩
  | _ :: _, _, ⟨g, _, hp, _⟩ => ⟨some ⟨g, 0, none⟩, hp⟩
theorem bc_setp (p q : Value) (l : List UInt8) : (bc p l).setIfInBounds 0 q = bc q l := by simp [bc]
theorem bc_fold (p : Value) (l m : List UInt8) (hl : l.length = 64) (hm : m.length = 64) : Array.foldl (fun cs x => cs.setIfInBounds (1 + x.snd) x.fst) (bc p l) (ac m).zipIdx 0 (ac m).size = bc p m := by
  rw [show (ac m).size = (ac m).zipIdx.size by simp, ← Array.foldl_toList, Array.toList_zipIdx]
  rw [fold_sets 1 (ac m).toList 0 (bc p l) (by rw [bc_size p l hl]; simp [ac, hm])]
  unfold bc ac
  refine congrArg _ ?_
  simp only
  simp [hl, hm]
theorem info61 : (Tryz.prog.info? 145).map (fun i => (i.zero, i.size)) = some (some (.agg (bc (.pointer none) zl)), 65) := by kernel_rfl
theorem info25 : (Tryz.prog.info? 115).map (fun i => (i.zero, i.size)) = some (some (.agg (ac zl)), 64) := by kernel_rfl

set_option maxRecDepth 100000 in
set_option maxHeartbeats 400000 in
theorem put_at (b : Nat) (c : Bool) (bs : List Bool) (w : World) (h : Wr w b bs) (hl : bs.length < 1000000000000) : Calls Tryz.prog 116 #[.pointer (some ⟨b, 0, none⟩), .int .u8 (c.toNat : Nat)] w fun e w' => e = .returned (.tuple #[]) ∧ Wr w' b (bs ++ [c]) ∧ Only b w w' := by
  obtain ⟨p, cs, last, hp⟩ := h
  obtain ⟨q, rfl⟩ := chain_ptr hp.chain
  have hlen := hp.len
  have hi : bs.length / 8 % 64 < last.length := by omega
  have hx := hp.lastGet hi
  have hset := hp.lastSet c
  have hbl := hp.block
  have cb : w.cell? ⟨b, 1 + bs.length / 8 % 64, none⟩ = some (.int .u8 ((last[bs.length / 8 % 64]'hi).toNat : Nat)) := cell_obj hp.block (wc_get (.pointer q) last _ _ hi)
  rw [hx] at cb
  obtain ⟨hor, hy⟩ := or_bit (byteN bs (bs.length / 8)) c.toNat (bs.length % 8) (by omega) (byteN_last_lt bs) (by cases c <;> simp)
  clear hx
  have Hlen := Lib.hid (show (bs ++ [c]).length = bs.length + 1 by simp)
  have Hcnt := Lib.hid hp.count
  have Hch := Lib.hid hp.chain
  have hls : (last.set (bs.length / 8 % 64) (UInt8.ofNat (byteN bs (bs.length / 8) + c.toNat * 2 ^ (bs.length % 8)))).length = 64 := by simpa using hlen
  have hws := wc_setb (.pointer q) last bs.length _ _ hi hy
  clear hp
  generalize byteN bs (bs.length / 8) + c.toNat * 2 ^ (bs.length % 8) = y at *
  generalize byteN bs (bs.length / 8) = x at *
  generalize last.set (bs.length / 8 % 64) (UInt8.ofNat y) = l2 at *
  generalize bs ++ [c] = bs2 at *
  generalize bs.length = n at *
  have c65 : w.cell? ⟨b, 65, none⟩ = some (.int .i64 n) := cell_obj hbl (wc_n (.pointer q) last _ hlen)
  have hfr : ∀ i, w.frozen? ⟨b, i, none⟩ = false := fun i => by simp [World.frozen?, hbl]
  obtain ⟨n64, hn64⟩ : ∃ n, n = 64 := ⟨64, rfl⟩
  have hsz : ∀ w, (Go.sizeOf 115).run Tryz.prog w = .ok n64 w := fun w => by rw [hn64]; exact Tryz.sizeOf115 w
  have hn0 : ¬ n64 = 0 := by omega
  have hb2 : (w.setCell ⟨b, 1 + n / 8 % 64, none⟩ (.int .u8 (y : Nat))).drew.heap[b]? = some (.cells (wc (.pointer q) l2 n) 117 (0, 0)) := by
    have := block_set hbl (1 + n / 8 % 64) (.int .u8 (y : Nat))
    rw [hws] at this; exact this
  have ho2 : Only b w (w.setCell ⟨b, 1 + n / 8 % 64, none⟩ (.int .u8 (y : Nat))).drew := (Only.setCell b _ w _).drewNew
  have Hb2 := Lib.hid hb2
  have Ho2 := Lib.hid ho2
  have Hset := Lib.hid hset
  have HNB := Lib.hid (show ∀ a, w.heap[b]? ≠ some (.cells a 145 (0, 0)) from fun a h => by rw [hbl] at h; injection h with h; injection h with _ h _; cases h)
  have Hn64 := Lib.hid hn64
  clear hbl hws hset hb2 ho2 hn64 hi
  go_enter Tryz.func116, Tryz.ntmps116
  go_wp2_with fail
  go_region
  generalize (w.setCell ⟨b, 1 + n / 8 % 64, none⟩ (.int .u8 (y : Nat))).drew = w2 at *
  clear cb c65 hfr hor
  have c65 : w2.cell? ⟨b, 65, none⟩ = some (.int .i64 n) := cell_obj Hb2.out (wc_n (.pointer q) l2 _ hls)
  have hfr : ∀ i, w2.frozen? ⟨b, i, none⟩ = false := fun i => by simp [World.frozen?, Hb2.out]
  have Hb3 := Lib.hid (show (w2.setCell ⟨b, 65, none⟩ (.int .i64 (n + 1 : Nat))).heap[b]? = some (.cells (wc (.pointer q) l2 (n + 1)) 117 (0, 0)) by
    rw [block_set Hb2.out, wc_setn (.pointer q) l2 n (n + 1) hls])
  have Ho3 := Lib.hid (Ho2.out.trans (Only.setCell b 65 w2 (.int .i64 (n + 1 : Nat))))
  rw [show ((n + 1 : Nat) : Int) = (n : Int) + 1 by omega] at Hb3 Ho3
  have Hch3 := Lib.hid (Hch.out.keep (Ho3.out.keeps HNB.out))
  by_cases h512 : (n + 1) % 512 = 0
  · have c0 : (w2.setCell ⟨b, 65, none⟩ (.int .i64 ((n : Int) + 1))).cell? ⟨b, 0, none⟩ = some (.pointer q) := cell_obj Hb3.out (wc_full (.pointer q) l2 _)
    have hfr3 : ∀ i, (w2.setCell ⟨b, 65, none⟩ (.int .i64 ((n : Int) + 1))).frozen? ⟨b, i, none⟩ = false := fun i => by simp [World.frozen?, Hb3.out]
    have hl1 : (loadCellsFrom ⟨b, 1, none⟩ 0 n64 #[]).run Tryz.prog (w2.setCell ⟨b, 65, none⟩ (.int .i64 ((n : Int) + 1))).drew = .ok (ac l2) (w2.setCell ⟨b, 65, none⟩ (.int .i64 ((n : Int) + 1))).drew := load_last (.pointer q) l2 (n + 1) (by rw [hls, Hn64.out]) Hb3.out
    obtain ⟨hz, _⟩ := zero_of_info info61
    obtain ⟨n65, hn65⟩ : ∃ n, n = 65 := ⟨65, rfl⟩
    have hsz65 : ∀ w, (Go.sizeOf 145).run Tryz.prog w = .ok n65 w := fun w => by rw [hn65]; exact Tryz.sizeOf145 w
    have z1 : (bc (.pointer none) zl).size = 65 := bc_size _ _ zl_len
    have z2 : (bc (.pointer q) zl).size = 65 := bc_size _ _ zl_len
    have z3 : (bc (.pointer q) l2).size = n65 := by rw [hn65]; exact bc_size _ _ hls
    have hne : bc (.pointer none) zl ≠ #[] := by intro h; rw [h] at z1; simp at z1
    have hac : (ac l2).size = n64 := by rw [ac_size, hls, Hn64.out]
    have hn17 : ¬ 65 < 1 + n64 := by rw [Hn64.out]; omega
    have f1 := bc_setp (.pointer none) (.pointer q) zl
    have f2 := bc_fold (.pointer q) zl l2 zl_len hls
    rw [hac] at f2
    have hc4 : ∀ o, ((w2.setCell ⟨b, 65, none⟩ (.int .i64 ((n : Int) + 1))).alloc o).cell? ⟨b, 0, none⟩ = some (.pointer q) := fun o => cell_obj (alloc_old Hb3.out o) (wc_full (.pointer q) l2 _)
    have hfr4 : ∀ o i, ((w2.setCell ⟨b, 65, none⟩ (.int .i64 ((n : Int) + 1))).alloc o).frozen? ⟨b, i, none⟩ = false := fun o i => by simp [World.frozen?, alloc_old Hb3.out o]
    go_wp2_with fail
    go_region
    have hs3 : (w2.setCell ⟨b, 65, none⟩ (.int .i64 ((n : Int) + 1))).heap.size = w2.heap.size := by simp [World.setCell]
    have hlt : b ≠ w2.heap.size := by have := lt_of_block Hb2.out; omega
    have g1 : (((w2.setCell ⟨b, 65, none⟩ (.int .i64 ((n : Int) + 1))).alloc (.cells (bc (.pointer q) l2) 145)).setCell ⟨b, 0, none⟩ (.pointer (some ⟨w2.heap.size, 0, none⟩))).drew.heap[b]? = some (.cells (wc (.pointer (some ⟨w2.heap.size, 0, none⟩)) l2 (n + 1)) 117 (0, 0)) := by
      have := block_set (alloc_old Hb3.out (.cells (bc (.pointer q) l2) 145)) 0 (.pointer (some ⟨w2.heap.size, 0, none⟩))
      rw [wc_setp] at this; exact this
    have g2 : (((w2.setCell ⟨b, 65, none⟩ (.int .i64 ((n : Int) + 1))).alloc (.cells (bc (.pointer q) l2) 145)).setCell ⟨b, 0, none⟩ (.pointer (some ⟨w2.heap.size, 0, none⟩))).drew.heap[w2.heap.size]? = some (.cells (bc (.pointer q) l2) 145 (0, 0)) := by
      have := heap_alloc_last (w2.setCell ⟨b, 65, none⟩ (.int .i64 ((n : Int) + 1))) (.cells (bc (.pointer q) l2) 145)
      rw [hs3] at this
      exact setCell_old this b 0 _ (Ne.symm hlt)
    have g3 : Only b w (((w2.setCell ⟨b, 65, none⟩ (.int .i64 ((n : Int) + 1))).alloc (.cells (bc (.pointer q) l2) 145)).setCell ⟨b, 0, none⟩ (.pointer (some ⟨w2.heap.size, 0, none⟩))).drew := ((Ho3.out.allocNew _).trans (Only.setCell b 0 _ _)).drewNew
    generalize (((w2.setCell ⟨b, 65, none⟩ (.int .i64 ((n : Int) + 1))).alloc (.cells (bc (.pointer q) l2) 145)).setCell ⟨b, 0, none⟩ (.pointer (some ⟨w2.heap.size, 0, none⟩))).drew = w4 at *
    generalize w2.heap.size = g at *
    have hst : (storeCells ⟨b, 1, none⟩ (ac zl).toList).run Tryz.prog w4 = .ok () (w4.setRow b (wc (.pointer (some ⟨g, 0, none⟩)) zl (n + 1))) := by
      have := run_storeCells_at Tryz.prog b 1 117 (ac zl).toList 0 _ w4 g1 (by rw [wc_size _ _ _ hls]; simp [ac, zl_len]) (ac_one zl)
      rw [Nat.add_zero, wc_setl _ l2 zl (n + 1) hls zl_len] at this
      exact this
    have hzs : (ac zl).size = n64 := by rw [ac_size, zl_len, Hn64.out]
    obtain ⟨hz25, _⟩ := zero_of_info info25
    have G1 := Lib.hid g1
    have G2 := Lib.hid g2
    have G3 := Lib.hid g3
    clear g1 g2 g3 hc4 hfr4 hs3 c0 hfr3 hl1 hz f1 f2 z1 z2 z3 hne hac hsz65
    go_wp2
    go_returns
    have ho5 : Only b w (w4.setRow b (wc (.pointer (some ⟨g, 0, none⟩)) zl (n + 1))) := G3.out.trans (Only.setRow b w4 _)
    have hk5 : Keeps w (w4.setRow b (wc (.pointer (some ⟨g, 0, none⟩)) zl (n + 1))) := ho5.keeps HNB.out
    refine ⟨rfl, ⟨.pointer (some ⟨g, 0, none⟩), l2 :: cs, zl, ?_, zl_len, ⟨g, .pointer q, rfl, setRow_old G2.out _ _ (Ne.symm hlt), hls, Hch.out.keep hk5⟩, ?_, ?_⟩, ho5⟩
    · rw [Hlen.out]; exact block_row G1.out _
    · rw [Hlen.out, List.length_cons, Hcnt.out]; omega
    · rw [List.reverse_cons, List.flatten_append, List.flatten_cons, List.flatten_nil, List.append_nil, Hset.out]
      have e : 64 * (bs2.length / 512) + 64 = (64 * (n / 512) + 64) + 64 := by rw [Hlen.out]; omega
      rw [e, bytesN_more bs2 (64 * (n / 512) + 64) 64 (by rw [Hlen.out]; omega)]
      rfl
  · go_wp2
    go_returns
    refine ⟨rfl, ⟨.pointer q, cs, l2, ?_, hls, Hch3.out, ?_, ?_⟩, Ho3.out⟩
    · rw [Hlen.out]; exact Hb3.out
    · rw [Hlen.out, Hcnt.out]; omega
    · rw [Hset.out, Hlen.out]; congr 1; omega
end Go.Proofs.YtpimecnpdpcceaaGreat.Bit

/- Laid at this program: the library's contracts of bits_Len64, each with the facts on this program's functions and types that it asks. No condition of our own. -/
namespace Go.Proofs
open Go.Shelf
def Tryz.lays129_ren : Go.Shelf.Ren := ⟨fun | 129 => 87 | n => n, fun | 53 => 64 | 3 => 3 | 4 => 4 | 46 => 110 | 5 => 5 | 9 => 9 | n => n, fun | n => n⟩
theorem Tryz.lays129 : Go.Proofs.Lays.n129 Tryz.prog Tryz.lays129_ren := {
  mixed := by kernel_rfl
  f129 := Tryz.func87.trans (congrArg some (by kernel_rfl))
  t3 := Tryz.underlying3
  a3 := Tryz.isAgg3
  z3 := Tryz.sizeOf3
  v3 := Tryz.zeroValue3
  t4 := Tryz.underlying4
  a4 := Tryz.isAgg4
  z4 := Tryz.sizeOf4
  v4 := Tryz.zeroValue4
  t5 := Tryz.underlying5
  a5 := Tryz.isAgg5
  z5 := Tryz.sizeOf5
  v5 := Tryz.zeroValue5
  t9 := Tryz.underlying9
  a9 := Tryz.isAgg9
  z9 := Tryz.sizeOf9
  v9 := Tryz.zeroValue9
  t46 := Tryz.underlying110
  a46 := Tryz.isAgg110
  z46 := Tryz.sizeOf110
  v46 := Tryz.zeroValue110
  t53 := Tryz.underlying64
  a53 := Tryz.isAgg64
  z53 := Tryz.sizeOf64
  v53 := Tryz.zeroValue64 }
theorem Tryz.bits_Len64 (x : Int) (w : World) (h0 : 0 ≤ x) (h1 : x ≤ 18446744073709551615) :
    Calls Tryz.prog 87 #[.int .u64 x] w fun e w' => e = .returned (.int .i64 (Lib.bitLen x.toNat)) ∧ w' = w := Any.bits_Len64 Tryz.lays129 x w h0 h1
end Go.Proofs

/- Proved: what the writer's Bits, Code and Len of package bits do to memory and answer. Condition: the writer is known (Wr) and has fewer than 10^12 bits, or the pointer is nil; numbers fit. -/
namespace Go.Proofs.YtpimecnpdpcceaaGreat.Bit
open Go.RowKit

/-- How many bits a call of a writer's Bits writes. -/
def manyN (n : Int) : Nat := (min n 64).toNat
def WrPost (b : Nat) (w : World) (bs : List Bool) (e : Ending) (w' : World) : Prop := e = .returned (.tuple #[]) ∧ Wr w' b bs ∧ Only b w w'
def BRel (w : World) (b v : Nat) (bs : List Bool) (m : Nat) (cv : Value) (wr : World) : Prop :=
  ∃ k : Nat, cv = .int .i64 k ∧ k ≤ m ∧ Wr wr b (bs ++ bitsL v k) ∧ Only b w wr

theorem bit_div (v k : Nat) : ((v.testBit k).toNat : Nat) = v / 2 ^ k % 2 := by
  rw [Nat.testBit_eq_decide_div_mod_eq]
  rcases (show v / 2 ^ k % 2 = 0 ∨ v / 2 ^ k % 2 = 1 by omega) with h | h <;> simp [h]
theorem and_bit (v k : Nat) (hv : v < 2 ^ 64) : bits .and .u64 ((v : Int) / 2 ^ k) 1 % 256 = ((v.testBit k).toNat : Nat) := by
  have h2 : v / 2 ^ k ≤ v := Nat.div_le_self _ _
  have h := u64_and_nat (v / 2 ^ k) 1 (by omega) (by omega)
  rw [show ((v : Int) / 2 ^ k) = ((v / 2 ^ k : Nat) : Int) by simp, show (1 : Int) = ((1 : Nat) : Int) by rfl, h, Nat.and_one_is_mod, bit_div]
  omega

set_option maxRecDepth 100000 in
set_option maxHeartbeats 400000 in
theorem wbits_at (b v : Nat) (n : Int) (bs : List Bool) (w : World) (hv : v < 2 ^ 64) (h : Wr w b bs) (hl : bs.length + 64 ≤ 1000000000000) : Calls Tryz.prog 88 #[.pointer (some ⟨b, 0, none⟩), .int .u64 v, .int .i64 n] w (WrPost b w (bs ++ bitsL v (manyN n))) := by
  obtain ⟨m, hm⟩ : ∃ m, min n 64 = m := ⟨_, rfl⟩
  have hmin : ∀ w ts t, (Builtin.min_ ts t #[.int .i64 n, .int .i64 64]).run Tryz.prog w = .ok (.int .i64 m) w := fun w ts t => by
    rw [run_min_int2, show (if (64 : Int) < n then 64 else n) = m by omega]
  have hm64 : m ≤ 64 := by omega
  rw [manyN, hm]
  have HV := Lib.hid hv
  have HL := Lib.hid hl
  have HW := Lib.hid h
  clear hm hv hl h
  go_enter Tryz.func88, Tryz.ntmps88
  go_wp2_with fail
  go_loopw [11] (fun cv wr => BRel w b v bs m.toNat cv wr) (fun cv _ => 64 - (intOf cv).toNat)
  case atStart => exact ⟨0, rfl, by omega, by rw [bitsL_zero, List.append_nil]; exact HW.out, Only.refl _ _⟩
  case round =>
    obtain ⟨k, rfl, hk, hw, ho⟩ := hrel
    have HWr := Lib.hid hw
    have HOr := Lib.hid ho
    clear hw ho HW
    by_cases hkm : (k : Int) < m
    · go_wp2_with fail
      rw [and_bit v k HV.out]
      refine (put_at b (v.testBit k) _ wr HWr.out (by have := HL.out; simp [bitsL_len]; omega)).mono ?_
      rintro e w2 ⟨rfl, hw2, ho2⟩
      rw [List.append_assoc, ← bitsL_succ] at hw2
      go_wp2
      go_roundw
      case rel => exact ⟨k + 1, by go_num, by omega, hw2, HOr.out.trans ho2⟩
      case measure => simp [intOf]; omega
    · go_wp2
      go_returns
      have e : m.toNat = k := by omega
      rw [e]
      exact ⟨rfl, HWr.out, HOr.out⟩

set_option maxHeartbeats 400000 in
theorem wbits_nil (v n : Int) (w : World) : Calls Tryz.prog 88 #[.pointer none, .int .u64 v, .int .i64 n] w fun e w' => e = .returned (.tuple #[]) ∧ w' = w := by
  go_enter Tryz.func88, Tryz.ntmps88
  go_wp2
  go_returns
  exact ⟨rfl, rfl⟩

theorem bitLen_log (x : Nat) (h : x + 1 < 2 ^ 64) : Lib.bitLen (x + 1) = (x + 1).log2 + 1 := by
  have h1 : 2 ^ (x + 1).log2 ≤ x + 1 := Nat.log2_self_le (by omega)
  have h2 : x + 1 < 2 ^ ((x + 1).log2 + 1) := Nat.lt_log2_self
  rw [Lib.bitLen_shift _ _ h1 h]
  have e : (x + 1) / 2 ^ (x + 1).log2 = 1 := by
    rw [Nat.pow_succ] at h2
    have hpos : 0 < 2 ^ (x + 1).log2 := Nat.pow_pos (by omega)
    exact Nat.div_eq_of_lt_le (by omega) (by omega)
  rw [e]
  rfl
/-- The greatest number that has a code. -/
def capN (v : Nat) : Nat := min v 9223372036854775808
theorem code_parts (bs : List Bool) (x : Nat) : bs ++ bitsL 0 (x + 1).log2 ++ bitsL 1 1 ++ bitsL (x + 1) (x + 1).log2 = bs ++ codeL x := by
  rw [bitsL_of_zero, show bitsL 1 1 = [true] from rfl]
  simp [codeL]

set_option maxRecDepth 100000 in
set_option maxHeartbeats 400000 in
theorem wcode_core (pv : Value) (v : Nat) (w : World) (hv : v < 2 ^ 64) (J : List Bool → World → Prop) (h : J [] w)
    (hB : ∀ (u k : Nat) (bs : List Bool) (w : World), u < 2 ^ 64 → k ≤ 64 → bs.length + k ≤ 127 → J bs w → Calls Tryz.prog 88 #[pv, .int .u64 u, .int .i64 k] w fun e w' => e = .returned (.tuple #[]) ∧ J (bs ++ bitsL u k) w') :
    Calls Tryz.prog 65 #[pv, .int .u64 v] w fun e w' => e = .returned (.tuple #[]) ∧ J (codeL (capN v)) w' := by
  obtain ⟨x, hx⟩ : ∃ x, capN v = x := ⟨_, rfl⟩
  have hx2 : x ≤ 9223372036854775808 := by unfold capN at hx; omega
  have hmin : ∀ w ts t, (Builtin.min_ ts t #[.int .u64 v, .int .u64 9223372036854775808]).run Tryz.prog w = .ok (.int .u64 x) w := fun w ts t => by
    rw [run_min_int2, show (if (9223372036854775808 : Int) < v then 9223372036854775808 else (v : Int)) = x by unfold capN at hx; split <;> omega]
  have hlen := bitLen_log x (by omega)
  have hk : (x + 1).log2 < 64 := log2_succ_lt x 64 (by omega)
  have hcp := code_parts [] x
  have HJ := Lib.hid h
  have HB := Lib.hid hB
  have HLn := Lib.hid (fun w => Tryz.bits_Len64 (x + 1 : Nat) w (by omega) (by omega))
  rw [Int.toNat_natCast, hlen] at HLn
  have HCP := Lib.hid hcp
  have HX := Lib.hid hx
  clear h hB hcp hlen hv hx
  generalize hkk : (x + 1).log2 = k at *
  have HKK := Lib.hid hkk
  clear hkk
  go_enter Tryz.func65, Tryz.ntmps65
  go_wp2_with fail
  refine (HLn.out _).mono ?_
  rintro e w1 ⟨rfl, rfl⟩
  go_wp2_with fail
  refine (HB.out 0 k [] _ (by omega) (by omega) (by simp; omega) HJ.out).mono ?_
  rintro e w2 ⟨rfl, hj2⟩
  go_wp2_with fail
  refine (HB.out 1 1 _ _ (by omega) (by omega) (by simp [bitsL_len]; omega) hj2).mono ?_
  rintro e w3 ⟨rfl, hj3⟩
  go_wp2_with fail
  refine (HB.out (x + 1) k _ _ (by omega) (by omega) (by simp [bitsL_len]; omega) hj3).mono ?_
  rintro e w4 ⟨rfl, hj4⟩
  rw [HCP.out] at hj4
  go_wp2
  go_returns
  rw [HX.out]
  exact ⟨rfl, hj4⟩
theorem codeL_short (v : Nat) : (codeL (capN v)).length ≤ 127 := by
  rw [codeL_len]
  have := log2_succ_lt (capN v) 64 (by unfold capN; omega)
  omega
theorem wcode_at (b v : Nat) (bs : List Bool) (w : World) (hv : v < 2 ^ 64) (h : Wr w b bs) (hl : bs.length + 192 ≤ 1000000000000) : Calls Tryz.prog 65 #[.pointer (some ⟨b, 0, none⟩), .int .u64 v] w (WrPost b w (bs ++ codeL (capN v))) := by
  refine wcode_core _ v w hv (fun l w' => Wr w' b (bs ++ l) ∧ Only b w w') ⟨by rw [List.append_nil]; exact h, Only.refl _ _⟩ ?_
  rintro u k l w1 hu hk hlk ⟨h1, h2⟩
  refine (wbits_at b u k (bs ++ l) w1 hu h1 (by rw [List.length_append]; omega)).mono ?_
  rintro e w2 ⟨rfl, h3, h4⟩
  refine ⟨rfl, ?_, h2.trans h4⟩
  rw [← List.append_assoc]
  have e : manyN (k : Int) = k := by unfold manyN; omega
  rw [e] at h3
  exact h3
theorem wcode_nil (v : Nat) (w : World) (hv : v < 2 ^ 64) : Calls Tryz.prog 65 #[.pointer none, .int .u64 v] w fun e w' => e = .returned (.tuple #[]) ∧ w' = w := by
  refine wcode_core _ v w hv (fun _ w' => w' = w) rfl ?_
  rintro u k l w1 hu hk hlk rfl
  exact wbits_nil u k w1

set_option maxHeartbeats 400000 in
theorem wlen_at (b : Nat) (bs : List Bool) (w : World) (h : Wr w b bs) : Calls Tryz.prog 89 #[.pointer (some ⟨b, 0, none⟩)] w fun e w' => e = .returned (.int .i64 bs.length) ∧ w' = w := by
  obtain ⟨p, cs, last, hp⟩ := h
  have c65 : w.cell? ⟨b, 65, none⟩ = some (.int .i64 bs.length) := cell_obj hp.block (wc_n p last _ hp.len)
  clear hp
  go_enter Tryz.func89, Tryz.ntmps89
  go_wp2
  go_ret
  exact ⟨rfl, rfl⟩
set_option maxHeartbeats 400000 in
theorem wlen_nil (w : World) : Calls Tryz.prog 89 #[.pointer none] w fun e w' => e = .returned (.int .i64 0) ∧ w' = w := by
  go_enter Tryz.func89, Tryz.ntmps89
  go_wp2
  go_ret
  exact ⟨rfl, rfl⟩
set_option maxHeartbeats 400000 in
theorem wstring_nil (w : World) : Calls Tryz.prog 67 #[.pointer none] w fun e w' => e = .returned (.string ⟨#[]⟩) ∧ w' = w := by
  go_enter Tryz.func67, Tryz.ntmps67
  go_wp2
  go_ret
  exact ⟨rfl, rfl⟩
end Go.Proofs.YtpimecnpdpcceaaGreat.Bit

/- Proved: what the writer's String of package bits answers. Condition: the writer is known (Wr) and has fewer than 10^12 bits. -/
namespace Go.Proofs.YtpimecnpdpcceaaGreat.Bit
open Go.RowKit

theorem info5 : (Tryz.prog.info? 5).map (·.size) = some 1 := by kernel_rfl
theorem info5b : (Tryz.prog.info? 5).map (fun i => (i.zero, i.size, i.bytes)) = some (some (.int .u8 0), 1, 1) := by kernel_rfl
theorem made_ac (k : Nat) : madeCells (Value.int .u8 0).cells (k * 1) = ac (List.replicate k 0) := by
  apply Array.ext
  · rw [size_madeCells, ac_size]; simp
  · intro i h1 h2
    simp [madeCells, Value.cells, ac, bv, Nat.mod_one]
theorem make_at (k : Nat) (hk : k ≤ 281474976710656) (w : World) : (Instr.makeSlice 96 (.int .i64 k) (.int .i64 k)).run Tryz.prog w = .ok (.slice (some ⟨w.heap.size, 0, none⟩) k k) (w.alloc (.cells (ac (List.replicate k 0)) 5)) := by
  obtain ⟨i0, hi, hz0, hz1, hz2⟩ := info_parts info5b
  have h := run_make (P := Tryz.prog) w 96 5 i0 (.int .u8 0) Tryz.underlying96 hi hz0 .i64 .i64 k k (by omega) (Int.le_refl _) (by rw [hz2]; omega) (by omega)
  rw [h, hz1, Int.toNat_natCast, made_ac]
theorem copy_part (w : World) (g o m cap b p : Nat) (L c : List UInt8) (hg : w.heap[g]? = some (.cells (ac L) 5 (0, 0))) (hc : c.length = 64) (hsrc : ∀ j (h : j < c.length), w.cell? ⟨b, p + j, none⟩ = some (.int .u8 (c[j].toNat : Nat))) (hm : o + min 64 m ≤ L.length) :
    (Builtin.copy_ #[96, 96] 3 #[.slice (some ⟨g, o, none⟩) m cap, .slice (some ⟨b, p, none⟩) 64 64]).run Tryz.prog w = .ok (.int .i64 (min 64 m : Nat)) (w.setRow g (ac (L.take o ++ c.take (min 64 m) ++ L.drop (o + min 64 m)))) := by
  have hlen : ((c.take (min 64 m)).map bv).length = min 64 m := by simp; omega
  have h := run_copy_row (P := Tryz.prog) w 96 96 3 5 g o m cap ⟨b, p, none⟩ 64 64 (ac L) 5 ((c.take (min 64 m)).map bv) Tryz.underlying96 info5 hg (by rw [hlen])
    (fun j v hv => by
      have hadd : (⟨b, p, none⟩ : Addr).add j = ⟨b, p + j, none⟩ := by unfold Addr.add; split <;> simp_all
      have hj : j < min 64 m := by have := (List.getElem?_eq_some_iff.1 hv).1; omega
      have hj2 : j < c.length := by omega
      rw [hadd, hsrc j hj2, ← hv, List.getElem?_map, List.getElem?_take_of_lt hj, List.getElem?_eq_getElem hj2]
      rfl) (by rw [hlen, ac_size]; omega) (fun v hv => by
      simp only [List.mem_map] at hv
      obtain ⟨c, _, rfl⟩ := hv
      rfl)
  rw [h, hlen]
  have e : ((ac L).toList.take o ++ (c.take (min 64 m)).map bv ++ (ac L).toList.drop (o + min 64 m)).toArray = ac (L.take o ++ c.take (min 64 m) ++ L.drop (o + min 64 m)) := by
    unfold ac
    refine congrArg _ ?_
    simp
  rw [e]
  rfl
theorem conv_bytes {w : World} {b : Nat} {t : TypeId} {fz : Nat × Nat} (L : List UInt8) (h : w.heap[b]? = some (.cells (ac L) t fz)) (n cap : Nat) (hn : n = L.length) : (convert 96 9 (.slice (some ⟨b, 0, none⟩) n cap)).run Tryz.prog w = .ok (.string ⟨L.toArray⟩) w := by
  subst hn
  refine run_convert_bytes_back (P := Tryz.prog) w 96 9 5 ⟨b, 0, none⟩ cap L Tryz.underlying96 Tryz.underlying5 Tryz.underlying9 ?_
  intro j hj
  have hadd : (⟨b, 0, none⟩ : Addr).add j = ⟨b, j, none⟩ := by unfold Addr.add; split <;> simp_all
  rw [hadd]
  exact cell_obj h (ac_get L j hj)
theorem all_bytes (b p : Nat) (w : World) : (Instr.sliceAt 115 (.pointer (some ⟨b, p, none⟩)) none none none).run Tryz.prog w = .ok (.slice (some ⟨b, p, none⟩) 64 64) w := by
  have hn : Tryz.prog.arrayLen 115 = 64 := by kernel_rfl
  have he : Tryz.prog.elem 115 = 5 := by kernel_rfl
  have := run_sliceAt_array_all (P := Tryz.prog) w 115 ⟨b, p, none⟩ (by kernel_rfl)
  rw [this, he, Tryz.sizeOf5 w]
  simp [slicedAt, hn, Addr.add]

theorem from_at (g K a : Nat) (h : a ≤ K) (w : World) : (Instr.sliceAt 96 (.slice (some ⟨g, 0, none⟩) K K) (some (.int .i64 a)) none none).run Tryz.prog w = .ok (.slice (some ⟨g, if K = a then 0 else a, none⟩) (K - a) (K - a)) w := by
  have he : Tryz.prog.elem 96 = 5 := by kernel_rfl
  by_cases e : K = a
  · subst e
    go_simp
  · rw [if_neg e]
    go_simp
/-- The loop over blocks. -/
def StRel (w : World) (g K : Nat) (bs : List Bool) (av pv : Value) (wr : World) : Prop :=
  ∃ (a : Nat) (rest : List (List UInt8)) (tail : List UInt8), av = .int .i64 a ∧ a = 64 * rest.length ∧ Chain wr rest pv ∧ wr.heap[g]? = some (.cells (ac (List.replicate a 0 ++ tail)) 5 (0, 0)) ∧ rest.reverse.flatten ++ tail = bytesL bs ∧ a + tail.length = K ∧ Same w wr

theorem first_copy (K A : Nat) (last : List UInt8) (h : A ≤ K) (h64 : K - A ≤ 64) : (List.replicate K (0 : UInt8)).take (if K = A then 0 else A) ++ last.take (min 64 (K - A)) ++ (List.replicate K 0).drop ((if K = A then 0 else A) + min 64 (K - A)) = List.replicate A 0 ++ last.take (K - A) := by
  rw [Nat.min_eq_right h64]
  by_cases e : K = A
  · subst e; simp
  · rw [if_neg e, show A + (K - A) = K by omega]
    simp [Nat.min_eq_left h]

set_option maxRecDepth 100000 in
set_option maxHeartbeats 400000 in
theorem wstring_at (b : Nat) (bs : List Bool) (w : World) (h : Wr w b bs) (hl : bs.length ≤ 1000000000000) : Calls Tryz.prog 67 #[.pointer (some ⟨b, 0, none⟩)] w fun e w' => e = .returned (.string ⟨(bytesL bs).toArray⟩) ∧ Same w w' := by
  obtain ⟨p, cs, last, hp⟩ := h
  obtain ⟨q, rfl⟩ := chain_ptr hp.chain
  obtain ⟨g, hg⟩ : ∃ g, g = w.heap.size := ⟨_, rfl⟩
  have hlt : b ≠ g := by have := lt_of_block hp.block; omega
  obtain ⟨K, hK⟩ : ∃ K, K = (bs.length + 7) / 8 := ⟨_, rfl⟩
  obtain ⟨A, hA⟩ : ∃ A, A = 64 * (bs.length / 512) := ⟨_, rfl⟩
  have c65 : w.cell? ⟨b, 65, none⟩ = some (.int .i64 bs.length) := cell_obj hp.block (wc_n _ last _ hp.len)
  have c65a : ∀ o, (w.alloc o).cell? ⟨b, 65, none⟩ = some (.int .i64 bs.length) := fun o => cell_obj (alloc_old hp.block o) (wc_n _ last _ hp.len)
  have hmk : (Instr.makeSlice 96 (.int .i64 (((bs.length : Int) + 7) / 8)) (.int .i64 (((bs.length : Int) + 7) / 8))).run Tryz.prog w = .ok (.slice (some ⟨g, 0, none⟩) K K) (w.alloc (.cells (ac (List.replicate K 0)) 5)) := by
    have := make_at K (by omega) w
    rw [show ((K : Nat) : Int) = ((bs.length : Int) + 7) / 8 by omega, ← hg] at this
    exact this
  have hal := all_bytes
  have hsl : ∀ w, (Instr.sliceAt 96 (.slice (some ⟨g, 0, none⟩) K K) (some (.int .i64 ((bs.length : Int) / 512 * 64))) none none).run Tryz.prog w = .ok (.slice (some ⟨g, if K = A then 0 else A, none⟩) (K - A) (K - A)) w := fun w => by
    have := from_at g K A (by omega) w
    rw [show ((A : Nat) : Int) = (bs.length : Int) / 512 * 64 by omega] at this
    exact this
  have hgl : (w.alloc (.cells (ac (List.replicate K 0)) 5)).drew.heap[g]? = some (.cells (ac (List.replicate K 0)) 5 (0, 0)) := by rw [hg]; exact heap_alloc_last w _
  have hcp := copy_part (w.alloc (.cells (ac (List.replicate K 0)) 5)).drew g (if K = A then 0 else A) (K - A) (K - A) b 1 (List.replicate K 0) last hgl hp.len (fun j hj => cell_obj (alloc_old hp.block _) (wc_get _ last _ j hj)) (by rw [List.length_replicate]; split <;> omega)
  rw [first_copy K A last (by omega) (by omega)] at hcp
  have Hg2 := Lib.hid (block_row hgl (ac (List.replicate A 0 ++ last.take (K - A))))
  have Hs2 := Lib.hid ((((Same.refl w).alloc (.cells (ac (List.replicate K 0)) 5)).drew).setRow g (ac (List.replicate A 0 ++ last.take (K - A))) (by omega))
  have hB0 : ((w.alloc (.cells (ac (List.replicate K 0)) 5)).drew.setRow g (ac (List.replicate A 0 ++ last.take (K - A)))).heap[b]? = some (.cells (wc (.pointer q) last bs.length) 117 (0, 0)) := Hs2.out.obj hp.block
  have c0 := cell_obj hB0 (wc_full (.pointer q) last bs.length)
  have HC := Lib.hid (hp.chain.keep Hs2.out.keeps)
  have HB := Lib.hid (show cs.reverse.flatten ++ last.take (K - A) = bytesL bs by
    unfold bytesL
    rw [← bytesN_take bs (64 * (bs.length / 512) + 64) _ (by omega), ← hp.bytes, List.take_append, List.take_of_length_le (l := cs.reverse.flatten) (by rw [chain_len hp.chain, hp.count]; omega), chain_len hp.chain, hp.count, hK, hA])
  have Hcnt := Lib.hid hp.count
  have Hll := Lib.hid hp.len
  have HK := Lib.hid hK
  have HA := Lib.hid hA
  have HG := Lib.hid hg
  have hKl : K ≤ 1000000000000 := by omega
  clear hp hgl hB0 hK hA hg
  generalize hO : (if K = A then 0 else A) = O at *
  generalize hM : K - A = M at *
  generalize (w.alloc (.cells (ac (List.replicate K 0)) 5)).drew.setRow g (ac (List.replicate A 0 ++ last.take M)) = w3 at *
  have HO := Lib.hid hO
  have HM := Lib.hid hM
  clear hO hM
  generalize hn : bs.length = n at *
  have HN := Lib.hid hn
  clear hn
  go_enter Tryz.func67, Tryz.ntmps67
  go_wp2_with fail
  go_region
  clear c65 c65a hmk hsl hcp
  go_wp2_with fail
  go_loopw [4, 5] (fun av pv wr => StRel w g K bs av pv wr) (fun av _ _ => (intOf av).toNat)
  case atStart =>
    have e1 := HA.out
    have e2 := Hcnt.out
    have e3 := HM.out
    have e4 := HK.out
    exact ⟨A, cs, last.take M, by rw [e1]; congr 1; omega, by omega, HC.out, Hg2.out, HB.out, by rw [List.length_take, Hll.out]; omega, Hs2.out⟩
  case round =>
    obtain ⟨a, rest, tail, rfl, ha, hch, hgr, htl, hKt, hs⟩ := hrel
    have HSr := Lib.hid hs
    have HTl := Lib.hid htl
    clear c0 HC Hg2 Hs2 hs htl
    rcases rest with _ | ⟨c, rest⟩
    · obtain rfl := (show _ = Value.pointer none from hch)
      have ha0 : a = 0 := by simpa using ha
      subst ha0
      rw [List.replicate_zero, List.nil_append] at hgr
      have hcv := conv_bytes tail hgr K K (by omega)
      clear ha hKt hgr hal hch
      go_wp2
      go_ret
      refine ⟨?_, HSr.out⟩
      rw [← HTl.out]
      rfl
    · obtain ⟨gc, pq, rfl, hgc, hc64, hch2⟩ := hch
      obtain ⟨q2, rfl⟩ := chain_ptr hch2
      obtain ⟨a2, rfl⟩ : ∃ a2, a = a2 + 64 := ⟨64 * rest.length, by simp at ha; omega⟩
      have hne : gc ≠ g := by
        intro e; subst e; rw [hgr] at hgc; injection hgc with hgc; injection hgc with _ hgc _; cases hgc
      have hcg := cell_obj hgc (bc_full (.pointer q2) c)
      have hsl : ∀ w, (Instr.sliceAt 96 (.slice (some ⟨g, 0, none⟩) K K) (some (.int .i64 (a2 : Nat))) none none).run Tryz.prog w = .ok (.slice (some ⟨g, a2, none⟩) (K - a2) (K - a2)) w := fun w => by
        have := from_at g K a2 (by omega) w
        rw [if_neg (by omega)] at this
        exact this
      have hcp := copy_part wr.drew g a2 (K - a2) (K - a2) gc 1 _ c hgr hc64 (fun j hj => cell_obj hgc (bc_get _ c j hj)) (by rw [List.length_append, List.length_replicate]; omega)
      have e64 : List.take a2 (List.replicate (a2 + 64) 0 ++ tail) ++ List.take (min 64 (K - a2)) c ++ List.drop (a2 + min 64 (K - a2)) (List.replicate (a2 + 64) 0 ++ tail) = List.replicate a2 0 ++ (c ++ tail) := by
        rw [Nat.min_eq_left (by omega), List.take_of_length_le (l := c) (by omega), List.append_assoc]
        congr 1
        · rw [List.take_append_of_le_length (by simp)]; simp
        · congr 1
          exact List.drop_left' (by simp)
      rw [e64] at hcp
      have Hg4 := Lib.hid (block_row (w := wr.drew) hgr (ac (List.replicate a2 0 ++ (c ++ tail))))
      have hs4 : Same w (wr.drew.setRow g (ac (List.replicate a2 0 ++ (c ++ tail)))) := HSr.out.drew.setRow g _ (by rw [HG.out]; exact Nat.le_refl _)
      have hk4 : Keeps wr (wr.drew.setRow g (ac (List.replicate a2 0 ++ (c ++ tail)))) := by
        intro x y hx
        refine setRow_old hx g _ ?_
        intro e; subst e; rw [hgr] at hx; injection hx with hx; injection hx with _ hx _; cases hx
      have hc5 := cell_obj (hk4 _ _ hgc) (bc_full (.pointer q2) c)
      have HC4 := Lib.hid (hch2.keep hk4)
      have HS4 := Lib.hid hs4
      have HT4 := Lib.hid (show rest.reverse.flatten ++ (c ++ tail) = bytesL bs by rw [← HTl.out]; simp)
      have Hx := Lib.hid (show a2 = 64 * rest.length by simp at ha; omega)
      have Hy := Lib.hid (show a2 + (c ++ tail).length = K by rw [List.length_append]; omega)
      have ha2 : a2 + 64 ≤ 1000000000000 := by omega
      clear hk4 hs4 hch2 hgc hgr ha hKt e64 hc64
      generalize wr.drew.setRow g (ac (List.replicate a2 0 ++ (c ++ tail))) = w4 at *
      generalize K - a2 = M2 at *
      generalize min 64 M2 = M3 at *
      go_wp2_with fail
      go_region
      go_wp2
      go_roundw
      case rel => exact ⟨a2, rest, c ++ tail, rfl, Hx.out, HC4.out, Hg4.out, HT4.out, Hy.out, HS4.out⟩
      case measure => simp [intOf]; omega
end Go.Proofs.YtpimecnpdpcceaaGreat.Bit

/- Proved: what the reader's calls Err, Left, Bits and Code of package bits answer, and what becomes of memory. Condition: the reader's cells are known (Rd), or the pointer is nil; numbers fit. -/
namespace Go.Proofs.YtpimecnpdpcceaaGreat.Bit
open Go.RowKit

theorem val_le (l : List Bool) (k : Nat) (h : k ≤ l.length) : valL (l.take k) < 2 ^ k := by
  have := valL_lt (l.take k)
  rwa [List.length_take, Nat.min_eq_left h] at this

/-- A reader's cells. -/
def rc (s : List UInt8) (k : Nat) (x : Int) : Array Value := #[.string ⟨s.toArray⟩, .int .i64 k, .int .i64 x]
/-- A reader lies in block b: k bits of s are taken, x was wrong. -/
structure RdP (w : World) (b : Nat) (s : List UInt8) (k : Nat) (x : Int) : Prop where
  block : w.heap[b]? = some (.cells (rc s k x) 172 (0, 0))
  le : k ≤ 8 * s.length
  len : s.length ≤ 1000000000000
/-- A reader lies in block b: l is left, x was wrong. -/
def Rd (w : World) (b : Nat) (l : List Bool) (x : Int) : Prop := ∃ s k, RdP w b s k x ∧ (x = 0 → (ofL s).drop k = l)
theorem RdP.c0 {w : World} {b : Nat} {s : List UInt8} {k : Nat} {x : Int} (h : RdP w b s k x) : w.cell? ⟨b, 0, none⟩ = some (.string ⟨s.toArray⟩) := cell_obj h.block rfl
theorem RdP.c1 {w : World} {b : Nat} {s : List UInt8} {k : Nat} {x : Int} (h : RdP w b s k x) : w.cell? ⟨b, 1, none⟩ = some (.int .i64 k) := cell_obj h.block rfl
theorem RdP.c2 {w : World} {b : Nat} {s : List UInt8} {k : Nat} {x : Int} (h : RdP w b s k x) : w.cell? ⟨b, 2, none⟩ = some (.int .i64 x) := cell_obj h.block rfl
theorem RdP.free {w : World} {b : Nat} {s : List UInt8} {k : Nat} {x : Int} (h : RdP w b s k x) (i : Nat) : w.frozen? ⟨b, i, none⟩ = false := by simp [World.frozen?, h.block]
theorem RdP.setErr {w : World} {b : Nat} {s : List UInt8} {k : Nat} {x : Int} (h : RdP w b s k x) (y : Int) : RdP (w.setCell ⟨b, 2, none⟩ (.int .i64 y)) b s k y := ⟨by rw [block_set h.block]; rfl, h.le, h.len⟩
theorem RdP.setAt {w : World} {b : Nat} {s : List UInt8} {k : Nat} {x : Int} (h : RdP w b s k x) (m : Nat) (hm : m ≤ 8 * s.length) : RdP (w.setCell ⟨b, 1, none⟩ (.int .i64 m)) b s m x := ⟨by rw [block_set h.block]; rfl, hm, h.len⟩
theorem RdP.same {w w' : World} {b : Nat} {s : List UInt8} {k : Nat} {x : Int} (h : RdP w b s k x) (q : Same w w') : RdP w' b s k x := ⟨q.obj h.block, h.le, h.len⟩
theorem RdP.other {w w' : World} {b c : Nat} {s : List UInt8} {k : Nat} {x : Int} (h : RdP w b s k x) (q : Only c w w') (hb : b ≠ c) : RdP w' b s k x := ⟨by rw [q.block b (lt_of_block h.block) hb]; exact h.block, h.le, h.len⟩
theorem Rd.same {w w' : World} {b : Nat} {l : List Bool} {x : Int} (h : Rd w b l x) (q : Same w w') : Rd w' b l x := by
  obtain ⟨s, k, h1, h2⟩ := h; exact ⟨s, k, h1.same q, h2⟩
theorem Rd.other {w w' : World} {b c : Nat} {l : List Bool} {x : Int} (h : Rd w b l x) (q : Only c w w') (hb : b ≠ c) : Rd w' b l x := by
  obtain ⟨s, k, h1, h2⟩ := h; exact ⟨s, k, h1.other q hb, h2⟩
theorem Rd.lt {w : World} {b : Nat} {l : List Bool} {x : Int} (h : Rd w b l x) : b < w.heap.size := by
  obtain ⟨s, k, h1, _⟩ := h; exact lt_of_block h1.block
theorem Rd.noBlock {w : World} {b : Nat} {l : List Bool} {x : Int} (h : Rd w b l x) : ∀ a, w.heap[b]? ≠ some (.cells a 145 (0, 0)) := by
  obtain ⟨s, k, h1, _⟩ := h
  intro a h
  rw [h1.block] at h
  injection h with h
  injection h with _ h _
  cases h

theorem err_nil (w : World) : Calls Tryz.prog 92 #[.pointer none] w fun e w' => e = .returned (.int .i64 10) ∧ w' = w := by
  go_enter Tryz.func92, Tryz.ntmps92
  go_wp2
  go_ret
  exact ⟨rfl, rfl⟩
theorem err_p (b : Nat) (s : List UInt8) (k : Nat) (x : Int) (w : World) (h : RdP w b s k x) : Calls Tryz.prog 92 #[.pointer (some ⟨b, 0, none⟩)] w fun e w' => e = .returned (.int .i64 x) ∧ w' = w := by
  have c2 := h.c2
  clear h
  go_enter Tryz.func92, Tryz.ntmps92
  go_wp2
  go_ret
  exact ⟨rfl, rfl⟩
theorem err_at (b : Nat) (l : List Bool) (x : Int) (w : World) (h : Rd w b l x) : Calls Tryz.prog 92 #[.pointer (some ⟨b, 0, none⟩)] w fun e w' => e = .returned (.int .i64 x) ∧ w' = w := by
  obtain ⟨s, k, h1, _⟩ := h
  exact err_p b s k x w h1
theorem left_nil (w : World) : Calls Tryz.prog 121 #[.pointer none] w fun e w' => e = .returned (.int .i64 0) ∧ w' = w := by
  have HE := Lib.hid (err_nil w)
  go_enter Tryz.func121, Tryz.ntmps121
  go_wp2_with fail
  refine HE.out.mono ?_
  rintro e w1 ⟨rfl, rfl⟩
  go_wp2
  go_ret
  exact ⟨rfl, rfl⟩
theorem left_err (b : Nat) (s : List UInt8) (k : Nat) (x : Int) (w : World) (h : RdP w b s k x) (hx : x ≠ 0) : Calls Tryz.prog 121 #[.pointer (some ⟨b, 0, none⟩)] w fun e w' => e = .returned (.int .i64 0) ∧ Same w w' := by
  have HE := Lib.hid (err_p b s k x w h)
  clear h
  go_enter Tryz.func121, Tryz.ntmps121
  go_wp2_with fail
  refine HE.out.mono ?_
  rintro e w1 ⟨rfl, rfl⟩
  go_wp2
  go_ret
  exact ⟨rfl, Same.refl _⟩
set_option maxRecDepth 100000 in
theorem left_ok (b : Nat) (s : List UInt8) (k : Nat) (w : World) (h : RdP w b s k 0) : Calls Tryz.prog 121 #[.pointer (some ⟨b, 0, none⟩)] w fun e w' => e = .returned (.int .i64 (8 * s.length - k : Nat)) ∧ Same w w' := by
  have HE := Lib.hid (err_p b s k 0 w h)
  have c0 := h.c0
  have c1 := h.c1
  have hle := h.le
  have hln := h.len
  clear h
  go_enter Tryz.func121, Tryz.ntmps121
  go_wp2_with fail
  refine HE.out.mono ?_
  rintro e w1 ⟨rfl, rfl⟩
  go_wp2_with fail
  go_region
  go_wp2
  go_ret
  refine ⟨?_, (Same.refl _).drew⟩
  rw [show ((8 * s.length - k : Nat) : Int) = 8 * (s.length : Int) - (k : Int) by omega]
  rfl
theorem left_at (b : Nat) (l : List Bool) (w : World) (h : Rd w b l 0) : Calls Tryz.prog 121 #[.pointer (some ⟨b, 0, none⟩)] w fun e w' => e = .returned (.int .i64 l.length) ∧ Same w w' := by
  obtain ⟨s, k, h1, h2⟩ := h
  rw [← h2 rfl, List.length_drop, ofL_len]
  exact left_ok b s k w h1
theorem fail_at (b : Nat) (s : List UInt8) (k : Nat) (x y : Int) (w : World) (h : RdP w b s k x) : Calls Tryz.prog 119 #[.pointer (some ⟨b, 0, none⟩), .int .i64 y] w fun e w' => e = .returned (.int .u64 0) ∧ RdP w' b s k y ∧ Only b w w' := by
  have c2 := h.c2
  have fr := h.free
  have H := Lib.hid (h.setErr y)
  clear h
  go_enter Tryz.func119, Tryz.ntmps119
  go_wp2
  go_ret
  exact ⟨rfl, H.out, Only.setCell _ _ _ _⟩
theorem and8 (c r : Nat) (hc : c < 256) : bits .and .u8 ((c : Int) / 2 ^ r) 1 = ((c.testBit r).toNat : Nat) := by
  have h2 : c / 2 ^ r ≤ c := Nat.div_le_self _ _
  have h := u8_and_nat (c / 2 ^ r) 1 (by omega) (by omega)
  rw [show ((c : Int) / 2 ^ r) = ((c / 2 ^ r : Nat) : Int) by simp, show (1 : Int) = ((1 : Nat) : Int) by rfl, h, Nat.and_one_is_mod, bit_div]
theorem index_at (s : List UInt8) (i : Nat) (hi : i < s.length) (w : World) : (Instr.index 9 (.string ⟨s.toArray⟩) (.int .i64 i)).run Tryz.prog w = .ok (.int .u8 ((s[i]'hi).toNat : Nat)) w := by
  go_simp
  rfl
set_option maxRecDepth 100000 in
theorem take_at (b : Nat) (s : List UInt8) (k : Nat) (x : Int) (w : World) (h : RdP w b s k x) (hk : k < 8 * s.length) : Calls Tryz.prog 134 #[.pointer (some ⟨b, 0, none⟩)] w fun e w' => e = .returned (.int .u64 (((ofL s).getD k false).toNat : Nat)) ∧ RdP w' b s (k + 1) x ∧ Only b w w' := by
  have c0 := h.c0
  have c1 := h.c1
  have fr := h.free
  have hln := h.len
  have H := Lib.hid ((h.setAt (k + 1) hk).same (Same.refl _).drew)
  rw [show ((k + 1 : Nat) : Int) = (k : Int) + 1 by omega] at H
  have hi : k / 8 < s.length := by omega
  have hix := index_at s (k / 8) hi
  rw [show ((k / 8 : Nat) : Int) = (k : Int) / 8 by omega] at hix
  have HG := Lib.hid (ofL_get s k hi)
  have hc := UInt8.toNat_lt (s[k / 8]'hi)
  have h8 := and8 (s[k / 8]'hi).toNat (k % 8) hc
  have hb1 : ((s[k / 8]'hi).toNat.testBit (k % 8)).toNat ≤ 1 := by cases (s[k / 8]'hi).toNat.testBit (k % 8) <;> simp
  rw [show (ofL s).getD k false = (s[k / 8]'hi).toNat.testBit (k % 8) by rw [List.getD_eq_getElem?_getD, HG.out]; rfl]
  clear h HG
  generalize (s[k / 8]'hi).toNat.testBit (k % 8) = B at *
  generalize s[k / 8]'hi = c at *
  go_enter Tryz.func134, Tryz.ntmps134
  go_wp2_with fail
  go_region
  go_wp2
  go_ret
  exact ⟨rfl, H.out, (Only.setCell b 1 w _).drewNew⟩

theorem bits_nil (n : Int) (w : World) : Calls Tryz.prog 117 #[.pointer none, .int .i64 n] w fun e w' => e = .returned (.int .u64 0) ∧ w' = w := by
  have HE := Lib.hid (err_nil w)
  go_enter Tryz.func117, Tryz.ntmps117
  go_wp2_with fail
  refine HE.out.mono ?_
  rintro e w1 ⟨rfl, rfl⟩
  go_wp2
  go_ret
  exact ⟨rfl, rfl⟩
theorem bits_err (b : Nat) (s : List UInt8) (k : Nat) (x n : Int) (w : World) (h : RdP w b s k x) (hx : x ≠ 0) : Calls Tryz.prog 117 #[.pointer (some ⟨b, 0, none⟩), .int .i64 n] w fun e w' => e = .returned (.int .u64 0) ∧ w' = w := by
  have HE := Lib.hid (err_p b s k x w h)
  clear h
  go_enter Tryz.func117, Tryz.ntmps117
  go_wp2_with fail
  refine HE.out.mono ?_
  rintro e w1 ⟨rfl, rfl⟩
  go_wp2
  go_ret
  exact ⟨rfl, rfl⟩
theorem bits_arg (b : Nat) (s : List UInt8) (k : Nat) (n : Int) (w : World) (h : RdP w b s k 0) (hn : n < 0 ∨ 64 < n) : Calls Tryz.prog 117 #[.pointer (some ⟨b, 0, none⟩), .int .i64 n] w fun e w' => e = .returned (.int .u64 0) ∧ RdP w' b s k 1 ∧ Only b w w' := by
  have HE := Lib.hid (err_p b s k 0 w h)
  have HF := Lib.hid (fail_at b s k 0 1 w h)
  clear h
  by_cases hn0 : n < 0
  · go_enter Tryz.func117, Tryz.ntmps117
    go_wp2_with fail
    refine HE.out.mono ?_
    rintro e w1 ⟨rfl, rfl⟩
    go_wp2_with fail
    refine HF.out.mono ?_
    rintro e w2 ⟨rfl, hr, ho⟩
    go_wp2
    go_ret
    exact ⟨rfl, hr, ho⟩
  · have hn64 : 64 < n := by omega
    clear hn
    go_enter Tryz.func117, Tryz.ntmps117
    go_wp2_with fail
    refine HE.out.mono ?_
    rintro e w1 ⟨rfl, rfl⟩
    go_wp2_with fail
    refine HF.out.mono ?_
    rintro e w2 ⟨rfl, hr, ho⟩
    go_wp2
    go_ret
    exact ⟨rfl, hr, ho⟩
theorem bits_short (b : Nat) (s : List UInt8) (k : Nat) (n : Int) (w : World) (h : RdP w b s k 0) (hn0 : 0 ≤ n) (hn64 : n ≤ 64) (hs : ((8 * s.length - k : Nat) : Int) < n) : Calls Tryz.prog 117 #[.pointer (some ⟨b, 0, none⟩), .int .i64 n] w fun e w' => e = .returned (.int .u64 0) ∧ RdP w' b s k 3 ∧ Only b w w' := by
  have HE := Lib.hid (err_p b s k 0 w h)
  have HL := Lib.hid (left_ok b s k w h)
  have HF := Lib.hid (fun w' (hq : Same w w') => fail_at b s k 0 3 w' (h.same hq))
  clear h
  generalize 8 * s.length - k = z at *
  go_enter Tryz.func117, Tryz.ntmps117
  go_wp2_with fail
  refine HE.out.mono ?_
  rintro e w1 ⟨rfl, rfl⟩
  go_wp2_with fail
  refine HL.out.mono ?_
  rintro e w1 ⟨rfl, hq⟩
  go_wp2_with fail
  refine (HF.out _ hq).mono ?_
  rintro e w2 ⟨rfl, hr, ho⟩
  go_wp2
  go_ret
  exact ⟨rfl, hr, (Only.same hq).trans ho⟩
theorem or_wide (x : Nat) (B : Bool) (k : Nat) (hk : k < 64) (hx : x < 2 ^ k) : bits .or .u64 (x : Int) (IntKind.u64.wrap ((B.toNat : Int) * 2 ^ k)) = ((x + B.toNat * 2 ^ k : Nat) : Int) := by
  have h8 : 2 ^ k * 2 ≤ 2 ^ 64 := by
    have : 2 ^ k * 2 = 2 ^ (k + 1) := by rw [Nat.pow_succ]
    rw [this]; exact Nat.pow_le_pow_right (n := 2) (by omega) (show k + 1 ≤ 64 by omega)
  have hcp : B.toNat * 2 ^ k < 2 ^ 64 := by cases B <;> simp <;> omega
  have e : IntKind.u64.wrap ((B.toNat : Int) * 2 ^ k) = ((B.toNat * 2 ^ k : Nat) : Int) := by
    have : ((B.toNat : Int) * 2 ^ k) = ((B.toNat * 2 ^ k : Nat) : Int) := by simp
    rw [this, IntKind.wrap_u64]; omega
  rw [e, u64_or_nat x (B.toNat * 2 ^ k) (by omega) (by omega)]
  congr 1
  rw [Nat.or_comm, Nat.mul_comm, Nat.add_comm, Nat.two_pow_add_eq_or_of_lt hx]
def BtRel (w : World) (b : Nat) (s : List UInt8) (k m : Nat) (vv cv : Value) (wr : World) : Prop :=
  ∃ j : Nat, cv = .int .i64 j ∧ vv = .int .u64 (valL (((ofL s).drop k).take j) : Nat) ∧ j ≤ m ∧ RdP wr b s (k + j) 0 ∧ Only b w wr
set_option maxRecDepth 100000 in
set_option maxHeartbeats 400000 in
theorem bits_ok (b : Nat) (s : List UInt8) (k m : Nat) (w : World) (h : RdP w b s k 0) (hm64 : m ≤ 64) (hs : k + m ≤ 8 * s.length) : Calls Tryz.prog 117 #[.pointer (some ⟨b, 0, none⟩), .int .i64 m] w fun e w' => e = .returned (.int .u64 (valL (((ofL s).drop k).take m) : Nat)) ∧ RdP w' b s (k + m) 0 ∧ Only b w w' := by
  have HE := Lib.hid (err_p b s k 0 w h)
  have HL := Lib.hid (left_ok b s k w h)
  have HR := Lib.hid h
  have hz : ¬ 8 * s.length - k < m := by omega
  clear h
  have Hlen := Lib.hid (show ((ofL s).drop k).length = 8 * s.length - k by rw [List.length_drop, ofL_len])
  generalize 8 * s.length - k = z at *
  go_enter Tryz.func117, Tryz.ntmps117
  go_wp2_with fail
  refine HE.out.mono ?_
  rintro e w ⟨rfl, rfl⟩
  go_wp2_with fail
  refine HL.out.mono ?_
  rintro e w1 ⟨rfl, hq⟩
  have HQ := Lib.hid hq
  clear hq HL HE
  go_wp2_with fail
  go_loopw [5, 25] (fun vv cv wr => BtRel w b s k m vv cv wr) (fun _ cv _ => 64 - (intOf cv).toNat)
  case atStart => exact ⟨0, rfl, rfl, by omega, HR.out.same HQ.out, Only.same HQ.out⟩
  case round =>
    obtain ⟨j, rfl, rfl, hj, hr, ho⟩ := hrel
    have HRr := Lib.hid hr
    have HO := Lib.hid ho
    clear hr ho HR HQ
    by_cases hjm : j < m
    · have HT := Lib.hid (take_at b s (k + j) 0 _ HRr.out (by omega))
      have hjl : j < ((ofL s).drop k).length := by rw [Hlen.out]; omega
      have HN := Lib.hid (val_next ((ofL s).drop k) j hjl)
      have hvl := val_le ((ofL s).drop k) j (by omega)
      have e1 : (ofL s).getD (k + j) false = ((ofL s).drop k)[j]'hjl := by
        rw [List.getElem_drop, List.getD_eq_getElem?_getD, List.getElem?_eq_getElem (by rw [List.length_drop] at hjl; omega)]
        rfl
      rw [e1] at HT
      generalize ((ofL s).drop k)[j]'hjl = B at *
      generalize valL (((ofL s).drop k).take j) = x at *
      clear e1
      go_wp2_with fail
      refine HT.out.mono ?_
      rintro e w2 ⟨rfl, hr2, ho2⟩
      go_wp2
      go_roundw
      case rel => exact ⟨j + 1, by go_num, by rw [HN.out, or_wide x B j (by omega) hvl], by omega, by rw [← Nat.add_assoc]; exact hr2, HO.out.trans ho2⟩
      case measure => simp [intOf]; omega
    · obtain rfl : j = m := by omega
      go_wp2
      go_ret
      exact ⟨rfl, HRr.out, HO.out⟩
end Go.Proofs.YtpimecnpdpcceaaGreat.Bit

/- Proved: what the reader's calls Bits, Code, Done and NewReader of package bits answer, and what becomes of memory. Condition: the reader is known (Rd), or the pointer is nil; numbers fit. -/
namespace Go.Proofs.YtpimecnpdpcceaaGreat.Bit
open Go.RowKit

def RdPost (b : Nat) (w : World) (v : Value) (l : List Bool) (x : Int) (e : Ending) (w' : World) : Prop := e = .returned v ∧ Rd w' b l x ∧ Only b w w'
theorem Rd.any {w : World} {b : Nat} {l : List Bool} {x : Int} (h : Rd w b l x) (hx : x ≠ 0) (m : List Bool) : Rd w b m x := by
  obtain ⟨s, k, h1, _⟩ := h
  exact ⟨s, k, h1, fun e => absurd e hx⟩
theorem bits_at (b : Nat) (n : Int) (l : List Bool) (x : Int) (w : World) (h : Rd w b l x) : Calls Tryz.prog 117 #[.pointer (some ⟨b, 0, none⟩), .int .i64 n] w (RdPost b w (.int .u64 ((bitsF l x n).1 : Nat)) (bitsF l x n).2.1 (bitsF l x n).2.2) := by
  obtain ⟨s, k, h1, h2⟩ := h
  unfold bitsF
  by_cases hx : x = 0
  · subst hx
    rw [if_neg (by simp)]
    have hl : l.length = 8 * s.length - k := by rw [← h2 rfl, List.length_drop, ofL_len]
    by_cases hn : n < 0 ∨ 64 < n
    · rw [if_pos hn]
      refine (bits_arg b s k n w h1 hn).mono ?_
      rintro e w' ⟨rfl, hr, ho⟩
      exact ⟨rfl, ⟨s, k, hr, fun e => absurd e (by simp)⟩, ho⟩
    · rw [if_neg hn]
      by_cases hs : (l.length : Int) < n
      · rw [if_pos hs]
        refine (bits_short b s k n w h1 (by omega) (by omega) (by omega)).mono ?_
        rintro e w' ⟨rfl, hr, ho⟩
        exact ⟨rfl, ⟨s, k, hr, fun e => absurd e (by simp)⟩, ho⟩
      · rw [if_neg hs]
        obtain ⟨m, rfl⟩ := Int.eq_ofNat_of_zero_le (show 0 ≤ n by omega)
        rw [Int.toNat_natCast]
        have hle := h1.le
        refine (bits_ok b s k m w h1 (by omega) (by omega)).mono ?_
        rintro e w' ⟨rfl, hr, ho⟩
        refine ⟨by rw [← h2 rfl], ⟨s, k + m, hr, fun _ => ?_⟩, ho⟩
        rw [← h2 rfl, List.drop_drop]
  · rw [if_pos hx]
    refine (bits_err b s k x n w h1 hx).mono ?_
    rintro e w' ⟨rfl, rfl⟩
    exact ⟨rfl, ⟨s, k, h1, h2⟩, Only.refl _ _⟩

/-- What is read behind k noughts and a 1. -/
def behindF (m : List Bool) (k : Nat) : Nat × List Bool × Int := if m.length < k then (0, m, 3) else (valL (m.take k) + 2 ^ k - 1, m.drop k, 0)
theorem behind_num (k x : Nat) (hk : k < 64) (hx : x < 2 ^ k) : IntKind.u64.wrap (IntKind.u64.wrap (IntKind.u64.wrap (2 ^ k) + (x : Int)) - 1) = ((x + 2 ^ k - 1 : Nat) : Int) := by
  have h8 : 2 ^ k * 2 ≤ 2 ^ 64 := by
    have : 2 ^ k * 2 = 2 ^ (k + 1) := by rw [Nat.pow_succ]
    rw [this]; exact Nat.pow_le_pow_right (n := 2) (by omega) (show k + 1 ≤ 64 by omega)
  have hp : 0 < 2 ^ k := Nat.pow_pos (by omega)
  have e : ((2 : Int) ^ k) = ((2 ^ k : Nat) : Int) := by simp
  rw [e]
  generalize (2 ^ k : Nat) = z at *
  rw [IntKind.wrap_u64, IntKind.wrap_u64, IntKind.wrap_u64]
  omega
set_option maxRecDepth 100000 in
theorem behind_at (b k : Nat) (m : List Bool) (w : World) (h : Rd w b m 0) (hk : k < 64) : Calls Tryz.prog 118 #[.pointer (some ⟨b, 0, none⟩), .int .i64 k] w (RdPost b w (.int .u64 ((behindF m k).1 : Nat)) (behindF m k).2.1 (behindF m k).2.2) := by
  have HB := bits_at b k m 0 w h
  unfold bitsF at HB
  rw [if_neg (by simp), if_neg (by omega), Int.toNat_natCast] at HB
  unfold behindF
  by_cases hs : m.length < k
  · rw [if_pos hs]
    rw [if_pos (by omega)] at HB
    have HB := Lib.hid HB
    go_enter Tryz.func118, Tryz.ntmps118
    go_wp2_with fail
    refine HB.out.mono ?_
    rintro e w1 ⟨rfl, hr, ho⟩
    have HE := Lib.hid (err_at b _ _ w1 hr)
    go_wp2_with fail
    refine HE.out.mono ?_
    rintro e w1 ⟨rfl, rfl⟩
    go_wp2
    go_ret
    exact ⟨rfl, hr, ho⟩
  · rw [if_neg hs]
    rw [if_neg (by omega)] at HB
    have HB := Lib.hid HB
    have hv := val_le m k (by omega)
    have HN := Lib.hid (behind_num k _ hk hv)
    generalize valL (m.take k) = x at *
    go_enter Tryz.func118, Tryz.ntmps118
    go_wp2_with fail
    refine HB.out.mono ?_
    rintro e w1 ⟨rfl, hr, ho⟩
    have HE := Lib.hid (err_at b _ _ w1 hr)
    go_wp2_with fail
    refine HE.out.mono ?_
    rintro e w1 ⟨rfl, rfl⟩
    go_wp2
    go_ret
    refine ⟨?_, hr, ho⟩
    simp only
    rw [← HN.out]
    rfl

def CdRel (w : World) (b : Nat) (l : List Bool) (x : Int) (cv : Value) (wr : World) : Prop :=
  ∃ j : Nat, cv = .int .i64 j ∧ j ≤ 64 ∧ j ≤ noughts l ∧ Rd wr b (l.drop j) x ∧ Only b w wr ∧ (x ≠ 0 → j = 0)
theorem bits_one_err (l : List Bool) (x : Int) (hx : x ≠ 0) : bitsF l x 1 = (0, l, x) := by unfold bitsF; rw [if_pos hx]
theorem bits_one_end (l : List Bool) (j : Nat) (h : l.drop j = []) : bitsF (l.drop j) 0 1 = (0, [], 3) := by rw [h]; rfl
theorem bits_one (l : List Bool) (j : Nat) (B : Bool) (h : l[j]? = some B) : bitsF (l.drop j) 0 1 = (B.toNat, l.drop (j + 1), 0) := by
  have hj : j < l.length := (List.getElem?_eq_some_iff.1 h).1
  have e : l.drop j = B :: l.drop (j + 1) := by
    rw [List.drop_eq_getElem_cons hj]
    congr 1
    exact (List.getElem?_eq_some_iff.1 h).2
  rw [e]
  unfold bitsF
  rw [if_neg (by simp), if_neg (by omega), if_neg (by simp; omega)]
  simp [valL]
theorem code_err (l : List Bool) (x : Int) (hx : x ≠ 0) : codeF l x = (0, l, x) := by unfold codeF; rw [if_pos hx]
theorem code_full (l : List Bool) (h : 64 ≤ noughts l) : codeF l 0 = (0, l, 4) := by unfold codeF; rw [if_neg (by simp), if_pos h]
theorem code_end (l : List Bool) (h : ¬ 64 ≤ noughts l) (h2 : noughts l = l.length) : codeF l 0 = (0, l, 3) := by unfold codeF; rw [if_neg (by simp), if_neg h, if_pos (by omega)]
theorem code_behind (l : List Bool) (h : ¬ 64 ≤ noughts l) (h2 : noughts l < l.length) : (codeF l 0).1 = (behindF (l.drop (noughts l + 1)) (noughts l)).1 ∧ (codeF l 0).2.2 = (behindF (l.drop (noughts l + 1)) (noughts l)).2.2 ∧ ((codeF l 0).2.2 = 0 → (codeF l 0).2.1 = (behindF (l.drop (noughts l + 1)) (noughts l)).2.1) := by
  unfold codeF behindF
  rw [if_neg (by simp), if_neg h]
  by_cases h3 : l.length < 2 * noughts l + 1
  · rw [if_pos h3, if_pos (by rw [List.length_drop]; omega)]
    exact ⟨rfl, rfl, fun e => absurd e (by simp)⟩
  · rw [if_neg h3, if_neg (by rw [List.length_drop]; omega)]
    refine ⟨rfl, rfl, fun _ => ?_⟩
    simp only [List.drop_drop]
    congr 1
    omega
theorem Rd.cast {w : World} {b : Nat} {l m : List Bool} {x : Int} (h : Rd w b l x) (e : x = 0 → m = l) : Rd w b m x := by
  obtain ⟨s, k, h1, h2⟩ := h
  exact ⟨s, k, h1, fun hx => by rw [e hx]; exact h2 hx⟩
theorem rfail_at (b : Nat) (l m : List Bool) (x y : Int) (w : World) (h : Rd w b l x) (hy : y ≠ 0) : Calls Tryz.prog 119 #[.pointer (some ⟨b, 0, none⟩), .int .i64 y] w (RdPost b w (.int .u64 0) m y) := by
  obtain ⟨s, k, h1, _⟩ := h
  refine (fail_at b s k x y w h1).mono ?_
  rintro e w' ⟨rfl, hr, ho⟩
  exact ⟨rfl, ⟨s, k, hr, fun e => absurd e hy⟩, ho⟩

set_option maxRecDepth 100000 in
set_option maxHeartbeats 400000 in
theorem code_at (b : Nat) (l : List Bool) (x : Int) (w : World) (h : Rd w b l x) : Calls Tryz.prog 91 #[.pointer (some ⟨b, 0, none⟩)] w (RdPost b w (.int .u64 ((codeF l x).1 : Nat)) (codeF l x).2.1 (codeF l x).2.2) := by
  have HR := Lib.hid h
  clear h
  go_enter Tryz.func91, Tryz.ntmps91
  go_wp2_with fail
  go_loopw [5] (fun cv wr => CdRel w b l x cv wr) (fun cv _ => 64 - (intOf cv).toNat)
  case atStart => exact ⟨0, rfl, by omega, by omega, HR.out, Only.refl _ _, fun _ => rfl⟩
  case round =>
    obtain ⟨j, rfl, hj, hjn, hr, ho, hx0⟩ := hrel
    have HRr := Lib.hid hr
    have HO := Lib.hid ho
    have HX0 := Lib.hid hx0
    clear hr ho HR hx0
    by_cases hj64 : j < 64
    · have HB := Lib.hid (bits_at b 1 (l.drop j) x _ HRr.out)
      by_cases hx : x = 0
      · subst hx
        rcases noughts_get l j hjn with ⟨hg, hlt⟩ | ⟨hg, hlt⟩ | ⟨hg, hlt, hlt2⟩
        · rw [bits_one l j false hg] at HB
          go_wp2_with fail
          refine HB.out.mono ?_
          rintro e w1 ⟨rfl, hr, ho⟩
          have HE := Lib.hid (err_at b _ _ w1 hr)
          go_wp2_with fail
          refine HE.out.mono ?_
          rintro e w1 ⟨rfl, rfl⟩
          go_wp2
          go_roundw
          case rel => exact ⟨j + 1, by go_num, by omega, by omega, hr, HO.out.trans ho, fun e => absurd rfl e⟩
          case measure => simp [intOf]; omega
        · rw [bits_one l j true hg] at HB
          have hjl : j < l.length := (List.getElem?_eq_some_iff.1 hg).1
          obtain ⟨q1, q2, q3⟩ := code_behind l (by omega) (by omega)
          rw [← hlt] at q1 q2 q3
          have Q1 := Lib.hid q1
          have Q2 := Lib.hid q2
          have Q3 := Lib.hid q3
          clear q1 q2 q3 hlt hg
          go_wp2_with fail
          refine HB.out.mono ?_
          rintro e w1 ⟨rfl, hr, ho⟩
          have HE := Lib.hid (err_at b _ _ w1 hr)
          have HC := Lib.hid (behind_at b j _ w1 hr hj64)
          clear hr
          go_wp2_with fail
          refine HE.out.mono ?_
          rintro e w1 ⟨rfl, rfl⟩
          go_wp2_with fail
          refine HC.out.mono ?_
          rintro e w2 ⟨rfl, hr2, ho2⟩
          have HR2 := Lib.hid hr2
          have HO2 := Lib.hid ((HO.out.trans ho).trans ho2)
          clear hr2 ho2 ho
          go_wp2
          go_ret
          refine ⟨?_, ?_, HO2.out⟩
          · rw [Q1.out]; rfl
          · have h9 := HR2.out
            rw [← Q2.out] at h9
            exact h9.cast Q3.out
        · rw [bits_one_end l j hg] at HB
          have HC := Lib.hid (code_end l (by omega) (by omega))
          go_wp2_with fail
          refine HB.out.mono ?_
          rintro e w1 ⟨rfl, hr, ho⟩
          have HE := Lib.hid (err_at b _ _ w1 hr)
          go_wp2_with fail
          refine HE.out.mono ?_
          rintro e w1 ⟨rfl, rfl⟩
          go_wp2
          go_ret
          rw [HC.out]
          exact ⟨rfl, hr.any (by simp) _, HO.out.trans ho⟩
      · rw [bits_one_err _ x hx] at HB
        have HC := Lib.hid (code_err l x hx)
        go_wp2_with fail
        refine HB.out.mono ?_
        rintro e w1 ⟨rfl, hr, ho⟩
        have HE := Lib.hid (err_at b _ _ w1 hr)
        go_wp2_with fail
        refine HE.out.mono ?_
        rintro e w1 ⟨rfl, rfl⟩
        go_wp2
        go_ret
        rw [HC.out]
        exact ⟨rfl, hr.any hx _, HO.out.trans ho⟩
    · obtain rfl : x = 0 := Decidable.byContradiction fun hx => by have := HX0.out hx; omega
      have HF := Lib.hid (rfail_at b _ l 0 4 _ HRr.out (by decide))
      have HC := Lib.hid (code_full l (by omega))
      go_wp2_with fail
      refine HF.out.mono ?_
      rintro e w1 ⟨rfl, hr, ho⟩
      go_wp2
      go_ret
      rw [HC.out]
      exact ⟨rfl, hr, HO.out.trans ho⟩
end Go.Proofs.YtpimecnpdpcceaaGreat.Bit

/- Proved: what the reader's Done and NewReader of package bits answer, and what a nil reader's Code and Done do. Condition: the reader is known (Rd), or the pointer is nil. -/
namespace Go.Proofs.YtpimecnpdpcceaaGreat.Bit
open Go.RowKit

set_option maxRecDepth 100000 in
theorem code_nil (w : World) : Calls Tryz.prog 91 #[.pointer none] w fun e w' => e = .returned (.int .u64 0) ∧ w = w' := by
  have HB := Lib.hid (bits_nil 1 w)
  have HE := Lib.hid (err_nil w)
  go_enter Tryz.func91, Tryz.ntmps91
  go_wp2_with fail
  go_loopw [5] (fun cv wr => cv = .int .i64 0 ∧ w = wr) (fun cv _ => 64 - (intOf cv).toNat)
  case atStart => exact ⟨rfl, rfl⟩
  case round =>
    obtain ⟨rfl, rfl⟩ := hrel
    go_wp2_with fail
    refine HB.out.mono ?_
    rintro e w ⟨rfl, rfl⟩
    go_wp2_with fail
    refine HE.out.mono ?_
    rintro e w ⟨rfl, rfl⟩
    go_wp2
    go_ret
    exact ⟨rfl, rfl⟩
theorem done_nil (w : World) : Calls Tryz.prog 94 #[.pointer none] w fun e w' => e = .returned (.int .i64 10) ∧ w' = w := by
  have HE := Lib.hid (err_nil w)
  go_enter Tryz.func94, Tryz.ntmps94
  go_wp2_with fail
  refine HE.out.mono ?_
  rintro e w ⟨rfl, rfl⟩
  go_wp2
  go_ret
  exact ⟨rfl, rfl⟩
theorem new_at (s : List UInt8) (hs : s.length ≤ 1000000000000) (w : World) : Calls Tryz.prog 90 #[.string ⟨s.toArray⟩] w fun e w' => e = .returned (.pointer (some ⟨w.heap.size, 0, none⟩)) ∧ Rd w' w.heap.size (ofL s) 0 ∧ Same w w' := by
  have H := Lib.hid (show Rd (w.alloc (.cells (rc s 0 0) 172)) w.heap.size (ofL s) 0 from ⟨s, 0, ⟨heap_alloc_last w _, by omega, hs⟩, fun _ => by simp⟩)
  unfold rc at H
  clear hs
  go_enter Tryz.func90, Tryz.ntmps90
  go_wp2
  go_ret
  exact ⟨rfl, H.out, (Same.refl w).alloc _⟩
theorem done_err (b : Nat) (l : List Bool) (x : Int) (w : World) (h : Rd w b l x) (hx : x ≠ 0) : Calls Tryz.prog 94 #[.pointer (some ⟨b, 0, none⟩)] w fun e w' => e = .returned (.int .i64 x) ∧ Same w w' := by
  have HE := Lib.hid (err_at b l x w h)
  clear h
  go_enter Tryz.func94, Tryz.ntmps94
  go_wp2_with fail
  refine HE.out.mono ?_
  rintro e w ⟨rfl, rfl⟩
  go_wp2
  go_ret
  exact ⟨rfl, Same.refl _⟩
theorem bits_all (l : List Bool) (h : l.length < 8) : bitsF l 0 l.length = (valL l, [], 0) := by
  unfold bitsF
  rw [if_neg (by simp), if_neg (by omega), if_neg (by omega), Int.toNat_natCast, List.take_length, List.drop_length]
set_option maxRecDepth 100000 in
set_option maxHeartbeats 400000 in
theorem done_ok (b : Nat) (l : List Bool) (w : World) (h : Rd w b l 0) : Calls Tryz.prog 94 #[.pointer (some ⟨b, 0, none⟩)] w fun e w' => e = .returned (.int .i64 (doneF l 0)) ∧ Same w w' := by
  have HE := Lib.hid (err_at b l 0 w h)
  have HL := Lib.hid (left_at b l w h)
  obtain ⟨s, k, h1, h2⟩ := h
  have HP := Lib.hid h1
  have HB := Lib.hid (fun g w' (hq : RdP w' g s k 0) => bits_at g l.length l 0 w' ⟨s, k, hq, h2⟩)
  have hll : l.length ≤ 8000000000000 := by rw [← h2 rfl, List.length_drop, ofL_len]; have := h1.len; omega
  have hle := h1.le
  have hln := h1.len
  clear h1
  have HD := Lib.hid (show doneF l 0 = if 8 ≤ l.length ∨ valL l ≠ 0 then 4 else 0 by unfold doneF; rw [if_neg (by simp)])
  go_enter Tryz.func94, Tryz.ntmps94
  go_wp2_with fail
  refine HE.out.mono ?_
  rintro e w ⟨rfl, rfl⟩
  go_wp2_with fail
  refine HL.out.mono ?_
  rintro e w1 ⟨rfl, hq⟩
  have HP1 := HP.out.same hq
  have c0 := HP1.c0
  have c1 := HP1.c1
  have c2 := HP1.c2
  have HQ := Lib.hid hq
  clear HP1 hq HE HL HP
  by_cases h8 : 8 ≤ l.length
  · go_wp2
    go_ret
    refine ⟨?_, HQ.out.alloc _⟩
    rw [HD.out, if_pos (.inl h8)]
    rfl
  · have HBg := Lib.hid (HB.out w1.heap.size (w1.alloc (.cells (rc s k 0) 172)) ⟨heap_alloc_last w1 _, hle, hln⟩)
    rw [bits_all l (by omega)] at HBg
    unfold rc at HBg
    clear HB
    have h8i : ¬ (8 : Int) ≤ (l.length : Int) := by omega
    go_wp2_with fail
    refine HBg.out.mono ?_
    rintro e w2 ⟨rfl, _, ho⟩
    have HS2 := Lib.hid ((HQ.out.alloc (.cells #[.string ⟨s.toArray⟩, .int .i64 k, .int .i64 0] 172)).only ho HQ.out.size)
    clear ho
    by_cases hv : valL l = 0
    · go_wp2
      go_ret
      refine ⟨?_, HS2.out⟩
      rw [HD.out, if_neg (by omega)]
      rfl
    · have hvi : (((valL l : Nat) : Int) != 0) = true := by simp; exact hv
      go_wp2
      go_ret
      refine ⟨?_, HS2.out⟩
      rw [HD.out, if_pos (.inr hv)]
      rfl
theorem done_at (b : Nat) (l : List Bool) (x : Int) (w : World) (h : Rd w b l x) : Calls Tryz.prog 94 #[.pointer (some ⟨b, 0, none⟩)] w fun e w' => e = .returned (.int .i64 (doneF l x)) ∧ Same w w' := by
  by_cases hx : x = 0
  · subst hx; exact done_ok b l w h
  · rw [show doneF l x = x by unfold doneF; rw [if_pos hx]]
    exact done_err b l x w h hx
end Go.Proofs.YtpimecnpdpcceaaGreat.Bit
