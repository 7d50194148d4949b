/- Proved: lists of ints and of bools in memory; what sack's Missing and tells answer. Condition: the map lies in memory (M), or the pointer is nil; numbers are ints; a text has at most a million bytes. -/
import Derived.Test.YtifcibmpeolmdaaDoorMd
import Derived.Test.YtifcibmpeolmdaaDoorJ
import Derived.Laws.Small
import Derived.Laws.MakeOwn
namespace Go.Proofs.YtifcibmpeolmdaaDoor
open Go.RowKit

theorem info3 : (Tryd.prog.info? 3).map (fun i => (i.zero, i.size, i.bytes)) = some (some (.int .i64 0), 1, 8) := by kernel_rfl
theorem info4 : (Tryd.prog.info? 4).map (fun i => (i.zero, i.size, i.bytes)) = some (some (.bool false), 1, 1) := by kernel_rfl
theorem info5 : (Tryd.prog.info? 5).map (fun i => (i.zero, i.size, i.bytes)) = some (some (.int .u8 0), 1, 1) := by kernel_rfl
/-- An int's cell, a bool's. -/
def ie (k : Nat) : List Value := [.int .i64 k]
def be (x : Bool) : List Value := [.bool x]
theorem elI : El 39 3 1 8 ie where
  under := Tryd.underlying39
  info := by
    obtain ⟨i0, h1, h2, h3, h4⟩ := info_parts info3
    exact ⟨i0, _, h1, h2, h3, h4, rfl⟩
  len := fun _ => rfl
  one := fun x v hv => by
    simp only [ie, List.mem_singleton] at hv
    rw [hv]
    rfl
  pos := by decide
theorem elO : El 37 4 1 1 be where
  under := Tryd.underlying37
  info := by
    obtain ⟨i0, h1, h2, h3, h4⟩ := info_parts info4
    exact ⟨i0, _, h1, h2, h3, h4, rfl⟩
  len := fun _ => rfl
  one := fun x v hv => by
    simp only [be, List.mem_singleton] at hv
    rw [hv]
    rfl
  pos := by decide
abbrev OwnI (B : Nat) (w : World) (v : Value) (L : List Nat) : Prop := Own 3 1 ie B w v L
abbrev OwnO (B : Nat) (w : World) (v : Value) (L : List Bool) : Prop := Own 4 1 be B w v L
theorem one_int (w : World) (k : Nat) : Cells ie (w.alloc (.cells #[.int .i64 k] 3)) (.slice (some ⟨w.heap.size, 0, none⟩) 1 1) [k] := by
  refine .inr ⟨w.heap.size, 0, 1, rfl, Nat.le_refl _, by unfold maxLen; omega, by simp, fun j u hj => ?_⟩
  have hj0 : j = 0 := by
    have := (List.getElem?_eq_some_iff.1 hj).1
    simp [flat, ie] at this
    omega
  subst hj0
  simp [flat, ie] at hj
  subst hj
  exact cell_obj (heap_alloc_last w _) rfl

theorem misK_start (l : List Bool) (a b : Int) : misK l a b (max a 0).toNat = [] := by
  by_cases h : 0 ≤ a
  · exact misK_low l a b _ (by omega)
  · rw [show (max a 0).toNat = 0 by omega]; rfl
theorem misK_end (l : List Bool) (a b : Int) (k : Nat) (h1 : max a 0 ≤ k) (h2 : (k : Int) = max a 0 ∨ k ≤ l.length) (h3 : ¬ (k : Int) < min b l.length) : misK l a b k = misL l a b := by
  unfold misL
  by_cases hk : k ≤ l.length
  · obtain ⟨m, hm⟩ : ∃ m, l.length = k + m := ⟨l.length - k, by omega⟩
    rw [hm]
    cases m with
    | zero => rfl
    | succ m => exact (misK_more l a b k (by omega) _).symm
  · have e : (k : Int) = max a 0 := by omega
    rw [misK_low l a b k (by omega), misK_low l a b _ (by omega)]
theorem misP_here (l : List Bool) (a b : Int) (k : Nat) (h1 : a ≤ k) (h2 : (k : Int) < b) : misP l a b k = !l.getD k false := by
  unfold misP
  rw [decide_eq_true h1, decide_eq_true h2]; rfl
theorem hasB_nat (l : List Bool) (k : Nat) : hasB l k = l.getD k false := by
  unfold hasB
  rw [decide_eq_true (by omega)]; rfl
def MsRel (w : World) (l : List Bool) (a b : Int) (v iv : Value) (wr : World) : Prop :=
  ∃ k : Nat, iv = .int .i64 k ∧ max a 0 ≤ k ∧ ((k : Int) = max a 0 ∨ k ≤ l.length) ∧ OwnI w.heap.size wr v (misK l a b k) ∧ Keep w wr

/-! ### What is told -/
theorem bit_div (v k : Nat) : ((v.testBit k).toNat : Nat) = v / 2 ^ k % 2 := by
  rw [Nat.testBit_eq_decide_div_mod_eq]
  rcases (show v / 2 ^ k % 2 = 0 ∨ v / 2 ^ k % 2 = 1 by omega) with h | h <;> simp [h]
theorem and8 (c r : Nat) (hc : c < 256) : bits .and .u8 ((c : Int) / 2 ^ r) 1 = ((c.testBit r).toNat : Nat) := by
  have h2 : c / 2 ^ r ≤ c := Nat.div_le_self _ _
  have h := u8_and_nat (c / 2 ^ r) 1 (by omega) (by omega)
  rw [show ((c : Int) / 2 ^ r) = ((c / 2 ^ r : Nat) : Int) by simp, show (1 : Int) = ((1 : Nat) : Int) by rfl, h, Nat.and_one_is_mod, bit_div]
theorem index_byte (s : List UInt8) (i : Nat) (hi : i < s.length) (k : IntKind) (hk : k = .u64 ∨ k = .i64) (w : World) : (Instr.index 9 (.string ⟨s.toArray⟩) (.int k i)).run Tryd.prog w = .ok (.int .u8 ((s[i]'hi).toNat : Nat)) w := by
  rcases hk with rfl | rfl <;> go_simp <;> rfl
theorem toldB_low (a : Int) (s : List UInt8) (i : Nat) (h : (i : Int) ≤ a) : toldB a s i = decide ((i : Int) < a) := by
  unfold toldB
  rw [decide_eq_false (by omega : ¬ a < (i : Int)), Bool.false_and, Bool.or_false]
theorem toldB_out (a : Int) (s : List UInt8) (i z : Nat) (h : a < (i : Int)) (hz : (i : Int) - a - 1 = z) (hs : s.length ≤ z / 8) : toldB a s i = false := by
  unfold toldB
  rw [decide_eq_false (by omega : ¬ (i : Int) < a), decide_eq_true h, hz, Int.toNat_natCast, getD_out _ _ (by rw [ofL_len]; omega)]
  rfl
theorem toldB_in (a : Int) (s : List UInt8) (i z : Nat) (h : a < (i : Int)) (hz : (i : Int) - a - 1 = z) (hs : z / 8 < s.length) : toldB a s i = (s[z / 8]'hs).toNat.testBit (z % 8) := by
  unfold toldB
  rw [decide_eq_false (by omega : ¬ (i : Int) < a), decide_eq_true h, hz, Int.toNat_natCast, List.getD_eq_getElem?_getD, ofL_get s z hs]
  rfl

end Go.Proofs.YtifcibmpeolmdaaDoor
