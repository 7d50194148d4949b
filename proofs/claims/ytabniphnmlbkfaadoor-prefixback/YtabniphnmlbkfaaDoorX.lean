/- Proved: what the library's Itoa, the document's digits, and prefix's fourText answer. Condition: the library's table is as its text lays it; numbers up to 255. -/
import Derived.Test.YtabniphnmlbkfaaDoorJ
import Derived.Test.YtabniphnmlbkfaaDoorP4
import Derived.Lib.SmallJoins
namespace Go.Proofs.YtabniphnmlbkfaaDoor
open Go.RowKit

theorem app_list (x y : List UInt8) : (⟨x.toArray⟩ ++ ⟨y.toArray⟩ : ByteArray) = ⟨(x ++ y).toArray⟩ := by
  apply ByteArray.ext; simp
/-- The library's table is as its text lays it. -/
def Tab (w : World) : Prop := Lib.TabIs Tryd.prog w "internal/strconv.uint64pow10" .u64 Lib.pow10Tab
theorem gvar : Tryd.prog.globalNamed "internal/strconv.uint64pow10" = some 1 := by kernel_rfl
theorem Tab.mono {w w' : World} (h : Tab w) (k : Same w w') : Tab w' := Go.Joins.tab_stays gvar h k (Nat.le_refl _)
theorem grow_same (w : World) (k : Nat) (os : Array Obj) : Same w («Sort».grow (w.drewN k) os) := by
  refine ⟨rfl, rfl, rfl, ?_, fun i hi => ?_⟩
  · simp [«Sort».grow, World.drewN]
  · simp [«Sort».grow, World.drewN, Array.getElem?_append, hi]
theorem itoa_at (n : Nat) (hn : n ≤ 255) (w : World) (ht : Tab w) : Calls Tryd.prog 39 #[.int .i64 n] w fun e w' => e = .returned (.string ⟨(dec n).toArray⟩) ∧ Same w w' := by
  refine (Tryd.strconv_Itoa n (by omega) (by omega) w ht).mono ?_
  rintro e w' ⟨rfl, k, os, rfl⟩
  refine ⟨?_, grow_same w k os⟩
  rw [show Lib.itoa (n : Int) = dec n by unfold Lib.itoa dec; rw [if_neg (by omega), Int.toNat_natCast]]

theorem conv_new (c : Nat) (hc : c < 256) (w : World) : (convert 53 9 (.slice (some ⟨w.heap.size, 0, none⟩) 1 1)).run Tryd.prog (w.alloc (.cells #[.int .u8 (c : Nat)] 5)) = .ok (.string ⟨#[UInt8.ofNat c]⟩) (w.alloc (.cells #[.int .u8 (c : Nat)] 5)) := by
  have e : (#[.int .u8 (c : Nat)] : Array Value) = ac [UInt8.ofNat c] := by simp [ac, bv, Nat.mod_eq_of_lt hc]
  rw [e]
  exact conv_bytes [UInt8.ofNat c] (heap_alloc_last w _) 1 (by simp) 1
set_option maxRecDepth 100000 in
theorem digit_one (n : Nat) (h : n < 10) : Gives Tryd.prog 31 #[.int .i64 n] (.string ⟨(dec n).toArray⟩) := by
  intro w
  have hcv := conv_new (48 + n) (by omega) w
  rw [show ((48 + n : Nat) : Int) = 48 + (n : Int) by omega] at hcv
  have He := Lib.hid (show dec n = [UInt8.ofNat (48 + n)] from Lib.decDigits_one h)
  generalize UInt8.ofNat (48 + n) = c at *
  go_enter Tryd.func31, Tryd.ntmps31
  go_wp2
  go_ret
  exact ⟨by rw [He.out]; rfl, (Same.refl w).alloc _⟩
set_option maxRecDepth 100000 in
theorem qdigits (n : Nat) (hn : n ≤ 255) : Gives Tryd.prog 31 #[.int .i64 n] (.string ⟨(dec n).toArray⟩) := by
  induction n using Nat.strongRecOn with
  | ind n ih =>
    by_cases h : n < 10
    · exact digit_one n h
    · intro w
      have IH := Lib.hid (ih (n / 10) (by omega) (by omega))
      have I1 := Lib.hid (digit_one (n % 10) (by omega))
      have He := Lib.hid (show dec n = dec (n / 10) ++ dec (n % 10) by
        unfold dec
        rw [Lib.decDigits, dif_neg h, Lib.decDigits_one (show n % 10 < 10 by omega)])
      have hq : (n : Int) / 10 = ((n / 10 : Nat) : Int) := by omega
      have hr : (n : Int) % 10 = ((n % 10 : Nat) : Int) := by omega
      have l1 := dec_len (n / 10) (by omega)
      have l2 := dec_len (n % 10) (by omega)
      clear ih
      generalize n / 10 = a at *
      generalize n % 10 = b at *
      go_enter Tryd.func31, Tryd.ntmps31
      go_wp2_with fail
      refine (IH.out _).mono ?_
      rintro e w1 ⟨rfl, b1⟩
      go_wp2_with fail
      refine (I1.out _).mono ?_
      rintro e w2 ⟨rfl, b2⟩
      go_wp2
      go_ret
      refine ⟨?_, b1.trans b2⟩
      rw [He.out, ← app_list]
      rfl

theorem info67 : (Tryd.prog.info? 67).map (fun i => (i.zero, i.size)) = some (some (.agg #[.string ⟨#[]⟩, .string ⟨#[]⟩, .string ⟨#[]⟩, .string ⟨#[]⟩]), 4) := by kernel_rfl
/-- The four numbers' texts, so many of them as are made. -/
def parts (l : List UInt8) (k : Nat) : List ByteArray := (List.range 4).map fun j => if j < k then ⟨(dec (l.getD j 0).toNat).toArray⟩ else ⟨#[]⟩
def partC (l : List UInt8) (k : Nat) : Array Value := ((parts l k).map Value.string).toArray
theorem partC_zero (l : List UInt8) : (#[.string ⟨#[]⟩, .string ⟨#[]⟩, .string ⟨#[]⟩, .string ⟨#[]⟩] : Array Value) = partC l 0 := by
  simp [partC, parts, List.range_succ]
theorem partC_set (l : List UInt8) (k : Nat) (hk : k < 4) : (partC l k).setIfInBounds k (.string ⟨(dec (l.getD k 0).toNat).toArray⟩) = partC l (k + 1) := by
  have : k = 0 ∨ k = 1 ∨ k = 2 ∨ k = 3 := by omega
  rcases this with rfl | rfl | rfl | rfl <;> simp [partC, parts, List.range_succ]
theorem partC_get (l : List UInt8) (k j : Nat) (hj : j < 4) : (partC l k)[j]? = some (.string (if j < k then ⟨(dec (l.getD j 0).toNat).toArray⟩ else ⟨#[]⟩)) := by
  simp [partC, parts, hj]
theorem parts_join (l : List UInt8) : Lib.join ((parts l 4).map (fun x => x.data.toList)) (⟨#[46]⟩ : ByteArray).data.toList = four l 4 := by
  rw [four_join]
  simp [parts, List.range_succ]
theorem four_len (l : List UInt8) : (four l 4).length ≤ 15 := by
  have h : ∀ j, (dec (l.getD j 0).toNat).length ≤ 3 := fun j => dec_len _ (by have := (l.getD j 0).toNat_lt; omega)
  have h0 := h 0
  have h1 := h 1
  have h2 := h 2
  have h3 := h 3
  rw [four_form]
  simp only [List.length_append, List.length_cons]
  omega
def FTRel (w : World) (l : List UInt8) (i : Value) (wr : World) : Prop :=
  ∃ k : Nat, i = .int .i64 k ∧ k ≤ 4 ∧ wr.heap[w.heap.size]? = some (.cells (ac l) 22) ∧ wr.heap[w.heap.size + 1]? = some (.cells (partC l k) 67) ∧ Same w wr

set_option maxRecDepth 100000 in
theorem fourText (l : List UInt8) (hl : l.length = 16) (w : World) (ht : Tab w) : Calls Tryd.prog 37 #[.agg (ac l)] w fun e w' => e = .returned (.string ⟨(four l 4).toArray⟩) ∧ Same w w' := by
  obtain ⟨hz, hi⟩ := zero_of_info info67
  rw [partC_zero l] at hz
  have hs : (w.alloc (.cells (ac l) 22)).heap.size = w.heap.size + 1 := by simp
  have hst : FTRel w l (.int .i64 0) ((w.alloc (.cells (ac l) 22)).alloc (.cells (partC l 0) 67)) :=
    ⟨0, rfl, by omega, alloc_old (heap_alloc_last w _) _, by rw [← hs]; exact heap_alloc_last _ _, ((Same.refl w).alloc _).alloc _⟩
  have HST := Lib.hid hst
  have HTW := Lib.hid ht
  clear hst hi ht hs
  go_enter Tryd.func37, Tryd.ntmps37
  go_wp2_with fail
  go_loopw [5] (fun i wr => FTRel w l i wr) (fun i _ => 5 - (intOf i).toNat)
  case atStart => exact HST.out
  case round =>
    obtain ⟨k, rfl, hk, h1, h2, hsame⟩ := hrel
    have H1 := Lib.hid h1
    have H2 := Lib.hid h2
    have HS := Lib.hid hsame
    have HT := Lib.hid (HTW.out.mono hsame)
    clear h1 h2 hsame HST hz
    by_cases hk2 : k < 4
    · have hc := cell_obj H1.out (ac_get l k (by omega))
      have Hd := Lib.hid (show (l.getD k 0).toNat = l[k].toNat by simp [show k < l.length by omega])
      have hlt : l[k].toNat < 256 := UInt8.toNat_lt _
      generalize l[k].toNat = c at *
      have Hit := Lib.hid (itoa_at c (by omega) wr HT.out)
      go_wp2_with fail
      refine Hit.out.mono ?_
      rintro e w1 ⟨rfl, b1⟩
      have h2 := b1.obj H2.out
      have hcell := cell_obj h2 (partC_get l k k hk2)
      rw [if_neg (Nat.lt_irrefl k)] at hcell
      have hfree : w1.frozen? ⟨w.heap.size + 1, k, none⟩ = false := by simp [World.frozen?, h2]
      have HR := Lib.hid (show FTRel w l (.int .i64 (k + 1 : Nat)) (w1.setCell ⟨w.heap.size + 1, k, none⟩ (.string ⟨(dec c).toArray⟩)) from
        ⟨k + 1, rfl, by omega, setCell_old (b1.obj H1.out) _ _ _ (by omega), by rw [block_set h2, ← Hd.out, partC_set l k hk2], (HS.out.trans b1).setCell _ _ _ (by omega)⟩)
      clear h2
      go_wp2
      go_roundw
      case rel => exact HR.out
      case measure => simp [intOf]; omega
    · obtain rfl : k = 4 := by omega
      have hsz := HS.out.size
      have hlt2 : w.heap.size + 1 < wr.heap.size := by
        rcases Nat.lt_or_ge (w.heap.size + 1) wr.heap.size with h | h
        · exact h
        · have := H2.out
          rw [Array.getElem?_eq_none h] at this
          cases this
      have Hj := Lib.hid (Tryd.strings_Join (w.heap.size + 1) 0 4 (parts l 4) ⟨#[46]⟩ wr (fun j x hx => by
        have hj : j < 4 := by have := (List.getElem?_eq_some_iff.1 hx).1; simpa [parts] using this
        rw [Nat.zero_add, cell_obj H2.out (partC_get l 4 j hj)]
        simp [parts, hj] at hx
        simp [hx, hj]) hlt2 (by simp [parts]) (by simp [parts]) (by rw [parts_join]; have := four_len l; omega))
      rw [parts_join, show (parts l 4).length = 4 by simp [parts]] at Hj
      go_wp2_with fail
      refine Hj.out.mono ?_
      rintro e w1 ⟨rfl, b1⟩
      go_wp2
      go_ret
      exact ⟨rfl, HS.out.trans b1⟩
end Go.Proofs.YtabniphnmlbkfaaDoor
