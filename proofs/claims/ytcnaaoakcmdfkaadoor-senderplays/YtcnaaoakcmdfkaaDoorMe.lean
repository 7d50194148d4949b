/- Proved: lists of ints and of bools in memory; what sack's Missing and tells answer. Condition: the map lies in memory (M), or the pointer is nil; numbers are ints; a text has at most a million bytes. -/
import Derived.Test.YtcnaaoakcmdfkaaDoorMd
import Derived.Test.YtcnaaoakcmdfkaaDoorJ
import Derived.Laws.Small
import Derived.Laws.MakeOwn
namespace Go.Proofs.YtcnaaoakcmdfkaaDoor
open Go.RowKit

theorem info3 : (Tryd.prog.info? 3).map (fun i => (i.zero, i.size, i.bytes)) = some (some (.int .i64 0), 1, 8) := by kernel_rfl
theorem info4 : (Tryd.prog.info? 4).map (fun i => (i.zero, i.size, i.bytes)) = some (some (.bool false), 1, 1) := by kernel_rfl
theorem info5 : (Tryd.prog.info? 5).map (fun i => (i.zero, i.size, i.bytes)) = some (some (.int .u8 0), 1, 1) := by kernel_rfl
/-- An int's cell, a bool's. -/
def ie (k : Nat) : List Value := [.int .i64 k]
def be (x : Bool) : List Value := [.bool x]
theorem elI : El 49 3 1 8 ie where
  under := Tryd.underlying49
  info := by
    obtain ⟨i0, h1, h2, h3, h4⟩ := info_parts info3
    exact ⟨i0, _, h1, h2, h3, h4, rfl⟩
  len := fun _ => rfl
  one := fun x v hv => by
    simp only [ie, List.mem_singleton] at hv
    rw [hv]
    rfl
  pos := by decide
theorem elO : El 48 4 1 1 be where
  under := Tryd.underlying48
  info := by
    obtain ⟨i0, h1, h2, h3, h4⟩ := info_parts info4
    exact ⟨i0, _, h1, h2, h3, h4, rfl⟩
  len := fun _ => rfl
  one := fun x v hv => by
    simp only [be, List.mem_singleton] at hv
    rw [hv]
    rfl
  pos := by decide
abbrev OwnI (B : Nat) (w : World) (v : Value) (L : List Nat) : Prop := Own 3 1 ie B w v L
abbrev OwnO (B : Nat) (w : World) (v : Value) (L : List Bool) : Prop := Own 4 1 be B w v L
theorem one_int (w : World) (k : Nat) : Cells ie (w.alloc (.cells #[.int .i64 k] 3)) (.slice (some ⟨w.heap.size, 0, none⟩) 1 1) [k] := by
  refine .inr ⟨w.heap.size, 0, 1, rfl, Nat.le_refl _, by unfold maxLen; omega, by simp, fun j u hj => ?_⟩
  have hj0 : j = 0 := by
    have := (List.getElem?_eq_some_iff.1 hj).1
    simp [flat, ie] at this
    omega
  subst hj0
  simp [flat, ie] at hj
  subst hj
  exact cell_obj (heap_alloc_last w _) rfl

theorem misK_start (l : List Bool) (a b : Int) : misK l a b (max a 0).toNat = [] := by
  by_cases h : 0 ≤ a
  · exact misK_low l a b _ (by omega)
  · rw [show (max a 0).toNat = 0 by omega]; rfl
theorem misK_end (l : List Bool) (a b : Int) (k : Nat) (h1 : max a 0 ≤ k) (h2 : (k : Int) = max a 0 ∨ k ≤ l.length) (h3 : ¬ (k : Int) < min b l.length) : misK l a b k = misL l a b := by
  unfold misL
  by_cases hk : k ≤ l.length
  · obtain ⟨m, hm⟩ : ∃ m, l.length = k + m := ⟨l.length - k, by omega⟩
    rw [hm]
    cases m with
    | zero => rfl
    | succ m => exact (misK_more l a b k (by omega) _).symm
  · have e : (k : Int) = max a 0 := by omega
    rw [misK_low l a b k (by omega), misK_low l a b _ (by omega)]
theorem misP_here (l : List Bool) (a b : Int) (k : Nat) (h1 : a ≤ k) (h2 : (k : Int) < b) : misP l a b k = !l.getD k false := by
  unfold misP
  rw [decide_eq_true h1, decide_eq_true h2]; rfl
theorem hasB_nat (l : List Bool) (k : Nat) : hasB l k = l.getD k false := by
  unfold hasB
  rw [decide_eq_true (by omega)]; rfl
def MsRel (w : World) (l : List Bool) (a b : Int) (v iv : Value) (wr : World) : Prop :=
  ∃ k : Nat, iv = .int .i64 k ∧ max a 0 ≤ k ∧ ((k : Int) = max a 0 ∨ k ≤ l.length) ∧ OwnI w.heap.size wr v (misK l a b k) ∧ Keep w wr

set_option maxRecDepth 100000 in
set_option maxHeartbeats 400000 in
theorem missing_at (p : Nat) (l : List Bool) (a b : Int) (w : World) (h : M w p l) (ha : a < 9223372036854775808) : Calls Tryd.prog 45 #[.pointer (some ⟨p, 0, none⟩), .int .i64 a, .int .i64 b] w fun e w' => ∃ v, e = .returned v ∧ OwnI w.heap.size w' v (misL l a b) ∧ Keep w w' := by
  have hf := h.few
  have HM := Lib.hid h
  have HL := Lib.hid (fun w' (q : Keep w w') => len_at p l w' (h.keep q))
  have HH := Lib.hid (fun w' (q : Keep w w') i => has_at p l i w' (h.keep q))
  obtain ⟨z, hz⟩ : ∃ z, max a 0 = z := ⟨_, rfl⟩
  obtain ⟨y, hy⟩ : ∃ y, min b (l.length : Int) = y := ⟨_, rfl⟩
  have hmax : ∀ w ts t, (Builtin.max_ ts t #[.int .i64 a, .int .i64 0]).run Tryd.prog w = .ok (.int .i64 z) w := fun w ts t => by
    rw [run_max_int2, show (if (0 : Int) > a then 0 else a) = z by omega]
  have hmin : ∀ w ts t, (Builtin.min_ ts t #[.int .i64 b, .int .i64 l.length]).run Tryd.prog w = .ok (.int .i64 y) w := fun w ts t => by
    rw [run_min_int2, show (if (l.length : Int) < b then (l.length : Int) else b) = y by omega]
  have H0 := Lib.hid (show MsRel w l a b (.slice none 0 0) (.int .i64 z) w from ⟨z.toNat, by rw [Int.toNat_of_nonneg (by omega)], by omega, .inl (by omega), by rw [← hz, misK_start]; exact Own.nil _ _, Keep.refl _⟩)
  have HZ := Lib.hid hz
  have HY := Lib.hid hy
  clear h hz hy
  go_enter Tryd.func45, Tryd.ntmps45
  go_wp2_with fail
  go_loopw [7, 8] (fun v i wr => MsRel w l a b v i wr) (fun _ i _ => 300 - (intOf i).toNat)
  case atStart => exact H0.out
  case round =>
    obtain ⟨k, rfl, hk1, hk2, hO, hK⟩ := hrel
    have HO := Lib.hid hO
    have HK := Lib.hid hK
    have HK1 := Lib.hid hk1
    have HK2 := Lib.hid hk2
    clear hO hK hk1 hk2
    by_cases hlt : (k : Int) < y
    · have hkl : k < l.length := by have := HY.out; omega
      have hkb : (k : Int) < b := by have := HY.out; omega
      have hka : a ≤ (k : Int) := by have := HK1.out; omega
      have HP := Lib.hid (misP_here l a b k hka hkb)
      have hlen := misK_len l a b k
      by_cases hg : l.getD k false = true
      · have HE := Lib.hid (misK_no l a b k (by rw [HP.out, hg]; rfl))
        have hhE : hasB l (k : Int) = true := by rw [hasB_nat]; exact hg
        clear hka hkb hg hlen
        go_wp2_with fail
        refine (HL.out _ HK.out).mono ?_
        rintro e w1 ⟨rfl, rfl⟩
        go_wp2_with fail
        refine (HH.out _ HK.out k).mono ?_
        rintro e w2 ⟨rfl, k2⟩
        rw [hhE]
        go_wp2
        go_roundw
        case rel => exact ⟨k + 1, by go_num, by have := HK1.out; omega, .inr (by omega), by rw [HE.out]; exact HO.out.keep k2, HK.out.trans k2⟩
        case measure => simp [intOf]; omega
      · have hg2 : l.getD k false = false := by simpa using hg
        have HE := Lib.hid (misK_yes l a b k (by rw [HP.out, hg2]; rfl))
        have hhE : hasB l (k : Int) = false := by rw [hasB_nat]; exact hg2
        clear hka hkb hg hg2
        have HLN := Lib.hid hlen
        clear hlen
        go_wp2_with fail
        refine (HL.out _ HK.out).mono ?_
        rintro e w1 ⟨rfl, rfl⟩
        go_wp2_with fail
        refine (HH.out _ HK.out k).mono ?_
        rintro e w2 ⟨rfl, k2⟩
        rw [hhE]
        have HO2 := Lib.hid (HO.out.keep k2)
        have HK3 := Lib.hid (HK.out.trans k2)
        clear k2
        go_wp2_with (at_builtin; refine wp_app elI rfl _ _ rfl w.heap.size _ _ (misK l a b k) [k] rfl rfl (HO2.out.keep ((Keep.refl _).alloc _)) (one_int w2 k) ?q1 ?q2 ?q3 ?_)
        case q1 => have := HLN.out; simp; omega
        case q2 => have := HLN.out; simp; omega
        case q3 => have := HK3.out.size; simp; omega
        intro v' w3 hO3 hG
        have HO3 := Lib.hid hO3
        have HK4 := Lib.hid (HO2.out.grown2 HK3.out hG)
        clear hO3 hG
        go_wp2
        go_roundw
        case rel => exact ⟨k + 1, by go_num, by have := HK1.out; omega, .inr (by omega), by rw [HE.out]; exact HO3.out, HK4.out⟩
        case measure => simp [intOf]; omega
    · have HE := Lib.hid (misK_end l a b k HK1.out HK2.out (by rw [HY.out]; exact hlt))
      go_wp2_with fail
      refine (HL.out _ HK.out).mono ?_
      rintro e w1 ⟨rfl, rfl⟩
      go_wp2
      go_ret
      exact ⟨_, rfl, by rw [← HE.out]; exact HO.out, HK.out⟩
set_option maxRecDepth 100000 in
theorem missing_nil (a b : Int) (w : World) (ha : a < 9223372036854775808) : Calls Tryd.prog 45 #[.pointer none, .int .i64 a, .int .i64 b] w fun e w' => e = .returned (.slice none 0 0) ∧ Keep w w' := by
  have HL := Lib.hid (len_nil w)
  obtain ⟨z, hz⟩ : ∃ z, max a 0 = z := ⟨_, rfl⟩
  obtain ⟨y, hy⟩ : ∃ y, min b 0 = y := ⟨_, rfl⟩
  have hmax : ∀ w ts t, (Builtin.max_ ts t #[.int .i64 a, .int .i64 0]).run Tryd.prog w = .ok (.int .i64 z) w := fun w ts t => by
    rw [run_max_int2, show (if (0 : Int) > a then 0 else a) = z by omega]
  have hmin : ∀ w ts t, (Builtin.min_ ts t #[.int .i64 b, .int .i64 0]).run Tryd.prog w = .ok (.int .i64 y) w := fun w ts t => by
    rw [run_min_int2, show (if (0 : Int) < b then (0 : Int) else b) = y by omega]
  have hlt : ¬ z < y := by omega
  clear hz hy
  go_enter Tryd.func45, Tryd.ntmps45
  go_wp2_with fail
  go_loopw [7, 8] (fun v i wr => v = .slice none 0 0 ∧ i = .int .i64 z ∧ wr = w) (fun _ _ _ => 0)
  case atStart => exact ⟨rfl, rfl, rfl⟩
  case round =>
    obtain ⟨rfl, rfl, rfl⟩ := hrel
    go_wp2_with fail
    refine HL.out.mono ?_
    rintro e w1 ⟨rfl, rfl⟩
    go_wp2
    go_ret
    exact ⟨rfl, Keep.refl _⟩

/-! ### What is told -/
theorem bit_div (v k : Nat) : ((v.testBit k).toNat : Nat) = v / 2 ^ k % 2 := by
  rw [Nat.testBit_eq_decide_div_mod_eq]
  rcases (show v / 2 ^ k % 2 = 0 ∨ v / 2 ^ k % 2 = 1 by omega) with h | h <;> simp [h]
theorem and8 (c r : Nat) (hc : c < 256) : bits .and .u8 ((c : Int) / 2 ^ r) 1 = ((c.testBit r).toNat : Nat) := by
  have h2 : c / 2 ^ r ≤ c := Nat.div_le_self _ _
  have h := u8_and_nat (c / 2 ^ r) 1 (by omega) (by omega)
  rw [show ((c : Int) / 2 ^ r) = ((c / 2 ^ r : Nat) : Int) by simp, show (1 : Int) = ((1 : Nat) : Int) by rfl, h, Nat.and_one_is_mod, bit_div]
theorem index_byte (s : List UInt8) (i : Nat) (hi : i < s.length) (k : IntKind) (hk : k = .u64 ∨ k = .i64) (w : World) : (Instr.index 9 (.string ⟨s.toArray⟩) (.int k i)).run Tryd.prog w = .ok (.int .u8 ((s[i]'hi).toNat : Nat)) w := by
  rcases hk with rfl | rfl <;> go_simp <;> rfl
theorem toldB_low (a : Int) (s : List UInt8) (i : Nat) (h : (i : Int) ≤ a) : toldB a s i = decide ((i : Int) < a) := by
  unfold toldB
  rw [decide_eq_false (by omega : ¬ a < (i : Int)), Bool.false_and, Bool.or_false]
theorem toldB_out (a : Int) (s : List UInt8) (i z : Nat) (h : a < (i : Int)) (hz : (i : Int) - a - 1 = z) (hs : s.length ≤ z / 8) : toldB a s i = false := by
  unfold toldB
  rw [decide_eq_false (by omega : ¬ (i : Int) < a), decide_eq_true h, hz, Int.toNat_natCast, getD_out _ _ (by rw [ofL_len]; omega)]
  rfl
theorem toldB_in (a : Int) (s : List UInt8) (i z : Nat) (h : a < (i : Int)) (hz : (i : Int) - a - 1 = z) (hs : z / 8 < s.length) : toldB a s i = (s[z / 8]'hs).toNat.testBit (z % 8) := by
  unfold toldB
  rw [decide_eq_false (by omega : ¬ (i : Int) < a), decide_eq_true h, hz, Int.toNat_natCast, List.getD_eq_getElem?_getD, ofL_get s z hs]
  rfl

set_option maxRecDepth 100000 in
set_option maxHeartbeats 400000 in
theorem tells_at (a : Int) (s : List UInt8) (i : Nat) (w : World) (h1 : -9223372036854775808 ≤ a) (h2 : a < 9223372036854775808) (hi : i < 256) (hs : s.length ≤ 1000000) : Calls Tryd.prog 43 #[.int .i64 a, .string ⟨s.toArray⟩, .int .i64 i] w fun e w' => e = .returned (.bool (toldB a s i)) ∧ w' = w := by
  by_cases h : (i : Int) ≤ a
  · have hE := toldB_low a s i h
    rw [hE]
    go_enter Tryd.func43, Tryd.ntmps43
    go_wp2
    go_ret
    exact ⟨rfl, rfl⟩
  · obtain ⟨z, hz⟩ := Int.eq_ofNat_of_zero_le (show 0 ≤ (i : Int) - a - 1 by omega)
    have hz2 : (i : Int) - a - 1 = z := hz
    have hw : IntKind.u64.wrap (IntKind.u64.wrap ((i : Int) - IntKind.u64.wrap a) - 1) = (z : Int) := by
      rw [IntKind.wrap_u64, IntKind.wrap_u64, IntKind.wrap_u64]; omega
    have hlen : IntKind.u64.wrap (s.length : Int) = s.length := by rw [IntKind.wrap_u64]; omega
    by_cases hin : z / 8 < s.length
    · have hE := toldB_in a s i z (by omega) hz2 hin
      have hix := index_byte s (z / 8) hin .u64 (.inl rfl)
      rw [show ((z / 8 : Nat) : Int) = (z : Int) / 8 by omega] at hix
      have hc := (s[z / 8]'hin).toNat_lt
      have hA := and8 (s[z / 8]'hin).toNat (z % 8) hc
      rw [hE]
      generalize (s[z / 8]'hin).toNat = c at *
      go_enter Tryd.func43, Tryd.ntmps43
      go_wp2
      go_ret
      refine ⟨?_, rfl⟩
      cases c.testBit (z % 8) <;> rfl
    · have hE := toldB_out a s i z (by omega) hz2 (by omega)
      rw [hE]
      go_enter Tryd.func43, Tryd.ntmps43
      go_wp2
      go_ret
      exact ⟨rfl, rfl⟩
end Go.Proofs.YtcnaaoakcmdfkaaDoor
