/- Proved: what the document's Bytes of layer 4 answers. Condition: the text is short. -/
import Derived.Test.YtgfbiaidbkjeiaaF
import Derived.Deep.AppendLies
namespace Go.Proofs.Ytgfbiaidbkjeiaa
open Go.RowKit

theorem conv_own {w : World} {B : Nat} {v : Value} {n : Nat} (L : List UInt8) (h : w.ownsRow B 5 1 v n (L.map bv)) : (convert 58 9 v).run Try.prog w = .ok (.string ⟨L.toArray⟩) w := by
  obtain ⟨h1, h2⟩ := h
  have hl : L.length = n := by simpa using h1
  rcases h2 with ⟨rfl, hn⟩ | ⟨g, cap, cur, rfl, hb, hg, h3, h4, h5, h6⟩
  · have : L = [] := List.eq_nil_of_length_eq_zero (by omega)
    subst this
    rw [run_convert_bytes_nil w 58 5 Try.underlying58 Try.underlying5 0 0 9 Try.underlying9]
    rfl
  · rw [← hl]
    refine run_convert_bytes_back (P := Try.prog) w 58 9 5 ⟨g, 0, none⟩ cap L Try.underlying58 Try.underlying5 Try.underlying9 ?_
    intro j hj
    have hadd : (⟨g, 0, none⟩ : Addr).add j = ⟨g, j, none⟩ := by unfold Addr.add; split <;> simp_all
    rw [hadd]
    refine cell_obj hg ?_
    have h8 : (cur.toList.take (n * 1))[j]? = cur.toList[j]? := List.getElem?_take_of_lt (by omega)
    rw [h6] at h8
    have : cur[j]? = cur.toList[j]? := by simp
    rw [this, ← h8]
    simp [hj, bv]
theorem bytesN_false (l : List Bool) (n : Nat) : bytesN (l ++ [false]) n = bytesN l n := by
  unfold bytesN
  refine List.map_congr_left fun i _ => ?_
  by_cases h : i = l.length / 8
  · rw [h, byteN_snoc]; simp
  · rw [byteN_snoc_other l false i h]
/-- The bytes while bit k is put in. -/
def yL (l : List Bool) (k : Nat) : List UInt8 := bytesN (l.take k) (k / 8 + 1)
theorem yL_start (l : List Bool) (k : Nat) (h : k ≤ l.length) (h8 : k % 8 = 0) : yL l k = bytesL (l.take k) ++ [0] := by
  unfold yL bytesL
  have e : (l.take k).length = k := by simp; omega
  rw [e, show (k + 7) / 8 = k / 8 by omega, bytesN_more _ _ 1 (by omega)]
  rfl
theorem yL_same (l : List Bool) (k : Nat) (h : k ≤ l.length) (h8 : ¬ k % 8 = 0) : yL l k = bytesL (l.take k) := by
  unfold yL bytesL
  have e : (l.take k).length = k := by simp; omega
  rw [e, show (k + 7) / 8 = k / 8 + 1 by omega]
theorem yL_next (l : List Bool) (k : Nat) (h : k < l.length) : bytesL (l.take (k + 1)) = bytesN (l.take k ++ [l[k]'h]) (k / 8 + 1) := by
  unfold bytesL
  have e : (l.take (k + 1)).length = k + 1 := by simp; omega
  rw [e, show (k + 1 + 7) / 8 = k / 8 + 1 by omega, List.take_add_one, List.getElem?_eq_getElem h, Option.toList_some]
theorem yL_zero (l : List Bool) (k : Nat) (h : k < l.length) (hb : l[k]'h = false) : bytesL (l.take (k + 1)) = yL l k := by
  rw [yL_next l k h, hb, bytesN_false]
  rfl
theorem yL_one (l : List Bool) (k : Nat) (h : k < l.length) (hb : l[k]'h = true) : bytesL (l.take (k + 1)) = (yL l k).set (k / 8) (UInt8.ofNat (byteN (l.take k) (k / 8) + 2 ^ (k % 8))) := by
  have e : (l.take k).length = k := by simp; omega
  rw [yL_next l k h, hb, bytesN_snoc, e]
  simp [yL]
theorem yL_lt (l : List Bool) (k : Nat) (h : k ≤ l.length) : byteN (l.take k) (k / 8) + 2 ^ (k % 8) < 256 := by
  have h1 := byteN_last_lt (l.take k)
  have e : (l.take k).length = k := by simp; omega
  rw [e] at h1
  have h2 : 2 ^ (k % 8) * 2 ≤ 256 := by
    have : 2 ^ (k % 8) * 2 = 2 ^ (k % 8 + 1) := by rw [Nat.pow_succ]
    rw [this]; exact Nat.pow_le_pow_right (n := 2) (by omega) (show k % 8 + 1 ≤ 8 by omega)
  omega
theorem yL_get (l : List Bool) (k : Nat) : ((yL l k).map bv)[k / 8]? = some (.int .u8 (byteN (l.take k) (k / 8) : Nat)) := by
  unfold yL
  rw [List.getElem?_map, bytesN_get _ _ _ (by omega)]
  simp [bv, Nat.mod_eq_of_lt (byteN_lt _ _)]
theorem yL_len (l : List Bool) (k : Nat) : (yL l k).length = k / 8 + 1 := by unfold yL; rw [bytesN_len]
theorem add_byte (c k : Nat) (h : c + 2 ^ k < 256) : ((c : Int) + 2 ^ k) % 256 = ((c + 2 ^ k : Nat) : Int) := by
  have e : ((2 : Int) ^ k) = ((2 ^ k : Nat) : Int) := by simp
  rw [e]
  generalize (2 ^ k : Nat) = z at *
  omega
def YRel (w : World) (l : List Bool) (ov iv : Value) (wr : World) : Prop :=
  ∃ k : Nat, iv = .int .i64 k ∧ k ≤ l.length ∧ wr.ownsRow w.heap.size 5 1 ov ((k + 7) / 8) ((bytesL (l.take k)).map bv) ∧ Same w wr
theorem Same.grown {w wr w1 : World} {r : Option Nat} (h : Same w wr) (k : wr.grownBy w1 r) (hr : ∀ g, r = some g → w.heap.size ≤ g) : Same w w1 := Below.grown h k h.size hr

set_option maxRecDepth 100000 in
set_option maxHeartbeats 400000 in
theorem rbytes (l : List Bool) (hl : l.length ≤ 1000000000) : Gives Try.prog 16 #[.string ⟨(strL l).toArray⟩] (.string ⟨(bytesL l).toArray⟩) := by
  intro w
  have hsl := strL_len l
  obtain ⟨i0, hi, hz0, hz1, hz2⟩ := info_parts info5b
  go_enter Try.func16, Try.ntmps16
  go_wp2_with fail
  go_loopw [3, 4] (fun ov iv wr => YRel w l ov iv wr) (fun _ iv _ => 1000000000 - (intOf iv).toNat)
  case atStart => exact ⟨0, rfl, by omega, ⟨by simp [bytesL, bytesN], .inl ⟨rfl, by omega⟩⟩, Same.refl _⟩
  case round =>
    obtain ⟨k, rfl, hk, hown, hs⟩ := hrel
    have HS := Lib.hid hs
    clear hs
    by_cases hkn : k < l.length
    · have hg := strL_get l k hkn (by rw [hsl]; exact hkn)
      have HX := Lib.hid (yL_get l k)
      have HL := Lib.hid (yL_lt l k hk)
      have Hlen := Lib.hid (yL_len l k)
      by_cases h8 : k % 8 = 0
      · rw [show (k + 7) / 8 = k / 8 by omega] at hown
        have HST := Lib.hid (yL_start l k hk h8)
        go_wp2_with (at_builtin; refine wpList_append_own _ rfl _ _ 58 rfl w.heap.size 5 i0 (.int .u8 0) 1 1 Try.underlying58 hi hz0 hz1 hz2 rfl (by decide) _ _ _ rfl (hown.alloc _) ⟨wr.heap.size, 0, none⟩ 1 1 [.int .u8 0] rfl rfl (cell_one_new _ _ _) ?d2 ?d3 ?d4 ?d5 ?_)
        case d2 => intro u hu; simp at hu; subst hu; rfl
        case d3 => unfold maxLen; omega
        case d4 => omega
        case d5 => have := HS.out.size; simp; omega
        intro v' w1 hown' hgrow _
        have hs1 : Same w w1 := (HS.out.alloc _).grown hgrow (fun g hg => (hown.lt g hg).1)
        rw [show (bytesL (l.take k)).map bv ++ [.int .u8 0] = (yL l k).map bv by rw [HST.out]; simp [bv]] at hown'
        have HS1 := Lib.hid hs1
        clear hs1 hgrow hown HS
        obtain ⟨g, cap, rfl, hgb, hglt⟩ := hown'.form (by omega)
        have hcell := (hown'.cellAt (k / 8) (by omega)).trans HX.out
        have hfree := hown'.frozenAt (k / 8)
        have HO := Lib.hid hown'
        clear hown'
        cases hb : l[k]'hkn
        · have hz : (strL l)[k]'(by rw [hsl]; exact hkn) = 48 := by rw [hg, hb]; rfl
          have hge : ∀ h, (({ data := (strL l).toArray } : ByteArray)[k]'h) = 48 := fun _ => hz
          have HN := Lib.hid (yL_zero l k hkn hb)
          clear hg hz
          go_wp2
          go_roundw
          case rel => exact ⟨k + 1, by go_num, hkn, by rw [HN.out, show (k + 1 + 7) / 8 = k / 8 + 1 by omega]; exact HO.out, HS1.out⟩
          case measure => simp [intOf]; omega
        · have hz : (strL l)[k]'(by rw [hsl]; exact hkn) = 49 := by rw [hg, hb]; rfl
          have hge : ∀ h, (({ data := (strL l).toArray } : ByteArray)[k]'h) = 49 := fun _ => hz
          have HN := Lib.hid (yL_one l k hkn hb)
          have hkd : (k : Int) / 8 < (k / 8 + 1 : Nat) := by omega
          have hab := add_byte (byteN (l.take k) (k / 8)) (k % 8) HL.out
          generalize byteN (l.take k) (k / 8) = x at *
          clear hg hz
          go_wp2_with fail
          go_region
          go_wp2
          go_roundw
          case rel =>
            refine ⟨k + 1, by go_num, hkn, ?_, (HS1.out.setCell _ _ _ hgb).drew⟩
            rw [HN.out, show (k + 1 + 7) / 8 = k / 8 + 1 by omega]
            have h9 := (HO.out.stored (k / 8) (.int .u8 (x + 2 ^ (k % 8) : Nat))).1.drew
            have e : (List.map bv (yL l k)).set (k / 8) (.int .u8 (x + 2 ^ (k % 8) : Nat)) = List.map bv ((yL l k).set (k / 8) (UInt8.ofNat (x + 2 ^ (k % 8)))) := by
              rw [List.map_set]
              congr 1
              simp only [bv, UInt8.toNat_ofNat_of_lt' HL.out]
            rw [e] at h9
            rw [show ((x : Int) + 1) % 256 = ((x + 2 ^ (k % 8) : Nat) : Int) by rw [h8] at hab ⊢; exact hab]
            exact h9
          case measure => simp [intOf]; omega
      · have HST := Lib.hid (yL_same l k hk h8)
        rw [show (k + 7) / 8 = k / 8 + 1 by omega, ← HST.out] at hown
        have hown' := hown
        have HS1 := HS
        obtain ⟨w1, hw1⟩ : ∃ w1, wr = w1 := ⟨_, rfl⟩
        subst hw1
        clear hown
        obtain ⟨g, cap, rfl, hgb, hglt⟩ := hown'.form (by omega)
        have hcell := (hown'.cellAt (k / 8) (by omega)).trans HX.out
        have hfree := hown'.frozenAt (k / 8)
        have HO := Lib.hid hown'
        clear hown'
        cases hb : l[k]'hkn
        · have hz : (strL l)[k]'(by rw [hsl]; exact hkn) = 48 := by rw [hg, hb]; rfl
          have hge : ∀ h, (({ data := (strL l).toArray } : ByteArray)[k]'h) = 48 := fun _ => hz
          have HN := Lib.hid (yL_zero l k hkn hb)
          clear hg hz
          go_wp2
          go_roundw
          case rel => exact ⟨k + 1, by go_num, hkn, by rw [HN.out, show (k + 1 + 7) / 8 = k / 8 + 1 by omega]; exact HO.out, HS1.out⟩
          case measure => simp [intOf]; omega
        · have hz : (strL l)[k]'(by rw [hsl]; exact hkn) = 49 := by rw [hg, hb]; rfl
          have hge : ∀ h, (({ data := (strL l).toArray } : ByteArray)[k]'h) = 49 := fun _ => hz
          have HN := Lib.hid (yL_one l k hkn hb)
          have hkd : (k : Int) / 8 < (k / 8 + 1 : Nat) := by omega
          have hab := add_byte (byteN (l.take k) (k / 8)) (k % 8) HL.out
          generalize byteN (l.take k) (k / 8) = x at *
          clear hg hz
          go_wp2_with fail
          go_region
          go_wp2
          go_roundw
          case rel =>
            refine ⟨k + 1, by go_num, hkn, ?_, (HS1.out.setCell _ _ _ hgb).drew⟩
            rw [HN.out, show (k + 1 + 7) / 8 = k / 8 + 1 by omega]
            have h9 := (HO.out.stored (k / 8) (.int .u8 (x + 2 ^ (k % 8) : Nat))).1.drew
            have e : (List.map bv (yL l k)).set (k / 8) (.int .u8 (x + 2 ^ (k % 8) : Nat)) = List.map bv ((yL l k).set (k / 8) (UInt8.ofNat (x + 2 ^ (k % 8)))) := by
              rw [List.map_set]
              congr 1
              simp only [bv, UInt8.toNat_ofNat_of_lt' HL.out]
            rw [e] at h9
            rw [show (x : Int) + 2 ^ (k % 8) = ((x + 2 ^ (k % 8) : Nat) : Int) by simp]
            exact h9
          case measure => simp [intOf]; omega
    · have hcv := conv_own _ hown
      rw [List.take_of_length_le (by omega)] at hcv
      go_wp2
      go_ret
      exact ⟨rfl, HS.out⟩
end Go.Proofs.Ytgfbiaidbkjeiaa
