/- Proved: what lz's Print and Pack answer. Condition: tokens are known; the text has at most 65536 bytes, or is refused. -/
import Derived.Test.YtpimecnpdpcceaaGreatLe
namespace Go.Proofs.YtpimecnpdpcceaaGreat
open Go.RowKit

theorem Cells.tk {w : World} {g o cap n : Nat} {l : List Lz.Tk} (h : Cells tl w (.slice (some ⟨g, o, none⟩) l.length cap) l) (hn : n = 3) (j : Nat) (x : Lz.Tk) (hx : l[j]? = some x) : (loadCellsFrom ⟨g, o + j * n, none⟩ 0 n #[]).run Tryz.prog w = .ok (tc x) w := by
  have := h.load (P := Tryz.prog) (n := n) tl_len j x hx 0 3 (tl x) rfl (by omega) hn
  rw [Nat.add_zero, ← hn] at this
  exact this
theorem bitsTs_snoc (T : List Lz.Tk) (t : Lz.Tk) : Lz.bitsTs (T ++ [t]) = Lz.bitsTs T ++ Lz.bitsT t := by simp [Lz.bitsTs]
theorem take_snoc {α : Type} {l : List α} {k : Nat} {x : α} (h : l[k]? = some x) : l.take (k + 1) = l.take k ++ [x] := by
  rw [List.take_add_one, h]
  rfl
theorem bits_take (T : List Lz.Tk) (k : Nat) : (Lz.bitsTs (T.take k)).length ≤ (Lz.bitsTs T).length := by
  have h : Lz.bitsTs T = Lz.bitsTs (T.take k) ++ Lz.bitsTs (T.drop k) := by
    unfold Lz.bitsTs
    rw [← List.flatMap_append, List.take_append_drop]
  rw [h, List.length_append]
  omega
def PrRel (w : World) (N : Nat) (T : List Lz.Tk) (iv : Value) (wr : World) : Prop :=
  ∃ k : Nat, iv = .int .i64 k ∧ k ≤ T.length ∧ Bit.Wr wr w.heap.size (Bit.codeL N ++ Lz.bitsTs (T.take k)) ∧ Keep w wr

set_option maxRecDepth 100000 in
set_option maxHeartbeats 400000 in
theorem zprint (N : Nat) (hN : N ≤ 1000000) (v : Value) (T : List Lz.Tk) (w : World) (h : Cells tl w v T) (hT : T.length ≤ 1000000) (hb : (Lz.bitsTs T).length ≤ 100000000) (hs : ∀ t ∈ T, t.back < 2 ^ 40 ∧ t.len < 2 ^ 40) :
    Calls Tryz.prog 40 #[.int .i64 N, v] w fun e w' => e = .returned (.string ⟨(Lz.packL N T).toArray⟩) ∧ Keep w w' := by
  obtain ⟨a, cap, rfl, _, _⟩ := h.form
  obtain ⟨hzw, hiw⟩ := zero_of_info infoW
  obtain ⟨hz, hi⟩ := zero_of_info infoT2
  obtain ⟨n, hn3⟩ : ∃ n, n = 3 := ⟨3, rfl⟩
  have hsz : ∀ w, (Go.sizeOf 119).run Tryz.prog w = .ok n w := fun w => by rw [hn3]; exact Tryz.sizeOf119 w
  have hn0 : ¬ n = 0 := by omega
  have htn : ∀ t : Lz.Tk, (tc t).size = n := fun t => by rw [hn3]; rfl
  have HN := Lib.hid hn3
  have hmax : ∀ w ts t, (Builtin.max_ ts t #[.int .i64 (N : Nat), .int .i64 0]).run Tryz.prog w = .ok (.int .i64 (N : Nat)) w := fun w ts t => by
    rw [run_max_int2, show (if (0 : Int) > (N : Nat) then (0 : Int) else (N : Nat)) = (N : Int) by split <;> omega]
  have HW0 := Lib.hid (newWr w)
  have HK0 := Lib.hid (show Keep w (w.alloc (.cells (Bit.wc (.pointer none) Bit.zl 0) 117)) from (Keep.refl _).alloc _)
  have HC := Lib.hid h
  have hcN := Bit.codeL_short N
  rw [cap_id (by omega)] at hcN
  have HCN := Lib.hid hcN
  obtain ⟨L, hL⟩ : ∃ n, T.length = n := ⟨_, rfl⟩
  have HL := Lib.hid hL
  rw [hL] at hT ⊢
  have HB := Lib.hid hb
  clear hn3 h hcN hL
  go_enter Tryz.func40, Tryz.ntmps40
  go_wp2_with fail
  refine (Bit.wcode_at w.heap.size N [] _ (by omega) HW0.out (by simp)).mono ?_
  rintro e w1 ⟨rfl, h1, o1⟩
  rw [cap_id (by omega), List.nil_append] at h1
  have HW1 := Lib.hid h1
  have HK1 := Lib.hid (Only.made HK0.out (bo o1) (Nat.le_refl _))
  clear h1 o1 HW0 HK0
  go_wp2
  go_loopw [14] (fun iv wr => PrRel w N T iv wr) (fun iv _ => L - (intOf iv).toNat)
  case atStart => exact ⟨0, rfl, Nat.zero_le _, by simpa [Lz.bitsTs] using HW1.out, HK1.out⟩
  case round =>
    obtain ⟨k, rfl, hk, hwr, hw⟩ := hrel
    rw [HL.out] at hk
    have hbk := bits_take T k
    by_cases hlt : k < L
    · have hcl : Cells tl w (.slice a T.length cap) T := HC.out
      obtain ⟨g, o, cap', e, _, _, _⟩ := hcl.ptr k (by rw [HL.out]; exact hlt)
      simp at e
      obtain ⟨rfl, rfl⟩ := e
      obtain ⟨x, hx⟩ : ∃ x, T[k]? = some x := ⟨_, List.getElem?_eq_getElem (by rw [HL.out]; exact hlt)⟩
      have dx := (hcl.keep hw).tk HN.out k x hx
      have HX := Lib.hid hx
      have HXS := Lib.hid (hs x (List.mem_of_getElem? hx))
      have HA := Lib.hid (TAt.new wr zeroT)
      have HP := Lib.hid (HA.out.put x)
      have hst := HA.out.store x
      have hld := HP.out.whole HN.out
      have HKA := Lib.hid (((Keep.refl wr).alloc (.cells (tc zeroT) 119)).setRow wr.heap.size (tc x) (Nat.le_refl _))
      have HWA := Lib.hid (hwr.same (kb HKA.out))
      have HKW := Lib.hid (hw.trans HKA.out)
      clear hcl hx hw hwr HA HP
      go_wp2_with fail
      refine (zput w.heap.size x _ _ HWA.out (by have := HCN.out; have := HB.out; rw [List.length_append]; omega) (by have := HXS.out.1; omega) (by have := HXS.out.2; omega)).mono ?_
      rintro e w2 ⟨rfl, h2, o2⟩
      have HW2 := Lib.hid (show Bit.Wr w2 w.heap.size (Bit.codeL N ++ Lz.bitsTs (T.take (k + 1))) from by rw [take_snoc HX.out, bitsTs_snoc, ← List.append_assoc]; exact h2)
      have HK2 := Lib.hid (Only.made HKW.out (bo o2) (Nat.le_refl _))
      clear h2 o2 dx hst hld
      go_wp2
      go_roundw
      case rel => exact ⟨k + 1, by go_num, by rw [HL.out]; omega, HW2.out, HK2.out⟩
      case measure => simp [intOf]; omega
    · have HWE := Lib.hid (show Bit.Wr wr w.heap.size (Bit.codeL N ++ Lz.bitsTs T) from by rwa [List.take_of_length_le (by rw [HL.out]; omega)] at hwr)
      have HKE := Lib.hid hw
      clear hwr hw
      go_wp2_with fail
      refine (Bit.wstring_at w.heap.size _ _ HWE.out (by have := HCN.out; have := HB.out; rw [List.length_append]; omega)).mono ?_
      rintro e w2 ⟨rfl, b2⟩
      go_wp2
      go_ret
      exact ⟨rfl, HKE.out.trans (bk b2)⟩
theorem okL_bound {n : Nat} : ∀ (T : List Lz.Tk) (has : Nat), Lz.okL n has T → ∀ t ∈ T, t.back ≤ n ∧ t.len ≤ n
  | [], _, _, _, h => by simp at h
  | t :: T, has, ⟨h1, h2⟩, x, hx => by
    rcases List.mem_cons.1 hx with rfl | hx
    · obtain ⟨hlt, ⟨h1, h3⟩ | ⟨_, _, h3, _, h5⟩⟩ := h1 <;> omega
    · exact okL_bound T _ h2 x hx
theorem SpT.bits {s : List UInt8} {T : List Lz.Tk} (h : SpT s s.length T) : (Lz.bitsTs T).length ≤ 9 * s.length := by
  have h1 := Lz.bits_nine T h.nine
  have h2 := Lz.okL_sum T 0 h.ok
  omega
/-- Packed bytes of a text: some of those that say it, within nine bits a byte. -/
def Packs (s p : List UInt8) : Prop := ∃ T, SpT s s.length T ∧ p = Lz.packL s.length T
theorem Packs.len {s p : List UInt8} (h : Packs s p) (hs : s.length ≤ 65536) : p.length ≤ (9 * s.length + 47) / 8 := by
  obtain ⟨T, h1, rfl⟩ := h
  exact Lz.pack_len hs h1.ok h1.nine
theorem Packs.back {s p : List UInt8} (h : Packs s p) (hs : s.length ≤ 65536) (most : Nat) (hm : s.length ≤ most) : Lz.unpackF p most = (s, 0) := by
  obtain ⟨T, h1, rfl⟩ := h
  unfold Lz.unpackF
  rw [Lz.tokens_pack hs h1.ok]
  simp only [ne_eq, not_true, if_false]
  rw [if_neg (by omega), h1.text, List.take_length]
def PackPost (w : World) (s : List UInt8) (e : Ending) (w' : World) : Prop :=
  ∃ p : List UInt8, e = .returned (.tuple #[.string ⟨p.toArray⟩, .int .i64 0]) ∧ Packs s p ∧ Keep w w'

set_option maxRecDepth 100000 in
theorem zpack (s : List UInt8) (hs : s.length ≤ 65536) (w : World) : Calls Tryz.prog 13 #[.string ⟨s.toArray⟩] w (PackPost w s) := by
  have hlen : (⟨s.toArray⟩ : ByteArray).size = s.length := by simp [ByteArray.size]
  have HS := Lib.hid (zsplit s hs w)
  have hsi : ¬ (s.length : Int) > 65536 := by omega
  go_enter Tryz.func13, Tryz.ntmps13
  go_wp2_with fail
  refine HS.out.mono ?_
  rintro e w1 ⟨v, T, rfl, hr, hT, k1⟩
  have HT := Lib.hid hT
  have HB := Lib.hid hT.bits
  have HK := Lib.hid k1
  have HP := Lib.hid (zprint s.length (by omega) v T w1 hr.cells (by have := hT.few; omega) (by have := hT.bits; omega) (fun t ht => by have := okL_bound T 0 hT.ok t ht; omega))
  clear hr hT k1 HS
  go_wp2_with fail
  refine HP.out.mono ?_
  rintro e w2 ⟨rfl, k2⟩
  go_wp2
  go_ret2
  exact ⟨_, rfl, ⟨T, HT.out, rfl⟩, HK.out.trans k2⟩
end Go.Proofs.YtpimecnpdpcceaaGreat
