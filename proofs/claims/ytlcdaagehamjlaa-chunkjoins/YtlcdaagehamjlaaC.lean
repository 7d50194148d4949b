/- Proved: lists of texts in memory; what the chunk's split answers. Condition: the text has at most 256000 bytes, a chunk 1 to 1000. -/
import Derived.Test.YtlcdaagehamjlaaJ
import Derived.Test.YtlcdaagehamjlaaSz
import Derived.Laws.AppendOwn
import Derived.Lib.Strings
import Derived.Deep.WholeRow
namespace Go.Proofs.Ytlcdaagehamjlaa
open Go.RowKit

theorem info_all (t : TypeId) (z : Value) (s by_ : Nat) (h : (Try.prog.info? t).map (fun i => (i.zero, i.size, i.bytes)) = some (some z, s, by_)) : ∃ it, Try.prog.info? t = some it ∧ it.zero = some z ∧ it.size = s ∧ it.bytes = by_ := by
  cases hh : Try.prog.info? t with
  | none => rw [hh] at h; simp at h
  | some it => rw [hh] at h; simp at h; exact ⟨it, rfl, h.1, h.2.1, h.2.2⟩
theorem infoS : (Try.prog.info? 9).map (fun i => (i.zero, i.size, i.bytes)) = some (some (.string ⟨#[]⟩), 1, 16) := by kernel_rfl
/-- A text's cell. -/
def se (l : List UInt8) : List Value := [.string ⟨l.toArray⟩]
theorem se_len (l : List UInt8) : (se l).length = 1 := rfl
theorem elS : El 23 9 1 16 se := ⟨by kernel_rfl, by
  obtain ⟨it, h1, h2, h3, h4⟩ := info_all 9 _ _ _ infoS
  exact ⟨it, _, h1, h2, h3, h4, rfl⟩, fun _ => rfl, fun x v hv => by
    simp only [se, List.mem_singleton] at hv
    rw [hv]
    rfl, by omega⟩
/-- A list of texts of one's own; one that lies in memory. -/
abbrev OwnS (B : Nat) (w : World) (v : Value) (L : List (List UInt8)) : Prop := Own 9 1 se B w v L
abbrev TexS (w : World) (v : Value) (L : List (List UInt8)) : Prop := Cells se w v L
theorem OwnS.cells {B : Nat} {w : World} {v : Value} {L : List (List UInt8)} (h : OwnS B w v L) : TexS w v L := (Own.row elS h).cells
theorem one_cells (w : World) (s : ByteArray) (l : List UInt8) (h : s = ⟨l.toArray⟩) : TexS (w.alloc (.cells #[.string s] 9)) (.slice (some ⟨w.heap.size, 0, none⟩) 1 1) [l] := by
  subst h
  refine .inr ⟨w.heap.size, 0, 1, rfl, Nat.le_refl _, by unfold maxLen; omega, by simp, fun j u hj => ?_⟩
  have hj0 : j = 0 := by
    have := (List.getElem?_eq_some_iff.1 hj).1
    simp [flat, se] at this
    omega
  subst hj0
  simp [flat, se] at hj
  subst hj
  exact cell_obj (heap_alloc_last w _) rfl
theorem ext_mid (s : List UInt8) (a b : Nat) : (⟨s.toArray⟩ : ByteArray).extract a b = ⟨((s.drop a).take (b - a)).toArray⟩ := by
  apply ByteArray.ext; simp [ByteArray.data_extract]
theorem size_of (s : List UInt8) : (⟨s.toArray⟩ : ByteArray).size = s.length := by simp [ByteArray.size]

theorem split_last {l : List UInt8} {k j : Nat} (hk : 0 < k) (hj : j < cnt k l.length) (h : (l.drop (j * k)).length ≤ k) : parts k l = partsN k j l ++ [(l.drop (j * k)).take k] := by
  rw [List.length_drop] at h
  have h1 : cnt k l.length ≤ j + 1 := cnt_all hk (by omega) (by rw [Nat.add_mul]; omega)
  rw [parts, show cnt k l.length = j + 1 by omega, partsN_succ]
theorem split_more {l : List UInt8} {k j : Nat} (hk : 0 < k) (h : k < (l.drop (j * k)).length) : j + 1 < cnt k l.length := by
  rw [List.length_drop] at h
  rcases Nat.lt_or_ge (j + 1) (cnt k l.length) with h1 | h1
  · exact h1
  · have h2 := cnt_le hk l.length
    have h3 := Nat.mul_le_mul_right k h1
    rw [Nat.add_mul] at h3
    omega

def SplitJ (l : List UInt8) (k : Nat) (w : World) (a : Act) (w' : World) : Prop :=
  ∃ j : Nat, ∃ v r u4 u6 u7 u8 u9 u10 u11 u12 u13 u14 u15 u16 u17 u18 u19 u20 u21 u22, a = { tmps := #[.string ⟨List.toArray r⟩, .int .i64 k, undef, undef, u4, v, u6, u7, u8, u9, u10, u11, u12, u13, u14, u15, u16, u17, u18, u19, u20, u21, u22], defers := [] } ∧
    r = l.drop (j * k) ∧ j < cnt k l.length ∧ OwnS w.heap.size w' v (partsN k j l) ∧ Keep w w'
def strLen : Value → Nat
  | .string s => s.size
  | _ => 0
def SplitM (a : Act) (_ : World) : Nat := strLen (a.tmps.getD 0 undef)

set_option maxRecDepth 100000 in
theorem split_at (l : List UInt8) (k : Nat) (w : World) (hk0 : 0 < k) (hk : k ≤ 1000) (hl : l.length ≤ 256 * k) : Calls Try.prog 18 #[.string ⟨l.toArray⟩, .int .i64 k] w fun e w' => ∃ v, e = .returned v ∧ OwnS w.heap.size w' v (parts k l) ∧ Keep w w' := by
  have HC := Lib.hid (cnt_all hk0 (show 1 ≤ 256 by omega) hl)
  have HL := Lib.hid hl
  clear hl
  go_enter Try.func18, Try.ntmps18
  go_wp2
  refine wp_scope_again 0 (SplitJ l k w) SplitM rfl ?_ ?_
  · rintro a w' m ⟨j, v, r, u4, u6, u7, u8, u9, u10, u11, u12, u13, u14, u15, u16, u17, u18, u19, u20, u21, u22, rfl, hr, hj, hO, hK⟩ hm
    have hm2 : m = r.length := by rw [← hm]; simp [SplitM, strLen, size_of]
    have hrl : r.length ≤ 256000 := by rw [hr, List.length_drop]; have := HL.out; omega
    have HR := Lib.hid hr
    have HJ := Lib.hid hj
    have HO := Lib.hid hO
    have HK := Lib.hid hK
    have HM := Lib.hid hm2
    clear hr hj hO hK hm hm2
    by_cases hlt : r.length < k
    · skip
      have hmin : r.length ≤ k := by omega
      have HA := fun w => Lib.hid (one_cells w ((⟨r.toArray⟩ : ByteArray).extract 0 r.length) (r.take r.length) (by rw [ext_mid]; simp))
      have HS := HK.out.size
      go_wp2_with (at_builtin; refine wp_app elS rfl _ _ rfl w.heap.size _ _ (partsN k j l) [r.take r.length] rfl rfl (HO.out.keep ((Keep.refl _).alloc _)) (HA w').out ?q1 ?q2 ?q3 ?_)
      case q1 => rw [partsN_len]; have := HC.out; have := HJ.out; simp; omega
      case q2 => rw [partsN_len]; have := HC.out; have := HJ.out; simp; omega
      case q3 => simp; omega
      intro v' w2 hO2 hG
      have HO2 := Lib.hid hO2
      have HK2 := Lib.hid (HO.out.grown2 HK.out hG)
      clear hO2 hG HA
      go_wp2
      simp only [Exit.jump]
      go_ret
      refine ⟨_, rfl, ?_, HK2.out⟩
      rw [split_last hk0 HJ.out (by rw [← HR.out]; omega), ← HR.out]
      rw [List.take_of_length_le (by omega)]
      exact HO2.out
    · by_cases heq : r.length = k
      · skip
        have hmin : r.length ≤ k := by omega
        have HA := fun w => Lib.hid (one_cells w ((⟨r.toArray⟩ : ByteArray).extract 0 k) (r.take k) (by rw [ext_mid]; simp))
        have HS := HK.out.size
        go_wp2_with (at_builtin; refine wp_app elS rfl _ _ rfl w.heap.size _ _ (partsN k j l) [r.take k] rfl rfl (HO.out.keep ((Keep.refl _).alloc _)) (HA w').out ?q1 ?q2 ?q3 ?_)
        case q1 => rw [partsN_len]; have := HC.out; have := HJ.out; simp; omega
        case q2 => rw [partsN_len]; have := HC.out; have := HJ.out; simp; omega
        case q3 => simp; omega
        intro v' w2 hO2 hG
        have HO2 := Lib.hid hO2
        have HK2 := Lib.hid (HO.out.grown2 HK.out hG)
        clear hO2 hG HA
        go_wp2
        simp only [Exit.jump]
        go_ret
        refine ⟨_, rfl, ?_, HK2.out⟩
        rw [split_last hk0 HJ.out (by rw [← HR.out]; omega), ← HR.out]
        exact HO2.out
      · have hgt : k < r.length := by omega
        have hem : ((⟨r.toArray⟩ : ByteArray).extract k r.length).toList.isEmpty = false := by rw [ext_mid, ByteArray.toList_mk]; simp; omega
        have HA := fun w => Lib.hid (one_cells w ((⟨r.toArray⟩ : ByteArray).extract 0 k) (r.take k) (by rw [ext_mid]; simp))
        have HD := Lib.hid ((ext_mid r k r.length).trans (by rw [List.take_of_length_le (by simp)]))
        have HS := HK.out.size
        go_wp2_with (at_builtin; refine wp_app elS rfl _ _ rfl w.heap.size _ _ (partsN k j l) [r.take k] rfl rfl (HO.out.keep ((Keep.refl _).alloc _)) (HA w').out ?q1 ?q2 ?q3 ?_)
        case q1 => rw [partsN_len]; have := HC.out; have := HJ.out; simp; omega
        case q2 => rw [partsN_len]; have := HC.out; have := HJ.out; simp; omega
        case q3 => simp; omega
        intro v' w2 hO2 hG
        have HO2 := Lib.hid hO2
        have HK2 := Lib.hid (HO.out.grown2 HK.out hG)
        clear hO2 hG HA
        go_wp2
        go_step3
        have h := HR.out
        rw [HD.out]
        refine ⟨rfl, ⟨j + 1, _, r.drop k, _, _, _, _, _, _, _, _, _, _, _, _, _, _, _, _, _, _, rfl, ?_, split_more hk0 (by rw [← h]; omega), ?_, HK2.out⟩, ?_⟩
        · rw [h, List.drop_drop, Nat.add_mul, Nat.one_mul]
        · rw [partsN_succ, ← h]
          exact HO2.out
        · rw [HM.out]
          simp [SplitM, strLen, size_of]
          omega
  · intro again
    go_wp2
    go_step3
    rename_i hK
    exact hK _ _ (again _ _ ⟨0, _, l, _, _, _, _, _, _, _, _, _, _, _, _, _, _, _, _, _, _, rfl, by simp, cnt_pos _ _, Own.nil _ _, Keep.refl _⟩)
end Go.Proofs.Ytlcdaagehamjlaa
