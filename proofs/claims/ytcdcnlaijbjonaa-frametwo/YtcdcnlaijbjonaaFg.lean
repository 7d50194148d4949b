/- Proved: what the document's number and value of a frame answer: a number as bytes, bytes as a number. Condition: up to four bytes. -/
import Derived.Test.YtcdcnlaijbjonaaFq
import Derived.Laws.MakeOwn
namespace Go.Proofs.Ytcdcnlaijbjonaa
open Go.RowKit

theorem info_all (t : TypeId) (z : Value) (s by_ : Nat) (h : (Try.prog.info? t).map (fun i => (i.zero, i.size, i.bytes)) = some (some z, s, by_)) : ∃ it, Try.prog.info? t = some it ∧ it.zero = some z ∧ it.size = s ∧ it.bytes = by_ := by
  cases hh : Try.prog.info? t with
  | none => rw [hh] at h; simp at h
  | some it => rw [hh] at h; simp at h; exact ⟨it, rfl, h.1, h.2.1, h.2.2⟩
theorem infoB : (Try.prog.info? 5).map (fun i => (i.zero, i.size, i.bytes)) = some (some (.int .u8 0), 1, 1) := by kernel_rfl
/-- A byte's cell. -/
def ue (c : UInt8) : List Value := [bv c]
theorem elB : El 44 5 1 1 ue := ⟨by kernel_rfl, by
  obtain ⟨it, h1, h2, h3, h4⟩ := info_all 5 _ _ _ infoB
  exact ⟨it, _, h1, h2, h3, h4, rfl⟩, fun _ => rfl, fun x v hv => by
    simp only [ue, List.mem_singleton] at hv
    rw [hv]
    rfl, by omega⟩
theorem flat_ue (l : List UInt8) : flat ue l = l.map bv := by
  induction l with
  | nil => rfl
  | cons c l ih => rw [flat_cons, ih]; rfl
abbrev OwnB (B : Nat) (w : World) (v : Value) (l : List UInt8) : Prop := Own 5 1 ue B w v l
theorem OwnB.text {w : World} {B : Nat} {v : Value} {L : List UInt8} (h : OwnB B w v L) : (convert 44 9 v).run Try.prog w = .ok (.string ⟨L.toArray⟩) w := by
  unfold OwnB Own at h
  rw [flat_ue] at h
  obtain ⟨_, h2⟩ := h
  rcases h2 with ⟨rfl, hn⟩ | ⟨g, cap, cur, rfl, hb, hg, h3, h4, h5, h6⟩
  · have : L = [] := List.eq_nil_of_length_eq_zero (by omega)
    subst this
    rw [run_convert_bytes_nil w 44 5 Try.underlying44 Try.underlying5 0 0 9 Try.underlying9]
    rfl
  · refine run_convert_bytes_back (P := Try.prog) w 44 9 5 ⟨g, 0, none⟩ cap L Try.underlying44 Try.underlying5 Try.underlying9 ?_
    intro j hj
    have hadd : (⟨g, 0, none⟩ : Addr).add j = ⟨g, j, none⟩ := by unfold Addr.add; split <;> simp_all
    rw [hadd]
    refine cell_obj hg ?_
    have h8 : (cur.toList.take (L.length * 1))[j]? = cur.toList[j]? := List.getElem?_take_of_lt (by omega)
    rw [h6] at h8
    have : cur[j]? = cur.toList[j]? := by simp
    rw [this, ← h8]
    simp [hj, bv]
theorem one_byte (w : World) (c : Nat) (hc : c < 256) : Cells ue (w.alloc (.cells #[.int .u8 (c : Nat)] 5)) (.slice (some ⟨w.heap.size, 0, none⟩) 1 1) [UInt8.ofNat c] := by
  refine .inr ⟨w.heap.size, 0, 1, rfl, Nat.le_refl _, by unfold maxLen; omega, by simp, fun j u hj => ?_⟩
  have hj0 : j = 0 := by
    have := (List.getElem?_eq_some_iff.1 hj).1
    simp [flat, ue] at this
    omega
  subst hj0
  simp only [flat_ue, List.map_cons, List.map_nil, List.getElem?_cons_zero, Option.some.injEq] at hj
  subst hj
  refine cell_obj (heap_alloc_last w _) ?_
  unfold bv
  rw [UInt8.toNat_ofNat_of_lt' hc]
  rfl
def QnRel (w : World) (k n : Nat) (v i : Value) (wr : World) : Prop :=
  ∃ m : Nat, ∃ p : List UInt8, i = .int .i64 ((m : Int) - 1) ∧ m ≤ k ∧ p.length ≤ k ∧ p ++ be m n = be k n ∧ OwnB w.heap.size wr v p ∧ Keep w wr

set_option maxRecDepth 100000 in
theorem qnumber (n k : Nat) (hk : k ≤ 4) (_hn : n < 4294967296) : GivesK Try.prog 23 #[.int .i64 n, .int .i64 k] (.string ⟨(be k n).toArray⟩) := by
  intro w
  have H0 := Lib.hid (show QnRel w k n (.slice (some ⟨w.heap.size, 0, none⟩) 0 0) (.int .i64 ((k : Int) - 1)) (w.alloc (.cells #[] 5)) from ⟨k, [], rfl, Nat.le_refl _, Nat.zero_le _, rfl, Own.made _ _ (Nat.le_refl _), (Keep.refl w).alloc _⟩)
  go_enter Try.func23, Try.ntmps23
  go_wp2
  go_loopw [5, 6] (fun v i wr => QnRel w k n v i wr) (fun _ i _ => (intOf i + 1).toNat)
  case atStart => exact H0.out
  case round =>
    obtain ⟨m, p, rfl, hm, hp, hbe, hO, hK⟩ := hrel
    have HO := Lib.hid hO
    have HK := Lib.hid hK
    have HBE := Lib.hid hbe
    have HP := Lib.hid hp
    clear hO hK hbe hp H0
    by_cases h0 : m = 0
    · subst h0
      have hcv := HO.out.text
      have hpe : p = be k n := by have := HBE.out; rwa [be, List.append_nil] at this
      rw [hpe] at hcv
      clear hpe
      go_wp2
      go_ret
      exact ⟨rfl, HK.out⟩
    · obtain ⟨j, rfl⟩ : ∃ j, m = j + 1 := ⟨m - 1, by omega⟩
      have hj1 : (((j + 1 : Nat) : Int) - 1) = (j : Int) := by omega
      have hb := byte_int n j
      have hc256 : n / 256 ^ j % 256 < 256 := Nat.mod_lt _ (by omega)
      have HBE2 := Lib.hid (show (p ++ [byteAt n j]) ++ be j n = be k n from by rw [List.append_assoc]; exact HBE.out)
      have HPL := Lib.hid (show p.length + 1 ≤ k from by
        have := congrArg List.length HBE.out
        rw [List.length_append, be_len, be_len] at this
        omega)
      unfold byteAt at HBE2
      generalize n / 256 ^ j % 256 = c at *
      rw [hj1]
      have HA := fun w => Lib.hid (one_byte w c hc256)
      go_wp2_with (at_builtin; refine wp_app elB rfl _ _ rfl w.heap.size _ _ p [UInt8.ofNat c] rfl rfl (HO.out.keep ((Keep.refl _).alloc _)) (HA wr).out ?q1 ?q2 ?q3 ?_)
      case q1 => have := HPL.out; simp; omega
      case q2 => have := HPL.out; simp; omega
      case q3 => have := HK.out.size; simp; omega
      intro v' w2 hO2 hG
      have HO2 := Lib.hid hO2
      have HK2 := Lib.hid (HO.out.grown2 HK.out hG)
      clear hO2 hG HA hb
      go_wp2
      go_roundw
      case rel => exact ⟨j, p ++ [UInt8.ofNat c], by go_num, by omega, by rw [List.length_append]; exact HPL.out, HBE2.out, HO2.out, HK2.out⟩
      case measure => simp [intOf]

set_option maxRecDepth 100000 in
theorem qvalue (l : List UInt8) (hl : l.length ≤ 4) (w : World) : Calls Try.prog 24 #[.string ⟨l.toArray⟩] w fun e w' => e = .returned (.int .i64 (vbF 0 l : Nat)) ∧ w' = w := by
  go_enter Try.func24, Try.ntmps24
  go_wp2
  go_loopw [3, 4] (fun a v wr => NumRel w l l.length a v wr) (fun _ v _ => l.length - (intOf v).toNat)
  case atStart => exact ⟨0, rfl, Nat.zero_le _, rfl, rfl⟩
  case round =>
    obtain ⟨j, rfl, hj, rfl, rfl⟩ := hrel
    by_cases hlt : j < l.length
    · have hv := vbF_lt l j (by omega)
      have hor := vbF_more l j hlt
      have hge : ∀ h, (({ data := l.toArray } : ByteArray)[j]'h) = l[j] := fun _ => rfl
      have hc := l[j].toNat_lt
      have HOR := Lib.hid hor
      clear hor
      generalize hx : vbF 0 (l.take j) = x at *
      generalize hcc : l[j].toNat = c at *
      go_wp2
      go_roundw
      case rel => exact ⟨j + 1, by go_num, by omega, by rw [HOR.out]; congr 1, rfl⟩
      case measure => simp [intOf]; omega
    · obtain rfl : j = l.length := by omega
      rw [List.take_of_length_le (Nat.le_refl _)]
      go_wp2
      go_ret
      exact ⟨rfl, rfl⟩
end Go.Proofs.Ytcdcnlaijbjonaa
