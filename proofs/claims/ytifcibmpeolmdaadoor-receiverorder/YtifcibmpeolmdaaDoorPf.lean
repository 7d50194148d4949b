/- Proved: what the library's Join of texts with nothing between them, and the receiver's Data answer. Condition: texts are short enough for memory; the receiver lies in memory. -/
import Derived.Test.YtifcibmpeolmdaaDoorPe
import Derived.Test.YtifcibmpeolmdaaDoorShelf
import Derived.Lib.Join
namespace Go.Proofs.YtifcibmpeolmdaaDoor
open Go.RowKit

theorem join_empty (L : List (List UInt8)) : Lib.join L [] = L.flatten := by
  cases L with
  | nil => rfl
  | cons x r =>
    rw [Lib.join_cons, List.flatten_cons]
    congr 1
    unfold Lib.joinTail
    congr 1
    induction r with
    | nil => rfl
    | cons y r => simp
theorem join_at (v : Value) (L : List (List UInt8)) (w : World) (hv : TexS w v L) (hL : L.length ≤ 1000000) (hl : L.flatten.length ≤ 1000000) : Calls Tryd.prog 42 #[v, .string ⟨#[]⟩] w fun e w' => e = .returned (.string ⟨L.flatten.toArray⟩) ∧ Keep w w' := by
  have hv0 := hv
  rcases hv with ⟨rfl, rfl⟩ | ⟨g, o, cap, rfl, h1, h2, h3, h4⟩
  · exact (Tryd.strings_Join_none none 0 _ w).mono fun e w' ⟨a, b⟩ => ⟨a, by rw [b]; exact Keep.refl _⟩
  · have hm : (L.map fun x => (⟨x.toArray⟩ : ByteArray)).map (·.data.toList) = L := by
      rw [List.map_map]
      exact (List.map_congr_left fun _ _ => rfl).trans (List.map_id _)
    have h := Tryd.strings_Join g o cap (L.map fun x => ⟨x.toArray⟩) ⟨#[]⟩ w (fun j x hx => by
      rw [List.getElem?_map] at hx
      cases hj : L[j]? with
      | none => rw [hj] at hx; cases hx
      | some y =>
        rw [hj] at hx
        injection hx with hx
        subst hx
        exact TexS.text hv0 j y hj) h3 (by rw [List.length_map]; omega) (by rw [List.length_map]; exact h1) (by rw [hm]; exact (by rw [show (⟨#[]⟩ : ByteArray).data.toList = [] from rfl, join_empty]; omega))
    rw [List.length_map, hm, show (⟨#[]⟩ : ByteArray).data.toList = [] from rfl, join_empty] at h
    exact h
theorem flat_le : ∀ L : List (List UInt8), (∀ i, (L.getD i []).length ≤ 1000) → L.flatten.length ≤ 1000 * L.length
  | [], _ => by simp
  | x :: L, h => by
    have h0 := h 0
    have h1 := flat_le L (fun i => by have := h (i + 1); simpa using this)
    rw [List.flatten_cons, List.length_append, List.length_cons]
    simp at h0
    omega
theorem Good.flat {r : Rv} (h : Good r) : r.c.flatten.length ≤ 256000 := by
  have := flat_le r.c h.text
  have := h.few
  omega
section
variable {b bm bc : Nat} {m : Option Nat} {r : Rv} {w : World}
set_option maxRecDepth 100000 in
theorem vdata_at (h : S w b bm bc m r) : Calls Tryd.prog 21 #[.pointer (some ⟨b, 0, none⟩)] w fun e w' => e = .returned (.tuple #[.string ⟨r.data.toArray⟩, .int .i64 (r.dataE : Nat)]) ∧ Keep w w' := by
  have HD := Lib.hid (vdone_at h)
  by_cases hf : r.full
  · have HE := Lib.hid (show r.data = r.c.flatten ∧ r.dataE = 0 from ⟨if_pos hf, if_pos hf⟩)
    have HC := Lib.hid (fun w1 (k : Keep w w1) => (h.keep k).list)
    have HJ := Lib.hid (fun w1 (k : Keep w w1) => join_at _ r.c w1 (h.keep k).texts (by have := h.good.few; omega) (by have := h.good.flat; omega))
    rw [decide_eq_true hf] at HD
    rw [HE.out.1, HE.out.2]
    clear h hf HE
    generalize r.c.length = N at *
    go_enter Tryd.func21, Tryd.ntmps21
    go_wp2_with fail
    refine HD.out.mono ?_
    rintro e w1 ⟨rfl, k1⟩
    have HK := Lib.hid k1
    have c2 := HC.out w1 k1
    clear k1 HD HC
    go_wp2_with fail
    refine (HJ.out w1 HK.out).mono ?_
    rintro e w2 ⟨rfl, k2⟩
    have HK2 := Lib.hid (HK.out.trans k2)
    clear k2 HJ c2
    go_wp2
    go_ret2
    exact ⟨rfl, HK2.out⟩
  · have HE := Lib.hid (show r.data = [] ∧ r.dataE = 11 from ⟨if_neg hf, if_neg hf⟩)
    rw [decide_eq_false hf] at HD
    rw [HE.out.1, HE.out.2]
    clear h hf HE
    go_enter Tryd.func21, Tryd.ntmps21
    go_wp2_with fail
    refine HD.out.mono ?_
    rintro e w1 ⟨rfl, k1⟩
    have HK := Lib.hid k1
    clear k1 HD
    go_wp2
    go_ret2
    exact ⟨rfl, HK.out⟩
end
end Go.Proofs.YtifcibmpeolmdaaDoor
