/- Proved: what the document's Few and May of texts answer; the laws' first line, of answers that the document fixes, is true, and turns nothing that was there. Condition: the library's table is as its text lays it. -/
import Derived.Test.YtcnaaoakcmdfkaaDoorOp
namespace Go.Proofs.YtcnaaoakcmdfkaaDoor
open Go.RowKit

def fewP (L : List (List UInt8)) : Prop := (∀ t ∈ L, t.length ≤ 1100) ∧ L.length ≤ 300
instance (L : List (List UInt8)) : Decidable (fewP L) := inferInstanceAs (Decidable (_ ∧ _))
theorem all_next {L : List (List UInt8)} {k N : Nat} {t : List UInt8} (h : ∀ x ∈ L.take k, x.length ≤ N) (hk : L[k]? = some t) (ht : t.length ≤ N) : ∀ x ∈ L.take (k + 1), x.length ≤ N := fun x hx => by
  rw [List.take_add_one, hk, Option.toList_some, List.mem_append] at hx
  rcases hx with hx | hx
  · exact h x hx
  · simp at hx; rw [hx]; exact ht
def LnRel (L : List (List UInt8)) (n : Nat) (W : World) (iv : Value) (wr : World) : Prop := wr = W ∧ ∃ k : Nat, iv = .int .i64 k ∧ k ≤ L.length ∧ ∀ x ∈ L.take k, x.length ≤ n
set_option maxRecDepth 100000 in
set_option maxHeartbeats 1000000 in
theorem qfew (a : Option Addr) (cap : Nat) (L : List (List UInt8)) (w : World) (h : ArgL se w a cap L) : Calls Tryd.prog 10 #[.slice a L.length cap] w fun e w' => e = .returned (.bool (decide (fewP L))) ∧ w' = w := by
  have HC := Lib.hid h.cells
  have hsm := h.small
  unfold maxLen at hsm
  obtain ⟨N, hN⟩ : ∃ N, L.length = N := ⟨_, rfl⟩
  have HN := Lib.hid hN
  rw [hN] at hsm ⊢
  clear hN h
  go_enter Tryd.func10, Tryd.ntmps10
  go_wp2
  go_loopw [3] (fun iv wr => LnRel L 1100 w iv wr) (fun i _ => N + 1 - (intOf i).toNat)
  case atStart => exact ⟨rfl, 0, rfl, Nat.zero_le _, by simp⟩
  case round =>
    obtain ⟨rfl, k, rfl, hk, hall⟩ := hrel
    rw [HN.out] at hk
    have HALL := Lib.hid hall
    clear hall
    by_cases hlt : k < N
    · obtain ⟨t, hkt⟩ : ∃ t, L[k]? = some t := ⟨_, List.getElem?_eq_getElem (by rw [HN.out]; exact hlt)⟩
      have hc := HC.out (fun e => by have := HN.out; rw [e] at this; simp at this; omega)
      obtain ⟨g, o, cap', hv, _, _, _⟩ := hc.ptr k (by rw [HN.out]; exact hlt)
      injection hv with e1 e2 e3
      subst e1 e3
      have c7 := TexS.text hc k t hkt
      clear hc e2
      by_cases hlong : t.length ≤ 1100
      · have HALL2 := Lib.hid (all_next HALL.out hkt hlong)
        have hgt : ¬ ((t.length : Int) > 1100) := by omega
        clear hlong hkt
        go_wp2
        go_roundw
        case rel => exact ⟨rfl, k + 1, by go_num, by rw [HN.out]; omega, HALL2.out⟩
        case measure => simp [intOf]; omega
      · have hno := Lib.hid (show decide (fewP L) = false from decide_eq_false fun h => hlong (h.1 t (List.mem_of_getElem? hkt)))
        have hgt : (t.length : Int) > 1100 := by omega
        clear hlong hkt
        go_wp2
        go_ret
        rw [hno.out]
        exact ⟨rfl, rfl⟩
    · obtain rfl : k = N := by omega
      have HE := Lib.hid (show decide (fewP L) = decide ((k : Int) ≤ 300) by
        rw [decide_eq_decide]
        unfold fewP
        rw [HN.out]
        constructor
        · rintro ⟨_, h⟩; omega
        · intro h; exact ⟨fun x hx => HALL.out x (by rw [List.take_of_length_le (by rw [HN.out]; exact Nat.le_refl _)]; exact hx), by omega⟩)
      go_wp2
      go_ret
      rw [HE.out]
      exact ⟨rfl, rfl⟩
set_option maxRecDepth 100000 in
set_option maxHeartbeats 1000000 in
theorem qmay (x y : Int) (a : Option Addr) (cap : Nat) (L : List (List UInt8)) (w : World) (h : ArgL se w a cap L) : Calls Tryd.prog 12 #[.int .i64 x, .int .i64 y, .slice a L.length cap] w fun e w' => e = .returned (.bool (decide (mayP x y L))) ∧ w' = w := by
  have HC := Lib.hid h.cells
  have hsm := h.small
  unfold maxLen at hsm
  obtain ⟨N, hN⟩ : ∃ N, L.length = N := ⟨_, rfl⟩
  have HN := Lib.hid hN
  rw [hN] at hsm ⊢
  clear hN h
  go_enter Tryd.func12, Tryd.ntmps12
  go_wp2
  go_loopw [7] (fun iv wr => LnRel L 1000 w iv wr) (fun i _ => N + 1 - (intOf i).toNat)
  case atStart => exact ⟨rfl, 0, rfl, Nat.zero_le _, by simp⟩
  case round =>
    obtain ⟨rfl, k, rfl, hk, hall⟩ := hrel
    rw [HN.out] at hk
    have HALL := Lib.hid hall
    clear hall
    by_cases hlt : k < N
    · obtain ⟨t, hkt⟩ : ∃ t, L[k]? = some t := ⟨_, List.getElem?_eq_getElem (by rw [HN.out]; exact hlt)⟩
      have hc := HC.out (fun e => by have := HN.out; rw [e] at this; simp at this; omega)
      obtain ⟨g, o, cap', hv, _, _, _⟩ := hc.ptr k (by rw [HN.out]; exact hlt)
      injection hv with e1 e2 e3
      subst e1 e3
      have c7 := TexS.text hc k t hkt
      clear hc e2
      by_cases hlong : t.length ≤ 1000
      · have HALL2 := Lib.hid (all_next HALL.out hkt hlong)
        have hgt : ¬ ((t.length : Int) > 1000) := by omega
        clear hlong hkt
        go_wp2
        go_roundw
        case rel => exact ⟨rfl, k + 1, by go_num, by rw [HN.out]; omega, HALL2.out⟩
        case measure => simp [intOf]; omega
      · have hno := Lib.hid (show decide (mayP x y L) = false from decide_eq_false fun h => hlong (h.1 t (List.mem_of_getElem? hkt)))
        have hgt : (t.length : Int) > 1000 := by omega
        clear hlong hkt
        go_wp2
        go_ret
        rw [hno.out]
        exact ⟨rfl, rfl⟩
    · obtain rfl : k = N := by omega
      have HE := Lib.hid (show mayP x y L ↔ (0 ≤ x ∧ x < 4294967296) ∧ (0 ≤ y ∧ y < 4294967296) ∧ 1 ≤ k ∧ k ≤ 256 by
        unfold mayP
        rw [HN.out]
        exact ⟨fun h => h.2, fun h => ⟨fun x hx => HALL.out x (by rw [List.take_of_length_le (by rw [HN.out]; exact Nat.le_refl _)]; exact hx), h⟩⟩)
      have fin : ∀ (P Q : Prop) [Decidable P] [Decidable Q], (P ↔ Q) → decide P = decide Q := fun P Q _ _ h => by rw [decide_eq_decide]; exact h
      by_cases z1 : x ≥ 0
      rotate_left
      · have d1 : decide (x ≥ 0) = false := decide_eq_false z1
        have HF := Lib.hid (show decide (mayP x y L) = false from decide_eq_false fun h => z1 ((HE.out.1 h).1.1))
        clear z1 fin
        go_wp2
        go_ret
        rw [HF.out]
        exact ⟨rfl, rfl⟩
      have d1 : decide (x ≥ 0) = true := decide_eq_true z1
      by_cases z2 : x < 4294967296
      rotate_left
      · have d2 : decide (x < 4294967296) = false := decide_eq_false z2
        have HF := Lib.hid (show decide (mayP x y L) = false from decide_eq_false fun h => z2 ((HE.out.1 h).1.2))
        clear z1 z2 fin
        go_wp2
        go_ret
        rw [HF.out]
        exact ⟨rfl, rfl⟩
      have d2 : decide (x < 4294967296) = true := decide_eq_true z2
      by_cases z3 : y ≥ 0
      rotate_left
      · have d3 : decide (y ≥ 0) = false := decide_eq_false z3
        have HF := Lib.hid (show decide (mayP x y L) = false from decide_eq_false fun h => z3 ((HE.out.1 h).2.1.1))
        clear z1 z2 z3 fin
        go_wp2
        go_ret
        rw [HF.out]
        exact ⟨rfl, rfl⟩
      have d3 : decide (y ≥ 0) = true := decide_eq_true z3
      by_cases z4 : y < 4294967296
      rotate_left
      · have d4 : decide (y < 4294967296) = false := decide_eq_false z4
        have HF := Lib.hid (show decide (mayP x y L) = false from decide_eq_false fun h => z4 ((HE.out.1 h).2.1.2))
        clear z1 z2 z3 z4 fin
        go_wp2
        go_ret
        rw [HF.out]
        exact ⟨rfl, rfl⟩
      have d4 : decide (y < 4294967296) = true := decide_eq_true z4
      by_cases z5 : (k : Int) ≥ 1
      rotate_left
      · have d5 : decide ((k : Int) ≥ 1) = false := decide_eq_false z5
        have HF := Lib.hid (show decide (mayP x y L) = false from decide_eq_false fun h => z5 (by have := (HE.out.1 h).2.2.1; omega))
        clear z1 z2 z3 z4 z5 fin
        go_wp2
        go_ret
        rw [HF.out]
        exact ⟨rfl, rfl⟩
      have d5 : decide ((k : Int) ≥ 1) = true := decide_eq_true z5
      have HF := Lib.hid (show decide (mayP x y L) = decide ((k : Int) ≤ 256) from fin _ _ ⟨fun h => by have := (HE.out.1 h).2.2.2; omega, fun h => HE.out.2 ⟨⟨z1, z2⟩, ⟨z3, z4⟩, by omega, by omega⟩⟩)
      clear z1 z2 z3 z4 z5 fin
      go_wp2
      go_ret
      rw [HF.out]
      exact ⟨rfl, rfl⟩
end Go.Proofs.YtcnaaoakcmdfkaaDoor
