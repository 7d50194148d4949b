/- Proved: a frame of a list in memory, loaded whole. No condition. -/
import Derived.Test.YtcnaaoakcmdfkaaDoorAy
import Derived.Test.YtcnaaoakcmdfkaaDoorSr
namespace Go.Proofs.YtcnaaoakcmdfkaaDoor
open Go.RowKit

theorem CelF.whole {w : World} {g o cap n : Nat} {l : List Fr} (h : CelF w (.slice (some ⟨g, o, none⟩) l.length cap) l) (hn : n = 6) (j : Nat) (x : Fr) (hx : l[j]? = some x) : (loadCellsFrom ⟨g, o + j * n, none⟩ 0 n #[]).run Tryd.prog w = .ok (fc x) w := by
  have := Cells.load (P := Tryd.prog) fl_len h j x hx 0 6 (fl x) (by simp [fl]) (by omega) hn
  rw [Nat.add_zero, ← hn] at this
  exact this
theorem whole_fq {w : World} {g o cap n : Nat} {l : List Fq} (h : Cells fq w (.slice (some ⟨g, o, none⟩) l.length cap) l) (hn : n = 6) (j : Nat) (x : Fq) (hx : l[j]? = some x) : (loadCellsFrom ⟨g, o + j * n, none⟩ 0 n #[]).run Tryd.prog w = .ok (fc x.f) w := by
  have := Cells.load (P := Tryd.prog) fq_len h j x hx 0 6 (fl x.f) (by simp [fq, fl]) (by omega) hn
  rw [Nat.add_zero, ← hn] at this
  exact this
theorem ack_has {s : Sd} (f : Fr) {i : Nat} (hi : i < s.l.length) (h : hasB s.l i = true) : hasB (s.ack f).l i = true := by
  rw [hasB_nat] at h ⊢
  unfold Sd.ack
  split
  · rw [merL_get _ _ _ _ hi, h]; rfl
  · exact h
theorem ack_no {s : Sd} {f : Fr} (h : s.ackE f ≠ 0) : s.ack f = s := by unfold Sd.ack; rw [if_neg h]
/-- What is sent isn't there. -/
theorem sent_not {s : Sd} (j : Nat) (x : Fr) (hx : s.tickF[j]? = some x) : hasB s.l x.idx = false := by
  rcases tick_cases s with ⟨_, _, h, _⟩ | ⟨_, _, _, h, _⟩ | ⟨_, _, _, _, h, _⟩
  · rw [h] at hx; simp at hx
  · rw [h] at hx; simp at hx
  · rw [h, List.getElem?_map] at hx
    cases hd : s.on.due[j]? with
    | none => rw [hd] at hx; simp at hx
    | some i =>
      rw [hd] at hx
      simp only [Option.map_some, Option.some.injEq] at hx
      have hm := ((due_mem s.on i).1 (List.mem_of_getElem? hd)).1.2.2.2
      rw [← hx]
      show hasB s.l (i : Int) = false
      rw [hasB_nat]
      exact hm
theorem tickF_len (s : Sd) : s.tickF.length ≤ s.l.length := by
  rcases tick_cases s with ⟨_, _, h, _⟩ | ⟨_, _, _, h, _⟩ | ⟨_, _, _, _, h, _⟩
  · rw [h]; simp
  · rw [h]; simp
  · rw [h, List.length_map]; exact due_len s.on
end Go.Proofs.YtcnaaoakcmdfkaaDoor
