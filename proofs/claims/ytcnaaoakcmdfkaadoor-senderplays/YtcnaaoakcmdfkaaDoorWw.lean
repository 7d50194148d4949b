/- Proved: plain mathematics of what a tick sends: it lies in the window, isn't there, and is its chunk; the window's first chunk was sent. No condition. -/
import Derived.Test.YtcnaaoakcmdfkaaDoorWk
namespace Go.Proofs.YtcnaaoakcmdfkaaDoor
open Go.RowKit

theorem sent_is {s : Sd} (hg : Good s) (_h3 : ∀ i ∈ s.on.due, s.on.over i = false) (hF : s.tickF = s.on.due.map s.on.frame) (j : Nat) (x : Fr) (hx : s.tickF[j]? = some x) :
    ∃ i : Nat, x.idx = i ∧ baseN s.l ≤ i ∧ i < baseN s.l + 8 ∧ i < s.ch.length ∧ hasB s.l (i : Int) = false ∧ x.data = (s.at i).data ∧ x.tot = s.ch.length := by
  rw [hF, List.getElem?_map] at hx
  cases hd : s.on.due[j]? with
  | none => rw [hd] at hx; simp at hx
  | some i =>
    rw [hd] at hx
    simp only [Option.map_some, Option.some.injEq] at hx
    have hm := (due_mem s.on i).1 (List.mem_of_getElem? hd)
    refine ⟨i, by rw [← hx]; rfl, hm.1.2.1, hm.1.2.2.1, ?_, ?_, by rw [← hx]; rfl, by rw [← hx]; rfl⟩
    · have := hm.1.1
      rw [← hg.len]
      exact this
    · rw [hasB_nat]
      exact hm.1.2.2.2
theorem first_sent {s : Sd} (hg : Good s) (h1 : ¬ s.full) (ht : s.tick = s.on.puts s.on.due) : s.tick.tries (baseN s.l : Nat) ≠ 0 := by
  unfold Sd.tries
  rw [if_pos (by omega), Int.toNat_natCast, ht, puts_at s.on _ (due_nodup _) hg.on.due]
  have hb : baseN s.l < s.l.length := by
    have := base_le s.l
    unfold Sd.full at h1
    omega
  split
  · exact Nat.succ_ne_zero _
  · rename_i hnot
    intro h0
    refine hnot ((due_mem s.on _).2 ⟨⟨hb, Nat.le_refl _, by show baseN s.l < baseN s.l + 8; omega, base_at s.l⟩, ?_⟩)
    unfold Sd.fresh
    rw [decide_eq_true h0]
    rfl
end Go.Proofs.YtcnaaoakcmdfkaaDoor
