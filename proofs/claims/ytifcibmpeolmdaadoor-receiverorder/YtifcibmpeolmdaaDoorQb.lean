/- Proved: what the document's Same, Merge and Behind of maps of chunks answer, lists of bools or of ints in memory. Condition: a list has at most 256 bools, or a million ints; a text at most a million bytes. -/
import Derived.Test.YtifcibmpeolmdaaDoorQa
import Derived.Deep.QuietTactic
import Derived.BigQuiet
namespace Go.Proofs.YtifcibmpeolmdaaDoor
open Go.RowKit

def EgRel {α : Type} (W : World) (l m : List α) (i : Value) (wr : World) : Prop := ∃ k : Nat, i = .int .i64 k ∧ k ≤ l.length ∧ l.take k = m.take k ∧ Keep W wr
theorem tmod_bit (y k : Nat) : ((y : Int) / 2 ^ k).tmod 2 = ((y / 2 ^ k % 2 : Nat) : Int) := by
  have e : ((y : Int) / 2 ^ k) = ((y / 2 ^ k : Nat) : Int) := by simp
  rw [e]
  generalize y / 2 ^ k = x
  rw [Int.tmod_eq_emod_of_nonneg (by omega)]
  omega
theorem flat_be (l : List Bool) : flat be l = l.map Value.bool := by
  induction l with
  | nil => rfl
  | cons c l ih => rw [flat_cons, ih]; rfl
theorem Own.ptr {α : Type} {t k B : Nat} {enc : α → List Value} {w : World} {v : Value} {l : List α} (h : Own t k enc B w v l) (hn : 0 < l.length) : ∃ g cap, v = .slice (some ⟨g, 0, none⟩) l.length cap ∧ B ≤ g ∧ g < w.heap.size := by
  rcases h.2 with ⟨_, h2⟩ | ⟨g, cap, cur, hv, hb, hg, _⟩
  · omega
  · exact ⟨g, cap, hv, hb, block_lt hg⟩
theorem Own.boolAt {B g n cap : Nat} {w : World} {l : List Bool} (h : OwnO B w (.slice (some ⟨g, 0, none⟩) n cap) l) (hn : n = l.length) (j : Nat) (hj : j < l.length) : w.cell? ⟨g, j, none⟩ = some (.bool (l.getD j false)) := by
  subst hn
  unfold OwnO Own at h
  rw [flat_be] at h
  have := World.ownsRow.cellAt h j (by omega)
  rw [this, List.getElem?_map, get_of_getD hj]
  rfl
theorem Own.freeAt {B g n cap : Nat} {w : World} {l : List Bool} (h : OwnO B w (.slice (some ⟨g, 0, none⟩) n cap) l) (hn : n = l.length) (j : Nat) : w.frozen? ⟨g, j, none⟩ = false := by
  subst hn
  exact World.ownsRow.frozenAt h j
theorem Own.put {B g n cap : Nat} {w : World} {l : List Bool} (h : OwnO B w (.slice (some ⟨g, 0, none⟩) n cap) l) (hn : n = l.length) (j : Nat) : OwnO B (w.setCell ⟨g, j, none⟩ (.bool true)) (.slice (some ⟨g, 0, none⟩) n cap) (l.set j true) := by
  subst hn
  unfold OwnO Own at *
  rw [flat_be] at *
  have := (World.ownsRow.stored h j (.bool true)).1
  rw [List.length_set, List.map_set]
  exact this
def QgRel (w : World) (l : List Bool) (a : Int) (s : List UInt8) (v cv iv : Value) (wr : World) : Prop :=
  ∃ k : Nat, iv = .int .i64 k ∧ cv = .int .i64 (newK l a s k : Nat) ∧ k ≤ l.length ∧ OwnO w.heap.size wr v (merK l a s k) ∧ Keep w wr

end Go.Proofs.YtifcibmpeolmdaaDoor
