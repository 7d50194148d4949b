/- Proved: frames of memory: nothing that was there has turned (Keep); nothing but one block of it may have turned (Only); a region that draws its order, whose calls keep what was there. No condition. -/
import Derived.Test.YtbakmfeikkpmjaaA
namespace Go.Proofs.Ytbakmfeikkpmjaa
open Go.RowKit

/-- Nothing that was there has turned. -/
def Keep (w w' : World) : Prop := Below w.heap.size w w'
theorem Same.keep {w w' : World} (h : Same w w') : Keep w w' := h.toBelow
theorem Keep.refl (w : World) : Keep w w := Below.refl _ _
theorem Keep.size {w w' : World} (h : Keep w w') : w.heap.size ≤ w'.heap.size := Below.size h
theorem Keep.block {w w' : World} (h : Keep w w') (k : Nat) (hk : k < w.heap.size) : w'.heap[k]? = w.heap[k]? := Below.block h k hk
theorem Keep.drew {w w' : World} (h : Keep w w') : Keep w w'.drew := Below.drew h
theorem Keep.drewN {w w' : World} (h : Keep w w') (n : Nat) : Keep w (w'.drewN n) := ⟨h.1, h.2, h.3, h.4, h.5⟩
theorem Keep.trans {u v w : World} (h : Keep u v) (k : Keep v w) : Keep u w :=
  Below.trans h ⟨k.1, k.2, k.3, k.4, fun i hi => k.5 i (Nat.lt_of_lt_of_le hi h.4)⟩
theorem Keep.alloc {w w' : World} (h : Keep w w') (o : Obj) : Keep w (w'.alloc o) := Below.alloc h h.size o
theorem Keep.setCell {w w' : World} (h : Keep w w') (b i : Nat) (v : Value) (hb : w.heap.size ≤ b) : Keep w (w'.setCell ⟨b, i, none⟩ v) :=
  ⟨h.1, h.2, h.3, by have := h.size; simpa [World.setCell] using this, fun k hk => (Below.heap_setCell _ _ _ _ (by show k ≠ b; omega)).trans (h.block k hk)⟩
theorem Keep.setRow {w w' : World} (h : Keep w w') (b : Nat) (c : Array Value) (hb : w.heap.size ≤ b) : Keep w (w'.setRow b c) :=
  ⟨h.1, h.2, h.3, by have := h.size; simpa [World.setRow] using this, fun k hk => by
    rw [← h.block k hk]
    simp only [World.setRow, Array.getElem?_modify]
    rw [if_neg (by omega)]⟩
theorem block_lt {w : World} {b : Nat} {o : Obj} (h : w.heap[b]? = some o) : b < w.heap.size := by
  rcases Nat.lt_or_ge b w.heap.size with h1 | h1
  · exact h1
  · rw [Array.getElem?_eq_none h1] at h
    cases h
theorem cell_obj {w : World} {b i : Nat} {c : Array Value} {t : TypeId} {fz : Nat × Nat} {v : Value} (h : w.heap[b]? = some (.cells c t fz)) (hv : c[i]? = some v) : w.cell? ⟨b, i, none⟩ = some v := by
  rw [cell_of_row _ _ _ _ _ _ h, hv]

set_option maxRecDepth 100000 in
theorem Keep.obj {w w' : World} {b : Nat} (k : Keep w w') {o : Obj} (h : w.heap[b]? = some o) : w'.heap[b]? = some o := (k.block b (block_lt h)).trans h
theorem Keep.grown {w v w' : World} {row : Option Nat} (h : Keep w v) (hg : v.grownBy w' row) (hrow : ∀ k, row = some k → w.heap.size ≤ k) : Keep w w' :=
  ⟨hg.os.trans h.1, hg.tape.trans h.2, hg.output.trans h.3, Nat.le_trans h.size hg.size, fun k hk => (hg.block k (Nat.lt_of_lt_of_le hk h.size) (fun e => by have := hrow k e.symm; omega)).trans (h.block k hk)⟩

/-- What a call answers: whatever memory is, and it turns nothing that was there. -/
def GivesK (P : Program) (f : FuncId) (args : Array Value) (v : Value) : Prop := ∀ w, Calls P f args w fun e w' => e = .returned v ∧ Keep w w'
theorem Gives.keep {P : Program} {f : FuncId} {args : Array Value} {v : Value} (h : Gives P f args v) : GivesK P f args v := fun w => (h w).mono fun _ _ ⟨a, b⟩ => ⟨a, b.keep⟩
/-- The worlds in which nothing that was there has turned. -/
def KW (w : World) : Type := { w' : World // Keep w w' }
instance (w : World) : Nonempty (KW w) := ⟨⟨w, Keep.refl w⟩⟩
theorem KW.block {w : World} {b : Nat} (u : KW w) {o : Obj} (h : w.heap[b]? = some o) : u.1.heap[b]? = some o := u.2.obj h
theorem GivesK.at {P : Program} {f : FuncId} {args : Array Value} {v : Value} (h : GivesK P f args v) {w0 : World} (u : KW w0) : Calls P f args u.1 fun e w'' => e = .returned v ∧ ∃ m : KW w0, w'' = m.1 :=
  (h u.1).mono fun _ w' ⟨he, hb⟩ => ⟨he, ⟨w', u.2.trans hb⟩, rfl⟩
/-- A call that needs what was there. -/
theorem keep_at {P : Program} {f : FuncId} {args : Array Value} {v : Value} {w0 : World} (h : ∀ w, Keep w0 w → Calls P f args w fun e w' => e = .returned v ∧ Keep w w') (u : KW w0) : Calls P f args u.1 fun e w'' => e = .returned v ∧ ∃ m : KW w0, w'' = m.1 :=
  (h u.1 u.2).mono fun _ w' ⟨he, hb⟩ => ⟨he, ⟨w', u.2.trans hb⟩, rfl⟩

theorem wp_region_keep {P : Program} {id : Nat} {Q : Exit → Act → World → Prop} {a : Act} {w0 w : World} {l : List Oper} (hw : Keep w0 w) (hm : P.follows .mixedOrders = true) (hB : Region.lexB .any l.toArray = true)
    (h : wpQuiet P l.toArray (fun w' => ∃ u : KW w0, w' = u.1) (fun a' => ∀ w', (∃ u : KW w0, w' = u.1) → Q .normal a' w') l a) : (Code.region id l.toArray true).wp P Q a w :=
  wp_region_quiet (C := fun w' => ∃ u : KW w0, w' = u.1) hm hB ⟨⟨w.drew, hw.drew⟩, rfl⟩ (by simpa using h)

/-- Nothing but block b, of what was there, may have turned. -/
structure Only (b : Nat) (w w' : World) : Prop where
  os : w'.os = w.os
  tape : w'.tape = w.tape
  output : w'.output = w.output
  size : w.heap.size ≤ w'.heap.size
  block : ∀ k, k < w.heap.size → k ≠ b → w'.heap[k]? = w.heap[k]?
theorem Only.refl (b : Nat) (w : World) : Only b w w := ⟨rfl, rfl, rfl, Nat.le_refl _, fun _ _ _ => rfl⟩
theorem Only.trans {b : Nat} {u v w : World} (h : Only b u v) (k : Only b v w) : Only b u w :=
  ⟨k.os.trans h.os, k.tape.trans h.tape, k.output.trans h.output, Nat.le_trans h.size k.size, fun i hi hb => (k.block i (Nat.lt_of_lt_of_le hi h.size) hb).trans (h.block i hi hb)⟩
theorem Only.setCell (b o : Nat) (w : World) (v : Value) : Only b w (w.setCell ⟨b, o, none⟩ v) :=
  ⟨rfl, rfl, rfl, by simp [World.setCell], fun k _ hb => Below.heap_setCell _ _ _ _ hb⟩
theorem Only.keep {b : Nat} {w w' : World} (k : Keep w w') : Only b w w' := ⟨k.1, k.2, k.3, k.4, fun i hi _ => k.5 i hi⟩
/-- What is done to a block that wasn't there. -/
theorem Only.made {b : Nat} {u v w : World} (h : Keep u v) (k : Only b v w) (hb : u.heap.size ≤ b) : Keep u w :=
  ⟨k.os.trans h.1, k.tape.trans h.2, k.output.trans h.3, Nat.le_trans h.size k.size, fun i hi => (k.block i (Nat.lt_of_lt_of_le hi h.size) (by omega)).trans (h.block i hi)⟩
theorem Only.obj {b g : Nat} {w w' : World} (k : Only b w w') {o : Obj} (h : w.heap[g]? = some o) (hg : g ≠ b) : w'.heap[g]? = some o := (k.block g (block_lt h) hg).trans h
end Go.Proofs.Ytbakmfeikkpmjaa
