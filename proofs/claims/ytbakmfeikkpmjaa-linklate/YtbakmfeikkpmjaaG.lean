/- Proved: rules of the walk: a function whose body jumps back to one label; a region that draws its order, whose calls make memory but turn nothing that was there. No condition. -/
import Derived.WalkKit
import Derived.Deep.QuietTactic
import Derived.BigQuiet
import Derived.Deep.RegionWith
import Derived.ScopeJumps
import Derived.Lib.Hide
namespace Go.Proofs.Ytbakmfeikkpmjaa
open Go.RowKit

theorem wp_scope_again {P : Program} {a : Act} {w : World} {Q : Exit → Act → World → Prop} {c rest : Code} (l : Nat) (J : Act → World → Prop) (μ : Act → World → Nat) (hf : findLabel c l = some (Code.skip.seq rest))
    (pass : ∀ a w m, J a w → μ a w = m → rest.wp P (Exit.jump l (fun a' w' => J a' w' ∧ μ a' w' < m) Q) a w)
    (first : (∀ a w, J a w → rest.wp P (Exit.jump l J Q) a w) → c.wp P (Exit.jump l J Q) a w) : (Code.scope c).wp P Q a w := by
  refine wp_scope_jumps l J μ hf (first fun a w h => ?_) (fun a w h => wp_seq (wp_skip (pass a w _ h rfl)))
  refine Code.wp_mono ?_ (pass a w _ h rfl)
  intro e a' w' he
  cases e <;> first | exact he | exact ⟨he.1, he.2.1⟩

/-- Nothing that was there has turned; no draw was taken back. -/
structure Same (w w' : World) : Prop extends Below w.heap.size w w' where
  drawn : w.drawn ≤ w'.drawn
theorem Same.refl (w : World) : Same w w := ⟨Below.refl _ _, Nat.le_refl _⟩
theorem Same.drew {w w' : World} (h : Same w w') : Same w w'.drew := ⟨Below.drew h.toBelow, Nat.le_succ_of_le h.drawn⟩
theorem Same.drewN {w w' : World} (h : Same w w') (n : Nat) : Same w (w'.drewN n) := ⟨⟨h.os, h.tape, h.output, h.size, h.block⟩, Nat.le_trans h.drawn (Nat.le_add_right _ _)⟩
theorem Same.trans {u v w : World} (h : Same u v) (k : Same v w) : Same u w :=
  ⟨Below.trans h.toBelow ⟨k.os, k.tape, k.output, k.size, fun i hi => k.block i (Nat.lt_of_lt_of_le hi h.size)⟩, Nat.le_trans h.drawn k.drawn⟩
theorem Same.alloc {w w' : World} (h : Same w w') (o : Obj) : Same w (w'.alloc o) := ⟨Below.alloc h.toBelow h.size o, h.drawn⟩

/-- What a call answers: whatever memory is, and it turns nothing that was there. -/
def Gives (P : Program) (f : FuncId) (args : Array Value) (v : Value) : Prop := ∀ w, Calls P f args w fun e w' => e = .returned v ∧ Same w w'
theorem Gives.of_same {P : Program} {f : FuncId} {args : Array Value} {v : Value} (h : ∀ w, Calls P f args w fun e w' => e = .returned v ∧ w' = w) : Gives P f args v :=
  fun w => (h w).mono fun _ _ ⟨he, hw⟩ => ⟨he, by rw [hw]; exact Same.refl w⟩
/-- The worlds in which nothing that was there has turned. -/
def SW (w : World) : Type := { w' : World // Same w w' }
instance (w : World) : Nonempty (SW w) := ⟨⟨w, Same.refl w⟩⟩
/-- .. in a region's walk. -/
theorem Gives.at {P : Program} {f : FuncId} {args : Array Value} {v : Value} (h : Gives P f args v) {w0 : World} (u : SW w0) : Calls P f args u.1 fun e w'' => e = .returned v ∧ ∃ m : SW w0, w'' = m.1 :=
  (h u.1).mono fun _ w' ⟨he, hb⟩ => ⟨he, ⟨w', u.2.trans hb⟩, rfl⟩

theorem wpAny_same {P : Program} {ops : Array Oper} {fuel : Nat} {listed : Array Bool} {a : Act} {w0 w : World} {Q : Exit → Act → World → Prop} (l : List Oper) (k : Nat) (hs : Region.noSelect ops = true)
    (hw : Same w0 w) (hl : ops.toList.drop k = l) (hf : l.length = fuel) (hB : Region.lexFrom .any ops fuel k listed = true)
    (h : wpQuiet P ops (fun w' => ∃ u : SW w0, w' = u.1) (fun a' => ∀ w', (∃ u : SW w0, w' = u.1) → Q .normal a' w') l a) : wpAny P .any ops Q fuel listed a w := by
  subst hf
  refine wpAny_of_quiet (C := fun w' => ∃ u : SW w0, w' = u.1) (Q := fun a' => ∀ w', (∃ u : SW w0, w' = u.1) → Q .normal a' w') (fun _ w' hw' h => h w' hw') _ _ _ _ ⟨⟨w, hw⟩, rfl⟩ ?_
  refine wpAnyQ_lex hs l k listed a ?_ hB h
  intro j
  rw [← hl, List.getElem?_drop, Array.getElem?_toList]

theorem wp_region_same {P : Program} {id : Nat} {Q : Exit → Act → World → Prop} {a : Act} {w0 w : World} {l : List Oper} (hw : Same w0 w) (hm : P.follows .mixedOrders = true) (hB : Region.lexB .any l.toArray = true)
    (h : wpQuiet P l.toArray (fun w' => ∃ u : SW w0, w' = u.1) (fun a' => ∀ w', (∃ u : SW w0, w' = u.1) → Q .normal a' w') l a) : (Code.region id l.toArray true).wp P Q a w :=
  wp_region_quiet (C := fun w' => ∃ u : SW w0, w' = u.1) hm hB ⟨⟨w.drew, hw.drew⟩, rfl⟩ (by simpa using h)

end Go.Proofs.Ytbakmfeikkpmjaa
