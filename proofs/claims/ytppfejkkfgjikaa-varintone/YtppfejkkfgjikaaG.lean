/- A region that draws its order, whose first operation alone may come up first: behind it one walk of the lexical order serves every order. No condition. -/
import Derived.WalkKit
import Derived.Deep.QuietTactic
import Derived.BigQuiet
import Derived.Deep.RegionWith
namespace Go.Proofs.Ytppfejkkfgjikaa
open Go.RowKit

theorem wpAny_quiet_from {P : Program} {ops : Array Oper} {fuel : Nat} {listed : Array Bool} {a : Act} {w : World} {Q : Exit → Act → World → Prop} (l : List Oper) (k : Nat) (hs : Region.noSelect ops = true)
    (hl : ops.toList.drop k = l) (hf : l.length = fuel) (hB : Region.lexFrom .any ops fuel k listed = true)
    (h : wpQuiet P ops (fun w' => ∃ n, w' = w.drewN n) (fun a' => ∀ w', (∃ n, w' = w.drewN n) → Q .normal a' w') l a) : wpAny P .any ops Q fuel listed a w := by
  subst hf
  refine wpAny_of_quiet (C := fun w' => ∃ n, w' = w.drewN n) (Q := fun a' => ∀ w', (∃ n, w' = w.drewN n) → Q .normal a' w') (fun _ w' hw' h => h w' hw') _ _ _ _ ⟨0, rfl⟩ ?_
  refine wpAnyQ_lex hs l k listed a ?_ hB h
  intro j
  rw [← hl, List.getElem?_drop, Array.getElem?_toList]

end Go.Proofs.Ytppfejkkfgjikaa
