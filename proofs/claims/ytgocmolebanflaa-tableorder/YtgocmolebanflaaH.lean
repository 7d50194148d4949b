/- Proved: a table in memory; what table's rows and place, and the library's search by halves, answer. Condition: the table's routes are in order. -/
import Derived.Test.YtgocmolebanflaaP6
import Derived.Test.YtgocmolebanflaaD
namespace Go.Proofs.Ytgocmolebanflaa
open Go.RowKit

/-- A table lies in block b. -/
structure Tb (w : World) (b : Nat) (l : List Rt) : Prop where
  lies : ∃ v, w.heap[b]? = some (.cells #[v] 75 (0, 0)) ∧ Row rl 34 w v l
  sorted : Sorted l
  few : l.length ≤ 300
theorem Tb.keep {w w' : World} {b : Nat} {l : List Rt} (h : Tb w b l) (k : Keep w w') : Tb w' b l := by
  obtain ⟨⟨v, h1, h2⟩, h3, h4⟩ := h
  exact ⟨⟨v, k.obj h1, h2.keep k⟩, h3, h4⟩
theorem Tb.only {w w' : World} {b c : Nat} {l m : List Rt} (h : Tb w b l) (hc : Tb w c m) (k : Only c w w') (hb : b ≠ c) : Tb w' b l := by
  obtain ⟨⟨v, h1, h2⟩, h3, h4⟩ := h
  obtain ⟨⟨u, k1, _⟩, _, _⟩ := hc
  exact ⟨⟨v, k.obj h1 hb, h2.only k k1 (by decide)⟩, h3, h4⟩
theorem Tb.row {w w' : World} {c : Nat} {α : Type} {enc : α → List Value} {t : TypeId} {v : Value} {l : List α} {m : List Rt} (h : Row enc t w v l) (hc : Tb w c m) (k : Only c w w') (ht : t ≠ 75) : Row enc t w' v l := by
  obtain ⟨⟨u, k1, _⟩, _, _⟩ := hc
  exact h.only k k1 ht

/-- The pointer to a table, or none; its routes. -/
def Tp (w : World) (p : Value) (l : List Rt) : Prop := (p = .pointer none ∧ l = []) ∨ ∃ b, p = .pointer (some ⟨b, 0, none⟩) ∧ Tb w b l
theorem Tp.keep {w w' : World} {p : Value} {l : List Rt} (h : Tp w p l) (k : Keep w w') : Tp w' p l := by
  rcases h with h | ⟨b, h1, h2⟩
  · exact .inl h
  · exact .inr ⟨b, h1, h2.keep k⟩
theorem Tp.sorted {w : World} {p : Value} {l : List Rt} (h : Tp w p l) : Sorted l := by
  rcases h with ⟨_, rfl⟩ | ⟨b, h1, h2⟩
  · exact Sorted.nil
  · exact h2.sorted
theorem Tp.few {w : World} {p : Value} {l : List Rt} (h : Tp w p l) : l.length ≤ 300 := by
  rcases h with ⟨_, rfl⟩ | ⟨b, h1, h2⟩
  · simp
  · exact h2.few

set_option maxRecDepth 100000 in
theorem rows_of {p : Value} {l : List Rt} {w : World} (h : Tp w p l) : ∃ v, Row rl 34 w v l ∧ ∀ w', Keep w w' → Calls Try.prog 43 #[p] w' fun e w'' => e = .returned v ∧ Keep w' w'' := by
  rcases h with ⟨rfl, rfl⟩ | ⟨b, rfl, ⟨v, h1, h2⟩, _, _⟩
  · refine ⟨_, Row.nil _ _, fun w' _ => ?_⟩
    go_enter Try.func43, Try.ntmps43
    go_wp2
    go_ret
    exact ⟨rfl, Keep.refl _⟩
  · refine ⟨v, h2, fun w' k => ?_⟩
    have hc : w'.cell? ⟨b, 0, none⟩ = some v := cell_obj (k.obj h1) rfl
    clear h1 h2 k
    go_enter Try.func43, Try.ntmps43
    go_wp2
    go_ret
    exact ⟨rfl, Keep.refl _⟩
end Go.Proofs.Ytgocmolebanflaa
