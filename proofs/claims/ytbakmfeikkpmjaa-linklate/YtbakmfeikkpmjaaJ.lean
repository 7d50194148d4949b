/- Proved: lists that grow (append), over things of whatever type. Condition: lists are short enough for memory. -/
import Derived.Test.YtbakmfeikkpmjaaE
import Derived.Laws.AppendOwnNone
import Derived.Lib.AppendZerosOnto
import Derived.OwnWalk
namespace Go.Proofs.Ytbakmfeikkpmjaa
open Go.RowKit

theorem flat_one' {α : Type} {enc : α → List Value} (h : ∀ x, ∀ v ∈ enc x, v.oneCell' = true) (l : List α) : ∀ v ∈ flat enc l, v.oneCell' = true := by
  intro v hv
  simp only [flat, List.mem_flatMap] at hv
  obtain ⟨x, _, hx⟩ := hv
  exact h x v hx
/-- A list that one has made oneself, behind all that was there. -/
def Own {α : Type} (t k : Nat) (enc : α → List Value) (B : Nat) (w : World) (v : Value) (l : List α) : Prop := w.ownsRow B t k v l.length (flat enc l)
/-- A type of things, and lists of them. -/
structure El {α : Type} (ts t k bs : Nat) (enc : α → List Value) : Prop where
  under : Try.prog.underlying ts = some (.slice t)
  info : ∃ it z, Try.prog.info? t = some it ∧ it.zero = some z ∧ it.size = k ∧ it.bytes = bs ∧ z.cells.size = k
  len : ∀ x, (enc x).length = k
  one : ∀ x, ∀ v ∈ enc x, v.oneCell' = true
  pos : 0 < k

section
variable {α : Type} {ts t k bs : Nat} {enc : α → List Value}
theorem Own.nil (B : Nat) (w : World) : Own t k enc B w (.slice none 0 0) [] := World.ownsRow_nil w B t k
theorem Own.made (B : Nat) (w : World) (hb : B ≤ w.heap.size) : Own t k enc B (w.alloc (.cells #[] t)) (.slice (some ⟨w.heap.size, 0, none⟩) 0 0) [] := World.ownsRow_made w #[] 0 hb (Nat.zero_le _) (by simp)
theorem Own.row (E : El ts t k bs enc) {B : Nat} {w : World} {v : Value} {l : List α} (h : Own t k enc B w v l) : Row enc t w v l := (Row.owns E.len h E.pos).1
theorem Own.keep {B : Nat} {w w' : World} {v : Value} {l : List α} (h : Own t k enc B w v l) (hk : Keep w w') : Own t k enc B w' v l := by
  refine World.ownsRow.kept (row := none) h ⟨hk.1, hk.2, hk.3, hk.4, fun i hi _ => hk.5 i hi⟩ ?_
  cases hv : v.ownBlock with
  | none => exact .inl rfl
  | some g => exact .inr (by simp)
theorem Own.grown {B : Nat} {W w w' : World} {v : Value} {l : List α} (h : Own t k enc B w v l) (hW : Keep W w) (hB : W.heap.size ≤ B) (hg : w.grownBy w' v.ownBlock) : Keep W w' :=
  hW.grown hg fun i hi => Nat.le_trans hB (World.ownsRow.lt h i hi).1
theorem Own.grown2 {W w w' : World} {v : Value} {l : List α} {o : Obj} (h : Own t k enc W.heap.size w v l) (hW : Keep W w) (hg : (w.alloc o).grownBy w' v.ownBlock) : Keep W w' :=
  Own.grown (h.keep ((Keep.refl w).alloc o)) (hW.alloc o) (Nat.le_refl _) hg
theorem wp_app (E : El ts t k bs enc) {ops : Array Oper} {rest : List Oper} {o : Oper} {a : Act} {Q : Exit → Act → World → Prop} {w : World} (hgd : o.guard = none) (s x : Operand)
    (ho : o.op = .call { callee := .builtin .append, args := #[s, x], argTypes := #[ts, ts] }) (B : Nat) (v u : Value) (l m : List α) (hs : a.eval s = v) (hx : a.eval x = u) (hown : Own t k enc B w v l) (hsrc : Cells enc w u m)
    (hsm : (l.length + m.length) * bs ≤ 140737488355328) (hb : l.length + m.length ≤ 1000000) (hbase : B ≤ w.heap.size)
    (h : ∀ v' w', Own t k enc B w' v' (l ++ m) → w.grownBy w' v.ownBlock → wpList Try.prog ops Q rest (a.put o.dst v') w') : wpList Try.prog ops Q (o :: rest) a w := by
  obtain ⟨it, z, hi, hz, hsz, hby, hzs⟩ := E.info
  rcases hsrc with ⟨rfl, rfl⟩ | ⟨g, off, cap, rfl, h1, h2, h3, h4⟩
  · refine wpList_append_own_none hgd s x ts ho B t it k E.under hi v _ _ hs hown hx (h v w (by simpa using hown) ⟨rfl, rfl, rfl, Nat.le_refl _, fun _ _ _ => rfl⟩)
  · refine wpList_append_own w hgd s x ts ho B t it z k bs E.under hi hz hsz hby hzs E.pos v _ _ hs hown ⟨g, off, none⟩ m.length cap (flat enc m) hx (flat_len enc E.len m) ?_ (flat_one' E.one m) (by unfold maxLen; omega) hsm hbase ?_
    · intro j u hj
      rw [show (⟨g, off, none⟩ : Addr).add j = ⟨g, off + j, none⟩ from by unfold Addr.add; split <;> simp_all]
      exact h4 j u hj
    · intro v' w' k1 k2 _
      refine h v' w' ?_ k2
      unfold Own
      rw [flat_append, List.length_append]
      exact k1
end

end Go.Proofs.Ytbakmfeikkpmjaa
