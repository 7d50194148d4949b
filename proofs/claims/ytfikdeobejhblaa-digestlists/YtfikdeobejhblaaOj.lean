/- Proved: a list that came in is joined to one's own at a step of a region that draws its order. Condition: lists are short enough for memory. -/
import Derived.Test.YtfikdeobejhblaaMo
import Derived.Deep.AppendLies
namespace Go.Proofs.Ytfikdeobejhblaa
open Go.RowKit

theorem step_app {α : Type} {ts t k bs : Nat} {enc : α → List Value} (E : El ts t k bs enc) {ops : Array Oper} {o : Oper} {a : Act} {K : Act → World → Prop} {Q : Exit → Act → World → Prop} {w : World} {X : Prop} (hgd : o.guard = none) (s x : Operand)
    (ho : o.op = .call { callee := .builtin .append, args := #[s, x], argTypes := #[ts, ts] }) (B : Nat) (v u : Value) (l m : List α) (hs : a.eval s = v) (hx : a.eval x = u) (hown : Own t k enc B w v l) (hsrc : Cells enc w u m)
    (hsm : (l.length + m.length) * bs ≤ 140737488355328) (hb : l.length + m.length ≤ 1000000) (hbase : B ≤ w.heap.size)
    (h : ∀ v' w', Own t k enc B w' v' (l ++ m) → w.grownBy w' v.ownBlock → K (a.put o.dst v') w') : if Region.wanted o (yielded ops a.tmps) = true then Oper.wp Try.prog o a w K Q else X := by
  have hw : Region.wanted o (yielded ops a.tmps) = true := by simp [Region.wanted, hgd]
  rw [if_pos hw]
  obtain ⟨it, z, hi, hz, hsz, hby, hzs⟩ := E.info
  rcases hsrc with ⟨rfl, rfl⟩ | ⟨g, off, cap, rfl, h1, h2, h3, h4⟩
  · have hrun := run_append_owned_none (P := Try.prog) (w := w) B ts o.type t it k E.under hi v _ _ hown
    have hK := h v w (by simpa using hown) ⟨rfl, rfl, rfl, Nat.le_refl _, fun _ _ _ => rfl⟩
    unfold Oper.wp
    simp [execOp, ho, resolve, invoke, builtin, hs, hx, hrun, Result.andThen]
    exact hK
  · refine wp_append_own w s x ts ho B t it z k bs E.under hi hz hsz hby hzs E.pos v _ _ hs hown ⟨g, off, none⟩ m.length cap (flat enc m) hx (flat_len enc E.len m) ?_ (flat_one' E.one m) (by unfold maxLen; omega) hsm hbase ?_
    · intro j u hj
      rw [show (⟨g, off, none⟩ : Addr).add j = ⟨g, off + j, none⟩ from by unfold Addr.add; split <;> simp_all]
      exact h4 j u hj
    · intro v' w' k1 k2 _
      refine h v' w' ?_ k2
      unfold Own
      rw [flat_append, List.length_append]
      exact k1
theorem step_appN {α : Type} {ts t k bs : Nat} {enc : α → List Value} (E : El ts t k bs enc) {ops : Array Oper} {o : Oper} {a : Act} {K : Act → World → Prop} {Q : Exit → Act → World → Prop} {w : World} {X : Prop} (hgd : o.guard = none) (s x : Operand)
    (ho : o.op = .call { callee := .builtin .append, args := #[s, x], argTypes := #[ts, ts] }) (B : Nat) (v : Value) (a0 : Option Addr) (N cap : Nat) (l m : List α) (hs : a.eval s = v) (hN : m.length = N) (hx : a.eval x = .slice a0 N cap) (hown : Own t k enc B w v l) (hsrc : ArgN enc w a0 cap m)
    (hsm : (l.length + m.length) * bs ≤ 140737488355328) (hb : l.length + m.length ≤ 1000000) (hbase : B ≤ w.heap.size)
    (h : ∀ v' w', Own t k enc B w' v' (l ++ m) → w.grownBy w' v.ownBlock → K (a.put o.dst v') w') : if Region.wanted o (yielded ops a.tmps) = true then Oper.wp Try.prog o a w K Q else X := by
  subst hN
  by_cases hm : m = []
  · subst hm
    cases a0 with
    | none =>
      have hc := hsrc.none' rfl
      subst hc
      exact step_app E hgd s x ho B v _ l [] hs hx hown (Cells.nil w) hsm hb hbase h
    | some ad =>
      have hw : Region.wanted o (yielded ops a.tmps) = true := by simp [Region.wanted, hgd]
      rw [if_pos hw]
      obtain ⟨it, z, hi, hz, hsz, hby, hzs⟩ := E.info
      refine wp_append_own w s x ts ho B t it z k bs E.under hi hz hsz hby hzs E.pos v _ _ hs hown ad 0 cap [] hx (by simp) (fun j u hj => by simp at hj) (fun u hu => by simp at hu) (by unfold maxLen; simp at hb ⊢; omega) (by simpa using hsm) hbase ?_
      intro v' w' k1 k2 _
      refine h v' w' ?_ k2
      unfold Own
      simpa using k1
  · exact step_app E hgd s x ho B v _ l m hs hx hown (hsrc.cells hm) hsm hb hbase h
end Go.Proofs.Ytfikdeobejhblaa
