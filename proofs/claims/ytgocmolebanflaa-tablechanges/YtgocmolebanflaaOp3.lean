/- Proved: arguments that are lists of routes, opened, and joined to lists of one's own. No condition. -/
import Derived.Test.YtgocmolebanflaaOp2
import Derived.Test.YtgocmolebanflaaJ
namespace Go.Proofs.Ytgocmolebanflaa
open Go.RowKit Go.ChangeShapes Go.WideShapes Go.ChangeAt Go.Joins Go.Deep

/-- A list that came in, or none. -/
structure ArgN {α : Type} (enc : α → List Value) (w : World) (a : Option Addr) (cap : Nat) (l : List α) : Prop extends ArgL enc w a cap l where
  none' : a = none → cap = 0
theorem ArgN.keep {α : Type} {enc : α → List Value} {w w' : World} {a : Option Addr} {cap : Nat} {l : List α} (h : ArgN enc w a cap l) (k : Keep w w') : ArgN enc w' a cap l := ⟨h.toArgL.keep k, h.none'⟩
set_option maxRecDepth 100000 in
theorem open_routesN {H : Type} {enc : TypeId × Value → H} {W : World} {sp : Nat → Bool} {held : Bool} {b0 : Nat} {v : Value} {d : DataW H} {q : List MemPlace} (hv : Value.okWide Try.prog W .any b0 31 v) (h : DataW.Trod enc Try.prog W 0 sp held 31 v d q) :
    ∃ (a : Option Addr) (cap : Nat) (l : List Rt), v = .slice a l.length cap ∧ ArgN rl W a cap l := by
  obtain ⟨a, cap, l, rfl, ha⟩ := open_routes hv h
  refine ⟨a, cap, l, rfl, ha, fun e => ?_⟩
  subst e
  obtain ⟨fuel, hf⟩ := h
  rcases open_slice Try.underlying31 hf with ⟨hcs, _⟩ | ⟨x, l, c, m, n, D, Pl, hcs, _⟩
  · simp [Value.cells] at hcs
    exact hcs.2
  · simp [Value.cells] at hcs
theorem wp_appN {α : Type} {ts t k bs : Nat} {enc : α → List Value} (E : El ts t k bs enc) {ops : Array Oper} {rest : List Oper} {o : Oper} {a : Act} {Q : Exit → Act → World → Prop} {w : World} (hgd : o.guard = none) (s x : Operand)
    (ho : o.op = .call { callee := .builtin .append, args := #[s, x], argTypes := #[ts, ts] }) (B : Nat) (v : Value) (a0 : Option Addr) (N cap : Nat) (l m : List α) (hs : a.eval s = v) (hN : m.length = N) (hx : a.eval x = .slice a0 N cap) (hown : Own t k enc B w v l) (hsrc : ArgN enc w a0 cap m)
    (hsm : (l.length + m.length) * bs ≤ 140737488355328) (hb : l.length + m.length ≤ 1000000) (hbase : B ≤ w.heap.size)
    (h : ∀ v' w', Own t k enc B w' v' (l ++ m) → w.grownBy w' v.ownBlock → wpList Try.prog ops Q rest (a.put o.dst v') w') : wpList Try.prog ops Q (o :: rest) a w := by
  subst hN
  by_cases hm : m = []
  · subst hm
    cases a0 with
    | none =>
      have hc := hsrc.none' rfl
      subst hc
      exact wp_app E hgd s x ho B v _ l [] hs hx hown (Cells.nil w) hsm hb hbase h
    | some ad =>
      obtain ⟨it, z, hi, hz, hsz, hby, hzs⟩ := E.info
      refine wpList_append_own w hgd s x ts ho B t it z k bs E.under hi hz hsz hby hzs E.pos v _ _ hs hown ad 0 cap [] hx (by simp) (fun j u hj => by simp at hj) (fun u hu => by simp at hu) (by unfold maxLen; simp at hb ⊢; omega) (by simpa using hsm) hbase ?_
      intro v' w' k1 k2 _
      refine h v' w' ?_ k2
      unfold Own
      simpa using k1
  · exact wp_app E hgd s x ho B v _ l m hs hx hown (hsrc.cells hm) hsm hb hbase h
end Go.Proofs.Ytgocmolebanflaa
