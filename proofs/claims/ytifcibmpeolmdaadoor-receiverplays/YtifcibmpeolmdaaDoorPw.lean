/- Proved: a receiver and the document's one that take the same frame, one behind the other. Condition: counts are below 2^63 - 1. -/
import Derived.Test.YtifcibmpeolmdaaDoorTw
import Derived.Deep.RegionHeld3
import Derived.Deep.RegionHeldLaw
namespace Go.Proofs.YtifcibmpeolmdaaDoor
open Go.RowKit

/-- A receiver and the document's one, with nothing in common, made behind w0; beside them a frame. -/
def TwoP (w0 : World) (b g bi bc bd fb : Nat) (f : Fr) (x y : Rv) (v : World) : Prop :=
  ∃ K, Z v K b x ∧ R v g bi bc bd y ∧ From w0.heap.size K ∧ From w0.heap.size [g, bi, bc, bd] ∧ Apart K [g, bi, bc, bd] ∧ Keep w0 v ∧ FAt v fb f ∧ fb ∉ K ∧ fb ∉ [g, bi, bc, bd]
section
variable {w0 v v' : World} {b g bi bc bd fb : Nat} {f h : Fr} {x y : Rv}
theorem TwoP.keep (q : TwoP w0 b g bi bc bd fb f x y v) (k : Keep v v') : TwoP w0 b g bi bc bd fb f x y v' := by
  obtain ⟨K, h1, h2, h3, h4, h5, h6, h7, h8, h9⟩ := q
  exact ⟨K, h1.keep k, h2.keep k, h3, h4, h5, h6.trans k, h7.keep k, h8, h9⟩
theorem TwoP.one (q : TwoP w0 b g bi bc bd fb f x y v) (hs : SqF h) (hd : x.d (x.wrong h : Nat) < 9223372036854775807) :
    Calls Tryd.prog 14 #[.pointer (some ⟨b, 0, none⟩), .agg (fc h)] v fun e w' => e = .returned (.int .i64 (x.wrong h : Nat)) ∧ TwoP w0 b g bi bc bd fb f (x.take h) y w' := by
  obtain ⟨K, h1, h2, h3, h4, h5, h6, h7, h8, h9⟩ := q
  refine (ztake h hs h1 hd).mono ?_
  rintro e w' ⟨rfl, K', z, t, m⟩
  have ha := h5.symm
  exact ⟨rfl, K', z, h2.turn t (ha _ (by simp)) (ha _ (by simp)) (ha _ (by simp)) (ha _ (by simp)), h3.more m h6.size, h4, h5.more m h2.low, Turn.from h6 t h3, t.obj h7 h8, not_more h8 m (block_lt h7), h9⟩
theorem TwoP.two (q : TwoP w0 b g bi bc bd fb f x y v) (hs : SqF h) (hd : y.d (y.wrong h : Nat) < 9223372036854775807) :
    Calls Tryd.prog 15 #[.pointer (some ⟨g, 0, none⟩), .agg (fc h)] v fun e w' => e = .returned (.int .i64 (y.wrong h : Nat)) ∧ TwoP w0 b g bi bc bd fb f x (y.take h) w' := by
  obtain ⟨K, h1, h2, h3, h4, h5, h6, h7, h8, h9⟩ := q
  refine (qtake_at h hs hd h2).mono ?_
  rintro e w' ⟨rfl, z, t⟩
  exact ⟨rfl, K, h1.turn t h2.pos h5, z, h3, h4, h5, Turn.from h6 t h4, t.obj h7 h9, h8, h9⟩
end
/-- Ahead of both, between, and behind. -/
def PhP (w0 : World) (b g bi bc bd fb : Nat) (f : Fr) (x : Rv) : Nat → World → Prop
  | 0, v => TwoP w0 b g bi bc bd fb f x x v
  | 1, v => TwoP w0 b g bi bc bd fb f (x.take f) x v
  | _, v => TwoP w0 b g bi bc bd fb f (x.take f) (x.take f) v
theorem PhP.facts {w0 v : World} {b g bi bc bd fb : Nat} {f : Fr} {x : Rv} (q : Nat) (h : PhP w0 b g bi bc bd fb f x q v) : FAt v fb f ∧ v.cell? ⟨g, 2, none⟩ = some (.slice (some ⟨bi, 0, none⟩) x.c.length x.c.length) := by
  have hl := take_len x f
  match q, h with
  | 0, h => obtain ⟨_, _, h2, _, _, _, _, h7, _⟩ := (show TwoP w0 b g bi bc bd fb f x x v from h); exact ⟨h7, h2.i⟩
  | 1, h => obtain ⟨_, _, h2, _, _, _, _, h7, _⟩ := (show TwoP w0 b g bi bc bd fb f (x.take f) x v from h); exact ⟨h7, h2.i⟩
  | q + 2, h => obtain ⟨_, _, h2, _, _, _, _, h7, _⟩ := (show TwoP w0 b g bi bc bd fb f (x.take f) (x.take f) v from h); exact ⟨h7, by rw [h2.i, hl]⟩
section
variable {P : Program} {ops : Array Oper} {C : Nat → World → Prop} {A : Oper → Bool} {Q : Act → Nat → Prop} {rest : List Oper} {a : Act} {p : Nat}
/-- A nil check that is wanted. -/
theorem ph_check2 {dst : Option Tmp} {x : Operand} {ty : TypeId} {pos : String} {after : Array Edge} {gd : Option (Nat × Bool)} {q : Addr} (hw : Region.wanted { dst := dst, op := .nilCheck x, type := ty, pos := pos, after := after, guard := gd } (yielded ops a.tmps) = true) (hx : a.eval x = .pointer (some q))
    (h : wpPh P ops C A Q rest (a.put dst (.pointer (some q))) p) : wpPh P ops C A Q ({ dst := dst, op := .nilCheck x, type := ty, pos := pos, after := after, guard := gd } :: rest) a p := by
  refine .inl ⟨hw, .pointer (some q), fun q' w _ => ?_, h⟩
  unfold Oper.quietAt execOp
  simp only [hx]
  exact ⟨rfl, rfl⟩
end
end Go.Proofs.YtifcibmpeolmdaaDoor
