/- Proved: two receivers that take the same frame, one behind the other; arguments that are numbers of 64 bits; how many chunks a law takes. Condition: counts are below 2^63 - 1. -/
import Derived.Test.YtifcibmpeolmdaaDoorFw
namespace Go.Proofs.YtifcibmpeolmdaaDoor
open Go.RowKit

set_option maxRecDepth 100000 in
theorem open_u64 {H : Type} {enc : TypeId × Value → H} {W : World} {sp : Nat → Bool} {held : Bool} {b0 : Nat} {v : Value} {d : DataW H} {q : List MemPlace} (hv : Value.okWide Tryd.prog W .any b0 52 v) (h : DataW.Trod enc Tryd.prog W 0 sp held 52 v d q) :
    ∃ (n : Nat), v = .int .u64 n ∧ n < 18446744073709551616 := by
  obtain ⟨a, rfl, _, _, hw⟩ := Go.ChangeShapes.open_int Tryd.underlying52 hv h
  have hb := bounds_u64 hw
  exact ⟨a.toNat, by rw [Int.toNat_of_nonneg (by omega)], by omega⟩
def totN (n : Int) : Nat := 1 + (n % 18446744073709551616 % 20).toNat
theorem totN_in (n : Int) : 1 ≤ totN n ∧ totN n ≤ 20 := by unfold totN; omega
theorem tot_law (n : Int) : wrap64 (1 + wrap64 ((IntKind.u64.wrap n).tmod 20)) = (totN n : Int) := by
  have h : 0 ≤ IntKind.u64.wrap n := by rw [IntKind.wrap_u64]; omega
  rw [Int.tmod_eq_emod_of_nonneg h, IntKind.wrap_u64]
  unfold wrap64 totN
  omega

/-- Two receivers, with nothing in common, made behind w0; beside them a frame. -/
def Two (w0 : World) (b b2 fb : Nat) (f : Fr) (x y : Rv) (v : World) : Prop :=
  ∃ K L, Z v K b x ∧ Z v L b2 y ∧ From w0.heap.size K ∧ From w0.heap.size L ∧ Apart K L ∧ Keep w0 v ∧ FAt v fb f ∧ fb ∉ K ∧ fb ∉ L
theorem Two.keep {w0 v v' : World} {b b2 fb : Nat} {f : Fr} {x y : Rv} (h : Two w0 b b2 fb f x y v) (k : Keep v v') : Two w0 b b2 fb f x y v' := by
  obtain ⟨K, L, h1, h2, h3, h4, h5, h6, h7, h8, h9⟩ := h
  exact ⟨K, L, h1.keep k, h2.keep k, h3, h4, h5, h6.trans k, h7.keep k, h8, h9⟩
theorem not_more {w : World} {K K' : List Nat} {fb : Nat} (h : fb ∉ K) (m : More w K K') (hl : fb < w.heap.size) : fb ∉ K' := fun q => by
  rcases m fb q with h1 | h1
  · exact h h1
  · omega
theorem Two.one {w0 v : World} {b b2 fb : Nat} {f g : Fr} {x y : Rv} (h : Two w0 b b2 fb f x y v) (hs : SqF g) (hd : x.d (x.wrong g : Nat) < 9223372036854775807) :
    Calls Tryd.prog 14 #[.pointer (some ⟨b, 0, none⟩), .agg (fc g)] v fun e w' => e = .returned (.int .i64 (x.wrong g : Nat)) ∧ Two w0 b b2 fb f (x.take g) y w' := by
  obtain ⟨K, L, h1, h2, h3, h4, h5, h6, h7, h8, h9⟩ := h
  refine (ztake g hs h1 hd).mono ?_
  rintro e w' ⟨rfl, K', z, t, m⟩
  exact ⟨rfl, K', L, z, h2.turn t h1.zero h5.symm, h3.more m h6.size, h4, h5.more m h2.low, Turn.from h6 t h3, t.obj h7 h8, not_more h8 m (block_lt h7), h9⟩
theorem Two.two {w0 v : World} {b b2 fb : Nat} {f g : Fr} {x y : Rv} (h : Two w0 b b2 fb f x y v) (hs : SqF g) (hd : y.d (y.wrong g : Nat) < 9223372036854775807) :
    Calls Tryd.prog 14 #[.pointer (some ⟨b2, 0, none⟩), .agg (fc g)] v fun e w' => e = .returned (.int .i64 (y.wrong g : Nat)) ∧ Two w0 b b2 fb f x (y.take g) w' := by
  obtain ⟨K, L, h1, h2, h3, h4, h5, h6, h7, h8, h9⟩ := h
  refine (ztake g hs h2 hd).mono ?_
  rintro e w' ⟨rfl, L', z, t, m⟩
  exact ⟨rfl, K, L', h1.turn t h2.zero h5, z, h3, h4.more m h6.size, (h5.symm.more m h1.low).symm, Turn.from h6 t h4, t.obj h7 h9, h8, not_more h9 m (block_lt h7)⟩
/-- Ahead of both, between, and behind. -/
def PhT (w0 : World) (b b2 fb : Nat) (f : Fr) (x y : Rv) : Nat → World → Prop
  | 0, v => Two w0 b b2 fb f x y v
  | 1, v => Two w0 b b2 fb f (x.take f) y v
  | _, v => Two w0 b b2 fb f (x.take f) (y.take f) v
theorem PhT.fat {w0 v : World} {b b2 fb : Nat} {f : Fr} {x y : Rv} (q : Nat) (h : PhT w0 b b2 fb f x y q v) : FAt v fb f := by
  match q, h with
  | 0, h => obtain ⟨_, _, _, _, _, _, _, _, h7, _⟩ := (show Two w0 b b2 fb f x y v from h); exact h7
  | 1, h => obtain ⟨_, _, _, _, _, _, _, _, h7, _⟩ := (show Two w0 b b2 fb f (x.take f) y v from h); exact h7
  | q + 2, h => obtain ⟨_, _, _, _, _, _, _, _, h7, _⟩ := (show Two w0 b b2 fb f (x.take f) (y.take f) v from h); exact h7
end Go.Proofs.YtifcibmpeolmdaaDoor
