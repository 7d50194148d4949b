/- Proved: arguments that are lists of texts, or of fates, opened. No condition. -/
import Derived.Test.YtbakmfeikkpmjaaAw
import Derived.ProofKit
import Derived.OpenShut
import Derived.ShutString
import Derived.ChangeOld
import Derived.Deep.Strs
import Derived.Deep.Slices
namespace Go.Proofs.Ytbakmfeikkpmjaa
open Go.ChangeShapes Go.WideShapes Go.ChangeAt Go.RowKit Go.Deep

/-- A list that came in. -/
structure ArgL {α : Type} (enc : α → List Value) (w : World) (a : Option Addr) (cap : Nat) (l : List α) : Prop where
  cells : l ≠ [] → Cells enc w (.slice a l.length cap) l
  small : l.length ≤ maxLen
theorem ArgL.keep {α : Type} {enc : α → List Value} {w w' : World} {a : Option Addr} {cap : Nat} {l : List α} (h : ArgL enc w a cap l) (k : Keep w w') : ArgL enc w' a cap l := ⟨fun hn => (h.cells hn).keep k, h.small⟩

set_option maxRecDepth 100000 in
theorem open_list {H : Type} {enc : TypeId × Value → H} {W : World} {sp : Nat → Bool} {held : Bool} {b0 : Nat} {v : Value} {d : DataW H} {q : List MemPlace} {α : Type} [Inhabited α] (en : α → List Value) (t e k : Nat) (ht : Try.prog.underlying t = some (.slice e)) (hk : Try.prog.cellsOf e = k) (hk0 : 0 < k) (hen : ∀ x, (en x).length = k)
    (hel : ∀ {fuel : Nat} {cs : List Value} {x : DataW H × List MemPlace}, DataW.trod enc Try.prog W 0 sp held fuel e cs = some x → cs.length = k → ∃ y : α, cs = en y)
    (hv : Value.okWide Try.prog W .any b0 t v) (h : DataW.Trod enc Try.prog W 0 sp held t v d q) : ∃ (a : Option Addr) (cap : Nat) (l : List α), v = .slice a l.length cap ∧ ArgL en W a cap l := by
  obtain ⟨a0, len, cap, rfl⟩ := okWide_slice ht hv
  obtain ⟨fuel, hf⟩ := h
  rcases open_slice ht hf with ⟨hcs, _⟩ | ⟨x, l, c, m, n, D, Pl, hcs, hb, hl, hm, hmm, _, hi⟩
  · simp [Value.cells] at hcs
    obtain ⟨rfl, rfl, rfl⟩ := hcs
    exact ⟨none, 0, [], rfl, fun hn => absurd rfl hn, Nat.zero_le _⟩
  · simp [Value.cells] at hcs
    obtain ⟨rfl, rfl, rfl⟩ := hcs
    have hm2 : len ≤ m := by rw [hmm]; split <;> omega
    obtain ⟨f, hf⟩ := choose_lt (α := α) (n := len) (p := fun i y => ∀ j, j < k → W.cell? ((x.add (i * k)).add j) = (en y)[j]?) (fun i hi' => by
      obtain ⟨cs, hc, ht'⟩ := hi i (by omega)
      rw [hk] at hc
      obtain ⟨_, hlen, hat⟩ := World.cells?_some hc
      obtain ⟨y, rfl⟩ := hel ht' hlen
      exact ⟨y, fun j hj => hat j hj⟩)
    refine ⟨some x, cap, (List.range len).map f, by simp, fun hn => ?_, by simp; omega⟩
    have hpos : 0 < len := by
      rcases Nat.eq_zero_or_pos len with h0 | h0
      · rw [h0] at hn; simp at hn
      · exact h0
    have h00 := hf 0 hpos 0 hk0
    rw [Nat.zero_mul] at h00
    have hx0 : (en (f 0))[0]? = some ((en (f 0))[0]'(by rw [hen]; exact hk0)) := List.getElem?_eq_getElem _
    obtain ⟨b, off, spot⟩ := x
    have hspot : spot = none := by
      have := World.cell?_spot (h00.trans hx0)
      simpa [Addr.add] using this
    subst hspot
    rw [add_plain, add_plain] at h00
    have hlt := World.block_lt_of_cell? W _ (h00.trans hx0)
    refine .inr ⟨b, off, cap, rfl, by simpa using hl, hm, hlt, fun j u hj => ?_⟩
    have hj2 := (List.getElem?_eq_some_iff.1 hj).1
    rw [flat_len en hen] at hj2
    simp at hj2
    have hdv : j / k < len := Nat.div_lt_of_lt_mul (by rw [Nat.mul_comm]; exact hj2)
    have hmd : j % k < k := Nat.mod_lt _ hk0
    have hg := flat_get en hen ((List.range len).map f) (j / k) (f (j / k)) (by simp [hdv]) (j % k) hmd
    have hjj : j / k * k + j % k = j := by rw [Nat.mul_comm]; exact Nat.div_add_mod j k
    rw [hjj, hj] at hg
    have hc := hf (j / k) hdv (j % k) hmd
    rw [add_plain, add_plain, ← hg, Nat.add_assoc, hjj] at hc
    exact hc

theorem cells9 : Try.prog.cellsOf 9 = 1 := by kernel_rfl
theorem cellsI : Try.prog.cellsOf 3 = 1 := by kernel_rfl
theorem cellsU : Try.prog.cellsOf 27 = 1 := by kernel_rfl
theorem cellsT : Try.prog.cellsOf 29 = 3 := by kernel_rfl
/-! ### Lists that came in -/
/-- A list that came in, or none. -/
structure ArgN {α : Type} (enc : α → List Value) (w : World) (a : Option Addr) (cap : Nat) (l : List α) : Prop extends ArgL enc w a cap l where
  none' : a = none → cap = 0
theorem ArgN.keep {α : Type} {enc : α → List Value} {w w' : World} {a : Option Addr} {cap : Nat} {l : List α} (h : ArgN enc w a cap l) (k : Keep w w') : ArgN enc w' a cap l := ⟨h.toArgL.keep k, h.none'⟩
set_option maxRecDepth 100000 in
theorem open_texts {H : Type} {enc : TypeId × Value → H} {W : World} {sp : Nat → Bool} {held : Bool} {b0 : Nat} {v : Value} {d : DataW H} {q : List MemPlace} (hv : Value.okWide Try.prog W .any b0 33 v) (h : DataW.Trod enc Try.prog W 0 sp held 33 v d q) :
    ∃ (a : Option Addr) (cap : Nat) (l : List (List UInt8)), v = .slice a l.length cap ∧ ArgN se W a cap l := by
  obtain ⟨a, cap, l, rfl, ha⟩ := open_list se 33 9 1 Try.underlying33 cells9 (by omega) se_len (fun {fuel cs x} hf hs => by
    match cs, hs with
    | [c], _ =>
      obtain ⟨s, hs, _⟩ := DataW.trod_string Try.underlying9 hf
      exact ⟨s.data.toList, by rw [hs]; rfl⟩) hv h
  refine ⟨a, cap, l, rfl, ha, fun e => ?_⟩
  subst e
  obtain ⟨fuel, hf⟩ := h
  rcases open_slice Try.underlying33 hf with ⟨hcs, _⟩ | ⟨x, l, c, m, n, D, Pl, hcs, _⟩
  · simp [Value.cells] at hcs
    exact hcs.2
  · simp [Value.cells] at hcs
theorem cells_fate {H : Type} {enc : TypeId × Value → H} {W : World} {sp : Nat → Bool} {held : Bool} {fuel : Nat} {cs : List Value} {x : DataW H × List MemPlace} (hf : DataW.trod enc Try.prog W 0 sp held fuel 29 cs = some x) (hsz : cs.length = 3) : ∃ f : Ft, cs = fl f ∧ SqT f := by
  obtain ⟨xs, n, _, rfl, hl, hlen, hg⟩ := DataW.trod_struct Try.underlying29 hf
  match cs, hsz, xs, hlen with
  | [c0, c1, c2], _, [y0, y1, y2], _ =>
    have g0 : DataW.trod enc Try.prog W 0 sp held n 3 [c0] = some y0 := by simpa [cellsI] using hg 0 _ rfl
    have g1 : DataW.trod enc Try.prog W 0 sp held n 3 [c1] = some y1 := by simpa [cellsI] using hg 1 _ rfl
    have g2 : DataW.trod enc Try.prog W 0 sp held n 27 [c2] = some y2 := by simpa [cellsU] using hg 2 _ rfl
    obtain ⟨k0, e0, _, w0⟩ := DataW.trod_int Try.underlying3 g0
    obtain ⟨k1, e1, _, w1⟩ := DataW.trod_int Try.underlying3 g1
    obtain ⟨k2, e2, _, w2⟩ := DataW.trod_int Try.underlying27 g2
    simp at e0 e1 e2
    subst e0 e1 e2
    have b0 := bounds_i64 w0
    have b1 := bounds_i64 w1
    have b2 := bounds_u32 w2
    obtain ⟨m, rfl⟩ := Int.eq_ofNat_of_zero_le b2.1
    exact ⟨⟨k0, k1, m⟩, rfl, ⟨(by show (-9223372036854775808 : Int) ≤ k0 ∧ k0 ≤ 9223372036854775807; omega), (by show (-9223372036854775808 : Int) ≤ k1 ∧ k1 ≤ 9223372036854775807; omega), (by show m < 4294967296; omega)⟩⟩
set_option maxRecDepth 100000 in
theorem open_fates {H : Type} {enc : TypeId × Value → H} {W : World} {sp : Nat → Bool} {held : Bool} {b0 : Nat} {v : Value} {d : DataW H} {q : List MemPlace} (hv : Value.okWide Try.prog W .any b0 22 v) (h : DataW.Trod enc Try.prog W 0 sp held 22 v d q) :
    ∃ (a : Option Addr) (cap : Nat) (l : List Ft), v = .slice a l.length cap ∧ ArgL fl W a cap l :=
  open_list fl 22 29 3 Try.underlying22 cellsT (by omega) fl_len (fun hf hs => by
    obtain ⟨f, hc, _⟩ := cells_fate hf hs
    exact ⟨f, hc⟩) hv h
end Go.Proofs.Ytbakmfeikkpmjaa
