/- Proved: arguments that are lists of routes, or of calls, opened. No condition. -/
import Derived.Test.YtgocmolebanflaaOp
namespace Go.Proofs.Ytgocmolebanflaa
open Go.RowKit Go.ChangeShapes Go.WideShapes Go.ChangeAt Go.Joins Go.Deep

/-- A list that came in. -/
structure ArgL {α : Type} (enc : α → List Value) (w : World) (a : Option Addr) (cap : Nat) (l : List α) : Prop where
  cells : l ≠ [] → Cells enc w (.slice a l.length cap) l
  small : l.length ≤ maxLen
theorem ArgL.keep {α : Type} {enc : α → List Value} {w w' : World} {a : Option Addr} {cap : Nat} {l : List α} (h : ArgL enc w a cap l) (k : Keep w w') : ArgL enc w' a cap l := ⟨fun hn => (h.cells hn).keep k, h.small⟩

set_option maxRecDepth 100000 in
theorem open_list {H : Type} {enc : TypeId × Value → H} {W : World} {sp : Nat → Bool} {held : Bool} {b0 : Nat} {v : Value} {d : DataW H} {q : List MemPlace} {α : Type} [Inhabited α] (en : α → List Value) (t e k : Nat) (ht : Try.prog.underlying t = some (.slice e)) (hk : Try.prog.cellsOf e = k) (hk0 : 0 < k) (hen : ∀ x, (en x).length = k)
    (hel : ∀ {fuel : Nat} {cs : List Value} {x : DataW H × List MemPlace}, DataW.trod enc Try.prog W 0 sp held fuel e cs = some x → cs.length = k → ∃ y : α, cs = en y)
    (hv : Value.okWide Try.prog W .any b0 t v) (h : DataW.Trod enc Try.prog W 0 sp held t v d q) : ∃ (a : Option Addr) (cap : Nat) (l : List α), v = .slice a l.length cap ∧ ArgL en W a cap l := by
  obtain ⟨a0, len, cap, rfl⟩ := okWide_slice ht hv
  obtain ⟨fuel, hf⟩ := h
  rcases open_slice ht hf with ⟨hcs, _⟩ | ⟨x, l, c, m, n, D, Pl, hcs, hb, hl, hm, hmm, _, hi⟩
  · simp [Value.cells] at hcs
    obtain ⟨rfl, rfl, rfl⟩ := hcs
    exact ⟨none, 0, [], rfl, fun hn => absurd rfl hn, Nat.zero_le _⟩
  · simp [Value.cells] at hcs
    obtain ⟨rfl, rfl, rfl⟩ := hcs
    have hm2 : len ≤ m := by rw [hmm]; split <;> omega
    obtain ⟨f, hf⟩ := choose_lt (α := α) (n := len) (p := fun i y => ∀ j, j < k → W.cell? ((x.add (i * k)).add j) = (en y)[j]?) (fun i hi' => by
      obtain ⟨cs, hc, ht'⟩ := hi i (by omega)
      rw [hk] at hc
      obtain ⟨_, hlen, hat⟩ := World.cells?_some hc
      obtain ⟨y, rfl⟩ := hel ht' hlen
      exact ⟨y, fun j hj => hat j hj⟩)
    refine ⟨some x, cap, (List.range len).map f, by simp, fun hn => ?_, by simp; omega⟩
    have hpos : 0 < len := by
      rcases Nat.eq_zero_or_pos len with h0 | h0
      · rw [h0] at hn; simp at hn
      · exact h0
    have h00 := hf 0 hpos 0 hk0
    rw [Nat.zero_mul] at h00
    have hx0 : (en (f 0))[0]? = some ((en (f 0))[0]'(by rw [hen]; exact hk0)) := List.getElem?_eq_getElem _
    obtain ⟨b, off, spot⟩ := x
    have hspot : spot = none := by
      have := World.cell?_spot (h00.trans hx0)
      simpa [Addr.add] using this
    subst hspot
    rw [add_plain, add_plain] at h00
    have hlt := World.block_lt_of_cell? W _ (h00.trans hx0)
    refine .inr ⟨b, off, cap, rfl, by simpa using hl, hm, hlt, fun j u hj => ?_⟩
    have hj2 := (List.getElem?_eq_some_iff.1 hj).1
    rw [flat_len en hen] at hj2
    simp at hj2
    have hdv : j / k < len := Nat.div_lt_of_lt_mul (by rw [Nat.mul_comm]; exact hj2)
    have hmd : j % k < k := Nat.mod_lt _ hk0
    have hg := flat_get en hen ((List.range len).map f) (j / k) (f (j / k)) (by simp [hdv]) (j % k) hmd
    have hjj : j / k * k + j % k = j := by rw [Nat.mul_comm]; exact Nat.div_add_mod j k
    rw [hjj, hj] at hg
    have hc := hf (j / k) hdv (j % k) hmd
    rw [add_plain, add_plain, ← hg, Nat.add_assoc, hjj] at hc
    exact hc

set_option maxRecDepth 100000 in
theorem open_routes {H : Type} {enc : TypeId × Value → H} {W : World} {sp : Nat → Bool} {held : Bool} {b0 : Nat} {v : Value} {d : DataW H} {q : List MemPlace} (hv : Value.okWide Try.prog W .any b0 31 v) (h : DataW.Trod enc Try.prog W 0 sp held 31 v d q) :
    ∃ (a : Option Addr) (cap : Nat) (l : List Rt), v = .slice a l.length cap ∧ ArgL rl W a cap l :=
  open_list rl 31 34 20 Try.underlying31 cells34 (by omega) rl_len (fun hf hs => cells_route hf hs) hv h

/-! ### Calls -/
structure Ov where
  kind : Int
  inc : Int
  r : Rt
instance : Inhabited Ov := ⟨⟨0, 0, zeroR⟩⟩
def ol (o : Ov) : List Value := .int .i64 o.kind :: .int .i64 o.inc :: rl o.r
theorem ol_len (o : Ov) : (ol o).length = 22 := by simp [ol, rl_len]
theorem cells36 : Try.prog.cellsOf 36 = 22 := by kernel_rfl
theorem cells_op {H : Type} {enc : TypeId × Value → H} {W : World} {sp : Nat → Bool} {held : Bool} {fuel : Nat} {cs : List Value} {x : DataW H × List MemPlace} (hf : DataW.trod enc Try.prog W 0 sp held fuel 36 cs = some x) (hsz : cs.length = 22) : ∃ o : Ov, cs = ol o := by
  obtain ⟨y0, y1, y2, n, _, hl, h0, h1, h2⟩ := trod_struct3 Try.underlying36 hf
  simp only [cells36, cells34, cells3] at hl h0 h1 h2
  obtain ⟨kd, hk, _, _⟩ := DataW.trod_int Try.underlying3 h0
  obtain ⟨ic, hi, _, _⟩ := DataW.trod_int Try.underlying3 h1
  obtain ⟨r, hr⟩ := cells_route h2 (by rw [List.length_take, List.length_drop]; omega)
  refine ⟨⟨kd, ic, r⟩, ?_⟩
  have e1 : cs = cs.take 1 ++ ((cs.drop 1).take 1 ++ (cs.drop 2).take 20) := by
    have h3 : (cs.drop 2).take 20 = cs.drop 2 := List.take_of_length_le (by simp; omega)
    have h4 : cs.drop 2 = (cs.drop 1).drop 1 := by rw [List.drop_drop]
    rw [h3, h4, List.take_append_drop, List.take_append_drop]
  rw [List.drop_zero] at hk
  rw [hk, hi, hr] at e1
  exact e1
set_option maxRecDepth 100000 in
theorem open_ops {H : Type} {enc : TypeId × Value → H} {W : World} {sp : Nat → Bool} {held : Bool} {b0 : Nat} {v : Value} {d : DataW H} {q : List MemPlace} (hv : Value.okWide Try.prog W .any b0 22 v) (h : DataW.Trod enc Try.prog W 0 sp held 22 v d q) :
    ∃ (a : Option Addr) (cap : Nat) (l : List Ov), v = .slice a l.length cap ∧ ArgL ol W a cap l :=
  open_list ol 22 36 22 Try.underlying22 cells36 (by omega) ol_len (fun hf hs => cells_op hf hs) hv h
end Go.Proofs.Ytgocmolebanflaa
