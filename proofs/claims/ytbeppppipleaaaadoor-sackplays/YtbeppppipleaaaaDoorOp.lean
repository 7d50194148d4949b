/- Proved: arguments that are lists of bytes, or of calls, opened; the listed variable's table; a start that meets the list. No condition. -/
import Derived.Test.YtbeppppipleaaaaDoorAw
import Derived.Test.YtbeppppipleaaaaDoorTie
import Derived.Test.YtbeppppipleaaaaDoorCards
import Derived.ProofKit
import Derived.LaidMore
import Derived.OpenShut
import Derived.Stop.Joined
import Derived.ShutString
import Derived.ChangeOld
import Derived.Deep.Strs
import Derived.Deep.Slices
namespace Go.Proofs.YtbeppppipleaaaaDoor
open Go.ChangeShapes Go.WideShapes Go.ChangeAt Go.RowKit Go.Joins Go.Deep

def laid1 : List (String × DataW Unit) := [("math/bits.deBruijn64tab", Rows.laid_math_bits_deBruijn64tab)]
theorem own : ownKnob Tryd.prog.godebug = none := by kernel_rfl
theorem laidOut : laidOutB Tryd.prog = true := by kernel_rfl
theorem gType : (Tryd.prog.globals[0]?).map (·.type) = some 59 := by kernel_rfl
theorem door_met (os : Os) (args : Array Value) : laidMetH Tryd.prog laid1 ((World.doorLaid Tryd.prog 400 os).forCall (fun _ _ => 0) ⟨#[], args, []⟩).memory :=
  laidMetH_of_parts3 (fuel := 8) (laidMet_of_run' 8 (by kernel_rfl) (by kernel_rfl)) (by kernel_rfl) (by kernel_rfl)
theorem of_laid {W : World} (h : laidMetH Tryd.prog laid1 W) : Tab W := by
  rw [MakeChecks.laidMetH_plain _ _ _ (by kernel_rfl)] at h
  exact Lib.tabIs_of_head (zs := tabZ) gvar gType Tryd.underlying59 Tryd.underlying5 (by kernel_rfl) (by kernel_rfl) h

/-- A list that came in. -/
structure ArgL {α : Type} (enc : α → List Value) (w : World) (a : Option Addr) (cap : Nat) (l : List α) : Prop where
  cells : l ≠ [] → Cells enc w (.slice a l.length cap) l
  small : l.length ≤ maxLen
theorem ArgL.keep {α : Type} {enc : α → List Value} {w w' : World} {a : Option Addr} {cap : Nat} {l : List α} (h : ArgL enc w a cap l) (k : Keep w w') : ArgL enc w' a cap l := ⟨fun hn => (h.cells hn).keep k, h.small⟩

set_option maxRecDepth 100000 in
theorem open_list {H : Type} {enc : TypeId × Value → H} {W : World} {sp : Nat → Bool} {held : Bool} {b0 : Nat} {v : Value} {d : DataW H} {q : List MemPlace} {α : Type} [Inhabited α] (en : α → List Value) (t e k : Nat) (ht : Tryd.prog.underlying t = some (.slice e)) (hk : Tryd.prog.cellsOf e = k) (hk0 : 0 < k) (hen : ∀ x, (en x).length = k)
    (hel : ∀ {fuel : Nat} {cs : List Value} {x : DataW H × List MemPlace}, DataW.trod enc Tryd.prog W 0 sp held fuel e cs = some x → cs.length = k → ∃ y : α, cs = en y)
    (hv : Value.okWide Tryd.prog W .any b0 t v) (h : DataW.Trod enc Tryd.prog W 0 sp held t v d q) : ∃ (a : Option Addr) (cap : Nat) (l : List α), v = .slice a l.length cap ∧ ArgL en W a cap l := by
  obtain ⟨a0, len, cap, rfl⟩ := okWide_slice ht hv
  obtain ⟨fuel, hf⟩ := h
  rcases open_slice ht hf with ⟨hcs, _⟩ | ⟨x, l, c, m, n, D, Pl, hcs, hb, hl, hm, hmm, _, hi⟩
  · simp [Value.cells] at hcs
    obtain ⟨rfl, rfl, rfl⟩ := hcs
    exact ⟨none, 0, [], rfl, fun hn => absurd rfl hn, Nat.zero_le _⟩
  · simp [Value.cells] at hcs
    obtain ⟨rfl, rfl, rfl⟩ := hcs
    have hm2 : len ≤ m := by rw [hmm]; split <;> omega
    obtain ⟨f, hf⟩ := choose_lt (α := α) (n := len) (p := fun i y => ∀ j, j < k → W.cell? ((x.add (i * k)).add j) = (en y)[j]?) (fun i hi' => by
      obtain ⟨cs, hc, ht'⟩ := hi i (by omega)
      rw [hk] at hc
      obtain ⟨_, hlen, hat⟩ := World.cells?_some hc
      obtain ⟨y, rfl⟩ := hel ht' hlen
      exact ⟨y, fun j hj => hat j hj⟩)
    refine ⟨some x, cap, (List.range len).map f, by simp, fun hn => ?_, by simp; omega⟩
    have hpos : 0 < len := by
      rcases Nat.eq_zero_or_pos len with h0 | h0
      · rw [h0] at hn; simp at hn
      · exact h0
    have h00 := hf 0 hpos 0 hk0
    rw [Nat.zero_mul] at h00
    have hx0 : (en (f 0))[0]? = some ((en (f 0))[0]'(by rw [hen]; exact hk0)) := List.getElem?_eq_getElem _
    obtain ⟨b, off, spot⟩ := x
    have hspot : spot = none := by
      have := World.cell?_spot (h00.trans hx0)
      simpa [Addr.add] using this
    subst hspot
    rw [add_plain, add_plain] at h00
    have hlt := World.block_lt_of_cell? W _ (h00.trans hx0)
    refine .inr ⟨b, off, cap, rfl, by simpa using hl, hm, hlt, fun j u hj => ?_⟩
    have hj2 := (List.getElem?_eq_some_iff.1 hj).1
    rw [flat_len en hen] at hj2
    simp at hj2
    have hdv : j / k < len := Nat.div_lt_of_lt_mul (by rw [Nat.mul_comm]; exact hj2)
    have hmd : j % k < k := Nat.mod_lt _ hk0
    have hg := flat_get en hen ((List.range len).map f) (j / k) (f (j / k)) (by simp [hdv]) (j % k) hmd
    have hjj : j / k * k + j % k = j := by rw [Nat.mul_comm]; exact Nat.div_add_mod j k
    rw [hjj, hj] at hg
    have hc := hf (j / k) hdv (j % k) hmd
    rw [add_plain, add_plain, ← hg, Nat.add_assoc, hjj] at hc
    exact hc

/-! ### Bytes -/
theorem cells5 : Tryd.prog.cellsOf 5 = 1 := by kernel_rfl
theorem cells3 : Tryd.prog.cellsOf 3 = 1 := by kernel_rfl
theorem cells9 : Tryd.prog.cellsOf 9 = 1 := by kernel_rfl
def ue (c : UInt8) : List Value := [bv c]
theorem ue_len (c : UInt8) : (ue c).length = 1 := rfl
abbrev ArgB := ArgL ue
theorem Cells.byte {w : World} {g o cap : Nat} {l : List UInt8} (h : Cells ue w (.slice (some ⟨g, o, none⟩) l.length cap) l) (j : Nat) (x : UInt8) (hx : l[j]? = some x) : w.cell? ⟨g, o + j, none⟩ = some (.int .u8 (x.toNat : Nat)) := by
  have := h.cell (k := 1) (fun _ => rfl) j x hx 0 (by omega) (bv x) rfl
  simpa [bv] using this
set_option maxRecDepth 100000 in
theorem open_bytes {H : Type} {enc : TypeId × Value → H} {W : World} {sp : Nat → Bool} {held : Bool} {b0 : Nat} {v : Value} {d : DataW H} {q : List MemPlace} (hv : Value.okWide Tryd.prog W .any b0 44 v) (h : DataW.Trod enc Tryd.prog W 0 sp held 44 v d q) :
    ∃ (a : Option Addr) (cap : Nat) (l : List UInt8), v = .slice a l.length cap ∧ ArgB W a cap l :=
  open_list ue 44 5 1 Tryd.underlying44 cells5 (by omega) ue_len (fun {fuel cs x} hf hs => by
    match cs, hs with
    | [c], _ =>
      obtain ⟨n, hn, _, hw⟩ := DataW.trod_int Tryd.underlying5 hf
      have hb := bounds_u8 hw
      refine ⟨UInt8.ofNat n.toNat, ?_⟩
      rw [hn]
      unfold ue bv
      rw [UInt8.toNat_ofNat_of_lt' (by simp [UInt8.size]; omega)]
      congr 2
      omega) hv h

/-! ### Calls -/
structure Oq where
  kind : Int
  n : Int
  m : Int
  s : List UInt8
  hn : -9223372036854775808 ≤ n ∧ n < 9223372036854775808
  hm : -9223372036854775808 ≤ m ∧ m < 9223372036854775808
instance : Inhabited Oq := ⟨⟨0, 0, 0, [], by omega, by omega⟩⟩
def ol (o : Oq) : List Value := [.int .i64 o.kind, .int .i64 o.n, .int .i64 o.m, .string ⟨o.s.toArray⟩]
theorem ol_len (o : Oq) : (ol o).length = 4 := rfl
theorem cells30 : Tryd.prog.cellsOf 30 = 4 := by kernel_rfl
theorem cells_op {H : Type} {enc : TypeId × Value → H} {W : World} {sp : Nat → Bool} {held : Bool} {fuel : Nat} {cs : List Value} {x : DataW H × List MemPlace} (hf : DataW.trod enc Tryd.prog W 0 sp held fuel 30 cs = some x) (hsz : cs.length = 4) : ∃ o : Oq, cs = ol o := by
  obtain ⟨y0, y1, y2, y3, n, _, hl, h0, h1, h2, h3⟩ := trod_struct4 Tryd.underlying30 hf
  simp only [cells30, cells3, cells9] at hl h0 h1 h2 h3
  match cs, hsz with
  | [c0, c1, c2, c3], _ =>
    obtain ⟨kd, hk, _, _⟩ := DataW.trod_int Tryd.underlying3 h0
    obtain ⟨a, ha, _, wa⟩ := DataW.trod_int Tryd.underlying3 h1
    obtain ⟨b, hb, _, wb⟩ := DataW.trod_int Tryd.underlying3 h2
    obtain ⟨s, hs, _⟩ := DataW.trod_string Tryd.underlying9 h3
    have ba := bounds_i64 wa
    have bb := bounds_i64 wb
    simp only [List.drop_zero, List.drop_succ_cons, List.take_succ_cons, List.take_zero, List.cons.injEq, and_true] at hk ha hb hs
    exact ⟨⟨kd, a, b, s.data.toList, by omega, by omega⟩, by unfold ol; rw [hk, ha, hb, hs]⟩
set_option maxRecDepth 100000 in
theorem open_ops {H : Type} {enc : TypeId × Value → H} {W : World} {sp : Nat → Bool} {held : Bool} {b0 : Nat} {v : Value} {d : DataW H} {q : List MemPlace} (hv : Value.okWide Tryd.prog W .any b0 22 v) (h : DataW.Trod enc Tryd.prog W 0 sp held 22 v d q) :
    ∃ (a : Option Addr) (cap : Nat) (l : List Oq), v = .slice a l.length cap ∧ ArgL ol W a cap l :=
  open_list ol 22 30 4 Tryd.underlying22 cells30 (by omega) ol_len (fun hf hs => cells_op hf hs) hv h
end Go.Proofs.YtbeppppipleaaaaDoor
