/- Proved: arguments that are lists of bytes, of texts, of frames, or of calls, or a frame, opened; the listed variable's table; a start that meets the list. No condition. -/
import Derived.Test.YtifcibmpeolmdaaDoorAw
import Derived.Test.YtifcibmpeolmdaaDoorTie
import Derived.Test.YtifcibmpeolmdaaDoorCards
import Derived.ProofKit
import Derived.LaidMore
import Derived.OpenShut
import Derived.Stop.Joined
import Derived.ShutString
import Derived.ChangeOld
import Derived.Deep.Strs
import Derived.Deep.Slices
namespace Go.Proofs.YtifcibmpeolmdaaDoor
open Go.ChangeShapes Go.WideShapes Go.ChangeAt Go.RowKit Go.Joins Go.Deep

def laid1 : List (String × DataW Unit) := [("math/bits.deBruijn64tab", Rows.laid_math_bits_deBruijn64tab)]
theorem own : ownKnob Tryd.prog.godebug = none := by kernel_rfl
theorem laidOut : laidOutB Tryd.prog = true := by kernel_rfl
theorem gType : (Tryd.prog.globals[0]?).map (·.type) = some 110 := by kernel_rfl
theorem door_met (os : Os) (args : Array Value) : laidMetH Tryd.prog laid1 ((World.doorLaid Tryd.prog 400 os).forCall (fun _ _ => 0) ⟨#[], args, []⟩).memory :=
  laidMetH_of_parts3 (fuel := 8) (laidMet_of_run' 8 (by kernel_rfl) (by kernel_rfl)) (by kernel_rfl) (by kernel_rfl)
theorem of_laid {W : World} (h : laidMetH Tryd.prog laid1 W) : Tab W := by
  rw [MakeChecks.laidMetH_plain _ _ _ (by kernel_rfl)] at h
  exact Lib.tabIs_of_head (zs := tabZ) gvar gType Tryd.underlying110 Tryd.underlying5 (by kernel_rfl) (by kernel_rfl) h

/-- A list that came in. -/
structure ArgL {α : Type} (enc : α → List Value) (w : World) (a : Option Addr) (cap : Nat) (l : List α) : Prop where
  cells : l ≠ [] → Cells enc w (.slice a l.length cap) l
  small : l.length ≤ maxLen
theorem ArgL.keep {α : Type} {enc : α → List Value} {w w' : World} {a : Option Addr} {cap : Nat} {l : List α} (h : ArgL enc w a cap l) (k : Keep w w') : ArgL enc w' a cap l := ⟨fun hn => (h.cells hn).keep k, h.small⟩

set_option maxRecDepth 100000 in
theorem open_list {H : Type} {enc : TypeId × Value → H} {W : World} {sp : Nat → Bool} {held : Bool} {b0 : Nat} {v : Value} {d : DataW H} {q : List MemPlace} {α : Type} [Inhabited α] (en : α → List Value) (t e k : Nat) (ht : Tryd.prog.underlying t = some (.slice e)) (hk : Tryd.prog.cellsOf e = k) (hk0 : 0 < k) (hen : ∀ x, (en x).length = k)
    (hel : ∀ {fuel : Nat} {cs : List Value} {x : DataW H × List MemPlace}, DataW.trod enc Tryd.prog W 0 sp held fuel e cs = some x → cs.length = k → ∃ y : α, cs = en y)
    (hv : Value.okWide Tryd.prog W .any b0 t v) (h : DataW.Trod enc Tryd.prog W 0 sp held t v d q) : ∃ (a : Option Addr) (cap : Nat) (l : List α), v = .slice a l.length cap ∧ ArgL en W a cap l := by
  obtain ⟨a0, len, cap, rfl⟩ := okWide_slice ht hv
  obtain ⟨fuel, hf⟩ := h
  rcases open_slice ht hf with ⟨hcs, _⟩ | ⟨x, l, c, m, n, D, Pl, hcs, hb, hl, hm, hmm, _, hi⟩
  · simp [Value.cells] at hcs
    obtain ⟨rfl, rfl, rfl⟩ := hcs
    exact ⟨none, 0, [], rfl, fun hn => absurd rfl hn, Nat.zero_le _⟩
  · simp [Value.cells] at hcs
    obtain ⟨rfl, rfl, rfl⟩ := hcs
    have hm2 : len ≤ m := by rw [hmm]; split <;> omega
    obtain ⟨f, hf⟩ := choose_lt (α := α) (n := len) (p := fun i y => ∀ j, j < k → W.cell? ((x.add (i * k)).add j) = (en y)[j]?) (fun i hi' => by
      obtain ⟨cs, hc, ht'⟩ := hi i (by omega)
      rw [hk] at hc
      obtain ⟨_, hlen, hat⟩ := World.cells?_some hc
      obtain ⟨y, rfl⟩ := hel ht' hlen
      exact ⟨y, fun j hj => hat j hj⟩)
    refine ⟨some x, cap, (List.range len).map f, by simp, fun hn => ?_, by simp; omega⟩
    have hpos : 0 < len := by
      rcases Nat.eq_zero_or_pos len with h0 | h0
      · rw [h0] at hn; simp at hn
      · exact h0
    have h00 := hf 0 hpos 0 hk0
    rw [Nat.zero_mul] at h00
    have hx0 : (en (f 0))[0]? = some ((en (f 0))[0]'(by rw [hen]; exact hk0)) := List.getElem?_eq_getElem _
    obtain ⟨b, off, spot⟩ := x
    have hspot : spot = none := by
      have := World.cell?_spot (h00.trans hx0)
      simpa [Addr.add] using this
    subst hspot
    rw [add_plain, add_plain] at h00
    have hlt := World.block_lt_of_cell? W _ (h00.trans hx0)
    refine .inr ⟨b, off, cap, rfl, by simpa using hl, hm, hlt, fun j u hj => ?_⟩
    have hj2 := (List.getElem?_eq_some_iff.1 hj).1
    rw [flat_len en hen] at hj2
    simp at hj2
    have hdv : j / k < len := Nat.div_lt_of_lt_mul (by rw [Nat.mul_comm]; exact hj2)
    have hmd : j % k < k := Nat.mod_lt _ hk0
    have hg := flat_get en hen ((List.range len).map f) (j / k) (f (j / k)) (by simp [hdv]) (j % k) hmd
    have hjj : j / k * k + j % k = j := by rw [Nat.mul_comm]; exact Nat.div_add_mod j k
    rw [hjj, hj] at hg
    have hc := hf (j / k) hdv (j % k) hmd
    rw [add_plain, add_plain, ← hg, Nat.add_assoc, hjj] at hc
    exact hc

/-! ### Bytes -/
theorem cells5 : Tryd.prog.cellsOf 5 = 1 := by kernel_rfl
theorem cells3 : Tryd.prog.cellsOf 3 = 1 := by kernel_rfl
theorem cells9 : Tryd.prog.cellsOf 9 = 1 := by kernel_rfl
def ue (c : UInt8) : List Value := [bv c]
theorem ue_len (c : UInt8) : (ue c).length = 1 := rfl
abbrev ArgB := ArgL ue
theorem Cells.byte {w : World} {g o cap : Nat} {l : List UInt8} (h : Cells ue w (.slice (some ⟨g, o, none⟩) l.length cap) l) (j : Nat) (x : UInt8) (hx : l[j]? = some x) : w.cell? ⟨g, o + j, none⟩ = some (.int .u8 (x.toNat : Nat)) := by
  have := h.cell (k := 1) (fun _ => rfl) j x hx 0 (by omega) (bv x) rfl
  simpa [bv] using this
set_option maxRecDepth 100000 in
theorem open_bytes {H : Type} {enc : TypeId × Value → H} {W : World} {sp : Nat → Bool} {held : Bool} {b0 : Nat} {v : Value} {d : DataW H} {q : List MemPlace} (hv : Value.okWide Tryd.prog W .any b0 60 v) (h : DataW.Trod enc Tryd.prog W 0 sp held 60 v d q) :
    ∃ (a : Option Addr) (cap : Nat) (l : List UInt8), v = .slice a l.length cap ∧ ArgB W a cap l :=
  open_list ue 60 5 1 Tryd.underlying60 cells5 (by omega) ue_len (fun {fuel cs x} hf hs => by
    match cs, hs with
    | [c], _ =>
      obtain ⟨n, hn, _, hw⟩ := DataW.trod_int Tryd.underlying5 hf
      have hb := bounds_u8 hw
      refine ⟨UInt8.ofNat n.toNat, ?_⟩
      rw [hn]
      unfold ue bv
      rw [UInt8.toNat_ofNat_of_lt' (by simp [UInt8.size]; omega)]
      congr 2
      omega) hv h

theorem cellsF : Tryd.prog.cellsOf 32 = 6 := by kernel_rfl
theorem cellsI : Tryd.prog.cellsOf 3 = 1 := by kernel_rfl
theorem cellsT : Tryd.prog.cellsOf 9 = 1 := by kernel_rfl
/-- What an argument that is a frame bears. -/
structure ArgF (f : Fr) : Prop extends SqF f where
  kind : -9223372036854775808 ≤ f.kind ∧ f.kind ≤ 9223372036854775807
set_option maxRecDepth 100000 in
open Go.ChangeShapes Go.WideShapes Go.ChangeAt in
theorem cells_frame {H : Type} {enc : TypeId × Value → H} {W : World} {sp : Nat → Bool} {held : Bool} {fuel : Nat} {cs : List Value} {x : DataW H × List MemPlace} (hf : DataW.trod enc Tryd.prog W 0 sp held fuel 32 cs = some x) (hsz : cs.length = 6) : ∃ f : Fr, cs = fl f ∧ ArgF f := by
  obtain ⟨xs, n, _, rfl, hl, hlen, hg⟩ := DataW.trod_struct Tryd.underlying32 hf
  match cs, hsz, xs, hlen with
  | [c0, c1, c2, c3, c4, c5], _, [y0, y1, y2, y3, y4, y5], _ =>
    have g0 : DataW.trod enc Tryd.prog W 0 sp held n 3 [c0] = some y0 := by simpa [cellsI] using hg 0 _ rfl
    have g1 : DataW.trod enc Tryd.prog W 0 sp held n 3 [c1] = some y1 := by simpa [cellsI] using hg 1 _ rfl
    have g2 : DataW.trod enc Tryd.prog W 0 sp held n 3 [c2] = some y2 := by simpa [cellsI] using hg 2 _ rfl
    have g3 : DataW.trod enc Tryd.prog W 0 sp held n 3 [c3] = some y3 := by simpa [cellsI] using hg 3 _ rfl
    have g4 : DataW.trod enc Tryd.prog W 0 sp held n 3 [c4] = some y4 := by simpa [cellsI] using hg 4 _ rfl
    have g5 : DataW.trod enc Tryd.prog W 0 sp held n 9 [c5] = some y5 := by simpa [cellsT] using hg 5 _ rfl
    obtain ⟨k0, e0, _, w0⟩ := DataW.trod_int Tryd.underlying3 g0
    obtain ⟨k1, e1, _, w1⟩ := DataW.trod_int Tryd.underlying3 g1
    obtain ⟨k2, e2, _, w2⟩ := DataW.trod_int Tryd.underlying3 g2
    obtain ⟨k3, e3, _, w3⟩ := DataW.trod_int Tryd.underlying3 g3
    obtain ⟨k4, e4, _, w4⟩ := DataW.trod_int Tryd.underlying3 g4
    obtain ⟨s, e5, _, w5⟩ := DataW.trod_string Tryd.underlying9 g5
    simp at e0 e1 e2 e3 e4 e5
    subst e0 e1 e2 e3 e4 e5
    have b0 := bounds_i64 w0
    have b1 := bounds_i64 w1
    have b2 := bounds_i64 w2
    have b3 := bounds_i64 w3
    have b4 := bounds_i64 w4
    have hl5 : s.data.toList.length ≤ 9223372036854775807 := by
      have : s.data.toList.length = s.size := by rw [Array.length_toList]; rfl
      rw [this]
      unfold maxLen at w5
      omega
    exact ⟨⟨k0, k1, k2, k3, k4, s.data.toList⟩, rfl, ⟨⟨(by show (-9223372036854775808 : Int) ≤ k1 ∧ k1 ≤ 9223372036854775807; omega), (by show (-9223372036854775808 : Int) ≤ k2 ∧ k2 ≤ 9223372036854775807; omega), (by show (-9223372036854775808 : Int) ≤ k3 ∧ k3 ≤ 9223372036854775807; omega), (by show (-9223372036854775808 : Int) ≤ k4 ∧ k4 ≤ 9223372036854775807; omega), hl5⟩, (by show (-9223372036854775808 : Int) ≤ k0 ∧ k0 ≤ 9223372036854775807; omega)⟩⟩
open Go.ChangeShapes Go.WideShapes Go.ChangeAt in
set_option maxRecDepth 100000 in
theorem open_frame {H : Type} {enc : TypeId × Value → H} {W : World} {sp : Nat → Bool} {held : Bool} {b0 : Nat} {v : Value} {d : DataW H} {q : List MemPlace} (hv : Value.okWide Tryd.prog W .any b0 32 v) (h : DataW.Trod enc Tryd.prog W 0 sp held 32 v d q) : ∃ f : Fr, v = .agg (fc f) ∧ ArgF f := by
  obtain ⟨cs, rfl, hsz⟩ := okWide_struct Tryd.underlying32 hv
  obtain ⟨fuel, hf⟩ := h
  obtain ⟨f, hc, hq⟩ := cells_frame hf (by rw [cellsF] at hsz; simpa [Value.cells] using hsz)
  refine ⟨f, ?_, hq⟩
  congr 1
  apply Array.ext'
  simpa [Value.cells, fc] using hc

/-! ### Lists that came in -/
/-- A list that came in, or none. -/
structure ArgN {α : Type} (enc : α → List Value) (w : World) (a : Option Addr) (cap : Nat) (l : List α) : Prop extends ArgL enc w a cap l where
  none' : a = none → cap = 0
theorem ArgN.keep {α : Type} {enc : α → List Value} {w w' : World} {a : Option Addr} {cap : Nat} {l : List α} (h : ArgN enc w a cap l) (k : Keep w w') : ArgN enc w' a cap l := ⟨h.toArgL.keep k, h.none'⟩
set_option maxRecDepth 100000 in
theorem open_texts {H : Type} {enc : TypeId × Value → H} {W : World} {sp : Nat → Bool} {held : Bool} {b0 : Nat} {v : Value} {d : DataW H} {q : List MemPlace} (hv : Value.okWide Tryd.prog W .any b0 38 v) (h : DataW.Trod enc Tryd.prog W 0 sp held 38 v d q) :
    ∃ (a : Option Addr) (cap : Nat) (l : List (List UInt8)), v = .slice a l.length cap ∧ ArgN se W a cap l := by
  obtain ⟨a, cap, l, rfl, ha⟩ := open_list se 38 9 1 Tryd.underlying38 cells9 (by omega) se_len (fun {fuel cs x} hf hs => by
    match cs, hs with
    | [c], _ =>
      obtain ⟨s, hs, _⟩ := DataW.trod_string Tryd.underlying9 hf
      exact ⟨s.data.toList, by rw [hs]; rfl⟩) hv h
  refine ⟨a, cap, l, rfl, ha, fun e => ?_⟩
  subst e
  obtain ⟨fuel, hf⟩ := h
  rcases open_slice Tryd.underlying38 hf with ⟨hcs, _⟩ | ⟨x, l, c, m, n, D, Pl, hcs, _⟩
  · simp [Value.cells] at hcs
    exact hcs.2
  · simp [Value.cells] at hcs
/-- A frame, with what it bears. -/
structure Fq where
  f : Fr
  q : ArgF f
instance : Inhabited Fq := ⟨⟨zeroF, by constructor <;> (try constructor) <;> decide⟩⟩
def fq (x : Fq) : List Value := fl x.f
theorem fq_len (x : Fq) : (fq x).length = 6 := rfl
set_option maxRecDepth 100000 in
theorem open_frames {H : Type} {enc : TypeId × Value → H} {W : World} {sp : Nat → Bool} {held : Bool} {b0 : Nat} {v : Value} {d : DataW H} {q : List MemPlace} (hv : Value.okWide Tryd.prog W .any b0 22 v) (h : DataW.Trod enc Tryd.prog W 0 sp held 22 v d q) :
    ∃ (a : Option Addr) (cap : Nat) (l : List Fq), v = .slice a l.length cap ∧ ArgL fq W a cap l :=
  open_list fq 22 32 6 Tryd.underlying22 cellsF (by omega) fq_len (fun hf hs => by
    obtain ⟨f, hc, hq⟩ := cells_frame hf hs
    exact ⟨⟨f, hq⟩, hc⟩) hv h
/-- A call. -/
structure Oq where
  kind : Int
  x : Fq
instance : Inhabited Oq := ⟨⟨0, default⟩⟩
def ol (o : Oq) : List Value := .int .i64 o.kind :: fl o.x.f
theorem ol_len (o : Oq) : (ol o).length = 7 := rfl
theorem wp_appN {α : Type} {ts t k bs : Nat} {enc : α → List Value} (E : El ts t k bs enc) {ops : Array Oper} {rest : List Oper} {o : Oper} {a : Act} {Q : Exit → Act → World → Prop} {w : World} (hgd : o.guard = none) (s x : Operand)
    (ho : o.op = .call { callee := .builtin .append, args := #[s, x], argTypes := #[ts, ts] }) (B : Nat) (v : Value) (a0 : Option Addr) (N cap : Nat) (l m : List α) (hs : a.eval s = v) (hN : m.length = N) (hx : a.eval x = .slice a0 N cap) (hown : Own t k enc B w v l) (hsrc : ArgN enc w a0 cap m)
    (hsm : (l.length + m.length) * bs ≤ 140737488355328) (hb : l.length + m.length ≤ 1000000) (hbase : B ≤ w.heap.size)
    (h : ∀ v' w', Own t k enc B w' v' (l ++ m) → w.grownBy w' v.ownBlock → wpList Tryd.prog ops Q rest (a.put o.dst v') w') : wpList Tryd.prog ops Q (o :: rest) a w := by
  subst hN
  by_cases hm : m = []
  · subst hm
    cases a0 with
    | none =>
      have hc := hsrc.none' rfl
      subst hc
      exact wp_app E hgd s x ho B v _ l [] hs hx hown (Cells.nil w) hsm hb hbase h
    | some ad =>
      obtain ⟨it, z, hi, hz, hsz, hby, hzs⟩ := E.info
      refine wpList_append_own w hgd s x ts ho B t it z k bs E.under hi hz hsz hby hzs E.pos v _ _ hs hown ad 0 cap [] hx (by simp) (fun j u hj => by simp at hj) (fun u hu => by simp at hu) (by unfold maxLen; simp at hb ⊢; omega) (by simpa using hsm) hbase ?_
      intro v' w' k1 k2 _
      refine h v' w' ?_ k2
      unfold Own
      simpa using k1
  · exact wp_app E hgd s x ho B v _ l m hs hx hown (hsrc.cells hm) hsm hb hbase h
end Go.Proofs.YtifcibmpeolmdaaDoor
