/- Proved: two frames are held against one another; an argument that is a frame, opened; the laws' first line, of answers that the document fixes, is true, and turns nothing that was there. No condition. -/
import Derived.Test.YtcdcnlaijbjonaaFi
import Derived.ChangeSame
import Derived.OpenShut
namespace Go.Proofs.Ytcdcnlaijbjonaa
open Go.RowKit

set_option maxRecDepth 100000 in
theorem eq_fc (d : Nat) (a b : Fr) (w : World) : (Op.equalIn (d + 3) 23 (.agg (fc a)) (.agg (fc b))).run Try.prog w = .ok (decide (a = b)) w := by
  have e : decide (a = b) = (decide (a.kind = b.kind) && (decide (a.ses = b.ses) && (decide (a.ep = b.ep) && (decide (a.idx = b.idx) && (decide (a.tot = b.tot) && decide (a.data = b.data)))))) := by
    rw [Bool.eq_iff_iff]
    simp only [Bool.and_eq_true, decide_eq_true_eq]
    exact Fr.iff a b
  rw [e, run_equalIn_struct (P := Try.prog) w (d + 2) 23 _ _ (by kernel_rfl) (by kernel_rfl)]
  have hf : (Try.prog.fieldsOf 23).toList = [{ name := "Kind", type := 3, offset := 0, embedded := false, tag := "", pkgPath := "", byteOffset := 0 }, { name := "Session", type := 3, offset := 1, embedded := false, tag := "", pkgPath := "", byteOffset := 8 }, { name := "Epoch", type := 3, offset := 2, embedded := false, tag := "", pkgPath := "", byteOffset := 16 }, { name := "Index", type := 3, offset := 3, embedded := false, tag := "", pkgPath := "", byteOffset := 24 }, { name := "Total", type := 3, offset := 4, embedded := false, tag := "", pkgPath := "", byteOffset := 32 }, { name := "Data", type := 9, offset := 5, embedded := false, tag := "", pkgPath := "", byteOffset := 40 }] := by kernel_rfl
  rw [hf]
  simp only [Op.eqFields]
  have a0 : (fc a)[0]? = some (.int .i64 a.kind) := rfl
  have a1 : (fc a)[1]? = some (.int .i64 a.ses) := rfl
  have a2 : (fc a)[2]? = some (.int .i64 a.ep) := rfl
  have a3 : (fc a)[3]? = some (.int .i64 a.idx) := rfl
  have a4 : (fc a)[4]? = some (.int .i64 a.tot) := rfl
  have a5 : (fc a)[5]? = some (.string ⟨a.data.toArray⟩) := rfl
  have b0 : (fc b)[0]? = some (.int .i64 b.kind) := rfl
  have b1 : (fc b)[1]? = some (.int .i64 b.ses) := rfl
  have b2 : (fc b)[2]? = some (.int .i64 b.ep) := rfl
  have b3 : (fc b)[3]? = some (.int .i64 b.idx) := rfl
  have b4 : (fc b)[4]? = some (.int .i64 b.tot) := rfl
  have b5 : (fc b)[5]? = some (.string ⟨b.data.toArray⟩) := rfl
  generalize fc a = A at *
  generalize fc b = B at *
  go_simp
  by_cases h1 : a.kind = b.kind
  rotate_left
  · simp only [if_neg h1, decide_eq_false h1, Bool.false_and]
  simp only [if_pos h1, decide_eq_true h1, Bool.true_and]
  by_cases h2 : a.ses = b.ses
  rotate_left
  · simp only [if_neg h2, decide_eq_false h2, Bool.false_and]
  simp only [if_pos h2, decide_eq_true h2, Bool.true_and]
  by_cases h3 : a.ep = b.ep
  rotate_left
  · simp only [if_neg h3, decide_eq_false h3, Bool.false_and]
  simp only [if_pos h3, decide_eq_true h3, Bool.true_and]
  by_cases h4 : a.idx = b.idx
  rotate_left
  · simp only [if_neg h4, decide_eq_false h4, Bool.false_and]
  simp only [if_pos h4, decide_eq_true h4, Bool.true_and]
  by_cases h5 : a.tot = b.tot
  rotate_left
  · simp only [if_neg h5, decide_eq_false h5, Bool.false_and]
  simp only [if_pos h5, decide_eq_true h5, Bool.true_and]
  by_cases h6 : a.data = b.data
  rotate_left
  · simp only [if_neg h6, decide_eq_false h6]
  simp only [if_pos h6, decide_eq_true h6]

theorem cellsF : Try.prog.cellsOf 23 = 6 := by kernel_rfl
theorem cellsI : Try.prog.cellsOf 3 = 1 := by kernel_rfl
theorem cellsT : Try.prog.cellsOf 9 = 1 := by kernel_rfl
/-- What an argument that is a frame bears. -/
structure ArgF (f : Fr) : Prop extends SqF f where
  kind : -9223372036854775808 ≤ f.kind ∧ f.kind ≤ 9223372036854775807
open Go.ChangeShapes Go.WideShapes Go.ChangeAt in
theorem cells_frame {H : Type} {enc : TypeId × Value → H} {W : World} {sp : Nat → Bool} {held : Bool} {fuel : Nat} {cs : List Value} {x : DataW H × List MemPlace} (hf : DataW.trod enc Try.prog W 0 sp held fuel 23 cs = some x) (hsz : cs.length = 6) : ∃ f : Fr, cs = fl f ∧ ArgF f := by
  obtain ⟨xs, n, _, rfl, hl, hlen, hg⟩ := DataW.trod_struct Try.underlying23 hf
  match cs, hsz, xs, hlen with
  | [c0, c1, c2, c3, c4, c5], _, [y0, y1, y2, y3, y4, y5], _ =>
    have g0 : DataW.trod enc Try.prog W 0 sp held n 3 [c0] = some y0 := by simpa [cellsI] using hg 0 _ rfl
    have g1 : DataW.trod enc Try.prog W 0 sp held n 3 [c1] = some y1 := by simpa [cellsI] using hg 1 _ rfl
    have g2 : DataW.trod enc Try.prog W 0 sp held n 3 [c2] = some y2 := by simpa [cellsI] using hg 2 _ rfl
    have g3 : DataW.trod enc Try.prog W 0 sp held n 3 [c3] = some y3 := by simpa [cellsI] using hg 3 _ rfl
    have g4 : DataW.trod enc Try.prog W 0 sp held n 3 [c4] = some y4 := by simpa [cellsI] using hg 4 _ rfl
    have g5 : DataW.trod enc Try.prog W 0 sp held n 9 [c5] = some y5 := by simpa [cellsT] using hg 5 _ rfl
    obtain ⟨k0, e0, _, w0⟩ := DataW.trod_int Try.underlying3 g0
    obtain ⟨k1, e1, _, w1⟩ := DataW.trod_int Try.underlying3 g1
    obtain ⟨k2, e2, _, w2⟩ := DataW.trod_int Try.underlying3 g2
    obtain ⟨k3, e3, _, w3⟩ := DataW.trod_int Try.underlying3 g3
    obtain ⟨k4, e4, _, w4⟩ := DataW.trod_int Try.underlying3 g4
    obtain ⟨s, e5, _, w5⟩ := DataW.trod_string Try.underlying9 g5
    simp at e0 e1 e2 e3 e4 e5
    subst e0 e1 e2 e3 e4 e5
    have b0 := bounds_i64 w0
    have b1 := bounds_i64 w1
    have b2 := bounds_i64 w2
    have b3 := bounds_i64 w3
    have b4 := bounds_i64 w4
    have hl5 : s.data.toList.length ≤ 9223372036854775807 := by
      have : s.data.toList.length = s.size := by rw [Array.length_toList]; rfl
      rw [this]
      unfold maxLen at w5
      omega
    exact ⟨⟨k0, k1, k2, k3, k4, s.data.toList⟩, rfl, ⟨⟨(by show (-9223372036854775808 : Int) ≤ k1 ∧ k1 ≤ 9223372036854775807; omega), (by show (-9223372036854775808 : Int) ≤ k2 ∧ k2 ≤ 9223372036854775807; omega), (by show (-9223372036854775808 : Int) ≤ k3 ∧ k3 ≤ 9223372036854775807; omega), (by show (-9223372036854775808 : Int) ≤ k4 ∧ k4 ≤ 9223372036854775807; omega), hl5⟩, (by show (-9223372036854775808 : Int) ≤ k0 ∧ k0 ≤ 9223372036854775807; omega)⟩⟩
open Go.ChangeShapes Go.WideShapes Go.ChangeAt in
theorem open_frame {H : Type} {enc : TypeId × Value → H} {W : World} {sp : Nat → Bool} {held : Bool} {b0 : Nat} {v : Value} {d : DataW H} {q : List MemPlace} (hv : Value.okWide Try.prog W .any b0 23 v) (h : DataW.Trod enc Try.prog W 0 sp held 23 v d q) : ∃ f : Fr, v = .agg (fc f) ∧ ArgF f := by
  obtain ⟨cs, rfl, hsz⟩ := okWide_struct Try.underlying23 hv
  obtain ⟨fuel, hf⟩ := h
  obtain ⟨f, hc, hq⟩ := cells_frame hf (by rw [cellsF] at hsz; simpa [Value.cells] using hsz)
  refine ⟨f, ?_, hq⟩
  congr 1
  apply Array.ext'
  simpa [Value.cells, fc] using hc
end Go.Proofs.Ytcdcnlaijbjonaa
