/- Proved: arguments that are prefixes, routes, or lists of them, opened. No condition. -/
import Derived.Test.YtgocmolebanflaaE
import Derived.ProofKit
import Derived.OpenShut
import Derived.Lib.SmallJoins
import Derived.Deep.Slices
import Derived.Deep.Strs
namespace Go.Proofs.Ytgocmolebanflaa
open Go.RowKit Go.ChangeShapes Go.WideShapes Go.ChangeAt Go.Joins Go.Deep

theorem own : ownKnob Try.prog.godebug = none := by kernel_rfl
theorem laidOut : laidOutB Try.prog = true := by kernel_rfl
theorem cells34 : Try.prog.cellsOf 34 = 20 := by kernel_rfl
theorem cells18 : Try.prog.cellsOf 25 = 18 := by kernel_rfl
theorem cells16 : Try.prog.cellsOf 23 = 16 := by kernel_rfl
theorem cells5 : Try.prog.cellsOf 5 = 1 := by kernel_rfl
theorem cells4 : Try.prog.cellsOf 4 = 1 := by kernel_rfl
theorem cells3 : Try.prog.cellsOf 3 = 1 := by kernel_rfl
theorem cells32 : Try.prog.cellsOf 32 = 1 := by kernel_rfl
section
variable {H : Type} {enc : TypeId × Value → H} {W : World} {sp : Nat → Bool} {held : Bool}
theorem bytes_of {m : Nat} : ∀ (cs : List Value) (xs : List (DataW H × List MemPlace)), cs.length = xs.length →
    (∀ i, i < cs.length → DataW.trod enc Try.prog W 0 sp held m 5 ((cs.drop (i * 1)).take 1) = xs[i]?) → ∃ l : List UInt8, cs = l.map bv
  | [], _, _, _ => ⟨[], rfl⟩
  | c :: cs, [], hl, _ => by simp at hl
  | c :: cs, x :: xs, hl, h => by
    have h0 := h 0 (by simp)
    simp only [Nat.zero_mul, List.drop_zero, List.take_succ_cons, List.take_zero, List.getElem?_cons_zero] at h0
    obtain ⟨n, hn, _, hw⟩ := DataW.trod_int Try.underlying5 h0
    have hb := bounds_u8 hw
    obtain ⟨l, rfl⟩ := bytes_of cs xs (by simpa using hl) (fun i hi => by
      have := h (i + 1) (by simpa using hi)
      simpa using this)
    simp only [List.cons.injEq, and_true] at hn
    refine ⟨UInt8.ofNat n.toNat :: l, ?_⟩
    rw [hn]
    simp only [List.map_cons, bv, List.cons.injEq, and_true]
    rw [UInt8.toNat_ofNat_of_lt' (by simp [UInt8.size]; omega)]
    congr 1
    omega
theorem cells_prefix {fuel : Nat} {cs : List Value} {x : DataW H × List MemPlace} (hf : DataW.trod enc Try.prog W 0 sp held fuel 25 cs = some x) (hsz : cs.length = 18) : ∃ p : Px, cs = (pc p).toList ∧ p.addr.length = 16 := by
  obtain ⟨y0, y1, y2, n, _, hl, h0, h1, h2⟩ := trod_struct3 Try.underlying25 hf
  simp only [cells18, cells4, cells16, cells3] at hl h0 h1 h2
  obtain ⟨s, hs, _⟩ := DataW.trod_bool Try.underlying4 h0
  obtain ⟨len, hn, _, hw⟩ := DataW.trod_int Try.underlying3 h2
  obtain ⟨xs, m, _, _, hl1, hxl, hel⟩ := DataW.trod_array Try.underlying23 h1
  rw [cells5] at hel
  rw [cells16] at hl1
  obtain ⟨l, hla⟩ := bytes_of _ xs (by rw [hl1, hxl]) (fun i hi => hel i (by omega))
  have hl16 : l.length = 16 := by have := congrArg List.length hla; rw [hl1] at this; simpa using this.symm
  refine ⟨⟨s, l, len⟩, ?_, hl16⟩
  unfold pc
  simp only
  rw [← hla]
  have e1 : cs = cs.take 1 ++ ((cs.drop 1).take 16 ++ (cs.drop 17).take 1) := by
    have h3 : (cs.drop 17).take 1 = cs.drop 17 := List.take_of_length_le (by simp; omega)
    have h4 : cs.drop 17 = (cs.drop 1).drop 16 := by rw [List.drop_drop]
    rw [h3, h4, List.take_append_drop, List.take_append_drop]
  rw [List.drop_zero] at hs
  rw [hs, hn] at e1
  exact e1
theorem cells_route {fuel : Nat} {cs : List Value} {x : DataW H × List MemPlace} (hf : DataW.trod enc Try.prog W 0 sp held fuel 34 cs = some x) (hsz : cs.length = 20) : ∃ r : Rt, cs = rl r := by
  obtain ⟨y0, y1, y2, n, _, hl, h0, h1, h2⟩ := trod_struct3 Try.underlying34 hf
  simp only [cells34, cells18, cells32, cells3] at hl h0 h1 h2
  rw [List.drop_zero] at h0
  obtain ⟨p, hp, h16⟩ := cells_prefix h0 (by rw [List.length_take]; omega)
  obtain ⟨m, hm, _, _⟩ := DataW.trod_int Try.underlying3 h1
  obtain ⟨s, hs, _, _⟩ := DataW.trod_int Try.underlying32 h2
  refine ⟨⟨p, m, s, h16⟩, ?_⟩
  have e1 : cs = cs.take 18 ++ ((cs.drop 18).take 1 ++ (cs.drop 19).take 1) := by
    have h3 : (cs.drop 19).take 1 = cs.drop 19 := List.take_of_length_le (by simp; omega)
    have h4 : cs.drop 19 = (cs.drop 18).drop 1 := by rw [List.drop_drop]
    rw [h3, h4, List.take_append_drop, List.take_append_drop]
  rw [hp, hm, hs] at e1
  exact e1
set_option maxRecDepth 100000 in
theorem open_prefix {b0 : Nat} {v : Value} {d : DataW H} {q : List MemPlace} (hv : Value.okWide Try.prog W .any b0 25 v) (h : DataW.Trod enc Try.prog W 0 sp held 25 v d q) : ∃ p : Px, v = .agg (pc p) ∧ p.addr.length = 16 := by
  obtain ⟨cs, rfl, hsz⟩ := okWide_struct Try.underlying25 hv
  obtain ⟨fuel, hf⟩ := h
  obtain ⟨p, hp, h16⟩ := cells_prefix hf (by rw [cells18] at hsz; simpa [Value.cells] using hsz)
  refine ⟨p, ?_, h16⟩
  congr 1
  apply Array.ext'
  simpa [Value.cells] using hp
set_option maxRecDepth 100000 in
theorem open_route {b0 : Nat} {v : Value} {d : DataW H} {q : List MemPlace} (hv : Value.okWide Try.prog W .any b0 34 v) (h : DataW.Trod enc Try.prog W 0 sp held 34 v d q) : ∃ r : Rt, v = .agg (rc r) := by
  obtain ⟨cs, rfl, hsz⟩ := okWide_struct Try.underlying34 hv
  obtain ⟨fuel, hf⟩ := h
  obtain ⟨r, hr⟩ := cells_route hf (by rw [cells34] at hsz; simpa [Value.cells] using hsz)
  refine ⟨r, ?_⟩
  congr 1
  apply Array.ext'
  simpa [Value.cells, rc] using hr
end
end Go.Proofs.Ytgocmolebanflaa
