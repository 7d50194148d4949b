/- Proved: an argument that is a prefix, opened; the listed variables' table; a start that meets the list. No condition. -/
import Derived.Test.YtabniphnmlbkfaaDoorI
import Derived.Test.YtabniphnmlbkfaaDoorTie
import Derived.Test.YtabniphnmlbkfaaDoorCards
import Derived.ProofKit
import Derived.LaidMore
import Derived.OpenShut
import Derived.Stop.Joined
import Derived.ShutString
import Derived.ChangeOld
import Derived.Lib.LaidTab
import Derived.Deep.Strs
namespace Go.Proofs.YtabniphnmlbkfaaDoor
open Go.ChangeShapes Go.WideShapes Go.ChangeAt Go.RowKit

def laid3 : List (String × DataW Unit) := [("math/bits.deBruijn32tab", Rows.laid_math_bits_deBruijn32tab), ("math/bits.deBruijn64tab", Rows.laid_math_bits_deBruijn64tab), ("internal/strconv.uint64pow10", Rows.laid_internal_strconv_uint64pow10)]
theorem own : ownKnob Tryd.prog.godebug = none := by kernel_rfl
theorem laidOut : laidOutB Tryd.prog = true := by kernel_rfl
theorem gType : (Tryd.prog.globals[1]?).map (·.type) = some 91 := by kernel_rfl
theorem door_met (os : Os) (args : Array Value) : laidMetH Tryd.prog laid3 ((World.doorLaid Tryd.prog 400 os).forCall (fun _ _ => 0) ⟨#[], args, []⟩).memory :=
  laidMetH_of_parts3 (fuel := 8) (laidMet_of_run' 8 (by kernel_rfl) (by kernel_rfl)) (by kernel_rfl) (by kernel_rfl)
theorem of_laid {W : World} (h : laidMetH Tryd.prog laid3 W) : Tab W := by
  rw [MakeChecks.laidMetH_plain _ _ _ (by kernel_rfl)] at h
  obtain ⟨ps, ⟨g0, t0, cs0, f0, p0, q0, hg0, ht0, hv0, hd0, ⟨g1, t1, cs1, f1, p1, q1, hg1, ht1, hv1, hd1, ⟨g2, t2, cs2, f2, p2, q2, hg2, ht2, hv2, hd2, _, _⟩, _⟩, _⟩, _, _⟩ := h
  obtain rfl := Option.some.inj (gvar.symm.trans hg2)
  obtain rfl := Option.some.inj (gType.symm.trans ht2)
  unfold Tab Lib.TabIs
  rw [hv2, ← Lib.cells_of_tab (k := .u64) (zs := Lib.pow10Tab) Tryd.underlying91 Tryd.underlying83 (by kernel_rfl) (by kernel_rfl) hd2]

theorem cells18 : Tryd.prog.cellsOf 24 = 18 := by kernel_rfl
theorem cells16 : Tryd.prog.cellsOf 22 = 16 := by kernel_rfl
theorem cells5 : Tryd.prog.cellsOf 5 = 1 := by kernel_rfl
theorem cells4 : Tryd.prog.cellsOf 4 = 1 := by kernel_rfl
theorem cells3 : Tryd.prog.cellsOf 3 = 1 := by kernel_rfl
theorem bytes_of {H : Type} {enc : TypeId × Value → H} {W : World} {m : Nat} {sp : Nat → Bool} {held : Bool} : ∀ (cs : List Value) (xs : List (DataW H × List MemPlace)), cs.length = xs.length →
    (∀ i, i < cs.length → DataW.trod enc Tryd.prog W 0 sp held m 5 ((cs.drop (i * 1)).take 1) = xs[i]?) → ∃ l : List UInt8, cs = l.map bv
  | [], _, _, _ => ⟨[], rfl⟩
  | c :: cs, [], hl, _ => by simp at hl
  | c :: cs, x :: xs, hl, h => by
    have h0 := h 0 (by simp)
    simp only [Nat.zero_mul, List.drop_zero, List.take_succ_cons, List.take_zero, List.getElem?_cons_zero] at h0
    obtain ⟨n, hn, _, hw⟩ := DataW.trod_int Tryd.underlying5 h0
    have hb := bounds_u8 hw
    obtain ⟨l, rfl⟩ := bytes_of cs xs (by simpa using hl) (fun i hi => by
      have := h (i + 1) (by simpa using hi)
      simpa using this)
    simp only [List.cons.injEq, and_true] at hn
    refine ⟨UInt8.ofNat n.toNat :: l, ?_⟩
    rw [hn]
    simp only [List.map_cons, bv, List.cons.injEq, and_true]
    rw [UInt8.toNat_ofNat_of_lt' (by simp [UInt8.size]; omega)]
    congr 1
    omega
theorem open_prefix {H : Type} {enc : TypeId × Value → H} {W : World} {b0 : Nat} {sp : Nat → Bool} {held : Bool} {v : Value} {d : DataW H} {q : List MemPlace}
    (hv : Value.okWide Tryd.prog W .any b0 24 v) (h : DataW.Trod enc Tryd.prog W 0 sp held 24 v d q) : ∃ p : Px, v = .agg (pc p) ∧ p.addr.length = 16 ∧ (Lit.int .i64 p.len).wf = true := by
  obtain ⟨cs, rfl, hsz⟩ := okWide_struct Tryd.underlying24 hv
  obtain ⟨fuel, hf⟩ := h
  obtain ⟨y0, y1, y2, n, _, hl, h0, h1, h2⟩ := Go.Deep.trod_struct3 Tryd.underlying24 hf
  simp only [cells18, cells4, cells16, cells3, Value.cells] at hl h0 h1 h2 hsz
  obtain ⟨s, hs, _⟩ := DataW.trod_bool Tryd.underlying4 h0
  obtain ⟨len, hn, _, hw⟩ := DataW.trod_int Tryd.underlying3 h2
  obtain ⟨xs, m, _, _, hl1, hxl, hel⟩ := DataW.trod_array Tryd.underlying22 h1
  rw [cells5] at hel
  rw [cells16] at hl1
  obtain ⟨l, hla⟩ := bytes_of _ xs (by rw [hl1, hxl]) (fun i hi => hel i (by omega))
  have hl16 : l.length = 16 := by have := congrArg List.length hla; rw [hl1] at this; simpa using this.symm
  refine ⟨⟨s, l, len⟩, ?_, hl16, hw⟩
  congr 1
  apply Array.ext'
  unfold pc
  simp only
  rw [← hla]
  have e1 : cs.toList = cs.toList.take 1 ++ ((cs.toList.drop 1).take 16 ++ (cs.toList.drop 17).take 1) := by
    have h3 : (cs.toList.drop 17).take 1 = cs.toList.drop 17 := List.take_of_length_le (by simp; omega)
    have h4 : cs.toList.drop 17 = (cs.toList.drop 1).drop 16 := by rw [List.drop_drop]
    rw [h3, h4, List.take_append_drop, List.take_append_drop]
  rw [List.drop_zero] at hs
  rw [hs, hn] at e1
  exact e1
end Go.Proofs.YtabniphnmlbkfaaDoor
