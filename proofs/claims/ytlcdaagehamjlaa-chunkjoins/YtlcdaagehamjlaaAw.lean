/- Proved: the laws' first line, of answers that the document fixes, is true, and turns nothing that was there. No condition. -/
import Derived.Test.YtlcdaagehamjlaaD
import Derived.Laws.MakeOwn
import Derived.Laws.IdiomStrings
import Derived.Laws.BytesArg
namespace Go.Proofs.Ytlcdaagehamjlaa
open Go.RowKit

def bv (c : UInt8) : Value := .int .u8 (c.toNat : Nat)
def ac (l : List UInt8) : Array Value := (l.map bv).toArray
theorem ac_get (l : List UInt8) (i : Nat) (h : i < l.length) : (ac l)[i]? = some (.int .u8 (l[i].toNat : Nat)) := by
  simp [ac, h, bv]
theorem ac_size (l : List UInt8) : (ac l).size = l.length := by simp [ac]
theorem info5b : (Try.prog.info? 5).map (fun i => (i.zero, i.size, i.bytes)) = some (some (.int .u8 0), 1, 1) := by kernel_rfl
theorem made_ac (k : Nat) : madeCells (Value.int .u8 0).cells (k * 1) = ac (List.replicate k 0) := by
  apply Array.ext
  · rw [size_madeCells, ac_size]; simp
  · intro i h1 h2
    simp [madeCells, Value.cells, ac, bv, Nat.mod_one]
/-- So many bytes made, and taken as a text. -/
theorem make_fn (k : Nat) (hk : k ≤ 281474976710656) : ∃ nw : World → World, (∀ w, (Instr.makeSlice 39 (.int .i64 k) (.int .i64 k)).run Try.prog w = .ok (.slice (some ⟨w.heap.size, 0, none⟩) k k) (nw w)) ∧
    (∀ w, (convert 39 9 (.slice (some ⟨w.heap.size, 0, none⟩) k k)).run Try.prog (nw w) = .ok (.string ⟨(List.replicate k (0 : UInt8)).toArray⟩) (nw w)) ∧ ∀ w, Keep w (nw w) := by
  refine ⟨fun w => w.alloc (.cells (ac (List.replicate k 0)) 5), fun w => ?_, fun w => ?_, fun w => (Keep.refl w).alloc _⟩
  · obtain ⟨i0, hi, hz0, hz1, hz2⟩ := info_parts info5b
    have h := run_make (P := Try.prog) w 39 5 i0 (.int .u8 0) Try.underlying39 hi hz0 .i64 .i64 k k (by omega) (Int.le_refl _) (by rw [hz2]; omega) (by omega)
    rw [h, hz1, Int.toNat_natCast, made_ac]
  · have h := run_convert_bytes_back (P := Try.prog) (w.alloc (.cells (ac (List.replicate k 0)) 5)) 39 9 5 ⟨w.heap.size, 0, none⟩ k (List.replicate k 0) Try.underlying39 Try.underlying5 Try.underlying9 (fun j hj => by
      have hadd : (⟨w.heap.size, 0, none⟩ : Addr).add j = ⟨w.heap.size, j, none⟩ := by unfold Addr.add; split <;> simp_all
      rw [hadd]
      exact cell_obj (heap_alloc_last w _) (ac_get _ j hj))
    rwa [List.length_replicate] at h
theorem Cells.txt' {w : World} {g o cap n : Nat} {L : List (List UInt8)} (h : TexS w (.slice (some ⟨g, o, none⟩) L.length cap) L) (_hn : L.length = n) (j : Nat) (x : List UInt8) (hx : L[j]? = some x) : w.cell? ⟨g, o + j, none⟩ = some (.string ⟨x.toArray⟩) := h.txt j x hx
theorem size64 : sizeI 64 = (45 : Nat) := rfl
/-- A hundred bytes: three chunks, the third one of ten. -/
theorem cut100 (z : List UInt8) (hz : z.length = 100) : cutE z 64 = 0 ∧ (cutL z 64).length = 3 ∧ ∃ x, (cutL z 64)[2]? = some x ∧ x.length = 10 := by
  have he : cutE z 64 = 0 := by unfold cutE; rw [size64, hz]; rfl
  refine ⟨he, ?_⟩
  unfold cutL
  rw [if_pos he, size64]
  have hc : cnt 45 z.length = 3 := by rw [hz]; rfl
  refine ⟨by rw [show ((45 : Nat) : Int).toNat = 45 from rfl, parts_len, hc], _, parts_get (by rw [show ((45 : Nat) : Int).toNat = 45 from rfl, hc]; omega), ?_⟩
  rw [List.length_take, List.length_drop, hz]
  rfl
theorem cut0 : cutE [] 64 = 0 ∧ (cutL [] 64).length = 1 := ⟨rfl, rfl⟩
theorem cut63 : cutE [] 63 = 1 := rfl
theorem cutBig (z : List UInt8) (hz : z.length = 11521) : cutE z 64 = 7 := by unfold cutE; rw [size64, hz]; rfl
/-- Two texts, joined. -/
theorem two_cells (w : World) (x y : List UInt8) : TexS (w.alloc (.cells #[.string ⟨x.toArray⟩, .string ⟨y.toArray⟩] 9)) (.slice (some ⟨w.heap.size, 0, none⟩) 2 2) [x, y] := by
  refine .inr ⟨w.heap.size, 0, 2, rfl, Nat.le_refl _, by unfold maxLen; omega, by simp, fun j u hj => ?_⟩
  have hf : flat se [x, y] = [.string ⟨x.toArray⟩, .string ⟨y.toArray⟩] := rfl
  rw [hf] at hj
  refine cell_obj (heap_alloc_last w _) ?_
  rw [Nat.zero_add, ← hj]
  simp

set_option maxRecDepth 100000 in
set_option maxHeartbeats 4000000 in
theorem awake (w : World) : Calls Try.prog 8 #[] w fun e w' => e = .returned (.bool true) ∧ Keep w w' := by
  obtain ⟨n1, m1, c1, k1⟩ := make_fn 100 (by omega)
  obtain ⟨n2, m2, c2, k2⟩ := make_fn 11521 (by omega)
  obtain ⟨z1, hz1⟩ : ∃ z : List UInt8, List.replicate 100 0 = z := ⟨_, rfl⟩
  obtain ⟨z2, hz2⟩ : ∃ z : List UInt8, List.replicate 11521 0 = z := ⟨_, rfl⟩
  have l1 : z1.length = 100 := by rw [← hz1, List.length_replicate]
  have l2 : z2.length = 11521 := by rw [← hz2, List.length_replicate]
  rw [show ((100 : Nat) : Int) = 100 from rfl] at m1
  rw [show ((11521 : Nat) : Int) = 11521 from rfl] at m2
  rw [hz1] at c1
  rw [hz2] at c2
  clear hz1 hz2
  have H1 := Lib.hid (fun w => dcut z1 64 w (by rw [l1]; omega))
  have H2 := Lib.hid (fun w => dcut [] 64 w (by simp))
  have H3 := Lib.hid (fun w => dcut [] 63 w (by simp))
  have H4 := Lib.hid (fun w => dcut z2 64 w (by rw [l2]; omega))
  have H5 := Lib.hid (fun w => dsize 65535 w)
  have H6 := Lib.hid (fun w => dcount 100 64 w)
  have H7 := Lib.hid (fun w => dcount (-1) 64 w)
  rw [show sizeI 65535 = 1000 from rfl, if_neg (by decide)] at H5
  rw [show countI 100 64 = 3 from rfl] at H6
  rw [show countI (-1) 64 = -1 from rfl] at H7
  obtain ⟨e1, g1, x, hx, hxl⟩ := cut100 z1 l1
  rw [e1] at H1
  rw [cut0.1] at H2
  rw [cut63] at H3
  rw [cutBig z2 l2] at H4
  have G1 := Lib.hid g1
  have GX := Lib.hid hx
  have L2 := Lib.hid cut0.2
  have K1 := Lib.hid k1
  have K2 := Lib.hid k2
  clear e1 g1 hx l1 l2 k1 k2
  go_enter Try.func8, Try.ntmps8
  go_wp2_with fail
  refine (H1.out _).mono ?_
  rintro e w1 ⟨v1, rfl, hO1, hK1⟩
  have O1 := Lib.hid (OwnS.cells hO1)
  have W1 := Lib.hid ((K1.out w).trans hK1)
  obtain ⟨g, o, cap, rfl, _, _, _⟩ := O1.out.ptr 2 (by rw [G1.out]; omega)
  rw [G1.out]
  clear hO1 hK1
  go_wp2_with fail
  refine (H2.out _).mono ?_
  rintro e w2 ⟨v2, rfl, hO2, hK2⟩
  have O2 := Lib.hid (OwnS.cells hO2)
  have W2 := Lib.hid hK2
  obtain ⟨g2, o2, cap2, rfl, _, _, _⟩ := O2.out.ptr 0 (by rw [L2.out]; omega)
  rw [L2.out]
  clear hO2 hK2
  go_wp2_with fail
  refine (H3.out _).mono ?_
  rintro e w3 ⟨v3, rfl, _, hK3⟩
  have W3 := Lib.hid hK3
  clear hK3
  go_wp2_with fail
  refine (H4.out _).mono ?_
  rintro e w4 ⟨v4, rfl, _, hK4⟩
  have W4 := Lib.hid ((K2.out w3).trans hK4)
  clear hK4
  go_wp2_with fail
  refine (H5.out _).mono ?_
  rintro e w4 ⟨rfl, rfl⟩
  have hcell := (O1.out.keep ((W2.out.trans W3.out).trans W4.out)).txt' G1.out 2 x GX.out
  have hx10 : ((x.length : Int) == 10) = true := by rw [hxl]; rfl
  go_wp2_with fail
  refine (H6.out _).mono ?_
  rintro e w4 ⟨rfl, rfl⟩
  go_wp2_with fail
  refine (H7.out _).mono ?_
  rintro e w4 ⟨rfl, rfl⟩
  go_wp2_with fail
  have H8 := Lib.hid (djoin _ _ _ (two_cells w4 [97] [98]) (by simp) (by simp))
  refine H8.out.mono ?_
  rintro e w5 ⟨rfl, hK5⟩
  have W5 := Lib.hid (((((W1.out.trans W2.out).trans W3.out).trans W4.out).alloc _).trans hK5)
  clear hK5
  go_wp2
  go_ret
  exact ⟨rfl, W5.out⟩
end Go.Proofs.Ytlcdaagehamjlaa
