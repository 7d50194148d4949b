/- Proved: for every two bytes the law CrcTables returns true (the table is linear, its rows are the document's, unlike bytes have unlike rows), and its arguments read behind the call as they read before. No condition. -/
import Derived.Test.YteiafdokbhigoaaE
import Derived.ProofKit
import Derived.ShutString
import Derived.ChangeOld
namespace Go.Proofs.Yteiafdokbhigoaa.LCrcTables
open Go.RowKit

theorem xorA (a b : Nat) (ha : a < 256) (hb : b < 256) : bits .xor .u8 (a : Int) (b : Int) = ((a ^^^ b : Nat) : Int) := u8_xor_nat a b ha hb

set_option maxRecDepth 100000 in
set_option maxHeartbeats 1000000 in
theorem walk (a b : Nat) (w : World) (ha : a < 256) (hb : b < 256) :
    Calls Try.prog 8 #[.int .u8 a, .int .u8 b] w fun e w' => e = .returned (.bool true) ∧ Below w.heap.size w w' := by
  obtain ⟨hz, hi⟩ := zero_of_info info31
  have c18 := Lib.hid table
  have c11 := Lib.hid awake
  have c19 := Lib.hid (row a ha)
  have T0 := tabCells_zero
  have Tget := Lib.hid tabCells_get
  have Tsize := Lib.hid tabCells_size
  have Tone := Lib.hid tab_one
  generalize tabCells = T at *
  obtain ⟨n, hn⟩ : ∃ n, n = 256 := ⟨256, rfl⟩
  have hsz : ∀ w, (Go.sizeOf 31).run Try.prog w = .ok n w := fun w => by rw [hn]; exact Try.sizeOf31 w
  have hn2 : (T 256).size = n := by rw [hn]; exact Tsize.out 256
  have hxa := xorA a b ha hb
  have hxl : a ^^^ b < 256 := Nat.xor_lt_two_pow (n := 8) ha hb
  have hxt := u32_xor_nat (K.Sn 8 a) (K.Sn 8 b) (Sn_lt 8 a (by omega)) (Sn_lt 8 b (by omega))
  rw [← K.Sn_xor] at hxt
  have hS0 : K.Sn 8 0 = 0 := K.Sn_zero 8
  have hinj : (((K.Sn 8 a : Nat) : Int) == ((K.Sn 8 b : Nat) : Int)) = ((a : Int) == (b : Int)) := by
    by_cases h : a = b
    · subst h; simp
    · have : K.Sn 8 a ≠ K.Sn 8 b := fun e => h (K.Sn_inj 8 a b (by omega) (by omega) e)
      rw [beq_eq_false_iff_ne.2 (by omega), beq_eq_false_iff_ne.2 (by omega)]
  go_enter Try.func8, Try.ntmps8
  go_wp2_with fail
  refine (c18.out w).mono ?_
  rintro e w1 ⟨rfl, b1⟩
  have hw1 : (w1.alloc (.cells (T 0) 31 (0, 0))).heap[w1.heap.size]? = some (.cells (T 0) 31 (0, 0)) := heap_alloc_last w1 _
  have hsc := run_storeCells_from (P := Try.prog) w1.heap.size 31 (T 256).toList 0 (T 0) _ hw1 (by simp [Tsize.out]) (Tone.out 256)
  rw [List.take_zero, List.nil_append, Array.toArray_toList] at hsc
  have Hrow := Lib.hid (block_row hw1 (T 256))
  have Hsame := Lib.hid ((b1.alloc (.cells (T 0) 31 (0, 0))).setRow w1.heap.size (T 256) b1.size)
  have HN := Lib.hid hn
  clear hn hw1 b1
  go_wp2_with fail
  generalize (w1.alloc (.cells (T 0) 31 (0, 0))).setRow w1.heap.size (T 256) = w2 at *
  generalize w1.heap.size = g at *
  clear hsc hz T0 hn2 hsz
  have hg : g < w2.heap.size := (Array.getElem?_eq_some_iff.1 Hrow.out).1
  have cell : ∀ j, j < 256 → ∀ u : SW w2, u.1.cell? ⟨g, j, none⟩ = some (.int .u32 (K.Sn 8 j : Nat)) := fun j hj u => by
    have h1 : u.1.heap[g]? = some (.cells (T 256) 31 (0, 0)) := (u.2.block g hg).trans Hrow.out
    rw [cell_of_row _ _ _ _ _ _ h1, Tget.out _ _ hj, if_pos hj]
  have cx := cell (a ^^^ b) hxl
  have ca := cell a ha
  have cb := cell b hb
  have c0 := cell 0 (by omega)
  rw [hS0] at c0
  clear cell hg
  refine wp_region_same (Same.refl w2) (by kernel_rfl) (by kernel_rfl) ?_
  repeat (first | go_big_quiet_step (first | exact c11.out.at _ | exact c19.out.at _) | quiet_step (first | exact c11.out.at _ | exact c19.out.at _))
  refine wpQuiet_nil ?_
  rintro w6 ⟨⟨w7, b7⟩, rfl⟩
  go_wp2
  go_ret
  exact ⟨rfl, Hsame.out.trans b7⟩

open Go.ChangeShapes Go.WideShapes Go.ChangeAt
theorem own : ownKnob Try.prog.godebug = none := by kernel_rfl
theorem laidOut : laidOutB Try.prog = true := by kernel_rfl

set_option maxRecDepth 100000 in
theorem lifted (os : Os) (started : os.Started) (H : Type) (enc : TypeId × Value → H) :
    ReturnsInHanded {} Try.checked os 8 .any (Rows.crcTablesSpec.pre6 enc Try.prog Try.f8 Rows.crcTablesRow.domain false) (Rows.crcTablesSpec.post enc Try.prog Try.f8 false true false false) := by
  refine returnsInHanded_of_change (C := Try.checked) own started (by kernel_rfl) Try.func8
    (ChangeSpec.witness6 (enc := enc) (C := Try.checked) false ⟨#[], #[.int .u8 0, .int .u8 0], []⟩ 8 (by kernel_rfl) (by kernel_rfl) (by kernel_rfl) (by kernel_rfl)) ?_
  intro W base args ds gs before hval0 hW hcnd _
  have hval : ∀ (j : Nat) t v, Try.f8.params[j]? = some t → args[j]? = some v → Value.okWide Try.prog W .any base t v := hval0
  have hW' := hW
  obtain ⟨p, q, hA0, hV, rfl, hfz, hnd⟩ := hW
  have hA : DataW.TrodAll enc Try.prog W 0 (fun _ => true) true Try.f8.params.toList args.toList ds p := hA0

  rw [Try.params8] at hA hval
  obtain ⟨v0, vs0, d0, ds0, p0, q0, hargs, rfl, rfl, h0, r0⟩ := trodAll_cons hA
  obtain ⟨v1, vs1, d1, ds1, p1, q1, rfl, rfl, rfl, h1, r1⟩ := trodAll_cons r0
  obtain ⟨rfl, rfl, rfl⟩ := trodAll_nil r1
  obtain rfl : args = #[v0, v1] := by cases args; simp_all
  obtain ⟨rfl, rfl⟩ := trodVars_none hV
  have k0 := h0
  have lt0 : ∀ x ∈ p0, x.block < W.heap.size := by obtain ⟨m, hm⟩ := k0; exact DataW.trod_lt m _ _ _ hm
  have k1 := h1
  have lt1 : ∀ x ∈ p1, x.block < W.heap.size := by obtain ⟨m, hm⟩ := k1; exact DataW.trod_lt m _ _ _ hm
  obtain ⟨a0, rfl, _, _, w0⟩ := open_int Try.underlying5 (hval 0 5 v0 rfl rfl) h0
  have u0 := bounds_u8 w0
  obtain ⟨a0, rfl⟩ := Int.eq_ofNat_of_zero_le u0.1
  obtain ⟨a1, rfl, _, _, w1⟩ := open_int Try.underlying5 (hval 1 5 v1 rfl rfl) h1
  have u1 := bounds_u8 w1
  obtain ⟨a1, rfl⟩ := Int.eq_ofNat_of_zero_le u1.1
  clear hA0 hval0
  refine (walk a0 a1 W (by omega) (by omega)).mono fun e W' ⟨he, bel⟩ => ?_
  subst he
  exact ⟨_, rfl, _, _, _, [], _, [], hW', trodAll_mk1 (shut_bool Try.underlying4 _), (trodAll_cons_mk (Below.trod laidOut (by kernel_rfl) (of_decide_eq_true (by kernel_rfl)) k0 bel lt0) (trodAll_cons_mk (Below.trod laidOut (by kernel_rfl) (of_decide_eq_true (by kernel_rfl)) k1 bel lt1) trodAll_mk0)), rfl, bel.frame _, fun h => by cases h⟩

theorem over : Rows.crcTablesRow.holds Try.pinned (OpenSpec.ofChange Rows.crcTablesSpec) :=
  OpenClaim.holds_of_wide 8 Try.f8 rfl rfl rfl rfl rfl rfl rfl ⟨rfl, rfl, rfl, rfl, rfl⟩ rfl rfl rfl rfl rfl (by kernel_rfl) Try.func8 (by kernel_rfl)
    (of_decide_eq_true (by kernel_rfl)) (by unfold Func.isWrapper; first | (rw [if_pos (by decide +kernel)]; kernel_rfl) | (rw [if_neg (by decide +kernel)]; exact ⟨rfl, rfl⟩))
    (fun os started H enc _ => lifted os started H enc)
end Go.Proofs.Yteiafdokbhigoaa.LCrcTables

namespace Go.Proofs.Yteiafdokbhigoaa
theorem crcTables_holds : Rows.CrcTablesSaid := LCrcTables.over
#print axioms crcTables_holds
end Go.Proofs.Yteiafdokbhigoaa

