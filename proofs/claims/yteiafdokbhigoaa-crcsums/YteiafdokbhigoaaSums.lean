/- Proved: for every text and byte the law CrcSums returns true (any bytes have the sum that the document says, and are sealed and opened as it says; the table is the document's), and its arguments read behind the call as they read before. No condition. -/
import Derived.Test.YteiafdokbhigoaaE
import Derived.ProofKit
import Derived.ShutString
import Derived.ChangeOld
namespace Go.Proofs.Yteiafdokbhigoaa.LCrcSums
open Go.RowKit

set_option maxRecDepth 100000 in
set_option maxHeartbeats 1000000 in
theorem walk (s : List UInt8) (b : Nat) (w : World) (hs : s.length ≤ 9223372036854775807) (hb : b < 256) :
    Calls Try.prog 3 #[.string ⟨s.toArray⟩, .int .u8 b] w fun e w' => e = .returned (.bool true) ∧ Below w.heap.size w w' := by
  by_cases hl : 3000 < s.length
  · skip
    go_enter Try.func3, Try.ntmps3
    go_wp2_with fail
    refine (awake w).mono ?_
    rintro e w1 ⟨rfl, b1⟩
    go_wp2_with fail
    refine (awake w1).mono ?_
    rintro e w2 ⟨rfl, b2⟩
    go_wp2
    go_ret
    exact ⟨rfl, b1.trans b2⟩
  · have c12 := Lib.hid (opened s (by omega))
    have c14 := Lib.hid (refOpened s (by omega))
    have c13 := Lib.hid (sealed s (by omega))
    have c17 := Lib.hid (refSealed s (by omega))
    have c15 := Lib.hid (sum s (by omega))
    have c16 := Lib.hid (refSum s (by omega))
    have c12b := Lib.hid (opened (K.sealB s) (by rw [K.sealB_len]; omega))
    unfold openV at c12 c14 c12b
    rw [K.open_seal] at c12b
    have c18 := Lib.hid table
    have c19 := Lib.hid (row b hb)
    have hix : ∀ w, (Instr.index 31 (.agg (tabCells 256)) (.int .u8 b)).run Try.prog w = .ok (.int .u32 (K.Sn 8 b : Nat)) w := fun w => by
      have h := tabCells_get 256 b hb
      rw [if_pos hb] at h
      exact index_tab (tabCells 256) .u8 b _ h hb w
    generalize tabCells 256 = T at *
    generalize (K.openB s).1 = t at *
    generalize (K.openB s).2 = x at *
    generalize K.sealB s = u at *
    generalize K.sum s = y at *
    generalize K.Sn 8 b = z at *
    go_enter Try.func3, Try.ntmps3
    go_wp2_with fail
    refine (awake w).mono ?_
    rintro e w1 ⟨rfl, b1⟩
    go_wp2_with fail
    refine (c13.out w1).mono ?_
    rintro e w2 ⟨rfl, b2⟩
    go_wp2_with fail
    refine (c12b.out w2).mono ?_
    rintro e w3 ⟨rfl, b3⟩
    go_wp2_with fail
    refine (c12.out w3).mono ?_
    rintro e w4 ⟨rfl, b4⟩
    go_wp2_with fail
    refine (c14.out w4).mono ?_
    rintro e w5 ⟨rfl, b5⟩
    have B5 := Lib.hid ((((b1.trans b2).trans b3).trans b4).trans b5)
    clear b1 b2 b3 b4 b5
    go_wp2_with fail
    refine wp_region_same (Same.refl w5) (by kernel_rfl) (by kernel_rfl) ?_
    repeat (first | go_big_quiet_step (first | exact c15.out.at _ | exact c16.out.at _ | exact c13.out.at _ | exact c17.out.at _ | exact c18.out.at _ | exact c19.out.at _) | quiet_step (first | exact c15.out.at _ | exact c16.out.at _ | exact c13.out.at _ | exact c17.out.at _ | exact c18.out.at _ | exact c19.out.at _))
    refine wpQuiet_nil ?_
    rintro w6 ⟨⟨w7, b7⟩, rfl⟩
    go_wp2
    go_ret
    exact ⟨rfl, B5.out.trans b7⟩

open Go.ChangeShapes Go.WideShapes Go.ChangeAt
theorem own : ownKnob Try.prog.godebug = none := by kernel_rfl
theorem laidOut : laidOutB Try.prog = true := by kernel_rfl

set_option maxRecDepth 100000 in
theorem lifted (os : Os) (started : os.Started) (H : Type) (enc : TypeId × Value → H) :
    ReturnsInHanded {} Try.checked os 3 .any (Rows.crcSumsSpec.pre6 enc Try.prog Try.f3 Rows.crcSumsRow.domain false) (Rows.crcSumsSpec.post enc Try.prog Try.f3 false true false false) := by
  refine returnsInHanded_of_change (C := Try.checked) own started (by kernel_rfl) Try.func3
    (ChangeSpec.witness6 (enc := enc) (C := Try.checked) false ⟨#[], #[.string ⟨#[]⟩, .int .u8 0], []⟩ 8 (by kernel_rfl) (by kernel_rfl) (by kernel_rfl) (by kernel_rfl)) ?_
  intro W base args ds gs before hval0 hW hcnd _
  have hval : ∀ (j : Nat) t v, Try.f3.params[j]? = some t → args[j]? = some v → Value.okWide Try.prog W .any base t v := hval0
  have hW' := hW
  obtain ⟨p, q, hA0, hV, rfl, hfz, hnd⟩ := hW
  have hA : DataW.TrodAll enc Try.prog W 0 (fun _ => true) true Try.f3.params.toList args.toList ds p := hA0

  rw [Try.params3] at hA hval
  obtain ⟨v0, vs0, d0, ds0, p0, q0, hargs, rfl, rfl, h0, r0⟩ := trodAll_cons hA
  obtain ⟨v1, vs1, d1, ds1, p1, q1, rfl, rfl, rfl, h1, r1⟩ := trodAll_cons r0
  obtain ⟨rfl, rfl, rfl⟩ := trodAll_nil r1
  obtain rfl : args = #[v0, v1] := by cases args; simp_all
  obtain ⟨rfl, rfl⟩ := trodVars_none hV
  have k0 := h0
  have lt0 : ∀ x ∈ p0, x.block < W.heap.size := by obtain ⟨m, hm⟩ := k0; exact DataW.trod_lt m _ _ _ hm
  have k1 := h1
  have lt1 : ∀ x ∈ p1, x.block < W.heap.size := by obtain ⟨m, hm⟩ := k1; exact DataW.trod_lt m _ _ _ hm
  obtain ⟨a0, rfl, _, _, w0⟩ := Go.ChangeMaps.open_string Try.underlying9 (hval 0 9 v0 rfl rfl) h0
  obtain ⟨a1, rfl, _, _, w1⟩ := open_int Try.underlying5 (hval 1 5 v1 rfl rfl) h1
  have u1 := bounds_u8 w1
  obtain ⟨a1, rfl⟩ := Int.eq_ofNat_of_zero_le u1.1
  clear hA0 hval0
  refine (walk a0.data.toList a1 W (by simpa [maxLen] using w0) (by omega)).mono fun e W' ⟨he, bel⟩ => ?_
  subst he
  exact ⟨_, rfl, _, _, _, [], _, [], hW', trodAll_mk1 (shut_bool Try.underlying4 _), (trodAll_cons_mk (Below.trod laidOut (by kernel_rfl) (of_decide_eq_true (by kernel_rfl)) k0 bel lt0) (trodAll_cons_mk (Below.trod laidOut (by kernel_rfl) (of_decide_eq_true (by kernel_rfl)) k1 bel lt1) trodAll_mk0)), rfl, bel.frame _, fun h => by cases h⟩

theorem over : Rows.crcSumsRow.holds Try.pinned (OpenSpec.ofChange Rows.crcSumsSpec) :=
  OpenClaim.holds_of_wide 3 Try.f3 rfl rfl rfl rfl rfl rfl rfl ⟨rfl, rfl, rfl, rfl, rfl⟩ rfl rfl rfl rfl rfl (by kernel_rfl) Try.func3 (by kernel_rfl)
    (of_decide_eq_true (by kernel_rfl)) (by unfold Func.isWrapper; first | (rw [if_pos (by decide +kernel)]; kernel_rfl) | (rw [if_neg (by decide +kernel)]; exact ⟨rfl, rfl⟩))
    (fun os started H enc _ => lifted os started H enc)
end Go.Proofs.Yteiafdokbhigoaa.LCrcSums

namespace Go.Proofs.Yteiafdokbhigoaa
theorem crcSums_holds : Rows.CrcSumsSaid := LCrcSums.over
#print axioms crcSums_holds
end Go.Proofs.Yteiafdokbhigoaa

