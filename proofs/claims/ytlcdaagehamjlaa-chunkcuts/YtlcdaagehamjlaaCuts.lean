/- Proved: ChunkCuts: any text is cut as the document says, or refused; joined it is as it was; for every text and number. Condition: none of our own. -/
import Derived.Test.YtlcdaagehamjlaaAw
import Derived.ProofKit
import Derived.ChangeOld
import Derived.ShutString
import Derived.SizedLaws
namespace Go.Proofs.Ytlcdaagehamjlaa.LChunkCuts
open Go.RowKit

theorem cutL_len (l : List UInt8) (m : Int) : (cutL l m).length ≤ 256 := by
  rcases cutE_cases l m with ⟨_, _, h⟩ | ⟨_, _, _, _, _, _, h⟩ | ⟨k, _, _, _, _, _, h, h2⟩
  · rw [h]; exact Nat.zero_le _
  · rw [h]; exact Nat.zero_le _
  · rw [h, parts_len]; exact h2

set_option maxRecDepth 100000 in
set_option maxHeartbeats 1000000 in
theorem walk (s : List UInt8) (m : Int) (w : World) (hs : s.length ≤ 9223372036854775807) (_hm : (Lit.int .i64 m).wf = true) :
    Calls Try.prog 3 #[.string ⟨s.toArray⟩, .int .i64 m] w fun e w' => e = .returned (.bool true) ∧ Keep w w' := by
  have HA := Lib.hid awake
  clear _hm
  by_cases hbig : 5000 < s.length
  · go_enter Try.func3, Try.ntmps3
    go_wp2_with fail
    refine (HA.out w).mono ?_
    rintro e w1 ⟨rfl, hK1⟩
    go_wp2_with fail
    refine (HA.out w1).mono ?_
    rintro e w2 ⟨rfl, hK2⟩
    have HK := Lib.hid (Keep.trans hK1 hK2)
    clear hK1 hK2
    go_wp2
    go_ret
    exact ⟨rfl, HK.out⟩
  · have H1 := Lib.hid (fun w => dcut s m w (by omega))
    have H2 := Lib.hid (fun w => qcut s m w (by omega))
    have HLn := Lib.hid (cutL_len s m)
    by_cases hc : cutE s m = 0
    · obtain ⟨k, hk, h1, h2, h3, hL, h4⟩ : ∃ k : Nat, sizeI m = k ∧ 45 ≤ k ∧ k ≤ 1000 ∧ s.length ≤ 256 * k ∧ cutL s m = parts k s ∧ cnt k s.length ≤ 256 := by
        rcases cutE_cases s m with ⟨_, h, _⟩ | ⟨_, _, _, _, _, h, _⟩ | ⟨k, h, h1, h2, h3, _, hL, h4⟩
        · rw [hc] at h; exact absurd h (by decide)
        · rw [hc] at h; exact absurd h (by decide)
        · exact ⟨k, h, h1, h2, h3, hL, h4⟩
      have HF := Lib.hid (show (cutL s m).flatten = s by rw [hL, parts_flat (by omega)])
      have HC := Lib.hid (fun w => dcount s.length m w)
      rw [countI_ok hk (by omega) h3] at HC
      have hN : cnt k s.length = (cutL s m).length := by rw [hL, parts_len]
      rw [hN] at HC
      rw [hc] at H1 H2
      clear hc hk h1 h2 h3 hL h4 hN
      generalize cutL s m = L at *
      obtain ⟨N, hN⟩ : ∃ N, L.length = N := ⟨_, rfl⟩
      have HN := Lib.hid hN
      rw [hN] at HC HLn
      have hN2 : N ≤ 256 := HLn.out
      clear hN
      go_enter Try.func3, Try.ntmps3
      go_wp2_with fail
      refine (HA.out w).mono ?_
      rintro e w1 ⟨rfl, hK1⟩
      go_wp2_with fail
      refine (H1.out w1).mono ?_
      rintro e w2 ⟨v1, rfl, hO1, hK2⟩
      have O1 := Lib.hid (OwnS.cells hO1)
      obtain ⟨a1, c1, e1, _, _⟩ := O1.out.form
      subst e1
      go_wp2_with fail
      refine (H2.out w2).mono ?_
      rintro e w3 ⟨v2, rfl, hO2, hK3⟩
      have O2 := Lib.hid (OwnS.cells hO2)
      have O1 := Lib.hid (O1.out.keep hK3)
      have HK := Lib.hid (Keep.trans (Keep.trans hK1 hK2) hK3)
      clear hO1 hO2 hK1 hK2 hK3
      go_wp2_with fail
      refine (qsame _ _ L L w3 O1.out O2.out (by rw [HN.out]; omega) (by rw [HN.out]; omega)).mono ?_
      rintro e w4 ⟨rfl, hK4⟩
      rw [decide_eq_true rfl]
      have O1 := Lib.hid (O1.out.keep hK4)
      have HK := Lib.hid (Keep.trans HK.out hK4)
      clear hK4 O2
      have HJ := Lib.hid (djoin _ L w4 O1.out (by rw [HN.out]; omega) (by rw [HF.out]; omega))
      rw [HF.out] at HJ
      rw [HN.out] at HJ ⊢
      go_wp2_with fail
      refine HJ.out.mono ?_
      rintro e w5 ⟨rfl, hK5⟩
      have HK := Lib.hid (Keep.trans HK.out hK5)
      clear hK5
      go_wp2_with fail
      refine (HC.out w5).mono ?_
      rintro e w5 ⟨rfl, rfl⟩
      go_wp2
      go_ret
      exact ⟨rfl, HK.out⟩
    · have hcn : (cutE s m != 0) = true := by simpa using hc
      generalize cutE s m = c at *
      generalize cutL s m = L at *
      go_enter Try.func3, Try.ntmps3
      go_wp2_with fail
      refine (HA.out w).mono ?_
      rintro e w1 ⟨rfl, hK1⟩
      go_wp2_with fail
      refine (H1.out w1).mono ?_
      rintro e w2 ⟨v1, rfl, hO1, hK2⟩
      have O1 := Lib.hid (OwnS.cells hO1)
      obtain ⟨a1, c1, e1, _, _⟩ := O1.out.form
      subst e1
      go_wp2_with fail
      refine (H2.out w2).mono ?_
      rintro e w3 ⟨v2, rfl, hO2, hK3⟩
      have O2 := Lib.hid (OwnS.cells hO2)
      have O1 := Lib.hid (O1.out.keep hK3)
      have HK := Lib.hid (Keep.trans (Keep.trans hK1 hK2) hK3)
      clear hO1 hO2 hK1 hK2 hK3
      go_wp2_with fail
      refine (qsame _ _ L L w3 O1.out O2.out (by have := HLn.out; omega) (by have := HLn.out; omega)).mono ?_
      rintro e w4 ⟨rfl, hK4⟩
      rw [decide_eq_true rfl]
      have HK := Lib.hid (Keep.trans HK.out hK4)
      clear hK4 O2
      go_wp2
      go_ret
      exact ⟨rfl, HK.out⟩

open Go.ChangeShapes Go.WideShapes Go.ChangeAt
theorem own : ownKnob Try.prog.godebug = none := by kernel_rfl
theorem laidOut : laidOutB Try.prog = true := by kernel_rfl

set_option maxRecDepth 100000 in
theorem lifted (os : Os) (started : os.Started) (H : Type) (enc : TypeId × Value → H) :
    ReturnsInHanded {} Try.checked os 3 .any (Rows.chunkCutsSpec.pre6 enc Try.prog Try.f3 Rows.chunkCutsRow.domain false) (Rows.chunkCutsSpec.post enc Try.prog Try.f3 false true false false) := by
  refine returnsInHanded_of_change (C := Try.checked) own started (by kernel_rfl) Try.func3
    (ChangeSpec.witness6 (enc := enc) (C := Try.checked) false ⟨#[], #[.string ⟨#[]⟩, .int .i64 0], []⟩ 8 (by kernel_rfl) (by kernel_rfl) (by kernel_rfl) (by kernel_rfl)) ?_
  intro W base args ds gs before hval0 hW hcnd _
  have hval : ∀ (j : Nat) t v, Try.f3.params[j]? = some t → args[j]? = some v → Value.okWide Try.prog W .any base t v := hval0
  have hW' := hW
  obtain ⟨p, q, hA0, hV, rfl, hfz, hnd⟩ := hW
  have hA : DataW.TrodAll enc Try.prog W 0 (fun _ => true) true Try.f3.params.toList args.toList ds p := hA0

  rw [Try.params3] at hA hval
  obtain ⟨v0, vs0, d0, ds0, p0, q0, hargs, rfl, rfl, h0, r0⟩ := trodAll_cons hA
  obtain ⟨v1, vs1, d1, ds1, p1, q1, rfl, rfl, rfl, h1, r1⟩ := trodAll_cons r0
  obtain ⟨rfl, rfl, rfl⟩ := trodAll_nil r1
  obtain rfl : args = #[v0, v1] := by cases args; simp_all
  obtain ⟨rfl, rfl⟩ := trodVars_none hV
  have k0 := h0
  have lt0 : ∀ x ∈ p0, x.block < W.heap.size := by obtain ⟨m, hm⟩ := k0; exact DataW.trod_lt m _ _ _ hm
  have k1 := h1
  have lt1 : ∀ x ∈ p1, x.block < W.heap.size := by obtain ⟨m, hm⟩ := k1; exact DataW.trod_lt m _ _ _ hm
  obtain ⟨a0, rfl, _, _, w0⟩ := Go.ChangeMaps.open_string Try.underlying9 (hval 0 9 v0 rfl rfl) h0
  obtain ⟨a1, rfl, _, _, w1⟩ := open_int Try.underlying3 (hval 1 3 v1 rfl rfl) h1
  clear hA0 hval0
  refine (walk a0.data.toList a1 W (by simpa [maxLen] using w0) w1).mono fun e W' ⟨he, bel⟩ => ?_
  subst he
  exact ⟨_, rfl, _, _, _, [], _, [], hW', trodAll_mk1 (shut_bool Try.underlying4 _), (trodAll_cons_mk (Below.trod laidOut (by kernel_rfl) (of_decide_eq_true (by kernel_rfl)) k0 bel lt0) (trodAll_cons_mk (Below.trod laidOut (by kernel_rfl) (of_decide_eq_true (by kernel_rfl)) k1 bel lt1) trodAll_mk0)), rfl, bel.frame _, fun h => by cases h⟩

theorem over : Rows.chunkCutsRow.holds Try.pinned (OpenSpec.ofChange Rows.chunkCutsSpec) :=
  OpenClaim.holds_of_wide 3 Try.f3 rfl rfl rfl rfl rfl rfl rfl ⟨rfl, rfl, rfl, rfl, rfl⟩ rfl rfl rfl rfl rfl (by kernel_rfl) Try.func3 (by kernel_rfl)
    (of_decide_eq_true (by kernel_rfl)) (by unfold Func.isWrapper; first | (rw [if_pos (by decide +kernel)]; kernel_rfl) | (rw [if_neg (by decide +kernel)]; exact ⟨rfl, rfl⟩))
    (fun os started H enc _ => lifted os started H enc)
end Go.Proofs.Ytlcdaagehamjlaa.LChunkCuts

namespace Go.Proofs.Ytlcdaagehamjlaa
theorem chunkCuts_holds : Rows.ChunkCutsSaid := LChunkCuts.over
#print axioms chunkCuts_holds
end Go.Proofs.Ytlcdaagehamjlaa

