/- Proved: ChunkCounts: one byte more makes at most one chunk more; with as many bytes as fit there are no more chunks than may be; for every two numbers. Condition: none of our own. -/
import Derived.Test.YtlcdaagehamjlaaAw
import Derived.ProofKit
import Derived.ChangeOld
import Derived.SizedLaws
namespace Go.Proofs.Ytlcdaagehamjlaa.LChunkCounts
open Go.RowKit

theorem mod_at (n : Int) : ∃ N : Nat, (IntKind.u64.wrap n).tmod 300000 = (N : Int) ∧ N < 300000 := by
  have h0 : 0 ≤ IntKind.u64.wrap n := by rw [IntKind.wrap_u64]; omega
  have h1 := Int.tmod_eq_emod_of_nonneg (b := 300000) h0
  exact ⟨((IntKind.u64.wrap n).tmod 300000).toNat, by omega, by omega⟩
set_option maxRecDepth 100000 in
set_option maxHeartbeats 1000000 in
theorem walk (n m : Int) (w : World) (_hn : (Lit.int .i64 n).wf = true) (_hm : (Lit.int .i64 m).wf = true) :
    Calls Try.prog 7 #[.int .i64 n, .int .i64 m] w fun e w' => e = .returned (.bool true) ∧ Keep w w' := by
  obtain ⟨N, hN, hlt⟩ := mod_at n
  clear _hn
  have h1 := fun w => dsize m w
  have HA := Lib.hid awake
  have HC := Lib.hid (fun n w => dcount n m w)
  have hz := sizeI_cases m
  by_cases hk : sizeI m = 0
  · rw [hk, if_pos rfl] at h1
    have H1 := Lib.hid h1
    have HN := Lib.hid (fun n => countI_no (n := n) (.inl hk))
    clear h1 hz _hm hk
    go_enter Try.func7, Try.ntmps7
    go_wp2_with fail
    refine (H1.out w).mono ?_
    rintro e w ⟨rfl, rfl⟩
    go_wp2_with fail
    refine (HA.out w).mono ?_
    rintro e w1 ⟨rfl, hK1⟩
    go_wp2_with fail
    refine (HA.out w1).mono ?_
    rintro e w2 ⟨rfl, hK2⟩
    have HK := Lib.hid (Keep.trans hK1 hK2)
    clear hK1 hK2
    go_wp2_with fail
    refine (HC.out _ w2).mono ?_
    rintro e w2 ⟨rfl, rfl⟩
    rw [HN.out]
    go_wp2
    go_ret
    exact ⟨rfl, HK.out⟩
  · obtain ⟨k, hke⟩ := Int.eq_ofNat_of_zero_le (show 0 ≤ sizeI m by omega)
    have hk1 : 45 ≤ k := by omega
    have hk2 : k ≤ 1000 := by omega
    rw [if_neg hk, hke] at h1
    have H1 := Lib.hid h1
    clear h1 hz _hm hk
    by_cases hbig : 256 * k < N
    · have ha : countI (N : Int) m = -1 := countI_no (.inr (.inr (by omega)))
      have hb : countI ((N : Int) + 1) m = -1 := countI_no (.inr (.inr (by omega)))
      have HB := Lib.hid (And.intro ha hb)
      clear ha hb hke
      go_enter Try.func7, Try.ntmps7
      go_wp2_with fail
      refine (H1.out w).mono ?_
      rintro e w ⟨rfl, rfl⟩
      go_wp2_with fail
      refine (HA.out w).mono ?_
      rintro e w1 ⟨rfl, hK1⟩
      have HK := Lib.hid hK1
      clear hK1
      go_wp2_with fail
      refine (HC.out _ w1).mono ?_
      rintro e w1 ⟨rfl, rfl⟩
      rw [HB.out.1]
      go_wp2_with fail
      refine (HC.out _ w1).mono ?_
      rintro e w1 ⟨rfl, rfl⟩
      rw [HB.out.2]
      go_wp2
      go_ret
      exact ⟨rfl, HK.out⟩
    · obtain ⟨a, ha⟩ : ∃ a, cnt k N = a := ⟨_, rfl⟩
      have ha1 : 1 ≤ a := by rw [← ha]; exact cnt_pos _ _
      have ha2 : a ≤ 256 := by rw [← ha]; exact cnt_all (by omega) (by omega) (by omega)
      have hle : N ≤ a * k := by rw [← ha]; exact cnt_le (by omega) _
      have hgt : 0 < N → (a - 1) * k < N := fun h => by rw [← ha]; exact cnt_lt N h
      have hca : countI (N : Int) m = (a : Nat) := by rw [countI_ok hke (by omega) (by omega), ha]
      have hm1 : ((a : Int) - 1) * (k : Int) = ((a - 1) * k : Nat) := by rw [show ((a : Int) - 1) = ((a - 1 : Nat) : Int) by omega]; exact (Int.natCast_mul _ _).symm
      have hm2 : (a : Int) * (k : Int) = (a * k : Nat) := (Int.natCast_mul _ _).symm
      have hq1 : (a - 1) * k ≤ 256000 := Nat.le_trans (Nat.mul_le_mul (show a - 1 ≤ 256 by omega) hk2) (by omega)
      have hq2 : a * k ≤ 256000 := Nat.le_trans (Nat.mul_le_mul ha2 hk2) (by omega)
      generalize (a - 1) * k = P1 at *
      generalize a * k = P2 at *
      have HM := Lib.hid hke
      have HCA := Lib.hid hca
      have HAA := Lib.hid ha
      clear hca hke ha
      by_cases hfull : N = 256 * k
      · have hb : countI ((N : Int) + 1) m = -1 := countI_no (.inr (.inr (by rw [HM.out]; omega)))
        have HB := Lib.hid hb
        have hN0 : 0 < N := by omega
        have hN1 : ((N : Int) == 0) = false := beq_eq_false_iff_ne.2 (by omega)
        have hlt1 : P1 < N := hgt hN0
        have hba : ((-1 : Int) == (a : Int)) = false := beq_eq_false_iff_ne.2 (by omega)
        have hba2 : ((-1 : Int) == (a : Int) + 1) = false := beq_eq_false_iff_ne.2 (by omega)
        have hfe : ((N : Int) == 256 * (k : Int)) = true := beq_iff_eq.2 (by omega)
        clear hb hgt hfull
        go_enter Try.func7, Try.ntmps7
        go_wp2_with fail
        refine (H1.out w).mono ?_
        rintro e w ⟨rfl, rfl⟩
        go_wp2_with fail
        refine (HA.out w).mono ?_
        rintro e w1 ⟨rfl, hK1⟩
        have HK := Lib.hid hK1
        clear hK1
        go_wp2_with fail
        refine (HC.out _ w1).mono ?_
        rintro e w1 ⟨rfl, rfl⟩
        rw [HCA.out]
        go_wp2_with fail
        refine (HC.out _ w1).mono ?_
        rintro e w1 ⟨rfl, rfl⟩
        rw [HB.out]
        go_wp2
        go_ret
        exact ⟨rfl, HK.out⟩
      · have hcb : countI ((N : Int) + 1) m = (cnt k (N + 1) : Nat) := countI_ok (n := N + 1) HM.out (by omega) (by omega)
        have HB := Lib.hid hcb
        clear hcb
        have hsucc : cnt k (N + 1) = a ∨ cnt k (N + 1) = a + 1 := by
          have := cnt_succ (k := k) (n := N) (by omega)
          rw [HAA.out] at this
          exact this
        by_cases hN0 : N = 0
        · have hN1 : ((N : Int) == 0) = true := beq_iff_eq.2 (by omega)
          clear hgt hN0
          rcases hsucc with hs | hs
          · have HB2 := Lib.hid (HB.out.trans (congrArg Int.ofNat hs))
            clear hs
            rw [show Int.ofNat a = (a : Int) from rfl] at HB2
            go_enter Try.func7, Try.ntmps7
            go_wp2_with fail
            refine (H1.out w).mono ?_
            rintro e w ⟨rfl, rfl⟩
            go_wp2_with fail
            refine (HA.out w).mono ?_
            rintro e w1 ⟨rfl, hK1⟩
            have HK := Lib.hid hK1
            clear hK1
            go_wp2_with fail
            refine (HC.out _ w1).mono ?_
            rintro e w1 ⟨rfl, rfl⟩
            rw [HCA.out]
            go_wp2_with fail
            refine (HC.out _ w1).mono ?_
            rintro e w1 ⟨rfl, rfl⟩
            rw [HB2.out]
            go_wp2
            go_ret
            exact ⟨rfl, HK.out⟩
          · have HB2 := Lib.hid (HB.out.trans (show ((cnt k (N + 1) : Nat) : Int) = (a : Int) + 1 by omega))
            have hba : ((a : Int) + 1 == (a : Int)) = false := beq_eq_false_iff_ne.2 (by omega)
            clear hs
            go_enter Try.func7, Try.ntmps7
            go_wp2_with fail
            refine (H1.out w).mono ?_
            rintro e w ⟨rfl, rfl⟩
            go_wp2_with fail
            refine (HA.out w).mono ?_
            rintro e w1 ⟨rfl, hK1⟩
            have HK := Lib.hid hK1
            clear hK1
            go_wp2_with fail
            refine (HC.out _ w1).mono ?_
            rintro e w1 ⟨rfl, rfl⟩
            rw [HCA.out]
            go_wp2_with fail
            refine (HC.out _ w1).mono ?_
            rintro e w1 ⟨rfl, rfl⟩
            rw [HB2.out]
            go_wp2
            go_ret
            exact ⟨rfl, HK.out⟩
        · have hN1 : ((N : Int) == 0) = false := beq_eq_false_iff_ne.2 (by omega)
          have hlt1 : P1 < N := hgt (by omega)
          clear hgt hN0
          rcases hsucc with hs | hs
          · have HB2 := Lib.hid (HB.out.trans (congrArg Int.ofNat hs))
            clear hs
            rw [show Int.ofNat a = (a : Int) from rfl] at HB2
            go_enter Try.func7, Try.ntmps7
            go_wp2_with fail
            refine (H1.out w).mono ?_
            rintro e w ⟨rfl, rfl⟩
            go_wp2_with fail
            refine (HA.out w).mono ?_
            rintro e w1 ⟨rfl, hK1⟩
            have HK := Lib.hid hK1
            clear hK1
            go_wp2_with fail
            refine (HC.out _ w1).mono ?_
            rintro e w1 ⟨rfl, rfl⟩
            rw [HCA.out]
            go_wp2_with fail
            refine (HC.out _ w1).mono ?_
            rintro e w1 ⟨rfl, rfl⟩
            rw [HB2.out]
            go_wp2
            go_ret
            exact ⟨rfl, HK.out⟩
          · have HB2 := Lib.hid (HB.out.trans (show ((cnt k (N + 1) : Nat) : Int) = (a : Int) + 1 by omega))
            have hba : ((a : Int) + 1 == (a : Int)) = false := beq_eq_false_iff_ne.2 (by omega)
            clear hs
            go_enter Try.func7, Try.ntmps7
            go_wp2_with fail
            refine (H1.out w).mono ?_
            rintro e w ⟨rfl, rfl⟩
            go_wp2_with fail
            refine (HA.out w).mono ?_
            rintro e w1 ⟨rfl, hK1⟩
            have HK := Lib.hid hK1
            clear hK1
            go_wp2_with fail
            refine (HC.out _ w1).mono ?_
            rintro e w1 ⟨rfl, rfl⟩
            rw [HCA.out]
            go_wp2_with fail
            refine (HC.out _ w1).mono ?_
            rintro e w1 ⟨rfl, rfl⟩
            rw [HB2.out]
            go_wp2
            go_ret
            exact ⟨rfl, HK.out⟩

open Go.ChangeShapes Go.WideShapes Go.ChangeAt
theorem own : ownKnob Try.prog.godebug = none := by kernel_rfl
theorem laidOut : laidOutB Try.prog = true := by kernel_rfl

set_option maxRecDepth 100000 in
theorem lifted (os : Os) (started : os.Started) (H : Type) (enc : TypeId × Value → H) :
    ReturnsInHanded {} Try.checked os 7 .any (Rows.chunkCountsSpec.pre6 enc Try.prog Try.f7 Rows.chunkCountsRow.domain false) (Rows.chunkCountsSpec.post enc Try.prog Try.f7 false true false false) := by
  refine returnsInHanded_of_change (C := Try.checked) own started (by kernel_rfl) Try.func7
    (ChangeSpec.witness6 (enc := enc) (C := Try.checked) false ⟨#[], #[.int .i64 0, .int .i64 0], []⟩ 8 (by kernel_rfl) (by kernel_rfl) (by kernel_rfl) (by kernel_rfl)) ?_
  intro W base args ds gs before hval0 hW hcnd _
  have hval : ∀ (j : Nat) t v, Try.f7.params[j]? = some t → args[j]? = some v → Value.okWide Try.prog W .any base t v := hval0
  have hW' := hW
  obtain ⟨p, q, hA0, hV, rfl, hfz, hnd⟩ := hW
  have hA : DataW.TrodAll enc Try.prog W 0 (fun _ => true) true Try.f7.params.toList args.toList ds p := hA0

  rw [Try.params7] at hA hval
  obtain ⟨v0, vs0, d0, ds0, p0, q0, hargs, rfl, rfl, h0, r0⟩ := trodAll_cons hA
  obtain ⟨v1, vs1, d1, ds1, p1, q1, rfl, rfl, rfl, h1, r1⟩ := trodAll_cons r0
  obtain ⟨rfl, rfl, rfl⟩ := trodAll_nil r1
  obtain rfl : args = #[v0, v1] := by cases args; simp_all
  obtain ⟨rfl, rfl⟩ := trodVars_none hV
  have k0 := h0
  have lt0 : ∀ x ∈ p0, x.block < W.heap.size := by obtain ⟨m, hm⟩ := k0; exact DataW.trod_lt m _ _ _ hm
  have k1 := h1
  have lt1 : ∀ x ∈ p1, x.block < W.heap.size := by obtain ⟨m, hm⟩ := k1; exact DataW.trod_lt m _ _ _ hm
  obtain ⟨a0, rfl, _, _, w0⟩ := open_int Try.underlying3 (hval 0 3 v0 rfl rfl) h0
  obtain ⟨a1, rfl, _, _, w1⟩ := open_int Try.underlying3 (hval 1 3 v1 rfl rfl) h1
  clear hA0 hval0
  refine (walk a0 a1 W w0 w1).mono fun e W' ⟨he, bel⟩ => ?_
  subst he
  exact ⟨_, rfl, _, _, _, [], _, [], hW', trodAll_mk1 (shut_bool Try.underlying4 _), (trodAll_cons_mk (Below.trod laidOut (by kernel_rfl) (of_decide_eq_true (by kernel_rfl)) k0 bel lt0) (trodAll_cons_mk (Below.trod laidOut (by kernel_rfl) (of_decide_eq_true (by kernel_rfl)) k1 bel lt1) trodAll_mk0)), rfl, bel.frame _, fun h => by cases h⟩

theorem over : Rows.chunkCountsRow.holds Try.pinned (OpenSpec.ofChange Rows.chunkCountsSpec) :=
  OpenClaim.holds_of_wide 7 Try.f7 rfl rfl rfl rfl rfl rfl rfl ⟨rfl, rfl, rfl, rfl, rfl⟩ rfl rfl rfl rfl rfl (by kernel_rfl) Try.func7 (by kernel_rfl)
    (of_decide_eq_true (by kernel_rfl)) (by unfold Func.isWrapper; first | (rw [if_pos (by decide +kernel)]; kernel_rfl) | (rw [if_neg (by decide +kernel)]; exact ⟨rfl, rfl⟩))
    (fun os started H enc _ => lifted os started H enc)
end Go.Proofs.Ytlcdaagehamjlaa.LChunkCounts

namespace Go.Proofs.Ytlcdaagehamjlaa
theorem chunkCounts_holds : Rows.ChunkCountsSaid := LChunkCounts.over
#print axioms chunkCounts_holds
end Go.Proofs.Ytlcdaagehamjlaa

