/- Proved: FramePrints: any frame has the bytes that the document says, or none; what is written is read as it was; for every frame. Condition: none of our own. -/
import Derived.Test.YtcdcnlaijbjonaaAw
import Derived.ProofKit
import Derived.ChangeOld
import Derived.SizedLaws
namespace Go.Proofs.Ytcdcnlaijbjonaa.LFramePrints
open Go.RowKit

set_option maxRecDepth 100000 in
set_option maxHeartbeats 2000000 in
theorem walk (f : Fr) (w : World) (hq : ArgF f) : Calls Try.prog 3 #[.agg (fc f)] w fun e w' => e = .returned (.bool true) ∧ Keep w w' := by
  have HA := Lib.hid awake
  have hF := FAt.new w f
  have HK := Lib.hid (show Keep w (w.alloc (.cells (fc f) 23)) from (Keep.refl w).alloc _)
  have HF := Lib.hid hF
  have hdl := hq.data
  by_cases hbig : 70000 < f.data.length
  · have hb : (f.data.length : Int) > 70000 := by omega
    clear hq hF
    go_enter Try.func3, Try.ntmps3
    go_wp2_with fail
    refine (HA.out _).mono ?_
    rintro e w1 ⟨rfl, k1⟩
    have hd := (HF.out.keep k1).data
    have HK1 := Lib.hid (HK.out.trans k1)
    clear k1
    go_wp2_with fail
    refine (HA.out _).mono ?_
    rintro e w2 ⟨rfl, k2⟩
    have HK2 := Lib.hid (HK1.out.trans k2)
    clear k2
    go_wp2
    go_ret
    exact ⟨rfl, HK2.out⟩
  · have hb : ¬ (f.data.length : Int) > 70000 := by omega
    obtain ⟨n, hn⟩ : ∃ n, n = 6 := ⟨6, rfl⟩
    have hsz : ∀ w, (Go.sizeOf 23).run Try.prog w = .ok n w := fun w => by rw [hn]; exact Try.sizeOf23 w
    have hn0 : ¬ n = 0 := by omega
    have HN := Lib.hid hn
    have HSZ := Lib.hid (fun f => (show (fc f).size = n by rw [HN.out]; rfl))
    obtain ⟨hz, _⟩ := zero_of_info infoF
    have HR := Lib.hid (show GivesK Try.prog 10 #[.agg (fc f)] (.bool (decide (rightF f))) from fun w => dright f hq.toSqF w)
    have HQ := Lib.hid (show GivesK Try.prog 11 #[.agg (fc f)] (.bool (decide (rightF f))) from fun w => qright f hq.data w)
    by_cases hr : rightF f
    · rw [decide_eq_true hr] at HR HQ
      have HP := Lib.hid (fun w => dprint_ok f hr w)
      have HQP := Lib.hid (fun w => qprint f hr w)
      have hlen := bytesF_len f
      have hre := fun w => dread (bytesF f) (by rw [hlen]; omega) w
      rw [read_bytes f hr] at hre
      have HRe := Lib.hid hre
      have heq : ∀ w, (Op.equalIn 10000 23 (.agg (fc f)) (.agg (fc f))).run Try.prog w = .ok true w := fun w => by
        have := eq_fc 9997 f f w
        rwa [decide_eq_true rfl] at this
      have HEQ := Lib.hid heq
      have HPN := Lib.hid put_new
      have hleni : (((bytesF f).length : Int) == 19 + (f.data.length : Int)) = true := by simp; omega
      have HLI := Lib.hid hleni
      have HLN := Lib.hid hlen
      clear hq hF hn hr hre heq hleni hlen
      go_enter Try.func3, Try.ntmps3
      generalize bytesF f = S at *
      go_wp2_with fail
      refine (HA.out _).mono ?_
      rintro e w1 ⟨rfl, k1⟩
      have HF1 := Lib.hid (HF.out.keep k1)
      have hd := HF1.out.data
      have hl := HF1.out.whole HN.out
      have HK1 := Lib.hid (HK.out.trans k1)
      clear k1 HF HK
      go_wp2_with fail
      refine (HP.out _).mono ?_
      rintro e w2 ⟨rfl, k2⟩
      have HF2 := Lib.hid (HF1.out.keep k2)
      have HK2 := Lib.hid (HK1.out.trans k2)
      have hl2 : ∀ u : KW w2, (loadCellsFrom ⟨w.heap.size, 0, none⟩ 0 n #[]).run Try.prog u.1 = .ok (fc f) u.1 := fun u => (HF2.out.keep u.2).whole HN.out
      clear k2 HF1 HK1 hl hd
      go_wp2_with fail
      refine wp_region_keep (Keep.refl w2) (by kernel_rfl) (by kernel_rfl) ?_
      repeat (first | go_big_quiet_step (fail) | quiet_step (fail))
      first | go_big_quiet_step (exact HR.out.at _) | quiet_step (exact HR.out.at _)
      repeat (first | go_big_quiet_step (fail) | quiet_step (fail))
      first | go_big_quiet_step (exact HQ.out.at _) | quiet_step (exact HQ.out.at _)
      repeat (first | go_big_quiet_step (fail) | quiet_step (fail))
      refine wpQuiet_nil ?_
      rintro w3 ⟨⟨w4, k4⟩, rfl⟩
      have HF4 := Lib.hid (HF2.out.keep k4)
      have HK4 := Lib.hid (HK2.out.trans k4)
      have hl4 := HF4.out.whole HN.out
      clear k4 HF2 HK2 hl2
      go_wp2_with fail
      refine (HQ.out _).mono ?_
      rintro e w5 ⟨rfl, k5⟩
      have HF5 := Lib.hid (HF4.out.keep k5)
      have HK5 := Lib.hid (HK4.out.trans k5)
      clear k5 HF4 HK4 hl4
      go_wp2_with fail
      refine (HRe.out _).mono ?_
      rintro e w6 ⟨rfl, k6⟩
      obtain ⟨hst6, hB6, q6⟩ := HPN.out w6 f
      have HB6 := Lib.hid hB6
      have HF6 := Lib.hid ((HF5.out.keep k6).keep q6)
      have HK6 := Lib.hid ((HK5.out.trans k6).trans q6)
      have hzF := HSZ.out f
      have hl6 := HF6.out.whole HN.out
      clear k6 q6 hB6 HF5 HK5
      go_wp2_with fail
      generalize (w6.alloc (.cells (fc zeroF) 23)).setRow w6.heap.size (fc f) = wB at *
      generalize w6.heap.size = bB at *
      refine (HQP.out _).mono ?_
      rintro e w7 ⟨rfl, k7⟩
      have hlB := (HB6.out.keep k7).whole HN.out
      have hlF := (HF6.out.keep k7).whole HN.out
      have hd7 := (HF6.out.keep k7).data
      have HK7 := Lib.hid (HK6.out.trans k7)
      have heq := HEQ.out
      have hleni := HLI.out
      clear k7 HB6 HF6 HK6 hst6 hl6
      go_wp2
      go_ret
      exact ⟨rfl, HK7.out⟩
    · rw [decide_eq_false hr] at HR HQ
      have HP := Lib.hid (fun w => dprint_no f hq.toSqF hr w)
      clear hq hF hn hr hz
      go_enter Try.func3, Try.ntmps3
      go_wp2_with fail
      refine (HA.out _).mono ?_
      rintro e w1 ⟨rfl, k1⟩
      have HF1 := Lib.hid (HF.out.keep k1)
      have hd := HF1.out.data
      have hl := HF1.out.whole HN.out
      have HK1 := Lib.hid (HK.out.trans k1)
      clear k1 HF HK
      go_wp2_with fail
      refine (HP.out _).mono ?_
      rintro e w2 ⟨rfl, k2⟩
      have HF2 := Lib.hid (HF1.out.keep k2)
      have HK2 := Lib.hid (HK1.out.trans k2)
      have hl2 : ∀ u : KW w2, (loadCellsFrom ⟨w.heap.size, 0, none⟩ 0 n #[]).run Try.prog u.1 = .ok (fc f) u.1 := fun u => (HF2.out.keep u.2).whole HN.out
      clear k2 HF1 HK1 hl hd
      go_wp2_with fail
      refine wp_region_keep (Keep.refl w2) (by kernel_rfl) (by kernel_rfl) ?_
      repeat (first | go_big_quiet_step (fail) | quiet_step (fail))
      first | go_big_quiet_step (exact HR.out.at _) | quiet_step (exact HR.out.at _)
      repeat (first | go_big_quiet_step (fail) | quiet_step (fail))
      first | go_big_quiet_step (exact HQ.out.at _) | quiet_step (exact HQ.out.at _)
      repeat (first | go_big_quiet_step (fail) | quiet_step (fail))
      refine wpQuiet_nil ?_
      rintro w3 ⟨⟨w4, k4⟩, rfl⟩
      have HF4 := Lib.hid (HF2.out.keep k4)
      have HK4 := Lib.hid (HK2.out.trans k4)
      have hl4 := HF4.out.whole HN.out
      clear k4 HF2 HK2 hl2
      go_wp2_with fail
      refine (HQ.out _).mono ?_
      rintro e w5 ⟨rfl, k5⟩
      have HK5 := Lib.hid (HK4.out.trans k5)
      clear k5 HF4 HK4 hl4
      go_wp2
      go_ret
      exact ⟨rfl, HK5.out⟩

open Go.ChangeShapes Go.WideShapes Go.ChangeAt
theorem own : ownKnob Try.prog.godebug = none := by kernel_rfl
theorem laidOut : laidOutB Try.prog = true := by kernel_rfl

set_option maxRecDepth 100000 in
theorem lifted (os : Os) (started : os.Started) (H : Type) (enc : TypeId × Value → H) :
    ReturnsInHanded {} Try.checked os 3 .any (Rows.framePrintsSpec.pre6 enc Try.prog Try.f3 Rows.framePrintsRow.domain false) (Rows.framePrintsSpec.post enc Try.prog Try.f3 false true false false) := by
  refine returnsInHanded_of_change (C := Try.checked) own started (by kernel_rfl) Try.func3
    (ChangeSpec.witness6 (enc := enc) (C := Try.checked) false ⟨#[], #[.agg (fc zeroF)], []⟩ 8 (by kernel_rfl) (by kernel_rfl) (by kernel_rfl) (by kernel_rfl)) ?_
  intro W base args ds gs before hval0 hW hcnd _
  have hval : ∀ (j : Nat) t v, Try.f3.params[j]? = some t → args[j]? = some v → Value.okWide Try.prog W .any base t v := hval0
  have hW' := hW
  obtain ⟨p, q, hA0, hV, rfl, hfz, hnd⟩ := hW
  have hA : DataW.TrodAll enc Try.prog W 0 (fun _ => true) true Try.f3.params.toList args.toList ds p := hA0

  rw [Try.params3] at hA hval
  obtain ⟨v0, vs0, d0, ds0, p0, q0, hargs, rfl, rfl, h0, r0⟩ := trodAll_cons hA
  obtain ⟨rfl, rfl, rfl⟩ := trodAll_nil r0
  obtain rfl : args = #[v0] := by cases args; simp_all
  obtain ⟨rfl, rfl⟩ := trodVars_none hV
  have k0 := h0
  have lt0 : ∀ x ∈ p0, x.block < W.heap.size := by obtain ⟨m, hm⟩ := k0; exact DataW.trod_lt m _ _ _ hm
  obtain ⟨f0, rfl, q0⟩ := open_frame (hval 0 23 v0 rfl rfl) h0
  clear hA0 hval0
  refine (walk f0 W q0).mono fun e W' ⟨he, bel⟩ => ?_
  subst he
  exact ⟨_, rfl, _, _, _, [], _, [], hW', trodAll_mk1 (shut_bool Try.underlying4 _), (trodAll_cons_mk (Below.trod laidOut (by kernel_rfl) (of_decide_eq_true (by kernel_rfl)) k0 bel lt0) trodAll_mk0), rfl, bel.frame _, fun h => by cases h⟩

theorem over : Rows.framePrintsRow.holds Try.pinned (OpenSpec.ofChange Rows.framePrintsSpec) :=
  OpenClaim.holds_of_wide 3 Try.f3 rfl rfl rfl rfl rfl rfl rfl ⟨rfl, rfl, rfl, rfl, rfl⟩ rfl rfl rfl rfl rfl (by kernel_rfl) Try.func3 (by kernel_rfl)
    (of_decide_eq_true (by kernel_rfl)) (by unfold Func.isWrapper; first | (rw [if_pos (by decide +kernel)]; kernel_rfl) | (rw [if_neg (by decide +kernel)]; exact ⟨rfl, rfl⟩))
    (fun os started H enc _ => lifted os started H enc)
end Go.Proofs.Ytcdcnlaijbjonaa.LFramePrints

namespace Go.Proofs.Ytcdcnlaijbjonaa
theorem framePrints_holds : Rows.FramePrintsSaid := LFramePrints.over
#print axioms framePrints_holds
end Go.Proofs.Ytcdcnlaijbjonaa

