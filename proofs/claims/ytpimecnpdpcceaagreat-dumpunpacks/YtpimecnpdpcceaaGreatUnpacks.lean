/- Proved: DumpUnpacks: packed bytes are unpacked as the document says, and what is packed is read as it was. Condition: none of our own. -/
import Derived.Test.YtpimecnpdpcceaaGreatLw
import Derived.Test.YtpimecnpdpcceaaGreatQy
import Derived.Test.YtpimecnpdpcceaaGreatSm
import Derived.SizedLaws
namespace Go.Proofs.YtpimecnpdpcceaaGreat.LDumpUnpacks
open Go.RowKit

def codeOf : Except Int (List (Dm.Rw Px)) → Int
  | .error x => x
  | .ok _ => 0
def listOf : Except Int (List (Dm.Rw Px)) → List Rt
  | .error _ => []
  | .ok l => l.map rtOf
theorem any_of {w w' : World} {R : Except Int (List (Dm.Rw Px))} {e : Ending} (h : ReadPost w R e w') : ∃ pv, e = .returned (.tuple #[pv, .int .i64 (codeOf R)]) ∧ Tp w' pv (listOf R) ∧ Keep w w' := by
  cases R with
  | error x =>
    obtain ⟨rfl, _, k⟩ := h
    exact ⟨_, rfl, .inl ⟨rfl, rfl⟩, k⟩
  | ok l =>
    obtain ⟨b, rfl, _, ht, _, _, k⟩ := h
    exact ⟨_, rfl, .inr ⟨b, rfl, ht⟩, k⟩
theorem unp_few {s : List UInt8} {l : List (Dm.Rw Px)} (h : unpD s = .ok l) : l.length ≤ 300 := by
  unfold unpD at h
  split at h
  · simp at h
  · exact (Dm.d_back h).2.2
theorem unp_pack {s p : List UInt8} (h : Packs s p) (hs : s.length ≤ 65536) : unpD p = Dm.readD codP s := by
  unfold unpD
  rw [h.back hs 65536 hs, if_neg (by simp)]

set_option maxRecDepth 100000 in
set_option maxHeartbeats 2000000 in
theorem walk (s t : List UInt8) (w : World) (hs : s.length ≤ 9223372036854775807) (ht : t.length ≤ 9223372036854775807) :
    Calls Tryz.prog 4 #[.string ⟨s.toArray⟩, .string ⟨t.toArray⟩] w fun e w' => e = .returned (.bool true) ∧ Keep w w' := by
  have HAw := Lib.hid awake
  have hss : (⟨s.toArray⟩ : ByteArray).size = s.length := by simp [ByteArray.size]
  have htt : (⟨t.toArray⟩ : ByteArray).size = t.length := by simp [ByteArray.size]
  by_cases h1 : s.length > 2000
  · have h1i : (s.length : Int) > 2000 := by omega
    go_enter Tryz.func4, Tryz.ntmps4
    go_wp2_with fail
    refine (HAw.out _).mono ?_
    rintro e w1 ⟨rfl, k1⟩
    have HK1 := Lib.hid k1
    clear k1
    go_wp2_with fail
    refine (HAw.out _).mono ?_
    rintro e w2 ⟨rfl, k2⟩
    go_wp2
    go_ret
    exact ⟨rfl, HK1.out.trans k2⟩
  · have h1i : ¬ (s.length : Int) > 2000 := by omega
    by_cases h2 : t.length > 200
    · have h2i : (t.length : Int) > 200 := by omega
      go_enter Tryz.func4, Tryz.ntmps4
      go_wp2_with fail
      refine (HAw.out _).mono ?_
      rintro e w1 ⟨rfl, k1⟩
      have HK1 := Lib.hid k1
      clear k1
      go_wp2_with fail
      refine (HAw.out _).mono ?_
      rintro e w2 ⟨rfl, k2⟩
      go_wp2
      go_ret
      exact ⟨rfl, HK1.out.trans k2⟩
    · have h2i : ¬ (t.length : Int) > 200 := by omega
      have HZ := Lib.hid (fun w => zpack s (by omega) w)
      have HRd := Lib.hid (fun w => dread s (by omega) w)
      have HUp := Lib.hid (fun p (h : Packs s p) (w : World) => show Calls Tryz.prog 14 #[.string ⟨p.toArray⟩] w (ReadPost w (Dm.readD codP s)) from by
        have := dunpack p (by have := h.len (by omega); omega) w
        rwa [unp_pack h (by omega)] at this)
      have HU2 := Lib.hid (fun w => dunpack t (by omega) w)
      have HQ2 := Lib.hid (fun w => qunpack7 t (by omega) w)
      have HFew := Lib.hid (fun l (h : unpD t = .ok l) => unp_few h)
      generalize Dm.readD codP s = R at HRd HUp
      generalize unpD t = R2 at HU2 HQ2 HFew
      go_enter Tryz.func4, Tryz.ntmps4
      go_wp2_with fail
      refine (HAw.out _).mono ?_
      rintro e w1 ⟨rfl, k1⟩
      have HK1 := Lib.hid k1
      clear k1
      go_wp2_with fail
      refine (HZ.out w1).mono ?_
      rintro e w2 ⟨p, rfl, hp, k2⟩
      have HK2 := Lib.hid (HK1.out.trans k2)
      have HUp2 := Lib.hid (HUp.out p hp w2)
      clear k2 HZ HUp HK1 hp
      go_wp2_with fail
      refine HUp2.out.mono ?_
      intro e w3 hq3
      obtain ⟨a, rfl, ta, k3⟩ := any_of hq3
      have HK3 := Lib.hid (HK2.out.trans k3)
      have HA3 := Lib.hid ta
      clear hq3 ta k3 HUp2 HK2
      go_wp2_with fail
      refine (HRd.out w3).mono ?_
      intro e w4 hq4
      obtain ⟨b, rfl, tb, k4⟩ := any_of hq4
      have HK4 := Lib.hid (HK3.out.trans k4)
      have HA4 := Lib.hid (HA3.out.keep k4)
      have HB4 := Lib.hid tb
      clear hq4 tb k4 HA3 HK3 HRd
      generalize codeOf R = cR at *
      generalize listOf R = LR at *
      go_wp2_with fail
      refine (HU2.out w4).mono ?_
      cases R2 with
      | error x =>
        rintro e w5 ⟨rfl, _, k5⟩
        have HK5 := Lib.hid (HK4.out.trans k5)
        have HA5 := Lib.hid (HA4.out.keep k5)
        have HB5 := Lib.hid (HB4.out.keep k5)
        clear k5 HA4 HB4 HK4
        go_wp2_with fail
        refine (HQ2.out w5).mono ?_
        rintro e w6 ⟨rfl, _, k6⟩
        have HK6 := Lib.hid (HK5.out.trans k6)
        have HSm := Lib.hid (same a b LR LR w6 (HA5.out.keep k6) (HB5.out.keep k6))
        clear k6
        go_wp2_with fail
        refine HSm.out.mono ?_
        rintro e w7 ⟨rfl, k7⟩
        simp only [decide_true]
        have HK7 := Lib.hid (HK6.out.trans k7)
        clear k7
        go_wp2
        go_ret
        exact ⟨rfl, HK7.out⟩
      | ok l =>
        have hfew : (l.map rtOf).length ≤ 300 := by rw [List.length_map]; exact HFew.out l rfl
        rintro e w5 ⟨c, rfl, _, hc, _, _, k5⟩
        have HK5 := Lib.hid (HK4.out.trans k5)
        have HA5 := Lib.hid (HA4.out.keep k5)
        have HB5 := Lib.hid (HB4.out.keep k5)
        have HC5 := Lib.hid hc
        clear k5 HA4 HB4 HK4 hc
        go_wp2_with fail
        refine (HQ2.out w5).mono ?_
        rintro e w6 ⟨v, rfl, hrow, k6⟩
        generalize l.map rtOf = L at *
        have HK6 := Lib.hid (HK5.out.trans k6)
        have HC6 := Lib.hid (HC5.out.keep k6)
        have HV6 := Lib.hid hrow.cells
        have HSm := Lib.hid (same a b LR LR w6 (HA5.out.keep k6) (HB5.out.keep k6))
        clear k6 hrow
        go_wp2_with fail
        refine HSm.out.mono ?_
        rintro e w7 ⟨rfl, k7⟩
        simp only [decide_true]
        have HK7 := Lib.hid (HK6.out.trans k7)
        have HC7 := Lib.hid (HC6.out.keep k7)
        have HV7 := Lib.hid (HV6.out.keep k7)
        have HAl := Lib.hid (all (.pointer (some ⟨c, 0, none⟩)) L w7 (.inr ⟨c, rfl, HC7.out⟩))
        clear k7
        go_wp2_with fail
        refine HAl.out.mono ?_
        rintro e w8 ⟨u, rfl, o8, k8⟩
        have HK8 := Lib.hid (HK7.out.trans k8)
        have HQs := Lib.hid (qsame u v L L w8 (o8.row elR).cells (HV7.out.keep k8) (by omega) (by omega))
        clear k8 o8
        go_wp2_with fail
        refine HQs.out.mono ?_
        rintro e w9 ⟨rfl, k9⟩
        simp only [decide_true]
        have HK9 := Lib.hid (HK8.out.trans k9)
        clear k9
        go_wp2
        go_ret
        exact ⟨rfl, HK9.out⟩

open Go.ChangeShapes Go.WideShapes Go.ChangeAt
theorem own : ownKnob Tryz.prog.godebug = none := by kernel_rfl
theorem laidOut : laidOutB Tryz.prog = true := by kernel_rfl

set_option maxRecDepth 100000 in
theorem lifted (os : Os) (started : os.Started) (H : Type) (enc : TypeId × Value → H) :
    ReturnsInHanded {} Tryz.checked os 4 .any (Rows.dumpUnpacksSpec.pre6 enc Tryz.prog Tryz.f4 Rows.dumpUnpacksRow.domain false) (Rows.dumpUnpacksSpec.post enc Tryz.prog Tryz.f4 false true false false) := by
  refine returnsInHanded_of_change (C := Tryz.checked) own started (by kernel_rfl) Tryz.func4
    (ChangeSpec.witness6 (enc := enc) (C := Tryz.checked) false ⟨#[], #[.string ⟨#[]⟩, .string ⟨#[]⟩], []⟩ 8 (by kernel_rfl) (by kernel_rfl) (by kernel_rfl) (by kernel_rfl)) ?_
  intro W base args ds gs before hval0 hW hcnd _
  have hval : ∀ (j : Nat) t v, Tryz.f4.params[j]? = some t → args[j]? = some v → Value.okWide Tryz.prog W .any base t v := hval0
  have hW' := hW
  obtain ⟨p, q, hA0, hV, rfl, hfz, hnd⟩ := hW
  have hA : DataW.TrodAll enc Tryz.prog W 0 (fun _ => true) true Tryz.f4.params.toList args.toList ds p := hA0

  rw [Tryz.params4] at hA hval
  obtain ⟨v0, vs0, d0, ds0, p0, q0, hargs, rfl, rfl, h0, r0⟩ := trodAll_cons hA
  obtain ⟨v1, vs1, d1, ds1, p1, q1, rfl, rfl, rfl, h1, r1⟩ := trodAll_cons r0
  obtain ⟨rfl, rfl, rfl⟩ := trodAll_nil r1
  obtain rfl : args = #[v0, v1] := by cases args; simp_all
  obtain ⟨rfl, rfl⟩ := trodVars_none hV
  have k0 := h0
  have lt0 : ∀ x ∈ p0, x.block < W.heap.size := by obtain ⟨m, hm⟩ := k0; exact DataW.trod_lt m _ _ _ hm
  have k1 := h1
  have lt1 : ∀ x ∈ p1, x.block < W.heap.size := by obtain ⟨m, hm⟩ := k1; exact DataW.trod_lt m _ _ _ hm
  obtain ⟨a0, rfl, _, _, w0⟩ := Go.ChangeMaps.open_string Tryz.underlying9 (hval 0 9 v0 rfl rfl) h0
  obtain ⟨a1, rfl, _, _, w1⟩ := Go.ChangeMaps.open_string Tryz.underlying9 (hval 1 9 v1 rfl rfl) h1
  clear hA0 hval0
  refine (walk a0.data.toList a1.data.toList W (by simpa [maxLen] using w0) (by simpa [maxLen] using w1)).mono fun e W' ⟨he, bel⟩ => ?_
  subst he
  exact ⟨_, rfl, _, _, _, [], _, [], hW', trodAll_mk1 (shut_bool Tryz.underlying4 _), (trodAll_cons_mk (Below.trod laidOut (by kernel_rfl) (of_decide_eq_true (by kernel_rfl)) k0 bel lt0) (trodAll_cons_mk (Below.trod laidOut (by kernel_rfl) (of_decide_eq_true (by kernel_rfl)) k1 bel lt1) trodAll_mk0)), rfl, bel.frame _, fun h => by cases h⟩

theorem over : Rows.dumpUnpacksRow.holds Tryz.pinned (OpenSpec.ofChange Rows.dumpUnpacksSpec) :=
  OpenClaim.holds_of_wide 4 Tryz.f4 rfl rfl rfl rfl rfl rfl rfl ⟨rfl, rfl, rfl, rfl, rfl⟩ rfl rfl rfl rfl rfl (by kernel_rfl) Tryz.func4 (by kernel_rfl)
    (of_decide_eq_true (by kernel_rfl)) (by unfold Func.isWrapper; first | (rw [if_pos (by decide +kernel)]; kernel_rfl) | (rw [if_neg (by decide +kernel)]; exact ⟨rfl, rfl⟩))
    (fun os started H enc _ => lifted os started H enc)
end Go.Proofs.YtpimecnpdpcceaaGreat.LDumpUnpacks

namespace Go.Proofs.YtpimecnpdpcceaaGreat
theorem dumpUnpacks_holds : Rows.DumpUnpacksSaid := LDumpUnpacks.over
#print axioms dumpUnpacks_holds
end Go.Proofs.YtpimecnpdpcceaaGreat

