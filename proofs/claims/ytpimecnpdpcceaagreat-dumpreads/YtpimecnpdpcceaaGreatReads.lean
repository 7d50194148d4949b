/- Proved: DumpReads: any bytes are the table that the document says, or are refused as it says; no other bytes than its dump are a table. Condition: none of our own. -/
import Derived.Test.YtpimecnpdpcceaaGreatLw
import Derived.Test.YtpimecnpdpcceaaGreatQr
import Derived.Test.YtpimecnpdpcceaaGreatRn
import Derived.Test.YtpimecnpdpcceaaGreatSm
import Derived.SizedLaws
namespace Go.Proofs.YtpimecnpdpcceaaGreat.LDumpReads
open Go.RowKit

set_option maxRecDepth 100000 in
theorem qtable (v : Value) (l : List Rt) (w : World) (h : Cells rl w v l) (hs : Sorted l) (hr : ∀ r ∈ l, Rok r) (hl : l.length ≤ 300) : Calls Tryz.prog 11 #[v] w fun e w' => e = .returned (.bool true) ∧ Keep w w' := by
  obtain ⟨a, cap, rfl, h1, h2⟩ := h.form
  have HN := Lib.hid (qnew a cap l w ⟨fun _ => h, h.small⟩ (by omega))
  have hE := newE_zero hs hr hl
  have HE := Lib.hid hE
  have HS := Lib.hid hs
  have HC := Lib.hid h
  obtain ⟨N, hN⟩ : ∃ N, l.length = N := ⟨_, rfl⟩
  have HL := Lib.hid hN
  rw [hN] at HN hl ⊢
  clear hE hs h hN
  go_enter Tryz.func11, Tryz.ntmps11
  go_wp2_with fail
  refine HN.out.mono ?_
  rintro e w1 ⟨v', rfl, k1, hm⟩
  obtain ⟨m, hrow, hsm, hperm⟩ := hm HE.out
  obtain rfl : m = l := sorted_unique hsm HS.out hperm
  rw [HE.out]
  have HSm := Lib.hid (qsame v' (.slice a m.length cap) m m w1 hrow.cells (HC.out.keep k1) (by rw [HL.out]; omega) (by rw [HL.out]; omega))
  rw [HL.out] at HSm
  have HK := Lib.hid k1
  clear k1 hrow hsm hperm hm
  go_wp2_with fail
  refine HSm.out.mono ?_
  rintro e w2 ⟨rfl, k2⟩
  simp only [decide_true]
  have HK2 := Lib.hid (HK.out.trans k2)
  clear k2
  go_wp2
  go_ret
  exact ⟨rfl, HK2.out⟩

set_option maxRecDepth 100000 in
set_option maxHeartbeats 2000000 in
theorem walk (s : List UInt8) (w : World) (hs : s.length ≤ 9223372036854775807) :
    Calls Tryz.prog 3 #[.string ⟨s.toArray⟩] w fun e w' => e = .returned (.bool true) ∧ Keep w w' := by
  have HAw := Lib.hid awake
  have hss : (⟨s.toArray⟩ : ByteArray).size = s.length := by simp [ByteArray.size]
  by_cases h1 : s.length > 3000
  · have h1i : (s.length : Int) > 3000 := by omega
    go_enter Tryz.func3, Tryz.ntmps3
    go_wp2_with fail
    refine (HAw.out _).mono ?_
    rintro e w1 ⟨rfl, k1⟩
    have HK1 := Lib.hid k1
    clear k1
    go_wp2_with fail
    refine (HAw.out _).mono ?_
    rintro e w2 ⟨rfl, k2⟩
    go_wp2
    go_ret
    exact ⟨rfl, HK1.out.trans k2⟩
  · have h1i : ¬ (s.length : Int) > 3000 := by omega
    have HRd := Lib.hid (fun w => dread s (by omega) w)
    have HQr := Lib.hid (fun w => qread s (by omega) w)
    have HBk := Lib.hid (fun l (h : Dm.readD codP s = .ok l) => Dm.d_back h)
    generalize Dm.readD codP s = R at HRd HQr HBk
    go_enter Tryz.func3, Tryz.ntmps3
    go_wp2_with fail
    refine (HAw.out _).mono ?_
    rintro e w1 ⟨rfl, k1⟩
    have HK1 := Lib.hid k1
    clear k1
    go_wp2_with fail
    refine (HRd.out w1).mono ?_
    cases R with
    | error x =>
      rintro e w2 ⟨rfl, hx, k2⟩
      have HK2 := Lib.hid (HK1.out.trans k2)
      clear k2
      go_wp2_with fail
      refine (HQr.out w2).mono ?_
      rintro e w3 ⟨rfl, _, k3⟩
      have HK3 := Lib.hid (HK2.out.trans k3)
      have hxb : (x == 0) = false := by simpa using hx
      clear k3
      go_wp2
      go_ret
      exact ⟨rfl, HK3.out⟩
    | ok l =>
      obtain ⟨hsd, hod, hl⟩ := HBk.out l rfl
      obtain ⟨hso, hro, _, hrw⟩ := sorted_of_okD l none hod (by simp)
      rintro e w2 ⟨b, rfl, _, htb, _, _, k2⟩
      have HK2 := Lib.hid (HK1.out.trans k2)
      have HT2 := Lib.hid htb
      have HDs := Lib.hid (show Dm.dumpL codP ((l.map rtOf).map rwOf) = s from by rw [hrw, ← hsd])
      have hlm : (l.map rtOf).length ≤ 300 := by rw [List.length_map]; exact hl
      have HSO := Lib.hid hso
      have HRO := Lib.hid hro
      clear k2 htb hsd hod hl hso hro hrw HBk
      go_wp2_with fail
      refine (HQr.out w2).mono ?_
      rintro e w3 ⟨v, rfl, hrow, k3⟩
      generalize l.map rtOf = L at *
      have HK3 := Lib.hid (HK2.out.trans k3)
      have HT3 := Lib.hid (HT2.out.keep k3)
      have HV3 := Lib.hid hrow.cells
      have HAl := Lib.hid (all (.pointer (some ⟨b, 0, none⟩)) L w3 (.inr ⟨b, rfl, HT3.out⟩))
      clear k3 hrow
      go_wp2_with fail
      refine HAl.out.mono ?_
      rintro e w4 ⟨u, rfl, o4, k4⟩
      have HK4 := Lib.hid (HK3.out.trans k4)
      have HT4 := Lib.hid (HT3.out.keep k4)
      have HV4 := Lib.hid (HV3.out.keep k4)
      have HSm := Lib.hid (qsame u v L L w4 (o4.row elR).cells HV4.out (by omega) (by omega))
      clear k4 o4 HAl
      go_wp2_with fail
      refine HSm.out.mono ?_
      rintro e w5 ⟨rfl, k5⟩
      simp only [decide_true]
      have HK5 := Lib.hid (HK4.out.trans k5)
      have HT5 := Lib.hid (HT4.out.keep k5)
      have HV5 := Lib.hid (HV4.out.keep k5)
      clear k5
      go_wp2_with fail
      refine (qtable v L w5 HV5.out HSO.out HRO.out hlm).mono ?_
      rintro e w6 ⟨rfl, k6⟩
      have HK6 := Lib.hid (HK5.out.trans k6)
      have HT6 := Lib.hid (HT5.out.keep k6)
      have HPr := Lib.hid (dprint (.pointer (some ⟨b, 0, none⟩)) L w6 (.inr ⟨b, rfl, HT6.out⟩) HRO.out)
      rw [HDs.out] at HPr
      have hDD : ((⟨s.toArray⟩ : ByteArray) == ⟨s.toArray⟩) = true := (MapKept.bytes_beq _ _).2 rfl
      clear k6
      go_wp2_with fail
      refine HPr.out.mono ?_
      rintro e w7 ⟨rfl, k7⟩
      have HK7 := Lib.hid (HK6.out.trans k7)
      clear k7
      go_wp2
      go_ret
      exact ⟨rfl, HK7.out⟩

open Go.ChangeShapes Go.WideShapes Go.ChangeAt
theorem own : ownKnob Tryz.prog.godebug = none := by kernel_rfl
theorem laidOut : laidOutB Tryz.prog = true := by kernel_rfl

set_option maxRecDepth 100000 in
theorem lifted (os : Os) (started : os.Started) (H : Type) (enc : TypeId × Value → H) :
    ReturnsInHanded {} Tryz.checked os 3 .any (Rows.dumpReadsSpec.pre6 enc Tryz.prog Tryz.f3 Rows.dumpReadsRow.domain false) (Rows.dumpReadsSpec.post enc Tryz.prog Tryz.f3 false true false false) := by
  refine returnsInHanded_of_change (C := Tryz.checked) own started (by kernel_rfl) Tryz.func3
    (ChangeSpec.witness6 (enc := enc) (C := Tryz.checked) false ⟨#[], #[.string ⟨#[]⟩], []⟩ 8 (by kernel_rfl) (by kernel_rfl) (by kernel_rfl) (by kernel_rfl)) ?_
  intro W base args ds gs before hval0 hW hcnd _
  have hval : ∀ (j : Nat) t v, Tryz.f3.params[j]? = some t → args[j]? = some v → Value.okWide Tryz.prog W .any base t v := hval0
  have hW' := hW
  obtain ⟨p, q, hA0, hV, rfl, hfz, hnd⟩ := hW
  have hA : DataW.TrodAll enc Tryz.prog W 0 (fun _ => true) true Tryz.f3.params.toList args.toList ds p := hA0

  rw [Tryz.params3] at hA hval
  obtain ⟨v0, vs0, d0, ds0, p0, q0, hargs, rfl, rfl, h0, r0⟩ := trodAll_cons hA
  obtain ⟨rfl, rfl, rfl⟩ := trodAll_nil r0
  obtain rfl : args = #[v0] := by cases args; simp_all
  obtain ⟨rfl, rfl⟩ := trodVars_none hV
  have k0 := h0
  have lt0 : ∀ x ∈ p0, x.block < W.heap.size := by obtain ⟨m, hm⟩ := k0; exact DataW.trod_lt m _ _ _ hm
  obtain ⟨a0, rfl, _, _, w0⟩ := Go.ChangeMaps.open_string Tryz.underlying9 (hval 0 9 v0 rfl rfl) h0
  clear hA0 hval0
  refine (walk a0.data.toList W (by simpa [maxLen] using w0)).mono fun e W' ⟨he, bel⟩ => ?_
  subst he
  exact ⟨_, rfl, _, _, _, [], _, [], hW', trodAll_mk1 (shut_bool Tryz.underlying4 _), (trodAll_cons_mk (Below.trod laidOut (by kernel_rfl) (of_decide_eq_true (by kernel_rfl)) k0 bel lt0) trodAll_mk0), rfl, bel.frame _, fun h => by cases h⟩

theorem over : Rows.dumpReadsRow.holds Tryz.pinned (OpenSpec.ofChange Rows.dumpReadsSpec) :=
  OpenClaim.holds_of_wide 3 Tryz.f3 rfl rfl rfl rfl rfl rfl rfl ⟨rfl, rfl, rfl, rfl, rfl⟩ rfl rfl rfl rfl rfl (by kernel_rfl) Tryz.func3 (by kernel_rfl)
    (of_decide_eq_true (by kernel_rfl)) (by unfold Func.isWrapper; first | (rw [if_pos (by decide +kernel)]; kernel_rfl) | (rw [if_neg (by decide +kernel)]; exact ⟨rfl, rfl⟩))
    (fun os started H enc _ => lifted os started H enc)
end Go.Proofs.YtpimecnpdpcceaaGreat.LDumpReads

namespace Go.Proofs.YtpimecnpdpcceaaGreat
theorem dumpReads_holds : Rows.DumpReadsSaid := LDumpReads.over
#print axioms dumpReads_holds
end Go.Proofs.YtpimecnpdpcceaaGreat

