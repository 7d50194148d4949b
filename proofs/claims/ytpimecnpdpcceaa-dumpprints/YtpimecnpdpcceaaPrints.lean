/- Proved: DumpPrints: any table has the dump that the document says, and is read, and unpacked, as it was. Condition: none of our own. -/
import Derived.Test.YtpimecnpdpcceaaLw
import Derived.Test.YtpimecnpdpcceaaQp
import Derived.SizedLaws
namespace Go.Proofs.Ytpimecnpdpcceaa.LDumpPrints
open Go.RowKit

set_option maxRecDepth 100000 in
set_option maxHeartbeats 2000000 in
theorem walk (a : Option Addr) (cap : Nat) (l : List Rt) (w : World) (hA : ArgN rl w a cap l) (hq : ∀ r ∈ l, Sq r) :
    Calls Try.prog 3 #[.slice a l.length cap] w fun e w' => e = .returned (.bool true) ∧ Keep w w' := by
  have HAw := Lib.hid awake
  have hsm := hA.small
  have HA := Lib.hid hA
  have HQ := Lib.hid hq
  obtain ⟨N, hN⟩ : ∃ N, l.length = N := ⟨_, rfl⟩
  have HN := Lib.hid hN
  rw [hN] at hsm ⊢
  clear hA hq hN
  unfold maxLen at hsm
  by_cases h1 : N > 300
  · have h1i : (N : Int) > 300 := by omega
    go_enter Try.func3, Try.ntmps3
    go_wp2_with fail
    refine (HAw.out _).mono ?_
    rintro e w1 ⟨rfl, k1⟩
    have HK1 := Lib.hid k1
    clear k1
    go_wp2_with fail
    refine (HAw.out _).mono ?_
    rintro e w2 ⟨rfl, k2⟩
    go_wp2
    go_ret
    exact ⟨rfl, HK1.out.trans k2⟩
  · have h1i : ¬ (N : Int) > 300 := by omega
    have HSL := Lib.hid slice_no
    go_enter Try.func3, Try.ntmps3
    go_wp2_with fail
    refine (HAw.out _).mono ?_
    rintro e w1 ⟨rfl, k1⟩
    have HK1 := Lib.hid k1
    have HA1 := Lib.hid ((HA.out.keep k1).keep ((Keep.refl w1).alloc (.cells #[] 43)))
    have HO1 := Lib.hid (Own.made (t := 43) (k := 20) (enc := rl) w1.heap.size w1 (Nat.le_refl _))
    clear k1
    go_wp2_with (first | (refine at_slice [] rfl _ (HSL.out _) ?_) | (at_builtin; refine wp_appN elR rfl _ _ rfl w1.heap.size _ a N cap [] l rfl HN.out rfl HO1.out HA1.out ?q1 ?q2 ?q3 ?_))
    case q1 => rw [HN.out]; simp; omega
    case q2 => rw [HN.out]; simp; omega
    case q3 => simp
    intro v2 w2 o2 g2
    have HK2 := Lib.hid (HO1.out.grown ((Keep.refl w1).alloc _) (Nat.le_refl _) g2)
    have HNw := Lib.hid (new v2 l w2 (o2.row elR).cells (by rw [HN.out]; omega))
    clear o2 g2
    go_wp2_with fail
    refine HNw.out.mono ?_
    rintro e w3 ⟨p, rfl, k3, ⟨h0, rfl⟩ | ⟨h0, b, l', rfl, _, hperm, htb⟩⟩
    · have h0b : (newE l != 0) = true := by simpa using h0
      have HK3 := Lib.hid ((HK1.out.trans HK2.out).trans k3)
      clear k3
      go_wp2
      go_ret
      exact ⟨rfl, HK3.out⟩
    · rw [h0]
      have HRok := Lib.hid (rok_of h0 hperm HQ.out)
      have hfew := htb.few
      have HSo := Lib.hid htb.sorted
      have HSh := Lib.hid (dump_short l' hfew HRok.out)
      have HK3 := Lib.hid ((HK1.out.trans HK2.out).trans k3)
      have HT3 := Lib.hid htb
      clear k3 htb hperm HNw
      have HPr := Lib.hid (fun (w : World) (h : Tb w b l') => dprint (.pointer (some ⟨b, 0, none⟩)) l' w (.inr ⟨b, rfl, h⟩) HRok.out)
      have HPk := Lib.hid (fun (w : World) (h : Tb w b l') => dpack (.pointer (some ⟨b, 0, none⟩)) l' w (.inr ⟨b, rfl, h⟩) HRok.out)
      have HRd := Lib.hid (fun w => dread_dump HSo.out HRok.out hfew w)
      have HUn := Lib.hid (fun (p : List UInt8) (hp : Packs (Dm.dumpL codP (l'.map rwOf)) p) w => dunpack_pack HSo.out HRok.out hfew hp w)
      have HSm := Lib.hid (fun (b c : Nat) (w : World) (h1 : Tb w b l') (h2 : Tb w c l') => same (.pointer (some ⟨b, 0, none⟩)) (.pointer (some ⟨c, 0, none⟩)) l' l' w (.inr ⟨b, rfl, h1⟩) (.inr ⟨c, rfl, h2⟩))
      have HAl := Lib.hid (fun (w : World) (h : Tb w b l') => all (.pointer (some ⟨b, 0, none⟩)) l' w (.inr ⟨b, rfl, h⟩))
      have HQp := Lib.hid (fun (v : Value) (w : World) (h : Cells rl w v l') => qprint v l' w h hfew HRok.out)
      unfold DPackPost at HPk
      generalize Dm.dumpL codP (l'.map rwOf) = D at *
      go_wp2_with fail
      refine (HPr.out w3 HT3.out).mono ?_
      rintro e w4 ⟨rfl, k4⟩
      have HK4 := Lib.hid (HK3.out.trans k4)
      have HT4 := Lib.hid (HT3.out.keep k4)
      clear k4
      go_wp2_with fail
      refine (HRd.out w4).mono ?_
      rintro e w5 ⟨u, rfl, htu, k5⟩
      have HK5 := Lib.hid (HK4.out.trans k5)
      have HT5 := Lib.hid (HT4.out.keep k5)
      have HU5 := Lib.hid htu
      clear k5 htu
      go_wp2_with fail
      refine (HPk.out w5 HT5.out).mono ?_
      rintro e w6 ⟨p, rfl, hp, k6⟩
      have HK6 := Lib.hid (HK5.out.trans k6)
      have HT6 := Lib.hid (HT5.out.keep k6)
      have HU6 := Lib.hid (HU5.out.keep k6)
      have HP := Lib.hid hp
      clear k6 hp
      go_wp2_with fail
      refine (HUn.out p HP.out w6).mono ?_
      rintro e w7 ⟨v, rfl, htv, k7⟩
      have HK7 := Lib.hid (HK6.out.trans k7)
      have HT7 := Lib.hid (HT6.out.keep k7)
      have HU7 := Lib.hid (HU6.out.keep k7)
      have HV7 := Lib.hid htv
      clear k7 htv
      go_wp2_with fail
      refine (HAl.out w7 HT7.out).mono ?_
      rintro e w8 ⟨v8, rfl, o8, k8⟩
      have HK8 := Lib.hid (HK7.out.trans k8)
      have HT8 := Lib.hid (HT7.out.keep k8)
      have HU8 := Lib.hid (HU7.out.keep k8)
      have HV8 := Lib.hid (HV7.out.keep k8)
      have HC8 := Lib.hid (o8.row elR).cells
      clear k8 o8
      go_wp2_with fail
      refine (HQp.out v8 w8 HC8.out).mono ?_
      rintro e w9 ⟨rfl, k9⟩
      have HK9 := Lib.hid (HK8.out.trans k9)
      have HT9 := Lib.hid (HT8.out.keep k9)
      have HU9 := Lib.hid (HU8.out.keep k9)
      have HV9 := Lib.hid (HV8.out.keep k9)
      have hDD : ((⟨D.toArray⟩ : ByteArray) == ⟨D.toArray⟩) = true := (MapKept.bytes_beq _ _).2 rfl
      clear k9
      go_wp2_with fail
      refine (HSm.out b u w9 HT9.out HU9.out).mono ?_
      rintro e wa ⟨rfl, ka⟩
      simp only [decide_true]
      have HKa := Lib.hid (HK9.out.trans ka)
      have HTa := Lib.hid (HT9.out.keep ka)
      have HVa := Lib.hid (HV9.out.keep ka)
      clear ka
      go_wp2_with fail
      refine (HSm.out b v wa HTa.out HVa.out).mono ?_
      rintro e wb ⟨rfl, kb⟩
      simp only [decide_true]
      have HKb := Lib.hid (HKa.out.trans kb)
      clear kb
      go_wp2
      go_ret
      exact ⟨rfl, HKb.out⟩

open Go.ChangeShapes Go.WideShapes Go.ChangeAt
theorem own : ownKnob Try.prog.godebug = none := by kernel_rfl
theorem laidOut : laidOutB Try.prog = true := by kernel_rfl

set_option maxRecDepth 100000 in
theorem lifted (os : Os) (started : os.Started) (H : Type) (enc : TypeId × Value → H) :
    ReturnsInHanded {} Try.checked os 3 .any (Rows.dumpPrintsSpec.pre6 enc Try.prog Try.f3 Rows.dumpPrintsRow.domain false) (Rows.dumpPrintsSpec.post enc Try.prog Try.f3 false true false false) := by
  refine returnsInHanded_of_change (C := Try.checked) own started (by kernel_rfl) Try.func3
    (ChangeSpec.witness6 (enc := enc) (C := Try.checked) false ⟨#[], #[.slice none 0 0], []⟩ 8 (by kernel_rfl) (by kernel_rfl) (by kernel_rfl) (by kernel_rfl)) ?_
  intro W base args ds gs before hval0 hW hcnd _
  have hval : ∀ (j : Nat) t v, Try.f3.params[j]? = some t → args[j]? = some v → Value.okWide Try.prog W .any base t v := hval0
  have hW' := hW
  obtain ⟨p, q, hA0, hV, rfl, hfz, hnd⟩ := hW
  have hA : DataW.TrodAll enc Try.prog W 0 (fun _ => true) true Try.f3.params.toList args.toList ds p := hA0

  rw [Try.params3] at hA hval
  obtain ⟨v0, vs0, d0, ds0, p0, q0, hargs, rfl, rfl, h0, r0⟩ := trodAll_cons hA
  obtain ⟨rfl, rfl, rfl⟩ := trodAll_nil r0
  obtain rfl : args = #[v0] := by cases args; simp_all
  obtain ⟨rfl, rfl⟩ := trodVars_none hV
  have k0 := h0
  have lt0 : ∀ x ∈ p0, x.block < W.heap.size := by obtain ⟨m, hm⟩ := k0; exact DataW.trod_lt m _ _ _ hm
  obtain ⟨a0, cap0, l0, rfl, f0, sq0⟩ := open_routesN (hval 0 22 v0 rfl rfl) h0
  clear hA0 hval0
  refine (walk a0 cap0 l0 W f0 sq0).mono fun e W' ⟨he, bel⟩ => ?_
  subst he
  exact ⟨_, rfl, _, _, _, [], _, [], hW', trodAll_mk1 (shut_bool Try.underlying4 _), (trodAll_cons_mk (Below.trod laidOut (by kernel_rfl) (of_decide_eq_true (by kernel_rfl)) k0 bel lt0) trodAll_mk0), rfl, bel.frame _, fun h => by cases h⟩

theorem over : Rows.dumpPrintsRow.holds Try.pinned (OpenSpec.ofChange Rows.dumpPrintsSpec) :=
  OpenClaim.holds_of_wide 3 Try.f3 rfl rfl rfl rfl rfl rfl rfl ⟨rfl, rfl, rfl, rfl, rfl⟩ rfl rfl rfl rfl rfl (by kernel_rfl) Try.func3 (by kernel_rfl)
    (of_decide_eq_true (by kernel_rfl)) (by unfold Func.isWrapper; first | (rw [if_pos (by decide +kernel)]; kernel_rfl) | (rw [if_neg (by decide +kernel)]; exact ⟨rfl, rfl⟩))
    (fun os started H enc _ => lifted os started H enc)
end Go.Proofs.Ytpimecnpdpcceaa.LDumpPrints

namespace Go.Proofs.Ytpimecnpdpcceaa
theorem dumpPrints_holds : Rows.DumpPrintsSaid := LDumpPrints.over
#print axioms dumpPrints_holds
end Go.Proofs.Ytpimecnpdpcceaa

