/- Proved: IncrPrints: any changes have the bytes that the document says, or none; what is written is read as it was. Condition: none of our own. -/
import Derived.Test.YtgkgpdlakamgiaaGreatJr
import Derived.SizedLaws
namespace Go.Proofs.YtgkgpdlakamgiaaGreat.LIncrPrints
open Go.RowKit

set_option maxRecDepth 100000 in
set_option maxHeartbeats 4000000 in
theorem walk (a : Option Addr) (acap : Nat) (la : List Ic) (w : World) (hA : ArgN il w a acap la) (ha : ∀ i ∈ la, SqI i) :
    Calls Tryz.prog 3 #[.slice a la.length acap] w fun e w' => e = .returned (.bool true) ∧ Keep w w' := by
  have HAw := Lib.hid awake
  have hs2 := hA.small
  have HA := Lib.hid hA
  have HSq := Lib.hid ha
  obtain ⟨NA, hNA⟩ : ∃ N, la.length = N := ⟨_, rfl⟩
  have HNA := Lib.hid hNA
  rw [hNA] at hs2 ⊢
  clear hA hNA ha
  unfold maxLen at hs2
  by_cases h2 : NA > 400
  · have h2i : (NA : Int) > 400 := by omega
    go_enter Tryz.func3, Tryz.ntmps3
    go_wp2_with fail
    refine (HAw.out _).mono ?_
    rintro e w1 ⟨rfl, k1⟩
    have HK1 := Lib.hid k1
    clear k1
    go_wp2_with fail
    refine (HAw.out _).mono ?_
    rintro e w2 ⟨rfl, k2⟩
    go_wp2
    go_ret
    exact ⟨rfl, HK1.out.trans k2⟩
  · have h2i : ¬ (NA : Int) > 400 := by omega
    have HSI := Lib.hid slice_noI
    go_enter Tryz.func3, Tryz.ntmps3
    go_wp2_with fail
    refine (HAw.out _).mono ?_
    rintro e w4 ⟨rfl, k1⟩
    have HK4 := Lib.hid k1
    have HAa := Lib.hid ((HA.out.keep HK4.out).keep ((Keep.refl w4).alloc (.cells #[] 59)))
    have HOa := Lib.hid (Own.made (t := 59) (k := 21) (enc := il) w4.heap.size w4 (Nat.le_refl _))
    clear k1
    go_wp2_with (first | ((with_reducible refine at_slice [] ?_ (.slice (some ⟨w4.heap.size, 0, none⟩) 0 0) (HSI.out w4) ?_); rfl) | (at_builtin; refine wp_appN elI rfl _ _ rfl w4.heap.size _ a NA acap [] la rfl HNA.out rfl HOa.out HAa.out ?s1 ?s2 ?s3 ?_))
    case s1 => rw [HNA.out]; simp; omega
    case s2 => rw [HNA.out]; simp; omega
    case s3 => simp
    intro v5 w5 o5 g5
    have HO5 := Lib.hid (show Own 59 21 il w4.heap.size w5 v5 la from by simpa using o5)
    have HK5 := Lib.hid (HK4.out.trans (HOa.out.grown ((Keep.refl w4).alloc _) (Nat.le_refl _) g5))
    have HP := Lib.hid (iprint v5 la w5 (Ls.of (HO5.out.row elI).cells) HSq.out (by rw [HNA.out]; omega))
    clear o5 g5 HAa HOa HK4
    have HQ := Lib.hid (fun (w : World) (h : Ls w (.slice a NA acap) la) => qprint8 _ la w h HSq.out (by rw [HNA.out]; omega))
    have HRd := Lib.hid (fun (s : List UInt8) (w : World) (hs : s.length ≤ 1000000) => iread s w hs)
    have HSm := Lib.hid (fun (u v : Value) (w : World) (hu : Ls w u la) (hv : Ls w v la) => qsameL u v la la w hu hv (by rw [HNA.out]; omega) (by rw [HNA.out]; omega))
    simp only [decide_true] at HSm
    have hPI : printI la = (if ∀ i ∈ la, rightI i then (if 200 < la.length then ([], 7) else (rowB la, 0)) else ([], 1)) := rfl
    by_cases hok : (printI la).2 = 0
    · obtain ⟨hall, hle, hrow⟩ : (∀ i ∈ la, rightI i) ∧ la.length ≤ 200 ∧ printI la = (rowB la, 0) := by
        rw [hPI] at hok ⊢
        split at hok
        · rename_i h1
          split at hok
          · simp at hok
          · rename_i h3
            rw [if_pos h1, if_neg h3]
            exact ⟨h1, by omega, rfl⟩
        · simp at hok
      have hrb := row_back hall HSq.out hle
      have hrl := rowB_len hall HSq.out hle
      have HRd1 := Lib.hid (fun (w : World) => iread_ok w (by omega) hrb)
      rw [hrow] at HP HQ
      generalize rowB la = RB at *
      clear hPI hok hall hle hrow hrb HRd
      go_wp2_with fail
      refine HP.out.mono ?_
      rintro e w6 ⟨rfl, k6⟩
      have HK6 := Lib.hid (HK5.out.trans k6)
      clear k6 HK5 HO5 HP
      go_wp2_with fail
      refine (HQ.out w6 (Ls.arg (HA.out.keep HK6.out) HNA.out)).mono ?_
      rintro e w7 ⟨rfl, k7⟩
      have HK7 := Lib.hid (HK6.out.trans k7)
      clear k7 HK6
      go_wp2_with fail
      refine (HRd1.out w7).mono ?_
      rintro e w8 ⟨vl, rfl, ol, k8⟩
      have HC8 := Lib.hid (ol.row elI).cells
      have HK8 := Lib.hid (HK7.out.trans k8)
      clear k8 ol HK7
      go_wp2_with fail
      refine (HSm.out vl _ w8 (Ls.of HC8.out) (Ls.arg (HA.out.keep HK8.out) HNA.out)).mono ?_
      rintro e w9 ⟨rfl, k9⟩
      go_wp2
      go_ret
      exact ⟨rfl, HK8.out.trans k9⟩
    · have hob : ((printI la).2 != 0) = true := by simpa using hok
      have hln : (printI la).1.length ≤ 1000000 := by
        rw [hPI] at hok ⊢
        split at hok
        · rename_i h1
          rw [if_pos h1]
          split at hok
          · rename_i h3
            rw [if_pos h3]
            simp
          · simp at hok
        · rename_i h1
          rw [if_neg h1]
          simp
      have HRd1 := Lib.hid (fun (w : World) => HRd.out (printI la).1 w hln)
      clear hPI hok hln HRd
      generalize printI la = PI at *
      obtain ⟨P1, P2⟩ := PI
      simp only at HP HQ hob HRd1
      go_wp2_with fail
      refine HP.out.mono ?_
      rintro e w6 ⟨rfl, k6⟩
      have HK6 := Lib.hid (HK5.out.trans k6)
      clear k6 HK5 HO5 HP
      go_wp2_with fail
      refine (HQ.out w6 (Ls.arg (HA.out.keep HK6.out) HNA.out)).mono ?_
      rintro e w7 ⟨rfl, k7⟩
      have HK7 := Lib.hid (HK6.out.trans k7)
      clear k7 HK6
      generalize readI P1 = RR at *
      cases RR with
      | error x =>
        go_wp2_with fail
        refine (HRd1.out w7).mono ?_
        rintro e w8 ⟨rfl, _, k8⟩
        have HK8 := Lib.hid (HK7.out.trans k8)
        clear k8 HK7
        go_wp2
        go_ret
        exact ⟨rfl, HK8.out⟩
      | ok ll =>
        go_wp2_with fail
        refine (HRd1.out w7).mono ?_
        rintro e w8 ⟨vl, rfl, ol, k8⟩
        have HK8 := Lib.hid (HK7.out.trans k8)
        clear k8 ol HK7
        go_wp2
        go_ret
        exact ⟨rfl, HK8.out⟩

open Go.ChangeShapes Go.WideShapes Go.ChangeAt
theorem own : ownKnob Tryz.prog.godebug = none := by kernel_rfl
theorem laidOut : laidOutB Tryz.prog = true := by kernel_rfl

set_option maxRecDepth 100000 in
theorem lifted (os : Os) (started : os.Started) (H : Type) (enc : TypeId × Value → H) :
    ReturnsInHanded {} Tryz.checked os 3 .any (Rows.incrPrintsSpec.pre6 enc Tryz.prog Tryz.f3 Rows.incrPrintsRow.domain false) (Rows.incrPrintsSpec.post enc Tryz.prog Tryz.f3 false true false false) := by
  refine returnsInHanded_of_change (C := Tryz.checked) own started (by kernel_rfl) Tryz.func3
    (ChangeSpec.witness6 (enc := enc) (C := Tryz.checked) false ⟨#[], #[.slice none 0 0], []⟩ 8 (by kernel_rfl) (by kernel_rfl) (by kernel_rfl) (by kernel_rfl)) ?_
  intro W base args ds gs before hval0 hW hcnd _
  have hval : ∀ (j : Nat) t v, Tryz.f3.params[j]? = some t → args[j]? = some v → Value.okWide Tryz.prog W .any base t v := hval0
  have hW' := hW
  obtain ⟨p, q, hA0, hV, rfl, hfz, hnd⟩ := hW
  have hA : DataW.TrodAll enc Tryz.prog W 0 (fun _ => true) true Tryz.f3.params.toList args.toList ds p := hA0

  rw [Tryz.params3] at hA hval
  obtain ⟨v0, vs0, d0, ds0, p0, q0, hargs, rfl, rfl, h0, r0⟩ := trodAll_cons hA
  obtain ⟨rfl, rfl, rfl⟩ := trodAll_nil r0
  obtain rfl : args = #[v0] := by cases args; simp_all
  obtain ⟨rfl, rfl⟩ := trodVars_none hV
  have k0 := h0
  have lt0 : ∀ x ∈ p0, x.block < W.heap.size := by obtain ⟨m, hm⟩ := k0; exact DataW.trod_lt m _ _ _ hm
  obtain ⟨a0, cap0, l0, rfl, f0, sq0⟩ := open_incsN (hval 0 22 v0 rfl rfl) h0
  clear hA0 hval0
  refine (walk a0 cap0 l0 W f0 sq0).mono fun e W' ⟨he, bel⟩ => ?_
  subst he
  exact ⟨_, rfl, _, _, _, [], _, [], hW', trodAll_mk1 (shut_bool Tryz.underlying4 _), (trodAll_cons_mk (Below.trod laidOut (by kernel_rfl) (of_decide_eq_true (by kernel_rfl)) k0 bel lt0) trodAll_mk0), rfl, bel.frame _, fun h => by cases h⟩

theorem over : Rows.incrPrintsRow.holds Tryz.pinned (OpenSpec.ofChange Rows.incrPrintsSpec) :=
  OpenClaim.holds_of_wide 3 Tryz.f3 rfl rfl rfl rfl rfl rfl rfl ⟨rfl, rfl, rfl, rfl, rfl⟩ rfl rfl rfl rfl rfl (by kernel_rfl) Tryz.func3 (by kernel_rfl)
    (of_decide_eq_true (by kernel_rfl)) (by unfold Func.isWrapper; first | (rw [if_pos (by decide +kernel)]; kernel_rfl) | (rw [if_neg (by decide +kernel)]; exact ⟨rfl, rfl⟩))
    (fun os started H enc _ => lifted os started H enc)
end Go.Proofs.YtgkgpdlakamgiaaGreat.LIncrPrints

namespace Go.Proofs.YtgkgpdlakamgiaaGreat
theorem incrPrints_holds : Rows.IncrPrintsSaid := LIncrPrints.over
#print axioms incrPrints_holds
end Go.Proofs.YtgkgpdlakamgiaaGreat

