/- Proved: IncrFolds: any changes are folded into a table as the document says, up to the first one that is refused; the table stays as it was. Condition: none of our own. -/
import Derived.Test.YtgkgpdlakamgiaaGreatJf
import Derived.SizedLaws
namespace Go.Proofs.YtgkgpdlakamgiaaGreat.LIncrFolds
open Go.RowKit

set_option maxRecDepth 100000 in
set_option maxHeartbeats 4000000 in
theorem walk (r : Option Addr) (rcap : Nat) (l : List Rt) (a : Option Addr) (acap : Nat) (la : List Ic) (w : World) (hR : ArgN rl w r rcap l) (_hq : ∀ x ∈ l, Sq x) (hA : ArgN il w a acap la) (_ha : ∀ i ∈ la, SqI i) :
    Calls Tryz.prog 5 #[.slice r l.length rcap, .slice a la.length acap] w fun e w' => e = .returned (.bool true) ∧ Keep w w' := by
  have HAw := Lib.hid awake
  have hs1 := hR.small
  have hs2 := hA.small
  have HR := Lib.hid hR
  have HA := Lib.hid hA
  obtain ⟨N, hN⟩ : ∃ N, l.length = N := ⟨_, rfl⟩
  obtain ⟨NA, hNA⟩ : ∃ N, la.length = N := ⟨_, rfl⟩
  have HN := Lib.hid hN
  have HNA := Lib.hid hNA
  rw [hN] at hs1
  rw [hNA] at hs2
  rw [hN, hNA]
  clear hR hA hN hNA
  unfold maxLen at hs1 hs2
  by_cases h1 : N > 300
  · have h1i : (N : Int) > 300 := by omega
    go_enter Tryz.func5, Tryz.ntmps5
    go_wp2_with fail
    refine (HAw.out _).mono ?_
    rintro e w1 ⟨rfl, k1⟩
    have HK1 := Lib.hid k1
    clear k1
    go_wp2_with fail
    refine (HAw.out _).mono ?_
    rintro e w2 ⟨rfl, k2⟩
    go_wp2
    go_ret
    exact ⟨rfl, HK1.out.trans k2⟩
  · have h1i : ¬ (N : Int) > 300 := by omega
    by_cases h2 : NA > 200
    · have h2i : (NA : Int) > 200 := by omega
      go_enter Tryz.func5, Tryz.ntmps5
      go_wp2_with fail
      refine (HAw.out _).mono ?_
      rintro e w1 ⟨rfl, k1⟩
      have HK1 := Lib.hid k1
      clear k1
      go_wp2_with fail
      refine (HAw.out _).mono ?_
      rintro e w2 ⟨rfl, k2⟩
      go_wp2
      go_ret
      exact ⟨rfl, HK1.out.trans k2⟩
    · have h2i : ¬ (NA : Int) > 200 := by omega
      have HSL := Lib.hid slice_no
      have HSI := Lib.hid slice_noI
      go_enter Tryz.func5, Tryz.ntmps5
      go_wp2_with fail
      refine (HAw.out _).mono ?_
      rintro e w1 ⟨rfl, k1⟩
      have HK1 := Lib.hid k1
      have HA1 := Lib.hid ((HR.out.keep k1).keep ((Keep.refl w1).alloc (.cells #[] 57)))
      have HO1 := Lib.hid (Own.made (t := 57) (k := 20) (enc := rl) w1.heap.size w1 (Nat.le_refl _))
      clear k1
      go_wp2_with (first | ((with_reducible refine at_slice [] ?_ (.slice (some ⟨w1.heap.size, 0, none⟩) 0 0) (HSL.out w1) ?_); rfl) | (at_builtin; refine wp_appN elR rfl _ _ rfl w1.heap.size _ r N rcap [] l rfl HN.out rfl HO1.out HA1.out ?q1 ?q2 ?q3 ?_))
      case q1 => rw [HN.out]; simp; omega
      case q2 => rw [HN.out]; simp; omega
      case q3 => simp
      intro v2 w2 o2 g2
      have HK2 := Lib.hid (HK1.out.trans (HO1.out.grown ((Keep.refl w1).alloc _) (Nat.le_refl _) g2))
      have HNw := Lib.hid (new v2 l w2 (o2.row elR).cells (by rw [HN.out]; omega))
      clear o2 g2 HA1 HO1
      go_wp2_with fail
      refine HNw.out.mono ?_
      rintro e w3 ⟨p, rfl, k3, ⟨h0, rfl⟩ | ⟨h0, bt, t, rfl, _, _, htb⟩⟩
      · have h0b : (newE l != 0) = true := by simpa using h0
        have HK3 := Lib.hid (HK2.out.trans k3)
        clear k3
        go_wp2
        go_ret
        exact ⟨rfl, HK3.out⟩
      · have HK3 := Lib.hid (HK2.out.trans k3)
        have HT3 := Lib.hid htb
        have HAl := Lib.hid (all (.pointer (some ⟨bt, 0, none⟩)) t w3 (.inr ⟨bt, rfl, htb⟩))
        have hfew := htb.few
        have HSt := Lib.hid htb.sorted
        rw [h0]
        clear k3 htb HK2 HNw
        go_wp2_with fail
        refine HAl.out.mono ?_
        rintro e w4 ⟨vw, rfl, o4, k4⟩
        have HW4 := Lib.hid (o4.row elR)
        have HT4 := Lib.hid (HT3.out.keep k4)
        have HK4 := Lib.hid (HK3.out.trans k4)
        have HAa := Lib.hid ((HA.out.keep HK4.out).keep ((Keep.refl w4).alloc (.cells #[] 59)))
        have HOa := Lib.hid (Own.made (t := 59) (k := 21) (enc := il) w4.heap.size w4 (Nat.le_refl _))
        clear o4 k4 HT3 HK3 HAl
        go_wp2_with (first | ((with_reducible refine at_slice [] ?_ (.slice (some ⟨w4.heap.size, 0, none⟩) 0 0) (HSI.out w4) ?_); rfl) | (at_builtin; refine wp_appN elI rfl _ _ rfl w4.heap.size _ a NA acap [] la rfl HNA.out rfl HOa.out HAa.out ?s1 ?s2 ?s3 ?_))
        case s1 => rw [HNA.out]; simp; omega
        case s2 => rw [HNA.out]; simp; omega
        case s3 => simp
        intro v5 w5 o5 g5
        have HO5 := Lib.hid (show Own 59 21 il w4.heap.size w5 v5 la from by simpa using o5)
        have HKg := Lib.hid (HOa.out.grown ((Keep.refl w4).alloc _) (Nat.le_refl _) g5)
        have HT5 := Lib.hid (HT4.out.keep HKg.out)
        have HW5 := Lib.hid (HW4.out.keep HKg.out)
        have HK5 := Lib.hid (HK4.out.trans HKg.out)
        have HF := Lib.hid (ifold bt t v5 la w5 HT5.out (Ls.of (HO5.out.row elI).cells) (by rw [HNA.out]; omega))
        clear o5 g5 HAa HOa HKg HT4 HW4 HK4
        unfold FoPost at HF
        rw [HNA.out] at HF
        go_wp2_with fail
        refine HF.out.mono ?_
        rintro e w6 ⟨k6, hres⟩
        have HT6 := Lib.hid (HT5.out.keep k6)
        have HW6 := Lib.hid (HW5.out.keep k6)
        have HK6 := Lib.hid (HK5.out.trans k6)
        have HQ := Lib.hid (qfold vw t _ la w6 HW6.out HSt.out hfew (Ls.arg (HA.out.keep HK6.out) HNA.out) (by rw [HNA.out]; omega))
        unfold QfPost at HQ
        rw [HNA.out] at HQ
        clear k6 HT5 HW5 HK5 HO5 HF
        have HAl := Lib.hid (fun (b : Nat) (m : List Rt) (w : World) (h : Tb w b m) => all (.pointer (some ⟨b, 0, none⟩)) m w (.inr ⟨b, rfl, h⟩))
        have HSm := Lib.hid (fun (u v : Value) (m : List Rt) (w : World) (hu : Cells rl w u m) (hv : Cells rl w v m) (hm : m.length ≤ 300) => qsame u v m m w hu hv (by omega) (by omega))
        simp only [decide_true] at HSm
        generalize foldS t la 0 = F at *
        rcases hres with ⟨hf0, c, rfl, _, htc⟩ | ⟨hf0, rfl⟩
        · have HC6 := Lib.hid htc
          have hfc := htc.few
          clear htc
          go_wp2_with fail
          refine HQ.out.mono ?_
          rintro e w7 ⟨k7, ⟨_, qv, rfl, hqv⟩ | ⟨hbad, _⟩⟩
          rotate_left
          · exact absurd hf0 hbad
          have HT7 := Lib.hid (HT6.out.keep k7)
          have HW7 := Lib.hid (HW6.out.keep k7)
          have HC7 := Lib.hid (HC6.out.keep k7)
          have HQ7 := Lib.hid hqv
          have HK7 := Lib.hid (HK6.out.trans k7)
          clear k7 hqv HT6 HW6 HC6 HK6 HQ hf0
          go_wp2_with fail
          refine (HAl.out c _ w7 HC7.out).mono ?_
          rintro e w8 ⟨v8, rfl, o8, k8⟩
          have HT8 := Lib.hid (HT7.out.keep k8)
          have HW8 := Lib.hid (HW7.out.keep k8)
          have HQ8 := Lib.hid (HQ7.out.keep k8)
          have HO8 := Lib.hid (o8.row elR)
          have HK8 := Lib.hid (HK7.out.trans k8)
          clear k8 o8 HT7 HW7 HC7 HQ7 HK7
          go_wp2_with fail
          refine (HSm.out v8 qv _ w8 HO8.out.cells HQ8.out.cells hfc).mono ?_
          rintro e w9 ⟨rfl, k9⟩
          have HT9 := Lib.hid (HT8.out.keep k9)
          have HW9 := Lib.hid (HW8.out.keep k9)
          have HK9 := Lib.hid (HK8.out.trans k9)
          clear k9 HT8 HW8 HQ8 HO8 HK8
          go_wp2_with fail
          refine (HAl.out bt t w9 HT9.out).mono ?_
          rintro e wa ⟨va, rfl, oa, ka⟩
          have HWa := Lib.hid (HW9.out.keep ka)
          have HOa := Lib.hid (oa.row elR)
          have HKa := Lib.hid (HK9.out.trans ka)
          clear ka oa HT9 HW9 HK9
          go_wp2_with fail
          refine (HSm.out va vw t wa HOa.out.cells HWa.out.cells hfew).mono ?_
          rintro e wb ⟨rfl, kb⟩
          go_wp2
          go_ret
          exact ⟨rfl, HKa.out.trans kb⟩
        · have hxb : (F.2.2 == 0) = false := by simpa using hf0
          go_wp2_with fail
          refine HQ.out.mono ?_
          rintro e w7 ⟨k7, ⟨hbad, _⟩ | ⟨_, rfl⟩⟩
          · exact absurd hbad hf0
          have HT7 := Lib.hid (HT6.out.keep k7)
          have HW7 := Lib.hid (HW6.out.keep k7)
          have HK7 := Lib.hid (HK6.out.trans k7)
          clear k7 HT6 HW6 HK6 HQ hf0
          generalize F.2.1 = m1 at *
          generalize F.2.2 = x1 at *
          go_wp2_with fail
          refine (HAl.out bt t w7 HT7.out).mono ?_
          rintro e wa ⟨va, rfl, oa, ka⟩
          have HWa := Lib.hid (HW7.out.keep ka)
          have HOa := Lib.hid (oa.row elR)
          have HKa := Lib.hid (HK7.out.trans ka)
          clear ka oa HT7 HW7 HK7
          go_wp2_with fail
          refine (HSm.out va vw t wa HOa.out.cells HWa.out.cells hfew).mono ?_
          rintro e wb ⟨rfl, kb⟩
          go_wp2
          go_ret
          exact ⟨rfl, HKa.out.trans kb⟩

open Go.ChangeShapes Go.WideShapes Go.ChangeAt
theorem own : ownKnob Tryz.prog.godebug = none := by kernel_rfl
theorem laidOut : laidOutB Tryz.prog = true := by kernel_rfl

set_option maxRecDepth 100000 in
theorem lifted (os : Os) (started : os.Started) (H : Type) (enc : TypeId × Value → H) :
    ReturnsInHanded {} Tryz.checked os 5 .any (Rows.incrFoldsSpec.pre6 enc Tryz.prog Tryz.f5 Rows.incrFoldsRow.domain false) (Rows.incrFoldsSpec.post enc Tryz.prog Tryz.f5 false true false false) := by
  refine returnsInHanded_of_change (C := Tryz.checked) own started (by kernel_rfl) Tryz.func5
    (ChangeSpec.witness6 (enc := enc) (C := Tryz.checked) false ⟨#[], #[.slice none 0 0, .slice none 0 0], []⟩ 8 (by kernel_rfl) (by kernel_rfl) (by kernel_rfl) (by kernel_rfl)) ?_
  intro W base args ds gs before hval0 hW hcnd _
  have hval : ∀ (j : Nat) t v, Tryz.f5.params[j]? = some t → args[j]? = some v → Value.okWide Tryz.prog W .any base t v := hval0
  have hW' := hW
  obtain ⟨p, q, hA0, hV, rfl, hfz, hnd⟩ := hW
  have hA : DataW.TrodAll enc Tryz.prog W 0 (fun _ => true) true Tryz.f5.params.toList args.toList ds p := hA0

  rw [Tryz.params5] at hA hval
  obtain ⟨v0, vs0, d0, ds0, p0, q0, hargs, rfl, rfl, h0, r0⟩ := trodAll_cons hA
  obtain ⟨v1, vs1, d1, ds1, p1, q1, rfl, rfl, rfl, h1, r1⟩ := trodAll_cons r0
  obtain ⟨rfl, rfl, rfl⟩ := trodAll_nil r1
  obtain rfl : args = #[v0, v1] := by cases args; simp_all
  obtain ⟨rfl, rfl⟩ := trodVars_none hV
  have k0 := h0
  have lt0 : ∀ x ∈ p0, x.block < W.heap.size := by obtain ⟨m, hm⟩ := k0; exact DataW.trod_lt m _ _ _ hm
  have k1 := h1
  have lt1 : ∀ x ∈ p1, x.block < W.heap.size := by obtain ⟨m, hm⟩ := k1; exact DataW.trod_lt m _ _ _ hm
  obtain ⟨a0, cap0, l0, rfl, f0, sq0⟩ := open_routesN (hval 0 36 v0 rfl rfl) h0
  obtain ⟨a1, cap1, l1, rfl, f1, sq1⟩ := open_incsN (hval 1 22 v1 rfl rfl) h1
  clear hA0 hval0
  refine (walk a0 cap0 l0 a1 cap1 l1 W f0 sq0 f1 sq1).mono fun e W' ⟨he, bel⟩ => ?_
  subst he
  exact ⟨_, rfl, _, _, _, [], _, [], hW', trodAll_mk1 (shut_bool Tryz.underlying4 _), (trodAll_cons_mk (Below.trod laidOut (by kernel_rfl) (of_decide_eq_true (by kernel_rfl)) k0 bel lt0) (trodAll_cons_mk (Below.trod laidOut (by kernel_rfl) (of_decide_eq_true (by kernel_rfl)) k1 bel lt1) trodAll_mk0)), rfl, bel.frame _, fun h => by cases h⟩

theorem over : Rows.incrFoldsRow.holds Tryz.pinned (OpenSpec.ofChange Rows.incrFoldsSpec) :=
  OpenClaim.holds_of_wide 5 Tryz.f5 rfl rfl rfl rfl rfl rfl rfl ⟨rfl, rfl, rfl, rfl, rfl⟩ rfl rfl rfl rfl rfl (by kernel_rfl) Tryz.func5 (by kernel_rfl)
    (of_decide_eq_true (by kernel_rfl)) (by unfold Func.isWrapper; first | (rw [if_pos (by decide +kernel)]; kernel_rfl) | (rw [if_neg (by decide +kernel)]; exact ⟨rfl, rfl⟩))
    (fun os started H enc _ => lifted os started H enc)
end Go.Proofs.YtgkgpdlakamgiaaGreat.LIncrFolds

namespace Go.Proofs.YtgkgpdlakamgiaaGreat
theorem incrFolds_holds : Rows.IncrFoldsSaid := LIncrFolds.over
#print axioms incrFolds_holds
end Go.Proofs.YtgkgpdlakamgiaaGreat

