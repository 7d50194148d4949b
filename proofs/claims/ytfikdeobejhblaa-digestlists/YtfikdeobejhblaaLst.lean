/- Proved: DigestLists: which ranges of any two lists differ is the document's; a list that isn't of 17 is no digest. Condition: none of our own. -/
import Derived.Test.YtfikdeobejhblaaOi
import Derived.Test.YtfikdeobejhblaaOj
import Derived.Test.YtfikdeobejhblaaDh
import Derived.Test.YtfikdeobejhblaaDi
import Derived.Test.YtfikdeobejhblaaDf
import Derived.Deep.RegionHeldLaw
import Derived.SizedLaws
namespace Go.Proofs.Ytfikdeobejhblaa.LDigestLists
open Go.RowKit

theorem more_kept {L : List Dg} {k : Int} {b : Nat} {m mw : Int} (h : L.length ≠ 17 ∨ k < 1 ∨ 3 < k) : moreD L k b m mw = L := by
  unfold moreD
  by_cases h1 : L.length ≠ 17
  · rw [if_pos h1]
  · rw [if_neg h1, if_neg (by omega), if_neg (by omega), if_neg (by omega)]
set_option maxRecDepth 100000 in
set_option maxHeartbeats 4000000 in
theorem walk (a : Option Addr) (acap : Nat) (la : List Dg) (b : Option Addr) (bcap : Nat) (lb : List Dg) (i : Ic) (w : World) (hA : ArgN dl w a acap la) (_ha : ∀ d ∈ la, SqD d) (hB : ArgN dl w b bcap lb) (_hb : ∀ d ∈ lb, SqD d) (_hi : SqI i) :
    Calls Try.prog 7 #[.slice a la.length acap, .slice b lb.length bcap, .agg (ic i)] w fun e w' => e = .returned (.bool true) ∧ Keep w w' := by
  have HAw := Lib.hid awake
  have hs1 := hA.small
  have hs2 := hB.small
  have HA := Lib.hid hA
  have HB := Lib.hid hB
  obtain ⟨NA, hNA⟩ : ∃ N, la.length = N := ⟨_, rfl⟩
  obtain ⟨NB, hNB⟩ : ∃ N, lb.length = N := ⟨_, rfl⟩
  have HNA := Lib.hid hNA
  have HNB := Lib.hid hNB
  rw [hNA] at hs1
  rw [hNB] at hs2
  rw [hNA, hNB]
  clear hA hB hNA hNB
  unfold maxLen at hs1 hs2
  have hII := IAt.new w i
  have HKI := Lib.hid (show Keep w (w.alloc (.cells (ic i) 52)) from (Keep.refl w).alloc _)
  by_cases h1 : NA > 40
  · have h1i : (NA : Int) > 40 := by omega
    clear hII
    generalize ic i = I at *
    go_enter Try.func7, Try.ntmps7
    go_wp2_with fail
    refine (HAw.out _).mono ?_
    rintro e w1 ⟨rfl, k1⟩
    have HK1 := Lib.hid k1
    clear k1
    go_wp2_with fail
    refine (HAw.out _).mono ?_
    rintro e w2 ⟨rfl, k2⟩
    go_wp2
    go_ret
    exact ⟨rfl, HKI.out.trans (HK1.out.trans k2)⟩
  · have h1i : ¬ (NA : Int) > 40 := by omega
    by_cases h2 : NB > 40
    · have h2i : (NB : Int) > 40 := by omega
      clear hII
      generalize ic i = I at *
      go_enter Try.func7, Try.ntmps7
      go_wp2_with fail
      refine (HAw.out _).mono ?_
      rintro e w1 ⟨rfl, k1⟩
      have HK1 := Lib.hid k1
      clear k1
      go_wp2_with fail
      refine (HAw.out _).mono ?_
      rintro e w2 ⟨rfl, k2⟩
      go_wp2
      go_ret
      exact ⟨rfl, HKI.out.trans (HK1.out.trans k2)⟩
    · have h2i : ¬ (NB : Int) > 40 := by omega
      obtain ⟨n, hn⟩ : ∃ n, n = 21 := ⟨21, rfl⟩
      have hsz : ∀ w, (Go.sizeOf 52).run Try.prog w = .ok n w := fun w => by rw [hn]; exact Try.sizeOf52 w
      have hn0 : ¬ n = 0 := by omega
      obtain ⟨n2, hn2⟩ : ∃ n, n = 20 := ⟨20, rfl⟩
      have hsz2 : ∀ w, (Go.sizeOf 37).run Try.prog w = .ok n2 w := fun w => by rw [hn2]; exact Try.sizeOf37 w
      have hn20 : ¬ n2 = 0 := by omega
      have HSk := Lib.hid (fun (w' : World) (q : IAt w' w.heap.size i) => (show (loadCellsFrom ⟨w.heap.size, 0, none⟩ 0 n #[]).run Try.prog w' = .ok (ic i) w' ∧ (loadCellsFrom ⟨w.heap.size, 1, none⟩ 0 n2 #[]).run Try.prog w' = .ok (rc i.route) w' ∧ w'.cell? ⟨w.heap.size, 0, none⟩ = some (.int .i64 i.kind) from ⟨q.whole hn, q.route hn2, q.kind⟩))
      have HII := Lib.hid hII
      have HMo := Lib.hid (fun (v : Value) (w : World) (h : Lg dl w v la) => dmore v la i i.route w h (by rw [HNA.out]; omega))
      have HMK := Lib.hid (fun h => more_kept (L := la) (k := i.kind) (b := bkt i.route.to) (m := markOf i.route) (mw := markOf i.route) h)
      have HML := Lib.hid (moreD_len la i.kind (bkt i.route.to) (markOf i.route) (markOf i.route))
      obtain ⟨R, hR⟩ : ∃ R, moreD la i.kind (bkt i.route.to) (markOf i.route) (markOf i.route) = R := ⟨_, rfl⟩
      simp only [hR] at HMo HMK HML
      have HSN := Lib.hid slice_noD
      clear hII hn hn2 hR
      go_enter Try.func7, Try.ntmps7
      go_wp2_with fail
      generalize ic i = I at *
      generalize rc i.route = RO at *
      refine (HAw.out _).mono ?_
      rintro e w1 ⟨rfl, k1⟩
      have HI1 := Lib.hid (show IAt w1 w.heap.size i from HII.out.keep k1)
      have HK1 := Lib.hid (HKI.out.trans k1)
      clear k1
      go_wp2
      have hal : Keep w1 (w1.alloc (.cells #[] 68)).drew := ((Keep.refl _).alloc _).drew
      have HOW := Lib.hid ((Own.made (t := 68) (k := 2) (enc := dl) w1.heap.size w1 (Nat.le_refl _)).keep (Keep.refl _).drew)
      have HAR := Lib.hid (HA.out.keep (HK1.out.trans hal))
      have Q1 := Lib.hid (show (([] : List Dg).length + la.length) * 16 ≤ 140737488355328 by rw [HNA.out]; simp; omega)
      have Q2 := Lib.hid (show ([] : List Dg).length + la.length ≤ 1000000 by rw [HNA.out]; simp; omega)
      have Q3 := Lib.hid (show w1.heap.size ≤ (w1.alloc (.cells #[] 68)).drew.heap.size from hal.size)
      have HKA := Lib.hid (show Keep w (w1.alloc (.cells #[] 68)).drew from HK1.out.trans hal)
      have hq : IAt w1.drew w.heap.size i := HI1.out.keep (Keep.refl w1).drew
      have HQA := Lib.hid (show IAt (w1.alloc (.cells #[] 68)).drew w.heap.size i from HI1.out.keep hal)
      have HGR := Lib.hid hal
      clear hal
      go_region_held_law (fun w' => (loadCellsFrom ⟨w.heap.size, 0, none⟩ 0 n #[]).run Try.prog w' = .ok I w' ∧ (loadCellsFrom ⟨w.heap.size, 1, none⟩ 0 n2 #[]).run Try.prog w' = .ok RO w' ∧ w'.cell? ⟨w.heap.size, 0, none⟩ = some (.int .i64 i.kind)) (first | exact HSk.out _ hq | exact HSk.out _ HQA.out) (first | (refine step_appN elD (by rfl) _ _ (by rfl) w1.heap.size _ _ NA _ [] la (by rfl) HNA.out (by rfl) HOW.out HAR.out Q1.out Q2.out Q3.out ?_; intro v7 w7 o7 g7; have k7 := Own.grown HOW.out HGR.out (Nat.le_refl _) g7; replace hq := HI1.out.keep k7) | (go_at_call 27; refine (HMo.out v7 w7 (Lg.of (o7.row elD).cells)).mono ?_; rintro e w8 ⟨v8, rfl, k8, c8⟩; replace hq := hq.keep k8))
      have HV8 := Lib.hid (show Cells dl w8 v8 R from by
        rcases c8 with ⟨e1, e2⟩ | ⟨g, cg, _, og⟩
        · rw [e1, e2]
          exact (o7.row elD).cells.keep k8
        · exact (og.row elD).cells)
      have HK8 := Lib.hid (show Keep w w8 from (HK1.out.trans k7).trans k8)
      obtain ⟨_, _, e8⟩ := HSk.out w8 hq
      have HLR := Lib.hid (show R.length = NA from by rw [HML.out, HNA.out])
      obtain ⟨a8, c8', e9, _, _⟩ := HV8.out.form
      rw [HLR.out] at e9
      subst e9
      have HRN := Lib.hid (drepl_nil 0 (.slice none 0 0))
      have HDf := Lib.hid (fun (w' : World) (k : Keep w w') => ddiffer (.slice a NA acap) (.slice b NB bcap) la lb w' (Lg.arg (HA.out.keep k) HNA.out) (Lg.arg (HB.out.keep k) HNB.out) (by rw [HNA.out]; omega) (by rw [HNB.out]; omega))
      have HLa := Lib.hid (fun (w' : World) (k : Keep w w') => like9 (.slice a NA acap) la w' (Lg.arg (HA.out.keep k) HNA.out) (by rw [HNA.out]; omega))
      have HLb := Lib.hid (fun (w' : World) (k : Keep w w') => like9 (.slice b NB bcap) lb w' (Lg.arg (HB.out.keep k) HNB.out) (by rw [HNB.out]; omega))
      have HQf := Lib.hid (fun (u v : Value) (w' : World) (hu : Cells dl w' u la) (hv : Cells dl w' v lb) => qdiffer u v la lb w' (Lg.of hu) (Lg.of hv) (by rw [HNA.out]; omega) (by rw [HNB.out]; omega))
      have HIn := Lib.hid (fun (u v : Value) (w' : World) (hu : Cells nl w' u (diffD la lb)) (hv : Cells nl w' v (diffD la lb)) => ints9 u v (diffD la lb) (diffD la lb) w' (Lg.of hu) (Lg.of hv) (by have := range_len la lb 17; unfold diffD; omega) (by have := range_len la lb 17; unfold diffD; omega))
      rw [show decide (diffD la lb = diffD la lb) = true from decide_eq_true rfl] at HIn
      have HPN := Lib.hid (fun w' => dpart (.pointer none) [] 0 w' (.inl ⟨rfl, rfl⟩))
      clear c8 k8 hq k7 o7 g7
      by_cases c1 : NA = 17
      · have c1i : ((NA : Int) != 17) = false := by simp [c1]
        clear c1
        by_cases c2 : i.kind < 1
        · have HRE := Lib.hid (HMK.out (.inr (.inl c2)))
          have HS9 := Lib.hid (fun (u v : Value) (w' : World) (hu : Cells dl w' u R) (hv : Cells dl w' v la) => same9 u v R la w' (Lg.of hu) (Lg.of hv) (by rw [HLR.out]; omega) (by rw [HNA.out]; omega))
          rw [show decide (R = la) = true from decide_eq_true HRE.out] at HS9
          generalize i.kind = kd at *
          go_wp2_with fail
          refine (HRN.out w8).mono ?_
          rintro e w9 ⟨rfl, k9⟩
          have HK9 := Lib.hid (HK8.out.trans k9)
          have HV9 := Lib.hid (HV8.out.keep k9)
          clear k9 HK8 HV8 e8
          go_wp2_with fail
          refine (HDf.out w9 HK9.out).mono ?_
          rintro e wa ⟨va, rfl, oa, ka⟩
          have HKa := Lib.hid (HK9.out.trans ka)
          have HVa := Lib.hid (HV9.out.keep ka)
          have HDa := Lib.hid (oa.row elN).cells
          clear oa ka HK9 HV9
          go_wp2_with fail
          refine (HLa.out wa HKa.out).mono ?_
          rintro e wb ⟨vb, rfl, ob, kb⟩
          have HKb := Lib.hid (HKa.out.trans kb)
          have HVb := Lib.hid (HVa.out.keep kb)
          have HDb := Lib.hid (HDa.out.keep kb)
          have HXb := Lib.hid (ob.row elQ).cells
          clear ob kb HKa HVa HDa
          go_wp2_with fail
          refine (HLb.out wb HKb.out).mono ?_
          rintro e wc ⟨vc, rfl, oc, kc⟩
          have HKc := Lib.hid (HKb.out.trans kc)
          have HVc := Lib.hid (HVb.out.keep kc)
          have HDc := Lib.hid (HDb.out.keep kc)
          have HXc := Lib.hid (HXb.out.keep kc)
          have HYc := Lib.hid (oc.row elQ).cells
          clear oc kc HKb HVb HDb HXb
          go_wp2_with fail
          refine (HQf.out vb vc wc HXc.out HYc.out).mono ?_
          rintro e wd ⟨vd, rfl, od, kd⟩
          have HKd := Lib.hid (HKc.out.trans kd)
          have HVd := Lib.hid (HVc.out.keep kd)
          have HDd := Lib.hid (HDc.out.keep kd)
          have HEd := Lib.hid (od.row elN).cells
          clear od kd HKc HVc HDc HXc HYc
          go_wp2_with fail
          refine (HIn.out va vd wd HDd.out HEd.out).mono ?_
          rintro e we ⟨rfl, ke⟩
          have HKe := Lib.hid (HKd.out.trans ke)
          have HVe := Lib.hid (HVd.out.keep ke)
          clear ke HKd HVd HDd HEd
          go_wp2_with fail
          refine (HLa.out we HKe.out).mono ?_
          rintro e wf1 ⟨vf, rfl, off, kf⟩
          go_wp2_with fail
          refine (HS9.out _ vf wf1 (HVe.out.keep kf) (off.row elQ).cells).mono ?_
          rintro e wf ⟨rfl, kf2⟩
          have HKf := Lib.hid (HKe.out.trans (kf.trans kf2))
          clear off kf kf2 HKe HVe
          go_wp2_with fail
          refine (HPN.out _).mono ?_
          rintro e wg ⟨vg, rfl, rg, kg⟩
          obtain ⟨ag, cg, eg, _, _⟩ := rg.cells.form
          rw [show (partB ([] : List Rt) 0).length = 0 from rfl] at eg
          subst eg
          have HKg := Lib.hid (HKf.out.trans kg)
          clear rg kg HKf
          go_wp2
          go_ret
          exact ⟨rfl, HKg.out⟩
        · by_cases c3 : i.kind > 3
          · have HRE := Lib.hid (HMK.out (.inr (.inr c3)))
            have HS9 := Lib.hid (fun (u v : Value) (w' : World) (hu : Cells dl w' u R) (hv : Cells dl w' v la) => same9 u v R la w' (Lg.of hu) (Lg.of hv) (by rw [HLR.out]; omega) (by rw [HNA.out]; omega))
            rw [show decide (R = la) = true from decide_eq_true HRE.out] at HS9
            generalize i.kind = kd at *
            go_wp2_with fail
            refine (HRN.out w8).mono ?_
            rintro e w9 ⟨rfl, k9⟩
            have HK9 := Lib.hid (HK8.out.trans k9)
            have HV9 := Lib.hid (HV8.out.keep k9)
            clear k9 HK8 HV8 e8
            go_wp2_with fail
            refine (HDf.out w9 HK9.out).mono ?_
            rintro e wa ⟨va, rfl, oa, ka⟩
            have HKa := Lib.hid (HK9.out.trans ka)
            have HVa := Lib.hid (HV9.out.keep ka)
            have HDa := Lib.hid (oa.row elN).cells
            clear oa ka HK9 HV9
            go_wp2_with fail
            refine (HLa.out wa HKa.out).mono ?_
            rintro e wb ⟨vb, rfl, ob, kb⟩
            have HKb := Lib.hid (HKa.out.trans kb)
            have HVb := Lib.hid (HVa.out.keep kb)
            have HDb := Lib.hid (HDa.out.keep kb)
            have HXb := Lib.hid (ob.row elQ).cells
            clear ob kb HKa HVa HDa
            go_wp2_with fail
            refine (HLb.out wb HKb.out).mono ?_
            rintro e wc ⟨vc, rfl, oc, kc⟩
            have HKc := Lib.hid (HKb.out.trans kc)
            have HVc := Lib.hid (HVb.out.keep kc)
            have HDc := Lib.hid (HDb.out.keep kc)
            have HXc := Lib.hid (HXb.out.keep kc)
            have HYc := Lib.hid (oc.row elQ).cells
            clear oc kc HKb HVb HDb HXb
            go_wp2_with fail
            refine (HQf.out vb vc wc HXc.out HYc.out).mono ?_
            rintro e wd ⟨vd, rfl, od, kd⟩
            have HKd := Lib.hid (HKc.out.trans kd)
            have HVd := Lib.hid (HVc.out.keep kd)
            have HDd := Lib.hid (HDc.out.keep kd)
            have HEd := Lib.hid (od.row elN).cells
            clear od kd HKc HVc HDc HXc HYc
            go_wp2_with fail
            refine (HIn.out va vd wd HDd.out HEd.out).mono ?_
            rintro e we ⟨rfl, ke⟩
            have HKe := Lib.hid (HKd.out.trans ke)
            have HVe := Lib.hid (HVd.out.keep ke)
            clear ke HKd HVd HDd HEd
            go_wp2_with fail
            refine (HLa.out we HKe.out).mono ?_
            rintro e wf1 ⟨vf, rfl, off, kf⟩
            go_wp2_with fail
            refine (HS9.out _ vf wf1 (HVe.out.keep kf) (off.row elQ).cells).mono ?_
            rintro e wf ⟨rfl, kf2⟩
            have HKf := Lib.hid (HKe.out.trans (kf.trans kf2))
            clear off kf kf2 HKe HVe
            go_wp2_with fail
            refine (HPN.out _).mono ?_
            rintro e wg ⟨vg, rfl, rg, kg⟩
            obtain ⟨ag, cg, eg, _, _⟩ := rg.cells.form
            rw [show (partB ([] : List Rt) 0).length = 0 from rfl] at eg
            subst eg
            have HKg := Lib.hid (HKf.out.trans kg)
            clear rg kg HKf
            go_wp2
            go_ret
            exact ⟨rfl, HKg.out⟩
          · generalize i.kind = kd at *
            go_wp2_with fail
            refine (HRN.out w8).mono ?_
            rintro e w9 ⟨rfl, k9⟩
            have HK9 := Lib.hid (HK8.out.trans k9)
            have HV9 := Lib.hid (HV8.out.keep k9)
            clear k9 HK8 HV8 e8
            go_wp2_with fail
            refine (HDf.out w9 HK9.out).mono ?_
            rintro e wa ⟨va, rfl, oa, ka⟩
            have HKa := Lib.hid (HK9.out.trans ka)
            have HVa := Lib.hid (HV9.out.keep ka)
            have HDa := Lib.hid (oa.row elN).cells
            clear oa ka HK9 HV9
            go_wp2_with fail
            refine (HLa.out wa HKa.out).mono ?_
            rintro e wb ⟨vb, rfl, ob, kb⟩
            have HKb := Lib.hid (HKa.out.trans kb)
            have HVb := Lib.hid (HVa.out.keep kb)
            have HDb := Lib.hid (HDa.out.keep kb)
            have HXb := Lib.hid (ob.row elQ).cells
            clear ob kb HKa HVa HDa
            go_wp2_with fail
            refine (HLb.out wb HKb.out).mono ?_
            rintro e wc ⟨vc, rfl, oc, kc⟩
            have HKc := Lib.hid (HKb.out.trans kc)
            have HVc := Lib.hid (HVb.out.keep kc)
            have HDc := Lib.hid (HDb.out.keep kc)
            have HXc := Lib.hid (HXb.out.keep kc)
            have HYc := Lib.hid (oc.row elQ).cells
            clear oc kc HKb HVb HDb HXb
            go_wp2_with fail
            refine (HQf.out vb vc wc HXc.out HYc.out).mono ?_
            rintro e wd ⟨vd, rfl, od, kd⟩
            have HKd := Lib.hid (HKc.out.trans kd)
            have HVd := Lib.hid (HVc.out.keep kd)
            have HDd := Lib.hid (HDc.out.keep kd)
            have HEd := Lib.hid (od.row elN).cells
            clear od kd HKc HVc HDc HXc HYc
            go_wp2_with fail
            refine (HIn.out va vd wd HDd.out HEd.out).mono ?_
            rintro e we ⟨rfl, ke⟩
            have HKe := Lib.hid (HKd.out.trans ke)
            have HVe := Lib.hid (HVd.out.keep ke)
            clear ke HKd HVd HDd HEd
            go_wp2_with fail
            refine (HPN.out _).mono ?_
            rintro e wg ⟨vg, rfl, rg, kg⟩
            obtain ⟨ag, cg, eg, _, _⟩ := rg.cells.form
            rw [show (partB ([] : List Rt) 0).length = 0 from rfl] at eg
            subst eg
            have HKg := Lib.hid (HKe.out.trans kg)
            clear rg kg HKe
            go_wp2
            go_ret
            exact ⟨rfl, HKg.out⟩
      · have c1i : ((NA : Int) != 17) = true := by simp; omega
        have HRE := Lib.hid (HMK.out (.inl (by rw [HNA.out]; exact c1)))
        clear c1
        have HS9 := Lib.hid (fun (u v : Value) (w' : World) (hu : Cells dl w' u R) (hv : Cells dl w' v la) => same9 u v R la w' (Lg.of hu) (Lg.of hv) (by rw [HLR.out]; omega) (by rw [HNA.out]; omega))
        rw [show decide (R = la) = true from decide_eq_true HRE.out] at HS9
        generalize i.kind = kd at *
        go_wp2_with fail
        refine (HRN.out w8).mono ?_
        rintro e w9 ⟨rfl, k9⟩
        have HK9 := Lib.hid (HK8.out.trans k9)
        have HV9 := Lib.hid (HV8.out.keep k9)
        clear k9 HK8 HV8 e8
        go_wp2_with fail
        refine (HDf.out w9 HK9.out).mono ?_
        rintro e wa ⟨va, rfl, oa, ka⟩
        have HKa := Lib.hid (HK9.out.trans ka)
        have HVa := Lib.hid (HV9.out.keep ka)
        have HDa := Lib.hid (oa.row elN).cells
        clear oa ka HK9 HV9
        go_wp2_with fail
        refine (HLa.out wa HKa.out).mono ?_
        rintro e wb ⟨vb, rfl, ob, kb⟩
        have HKb := Lib.hid (HKa.out.trans kb)
        have HVb := Lib.hid (HVa.out.keep kb)
        have HDb := Lib.hid (HDa.out.keep kb)
        have HXb := Lib.hid (ob.row elQ).cells
        clear ob kb HKa HVa HDa
        go_wp2_with fail
        refine (HLb.out wb HKb.out).mono ?_
        rintro e wc ⟨vc, rfl, oc, kc⟩
        have HKc := Lib.hid (HKb.out.trans kc)
        have HVc := Lib.hid (HVb.out.keep kc)
        have HDc := Lib.hid (HDb.out.keep kc)
        have HXc := Lib.hid (HXb.out.keep kc)
        have HYc := Lib.hid (oc.row elQ).cells
        clear oc kc HKb HVb HDb HXb
        go_wp2_with fail
        refine (HQf.out vb vc wc HXc.out HYc.out).mono ?_
        rintro e wd ⟨vd, rfl, od, kd⟩
        have HKd := Lib.hid (HKc.out.trans kd)
        have HVd := Lib.hid (HVc.out.keep kd)
        have HDd := Lib.hid (HDc.out.keep kd)
        have HEd := Lib.hid (od.row elN).cells
        clear od kd HKc HVc HDc HXc HYc
        go_wp2_with fail
        refine (HIn.out va vd wd HDd.out HEd.out).mono ?_
        rintro e we ⟨rfl, ke⟩
        have HKe := Lib.hid (HKd.out.trans ke)
        have HVe := Lib.hid (HVd.out.keep ke)
        clear ke HKd HVd HDd HEd
        go_wp2_with fail
        refine (HLa.out we HKe.out).mono ?_
        rintro e wf1 ⟨vf, rfl, off, kf⟩
        go_wp2_with fail
        refine (HS9.out _ vf wf1 (HVe.out.keep kf) (off.row elQ).cells).mono ?_
        rintro e wf ⟨rfl, kf2⟩
        have HKf := Lib.hid (HKe.out.trans (kf.trans kf2))
        clear off kf kf2 HKe HVe
        go_wp2_with fail
        refine (HPN.out _).mono ?_
        rintro e wg ⟨vg, rfl, rg, kg⟩
        obtain ⟨ag, cg, eg, _, _⟩ := rg.cells.form
        rw [show (partB ([] : List Rt) 0).length = 0 from rfl] at eg
        subst eg
        have HKg := Lib.hid (HKf.out.trans kg)
        clear rg kg HKf
        go_wp2
        go_ret
        exact ⟨rfl, HKg.out⟩

open Go.ChangeShapes Go.WideShapes Go.ChangeAt
theorem own : ownKnob Try.prog.godebug = none := by kernel_rfl
theorem laidOut : laidOutB Try.prog = true := by kernel_rfl

set_option maxRecDepth 100000 in
theorem lifted (os : Os) (started : os.Started) (H : Type) (enc : TypeId × Value → H) :
    ReturnsInHanded {} Try.checked os 7 .any (Rows.digestListsSpec.pre6 enc Try.prog Try.f7 Rows.digestListsRow.domain false) (Rows.digestListsSpec.post enc Try.prog Try.f7 false true false false) := by
  refine returnsInHanded_of_change (C := Try.checked) own started (by kernel_rfl) Try.func7
    (ChangeSpec.witness6 (enc := enc) (C := Try.checked) false ⟨#[], #[.slice none 0 0, .slice none 0 0, .agg (ic zeroI)], []⟩ 8 (by kernel_rfl) (by kernel_rfl) (by kernel_rfl) (by kernel_rfl)) ?_
  intro W base args ds gs before hval0 hW hcnd _
  have hval : ∀ (j : Nat) t v, Try.f7.params[j]? = some t → args[j]? = some v → Value.okWide Try.prog W .any base t v := hval0
  have hW' := hW
  obtain ⟨p, q, hA0, hV, rfl, hfz, hnd⟩ := hW
  have hA : DataW.TrodAll enc Try.prog W 0 (fun _ => true) true Try.f7.params.toList args.toList ds p := hA0

  rw [Try.params7] at hA hval
  obtain ⟨v0, vs0, d0, ds0, p0, q0, hargs, rfl, rfl, h0, r0⟩ := trodAll_cons hA
  obtain ⟨v1, vs1, d1, ds1, p1, q1, rfl, rfl, rfl, h1, r1⟩ := trodAll_cons r0
  obtain ⟨v2, vs2, d2, ds2, p2, q2, rfl, rfl, rfl, h2, r2⟩ := trodAll_cons r1
  obtain ⟨rfl, rfl, rfl⟩ := trodAll_nil r2
  obtain rfl : args = #[v0, v1, v2] := by cases args; simp_all
  obtain ⟨rfl, rfl⟩ := trodVars_none hV
  have k0 := h0
  have lt0 : ∀ x ∈ p0, x.block < W.heap.size := by obtain ⟨m, hm⟩ := k0; exact DataW.trod_lt m _ _ _ hm
  have k1 := h1
  have lt1 : ∀ x ∈ p1, x.block < W.heap.size := by obtain ⟨m, hm⟩ := k1; exact DataW.trod_lt m _ _ _ hm
  have k2 := h2
  have lt2 : ∀ x ∈ p2, x.block < W.heap.size := by obtain ⟨m, hm⟩ := k2; exact DataW.trod_lt m _ _ _ hm
  obtain ⟨a0, cap0, l0, rfl, f0, sq0⟩ := open_digestsN (hval 0 42 v0 rfl rfl) h0
  obtain ⟨a1, cap1, l1, rfl, f1, sq1⟩ := open_digestsN (hval 1 42 v1 rfl rfl) h1
  obtain ⟨i2, rfl, sq2⟩ := open_incS (hval 2 52 v2 rfl rfl) h2
  clear hA0 hval0
  refine (walk a0 cap0 l0 a1 cap1 l1 i2 W f0 sq0 f1 sq1 sq2).mono fun e W' ⟨he, bel⟩ => ?_
  subst he
  exact ⟨_, rfl, _, _, _, [], _, [], hW', trodAll_mk1 (shut_bool Try.underlying4 _), (trodAll_cons_mk (Below.trod laidOut (by kernel_rfl) (of_decide_eq_true (by kernel_rfl)) k0 bel lt0) (trodAll_cons_mk (Below.trod laidOut (by kernel_rfl) (of_decide_eq_true (by kernel_rfl)) k1 bel lt1) (trodAll_cons_mk (Below.trod laidOut (by kernel_rfl) (of_decide_eq_true (by kernel_rfl)) k2 bel lt2) trodAll_mk0))), rfl, bel.frame _, fun h => by cases h⟩

theorem over : Rows.digestListsRow.holds Try.pinned (OpenSpec.ofChange Rows.digestListsSpec) :=
  OpenClaim.holds_of_wide 7 Try.f7 rfl rfl rfl rfl rfl rfl rfl ⟨rfl, rfl, rfl, rfl, rfl⟩ rfl rfl rfl rfl rfl (by kernel_rfl) Try.func7 (by kernel_rfl)
    (of_decide_eq_true (by kernel_rfl)) (by unfold Func.isWrapper; first | (rw [if_pos (by decide +kernel)]; kernel_rfl) | (rw [if_neg (by decide +kernel)]; exact ⟨rfl, rfl⟩))
    (fun os started H enc _ => lifted os started H enc)
end Go.Proofs.Ytfikdeobejhblaa.LDigestLists

namespace Go.Proofs.Ytfikdeobejhblaa
theorem digestLists_holds : Rows.DigestListsSaid := LDigestLists.over
#print axioms digestLists_holds
end Go.Proofs.Ytfikdeobejhblaa

