/- Proved: IncrMerges: two rows of changes become one as the document says, and folding it does what folding both did. Condition: none of our own. -/
import Derived.Test.YtgkgpdlakamgiaaGreatJn
import Derived.SizedLaws
namespace Go.Proofs.YtgkgpdlakamgiaaGreat.LIncrMerges
open Go.RowKit

theorem few_mg {W : List Sy} {m : List Ic} (h : IsMg W m) : m.length ≤ W.length := by
  have hnd : (m.map fun i => i.route.to).Nodup := List.pairwise_map.2 (h.sorted.imp fun {x y} e e2 => by rw [(cmp_zero x.route.ok y.route.ok).2 e2] at e; omega)
  have := pigeon8 (m.map fun i => i.route.to) (W.map Sy.to) hnd fun p hp => by
    obtain ⟨i, hi, rfl⟩ := List.mem_map.1 hp
    obtain ⟨s, hsm, hse⟩ := (h.mem i).1 hi
    exact List.mem_map.2 ⟨s, hsm, by rw [effS_to hse]; rfl⟩
  simpa using this

theorem stor_len : ∀ (l : List Ic) (W W' : List Sy), Keys W → storS W l = some W' → W'.length ≤ W.length + l.length
  | [], W, W', _, h => by
    simp only [storS, Option.some.injEq] at h
    subst h
    simp
  | i :: l, W, W', hk, h => by
    rw [storS] at h
    cases hs : stepS W i with
    | none => rw [hs] at h; simp at h
    | some V =>
      rw [hs] at h
      have h1 := stepS_keys hk hs
      have h2 := stor_len l V W' h1.1 h
      have h3 := h1.2
      simp
      omega
theorem mg_len {l : List Ic} {W : List Sy} (h : mg l = some W) : W.length ≤ l.length := by
  unfold mg at h
  split at h
  · have := stor_len l [] W List.Pairwise.nil h
    simpa using this
  · cases h

set_option maxRecDepth 100000 in
set_option maxHeartbeats 8000000 in
theorem walk (r : Option Addr) (rcap : Nat) (l : List Rt) (a : Option Addr) (acap : Nat) (la : List Ic) (b : Option Addr) (bcap : Nat) (lb : List Ic) (w : World) (hR : ArgN rl w r rcap l) (_hq : ∀ x ∈ l, Sq x) (hA : ArgN il w a acap la) (_ha : ∀ i ∈ la, SqI i) (hB : ArgN il w b bcap lb) (_hb : ∀ i ∈ lb, SqI i) :
    Calls Tryz.prog 6 #[.slice r l.length rcap, .slice a la.length acap, .slice b lb.length bcap] w fun e w' => e = .returned (.bool true) ∧ Keep w w' := by
  have HAw := Lib.hid awake
  have hs1 := hR.small
  have hs2 := hA.small
  have hs3 := hB.small
  have HR := Lib.hid hR
  have HA := Lib.hid hA
  have HB := Lib.hid hB
  obtain ⟨N, hN⟩ : ∃ N, l.length = N := ⟨_, rfl⟩
  obtain ⟨NA, hNA⟩ : ∃ N, la.length = N := ⟨_, rfl⟩
  obtain ⟨NB, hNB⟩ : ∃ N, lb.length = N := ⟨_, rfl⟩
  have HN := Lib.hid hN
  have HNA := Lib.hid hNA
  have HNB := Lib.hid hNB
  rw [hN] at hs1
  rw [hNA] at hs2
  rw [hNB] at hs3
  rw [hN, hNA, hNB]
  clear hR hA hB hN hNA hNB
  unfold maxLen at hs1 hs2 hs3
  by_cases hbig : N > 100 ∨ NA > 100 ∨ NB > 90
  · have hcs : (N : Int) > 100 ∨ (¬ (N : Int) > 100 ∧ (NA : Int) > 100) ∨ (¬ (N : Int) > 100 ∧ ¬ (NA : Int) > 100 ∧ (NB : Int) > 90) := by omega
    clear hbig
    rcases hcs with h1 | ⟨h1, h2⟩ | ⟨h1, h2, h3⟩
    all_goals
      go_enter Tryz.func6, Tryz.ntmps6
      go_wp2_with fail
      refine (HAw.out _).mono ?_
      rintro e w1 ⟨rfl, k1⟩
      have HK1 := Lib.hid k1
      clear k1
      go_wp2_with fail
      refine (HAw.out _).mono ?_
      rintro e w2 ⟨rfl, k2⟩
      go_wp2
      go_ret
      exact ⟨rfl, HK1.out.trans k2⟩
  · have h1i : ¬ (N : Int) > 100 := by omega
    have h2i : ¬ (NA : Int) > 100 := by omega
    have h3i : ¬ (NB : Int) > 90 := by omega
    have hN1 : N ≤ 100 := by omega
    have hN2 : NA ≤ 100 := by omega
    have hN3 : NB ≤ 90 := by omega
    clear hbig
    have HSL := Lib.hid slice_no
    have HSI := Lib.hid slice_noI
    go_enter Tryz.func6, Tryz.ntmps6
    go_wp2_with fail
    refine (HAw.out _).mono ?_
    rintro e w1 ⟨rfl, k1⟩
    have HK1 := Lib.hid k1
    have HA1 := Lib.hid ((HA.out.keep k1).keep ((Keep.refl w1).alloc (.cells #[] 59)))
    have HO1 := Lib.hid (Own.made (t := 59) (k := 21) (enc := il) w1.heap.size w1 (Nat.le_refl _))
    clear k1
    go_wp2_with (first | ((with_reducible refine at_slice [] ?_ (.slice (some ⟨w1.heap.size, 0, none⟩) 0 0) (HSI.out w1) ?_); rfl) | (at_builtin; refine wp_appN elI rfl _ _ rfl w1.heap.size _ a NA acap [] la rfl HNA.out rfl HO1.out HA1.out ?q1 ?q2 ?q3 ?_))
    case q1 => rw [HNA.out]; simp; omega
    case q2 => rw [HNA.out]; simp; omega
    case q3 => simp
    intro v2 w2 o2 g2
    have HV2 := Lib.hid (Own.row elI (show Own 59 21 il w1.heap.size w2 v2 la from by simpa using o2))
    have HK2 := Lib.hid (HK1.out.trans (HO1.out.grown ((Keep.refl w1).alloc _) (Nat.le_refl _) g2))
    have HA2 := Lib.hid ((HB.out.keep HK2.out).keep ((Keep.refl w2).alloc (.cells #[] 59)))
    have HO2 := Lib.hid (Own.made (t := 59) (k := 21) (enc := il) w2.heap.size w2 (Nat.le_refl _))
    clear o2 g2 HA1 HO1
    go_wp2_with (first | ((with_reducible refine at_slice [] ?_ (.slice (some ⟨w2.heap.size, 0, none⟩) 0 0) (HSI.out w2) ?_); rfl) | (at_builtin; refine wp_appN elI rfl _ _ rfl w2.heap.size _ b NB bcap [] lb rfl HNB.out rfl HO2.out HA2.out ?q4 ?q5 ?q6 ?_))
    case q4 => rw [HNB.out]; simp; omega
    case q5 => rw [HNB.out]; simp; omega
    case q6 => simp
    intro v3 w3 o3 g3
    have hk3 := HO2.out.grown ((Keep.refl w2).alloc _) (Nat.le_refl _) g3
    have HV3 := Lib.hid (Own.row elI (show Own 59 21 il w2.heap.size w3 v3 lb from by simpa using o3))
    have HK3 := Lib.hid (HK2.out.trans hk3)
    have HI := Lib.hid (imerge v2 v3 la lb w3 (HV2.out.keep hk3).cells HV3.out.cells (by rw [HNA.out, HNB.out]; omega))
    clear o3 g3 hk3 HA2 HO2
    go_wp2_with fail
    refine HI.out.mono ?_
    rintro e w4 ⟨k4, hres⟩
    have HK4 := Lib.hid (HK3.out.trans k4)
    have HQ := Lib.hid (qmerge8 a acap NA la b bcap NB lb w4 (HA.out.keep HK4.out) (HB.out.keep HK4.out) HNA.out HNB.out (by omega))
    clear k4 HI HV2 HV3 HK3 HK2
    have HMr := Lib.hid (fun (t : List Rt) (hs : Sorted t) (hl : t.length ≤ 100) (h1 : (foldS t la 0).2.2 = 0) (h2 : (foldS (foldS t la 0).1 lb 0).2.2 = 0) => merge_rows (a := la) (b := lb) hs (by omega) h1 h2)
    unfold QmPost at HQ
    cases hmg : mg (la ++ lb) with
    | none =>
      rw [hmg] at hres HQ
      simp only at hres HQ
      subst hres
      have HMR := Lib.hid (fun (t : List Rt) (hs : Sorted t) (hl : t.length ≤ 100) (h1 : (foldS t la 0).2.2 = 0) (h2 : (foldS (foldS t la 0).1 lb 0).2.2 = 0) => show False from by
        obtain ⟨W, e, _⟩ := HMr.out t hs hl h1 h2
        rw [hmg] at e
        cases e)
      clear hmg HMr
      go_wp2_with fail
      refine HQ.out.mono ?_
      rintro e w5 ⟨k5, rfl⟩
      have HK5 := Lib.hid (HK4.out.trans k5)
      have HSI2 := Lib.hid (qsameL (.slice none 0 0) (.slice none 0 0) [] [] w5 (Ls.of (Row.nil 59 w5).cells) (Ls.of (Row.nil 59 w5).cells) (by simp) (by simp))
      simp only [decide_true] at HSI2
      clear k5 HQ
      go_wp2_with fail
      refine HSI2.out.mono ?_
      rintro e w6 ⟨rfl, k6⟩
      have HK6 := Lib.hid (HK5.out.trans k6)
      clear k6 HSI2
      have HA6 := Lib.hid ((HR.out.keep HK6.out).keep ((Keep.refl w6).alloc (.cells #[] 57)))
      have HO6 := Lib.hid (Own.made (t := 57) (k := 20) (enc := rl) w6.heap.size w6 (Nat.le_refl _))
      go_wp2_with (first | ((with_reducible refine at_slice [] ?_ (.slice (some ⟨w6.heap.size, 0, none⟩) 0 0) (HSL.out w6) ?_); rfl) | (at_builtin; refine wp_appN elR rfl _ _ rfl w6.heap.size _ r N rcap [] l rfl HN.out rfl HO6.out HA6.out ?r1 ?r2 ?r3 ?_))
      case r1 => rw [HN.out]; simp; omega
      case r2 => rw [HN.out]; simp; omega
      case r3 => simp
      intro v7 w7 o7 g7
      have HKg := Lib.hid (HO6.out.grown ((Keep.refl w6).alloc _) (Nat.le_refl _) g7)
      have HNw := Lib.hid (new v7 l w7 (o7.row elR).cells (by rw [HN.out]; omega))
      clear o7 g7 HA6 HO6
      go_wp2_with fail
      refine HNw.out.mono ?_
      rintro e w8 ⟨p, rfl, k8, ⟨h0, rfl⟩ | ⟨h0, bt, t, rfl, _, hpm, htb⟩⟩
      · have h0b : (newE l != 0) = true := by simpa using h0
        have HK8 := Lib.hid ((HK6.out.trans HKg.out).trans k8)
        clear k8
        go_wp2
        go_ret
        exact ⟨rfl, HK8.out⟩
      · have HKg8 := Lib.hid (HKg.out.trans k8)
        have HK8 := Lib.hid (HK6.out.trans HKg8.out)
        have HT8 := Lib.hid htb
        have HSt := Lib.hid htb.sorted
        have htl : t.length ≤ 100 := by rw [hpm.length_eq, HN.out]; exact hN1
        have HFa := Lib.hid (ifold bt t _ la w8 htb (Ls.arg (HA.out.keep HK8.out) HNA.out) (by rw [HNA.out]; omega))
        unfold FoPost at HFa
        rw [HNA.out] at HFa
        rw [h0]
        clear k8 htb HNw hpm
        go_wp2_with fail
        refine HFa.out.mono ?_
        rintro e w9 ⟨k9, ⟨f1, c1, rfl, _, ht1⟩ | ⟨f1, rfl⟩⟩
        · have F1 := Lib.hid f1
          have HKg9 := Lib.hid (HKg8.out.trans k9)
          have HK9 := Lib.hid (HK8.out.trans k9)
          have HT9 := Lib.hid (HT8.out.keep k9)
          have HFb := Lib.hid (ifold c1 _ _ lb w9 ht1 (Ls.arg (HB.out.keep HK9.out) HNB.out) (by rw [HNB.out]; omega))
          unfold FoPost at HFb
          rw [HNB.out] at HFb
          clear k9 f1 ht1 HFa
          go_wp2_with fail
          refine HFb.out.mono ?_
          rintro e wc ⟨kc, ⟨f2, cd, rfl, _, ht2⟩ | ⟨f2, rfl⟩⟩
          · have F2 := Lib.hid f2
            have HKcd := Lib.hid (HKg9.out.trans kc)
            have HKd := Lib.hid (HK9.out.trans kc)
            have HTd := Lib.hid (HT9.out.keep kc)
            have HVd := Lib.hid ht2
            clear kc f2 ht2 HFb
            exact (HMR.out t HSt.out htl F1.out F2.out).elim
          · have hx2 : ((foldS (foldS t la 0).1 lb 0).2.2 != 0) = true := by simpa using f2
            have HKd := Lib.hid (HK9.out.trans kc)
            clear kc f2 HFb
            generalize (foldS (foldS t la 0).1 lb 0).2.2 = X2 at *
            generalize (foldS (foldS t la 0).1 lb 0).2.1 = Y2 at *
            go_wp2
            go_ret
            exact ⟨rfl, HKd.out⟩
        · have hx1 : ((foldS t la 0).2.2 != 0) = true := by simpa using f1
          have HK9 := Lib.hid (HK8.out.trans k9)
          have HFn := Lib.hid ifold_nil
          clear k9 f1 HFa
          generalize (foldS t la 0).2.2 = X1 at *
          generalize (foldS t la 0).2.1 = Y1 at *
          go_wp2_with fail
          refine (HFn.out _ _).mono ?_
          rintro e wc ⟨rfl, kc⟩
          have HKd := Lib.hid (HK9.out.trans kc)
          clear kc
          go_wp2
          go_ret
          exact ⟨rfl, HKd.out⟩
    | some W =>
      rw [hmg] at hres HQ
      simp only at hres HQ
      obtain ⟨vl, m, rfl, hvl, hism⟩ := hres
      have HV4 := Lib.hid hvl
      have HIs := Lib.hid hism
      obtain ⟨M, hM⟩ : ∃ M, m.length = M := ⟨_, rfl⟩
      have HM := Lib.hid hM
      obtain ⟨Wl, hWl⟩ : ∃ n, W.length = n := ⟨_, rfl⟩
      have HMR := Lib.hid (fun (t : List Rt) (hs : Sorted t) (hl : t.length ≤ 100) (h1 : (foldS t la 0).2.2 = 0) (h2 : (foldS (foldS t la 0).1 lb 0).2.2 = 0) => show foldS t m 0 = ((foldS (foldS t la 0).1 lb 0).1, m.length, 0) from by
        obtain ⟨W', e, e2, e3⟩ := HMr.out t hs hl h1 h2
        rw [hmg] at e
        cases e
        have := few_mg hism
        rw [HNA.out, HNB.out] at e2
        exact e3 m hism (by omega))
      have hMl : M ≤ 190 := by
        have := few_mg hism
        have := (List.length_append ▸ mg_len hmg : W.length ≤ la.length + lb.length)
        rw [HNA.out, HNB.out] at this
        omega
      obtain ⟨al, cl, ev, _, _⟩ := hvl.cells.form
      rw [hM] at ev
      subst ev
      clear hmg HMr hvl hism hM hWl
      go_wp2_with fail
      refine HQ.out.mono ?_
      rintro e w5 ⟨k5, vr, mr, rfl, hvr, hsr, hmr⟩
      have hEq := mg_unique HIs.out hsr hmr
      subst hEq
      have HK5 := Lib.hid (HK4.out.trans k5)
      have HV5 := Lib.hid (HV4.out.keep k5)
      have HSI2 := Lib.hid (qsameL _ vr m m w5 (Ls.of HV5.out.cells) (Ls.of hvr.cells) (by rw [HM.out]; omega) (by rw [HM.out]; omega))
      simp only [decide_true] at HSI2
      clear k5 HQ hvr hsr hmr HV4
      go_wp2_with fail
      refine HSI2.out.mono ?_
      rintro e w6 ⟨rfl, k6⟩
      have HK6 := Lib.hid (HK5.out.trans k6)
      have HVl := Lib.hid (HV5.out.keep k6)
      clear k6 HSI2 HV5
      have HA6 := Lib.hid ((HR.out.keep HK6.out).keep ((Keep.refl w6).alloc (.cells #[] 57)))
      have HO6 := Lib.hid (Own.made (t := 57) (k := 20) (enc := rl) w6.heap.size w6 (Nat.le_refl _))
      go_wp2_with (first | ((with_reducible refine at_slice [] ?_ (.slice (some ⟨w6.heap.size, 0, none⟩) 0 0) (HSL.out w6) ?_); rfl) | (at_builtin; refine wp_appN elR rfl _ _ rfl w6.heap.size _ r N rcap [] l rfl HN.out rfl HO6.out HA6.out ?r1 ?r2 ?r3 ?_))
      case r1 => rw [HN.out]; simp; omega
      case r2 => rw [HN.out]; simp; omega
      case r3 => simp
      intro v7 w7 o7 g7
      have HKg := Lib.hid (HO6.out.grown ((Keep.refl w6).alloc _) (Nat.le_refl _) g7)
      have HNw := Lib.hid (new v7 l w7 (o7.row elR).cells (by rw [HN.out]; omega))
      clear o7 g7 HA6 HO6
      go_wp2_with fail
      refine HNw.out.mono ?_
      rintro e w8 ⟨p, rfl, k8, ⟨h0, rfl⟩ | ⟨h0, bt, t, rfl, _, hpm, htb⟩⟩
      · have h0b : (newE l != 0) = true := by simpa using h0
        have HK8 := Lib.hid ((HK6.out.trans HKg.out).trans k8)
        clear k8
        go_wp2
        go_ret
        exact ⟨rfl, HK8.out⟩
      · have HKg8 := Lib.hid (HKg.out.trans k8)
        have HK8 := Lib.hid (HK6.out.trans HKg8.out)
        have HT8 := Lib.hid htb
        have HSt := Lib.hid htb.sorted
        have htl : t.length ≤ 100 := by rw [hpm.length_eq, HN.out]; exact hN1
        have HFa := Lib.hid (ifold bt t _ la w8 htb (Ls.arg (HA.out.keep HK8.out) HNA.out) (by rw [HNA.out]; omega))
        unfold FoPost at HFa
        rw [HNA.out] at HFa
        rw [h0]
        clear k8 htb HNw hpm
        go_wp2_with fail
        refine HFa.out.mono ?_
        rintro e w9 ⟨k9, ⟨f1, c1, rfl, _, ht1⟩ | ⟨f1, rfl⟩⟩
        · have F1 := Lib.hid f1
          have HKg9 := Lib.hid (HKg8.out.trans k9)
          have HK9 := Lib.hid (HK8.out.trans k9)
          have HT9 := Lib.hid (HT8.out.keep k9)
          have HFb := Lib.hid (ifold c1 _ _ lb w9 ht1 (Ls.arg (HB.out.keep HK9.out) HNB.out) (by rw [HNB.out]; omega))
          unfold FoPost at HFb
          rw [HNB.out] at HFb
          clear k9 f1 ht1 HFa
          go_wp2_with fail
          refine HFb.out.mono ?_
          rintro e wc ⟨kc, ⟨f2, cd, rfl, _, ht2⟩ | ⟨f2, rfl⟩⟩
          · have F2 := Lib.hid f2
            have HKcd := Lib.hid (HKg9.out.trans kc)
            have HKd := Lib.hid (HK9.out.trans kc)
            have HTd := Lib.hid (HT9.out.keep kc)
            have HVd := Lib.hid ht2
            clear kc f2 ht2 HFb
            have hmr := HMR.out t HSt.out (by omega) F1.out F2.out
            have HFl := Lib.hid (ifold_ok HTd.out (Ls.of (HVl.out.keep HKcd.out).cells) (by rw [HM.out]; omega) hmr)
            rw [HM.out] at HFl
            clear hmr
            go_wp2_with fail
            refine HFl.out.mono ?_
            rintro e wd ⟨cx, rfl, _, hx, kd⟩
            have HSm := Lib.hid (same _ _ _ _ wd (.inr ⟨cd, rfl, HVd.out.keep kd⟩) (.inr ⟨cx, rfl, hx⟩))
            have HKw := Lib.hid (HKd.out.trans kd)
            simp only [decide_true] at HSm
            clear kd hx
            go_wp2_with fail
            refine HSm.out.mono ?_
            rintro e we ⟨rfl, ke⟩
            go_wp2
            go_ret
            exact ⟨rfl, HKw.out.trans ke⟩
          · have hx2 : ((foldS (foldS t la 0).1 lb 0).2.2 != 0) = true := by simpa using f2
            have HKd := Lib.hid (HK9.out.trans kc)
            clear kc f2 HFb
            generalize (foldS (foldS t la 0).1 lb 0).2.2 = X2 at *
            generalize (foldS (foldS t la 0).1 lb 0).2.1 = Y2 at *
            go_wp2
            go_ret
            exact ⟨rfl, HKd.out⟩
        · have hx1 : ((foldS t la 0).2.2 != 0) = true := by simpa using f1
          have HK9 := Lib.hid (HK8.out.trans k9)
          have HFn := Lib.hid ifold_nil
          clear k9 f1 HFa
          generalize (foldS t la 0).2.2 = X1 at *
          generalize (foldS t la 0).2.1 = Y1 at *
          go_wp2_with fail
          refine (HFn.out _ _).mono ?_
          rintro e wc ⟨rfl, kc⟩
          have HKd := Lib.hid (HK9.out.trans kc)
          clear kc
          go_wp2
          go_ret
          exact ⟨rfl, HKd.out⟩

open Go.ChangeShapes Go.WideShapes Go.ChangeAt
theorem own : ownKnob Tryz.prog.godebug = none := by kernel_rfl
theorem laidOut : laidOutB Tryz.prog = true := by kernel_rfl

set_option maxRecDepth 100000 in
theorem lifted (os : Os) (started : os.Started) (H : Type) (enc : TypeId × Value → H) :
    ReturnsInHanded {} Tryz.checked os 6 .any (Rows.incrMergesSpec.pre6 enc Tryz.prog Tryz.f6 Rows.incrMergesRow.domain false) (Rows.incrMergesSpec.post enc Tryz.prog Tryz.f6 false true false false) := by
  refine returnsInHanded_of_change (C := Tryz.checked) own started (by kernel_rfl) Tryz.func6
    (ChangeSpec.witness6 (enc := enc) (C := Tryz.checked) false ⟨#[], #[.slice none 0 0, .slice none 0 0, .slice none 0 0], []⟩ 8 (by kernel_rfl) (by kernel_rfl) (by kernel_rfl) (by kernel_rfl)) ?_
  intro W base args ds gs before hval0 hW hcnd _
  have hval : ∀ (j : Nat) t v, Tryz.f6.params[j]? = some t → args[j]? = some v → Value.okWide Tryz.prog W .any base t v := hval0
  have hW' := hW
  obtain ⟨p, q, hA0, hV, rfl, hfz, hnd⟩ := hW
  have hA : DataW.TrodAll enc Tryz.prog W 0 (fun _ => true) true Tryz.f6.params.toList args.toList ds p := hA0

  rw [Tryz.params6] at hA hval
  obtain ⟨v0, vs0, d0, ds0, p0, q0, hargs, rfl, rfl, h0, r0⟩ := trodAll_cons hA
  obtain ⟨v1, vs1, d1, ds1, p1, q1, rfl, rfl, rfl, h1, r1⟩ := trodAll_cons r0
  obtain ⟨v2, vs2, d2, ds2, p2, q2, rfl, rfl, rfl, h2, r2⟩ := trodAll_cons r1
  obtain ⟨rfl, rfl, rfl⟩ := trodAll_nil r2
  obtain rfl : args = #[v0, v1, v2] := by cases args; simp_all
  obtain ⟨rfl, rfl⟩ := trodVars_none hV
  have k0 := h0
  have lt0 : ∀ x ∈ p0, x.block < W.heap.size := by obtain ⟨m, hm⟩ := k0; exact DataW.trod_lt m _ _ _ hm
  have k1 := h1
  have lt1 : ∀ x ∈ p1, x.block < W.heap.size := by obtain ⟨m, hm⟩ := k1; exact DataW.trod_lt m _ _ _ hm
  have k2 := h2
  have lt2 : ∀ x ∈ p2, x.block < W.heap.size := by obtain ⟨m, hm⟩ := k2; exact DataW.trod_lt m _ _ _ hm
  obtain ⟨a0, cap0, l0, rfl, f0, sq0⟩ := open_routesN (hval 0 36 v0 rfl rfl) h0
  obtain ⟨a1, cap1, l1, rfl, f1, sq1⟩ := open_incsN (hval 1 22 v1 rfl rfl) h1
  obtain ⟨a2, cap2, l2, rfl, f2, sq2⟩ := open_incsN (hval 2 22 v2 rfl rfl) h2
  clear hA0 hval0
  refine (walk a0 cap0 l0 a1 cap1 l1 a2 cap2 l2 W f0 sq0 f1 sq1 f2 sq2).mono fun e W' ⟨he, bel⟩ => ?_
  subst he
  exact ⟨_, rfl, _, _, _, [], _, [], hW', trodAll_mk1 (shut_bool Tryz.underlying4 _), (trodAll_cons_mk (Below.trod laidOut (by kernel_rfl) (of_decide_eq_true (by kernel_rfl)) k0 bel lt0) (trodAll_cons_mk (Below.trod laidOut (by kernel_rfl) (of_decide_eq_true (by kernel_rfl)) k1 bel lt1) (trodAll_cons_mk (Below.trod laidOut (by kernel_rfl) (of_decide_eq_true (by kernel_rfl)) k2 bel lt2) trodAll_mk0))), rfl, bel.frame _, fun h => by cases h⟩

theorem over : Rows.incrMergesRow.holds Tryz.pinned (OpenSpec.ofChange Rows.incrMergesSpec) :=
  OpenClaim.holds_of_wide 6 Tryz.f6 rfl rfl rfl rfl rfl rfl rfl ⟨rfl, rfl, rfl, rfl, rfl⟩ rfl rfl rfl rfl rfl (by kernel_rfl) Tryz.func6 (by kernel_rfl)
    (of_decide_eq_true (by kernel_rfl)) (by unfold Func.isWrapper; first | (rw [if_pos (by decide +kernel)]; kernel_rfl) | (rw [if_neg (by decide +kernel)]; exact ⟨rfl, rfl⟩))
    (fun os started H enc _ => lifted os started H enc)
end Go.Proofs.YtgkgpdlakamgiaaGreat.LIncrMerges

namespace Go.Proofs.YtgkgpdlakamgiaaGreat
theorem incrMerges_holds : Rows.IncrMergesSaid := LIncrMerges.over
#print axioms incrMerges_holds
end Go.Proofs.YtgkgpdlakamgiaaGreat

