/- Proved: IncrRows: folded row by row, or all changes at once, a table comes to the same. Condition: none of our own. -/
import Derived.Test.YtgkgpdlakamgiaaOi
import Derived.SizedLaws
namespace Go.Proofs.Ytgkgpdlakamgiaa.LIncrRows
open Go.RowKit

theorem place_ok : ∀ (l : List Ic) (t : List Rt) (k : Nat), (foldS t l k).2.2 = 0 → (foldS t l k).2.1 = k + l.length
  | [], _, _, _ => rfl
  | i :: l, t, k, h => by
    rw [foldS] at h ⊢
    by_cases hd : (doS t i.kind i.route).2 = 0
    · rw [if_pos hd] at h ⊢
      rw [place_ok l _ _ h, List.length_cons]
      omega
    · rw [if_neg hd] at h
      exact absurd h hd
theorem place_le : ∀ (l : List Ic) (t : List Rt) (k : Nat), (foldS t l k).2.1 ≤ k + l.length
  | [], _, _ => Nat.le_refl _
  | i :: l, t, k => by
    rw [foldS]
    split
    · have := place_le l (doS t i.kind i.route).1 (k + 1)
      rw [List.length_cons]
      omega
    · show k ≤ k + (i :: l).length
      omega
set_option maxRecDepth 100000 in
set_option maxHeartbeats 4000000 in
theorem walk (r : Option Addr) (rcap : Nat) (l : List Rt) (a : Option Addr) (acap : Nat) (la : List Ic) (b : Option Addr) (bcap : Nat) (lb : List Ic) (w : World) (hR : ArgN rl w r rcap l) (_hq : ∀ x ∈ l, Sq x) (hA : ArgN il w a acap la) (_ha : ∀ i ∈ la, SqI i) (hB : ArgN il w b bcap lb) (_hb : ∀ i ∈ lb, SqI i) :
    Calls Try.prog 5 #[.slice r l.length rcap, .slice a la.length acap, .slice b lb.length bcap] w fun e w' => e = .returned (.bool true) ∧ Keep w w' := by
  have HAw := Lib.hid awake
  have hs1 := hR.small
  have hs2 := hA.small
  have hs3 := hB.small
  have HR := Lib.hid hR
  have HA := Lib.hid hA
  have HB := Lib.hid hB
  obtain ⟨N, hN⟩ : ∃ N, l.length = N := ⟨_, rfl⟩
  obtain ⟨NA, hNA⟩ : ∃ N, la.length = N := ⟨_, rfl⟩
  obtain ⟨NB, hNB⟩ : ∃ N, lb.length = N := ⟨_, rfl⟩
  have HN := Lib.hid hN
  have HNA := Lib.hid hNA
  have HNB := Lib.hid hNB
  rw [hN] at hs1
  rw [hNA] at hs2
  rw [hNB] at hs3
  rw [hN, hNA, hNB]
  clear hR hA hB hN hNA hNB
  unfold maxLen at hs1 hs2 hs3
  by_cases h1 : N > 100
  · have h1i : (N : Int) > 100 := by omega
    go_enter Try.func5, Try.ntmps5
    go_wp2_with fail
    refine (HAw.out _).mono ?_
    rintro e w1 ⟨rfl, k1⟩
    have HK1 := Lib.hid k1
    clear k1
    go_wp2_with fail
    refine (HAw.out _).mono ?_
    rintro e w2 ⟨rfl, k2⟩
    go_wp2
    go_ret
    exact ⟨rfl, HK1.out.trans k2⟩
  · have h1i : ¬ (N : Int) > 100 := by omega
    by_cases h2 : NA > 50
    · have h2i : (NA : Int) > 50 := by omega
      go_enter Try.func5, Try.ntmps5
      go_wp2_with fail
      refine (HAw.out _).mono ?_
      rintro e w1 ⟨rfl, k1⟩
      have HK1 := Lib.hid k1
      clear k1
      go_wp2_with fail
      refine (HAw.out _).mono ?_
      rintro e w2 ⟨rfl, k2⟩
      go_wp2
      go_ret
      exact ⟨rfl, HK1.out.trans k2⟩
    · have h2i : ¬ (NA : Int) > 50 := by omega
      by_cases h3 : NB > 50
      · have h3i : (NB : Int) > 50 := by omega
        go_enter Try.func5, Try.ntmps5
        go_wp2_with fail
        refine (HAw.out _).mono ?_
        rintro e w1 ⟨rfl, k1⟩
        have HK1 := Lib.hid k1
        clear k1
        go_wp2_with fail
        refine (HAw.out _).mono ?_
        rintro e w2 ⟨rfl, k2⟩
        go_wp2
        go_ret
        exact ⟨rfl, HK1.out.trans k2⟩
      · have h3i : ¬ (NB : Int) > 50 := by omega
        have HSL := Lib.hid slice_no
        have HSI := Lib.hid slice_noI
        go_enter Try.func5, Try.ntmps5
        go_wp2_with fail
        refine (HAw.out _).mono ?_
        rintro e w1 ⟨rfl, k1⟩
        have HK1 := Lib.hid k1
        have HA1 := Lib.hid ((HR.out.keep k1).keep ((Keep.refl w1).alloc (.cells #[] 45)))
        have HO1 := Lib.hid (Own.made (t := 45) (k := 20) (enc := rl) w1.heap.size w1 (Nat.le_refl _))
        clear k1
        go_wp2_with (first | ((with_reducible refine at_slice [] ?_ (.slice (some ⟨w1.heap.size, 0, none⟩) 0 0) (HSL.out w1) ?_); rfl) | (at_builtin; refine wp_appN elR rfl _ _ rfl w1.heap.size _ r N rcap [] l rfl HN.out rfl HO1.out HA1.out ?q1 ?q2 ?q3 ?_))
        case q1 => rw [HN.out]; simp; omega
        case q2 => rw [HN.out]; simp; omega
        case q3 => simp
        intro v2 w2 o2 g2
        have HK2 := Lib.hid (HK1.out.trans (HO1.out.grown ((Keep.refl w1).alloc _) (Nat.le_refl _) g2))
        have HNw := Lib.hid (new v2 l w2 (o2.row elR).cells (by rw [HN.out]; omega))
        clear o2 g2
        go_wp2_with fail
        refine HNw.out.mono ?_
        rintro e w3 ⟨p, rfl, k3, ⟨h0, rfl⟩ | ⟨h0, bt, t, rfl, _, _, htb⟩⟩
        · have h0b : (newE l != 0) = true := by simpa using h0
          have HK3 := Lib.hid (HK2.out.trans k3)
          clear k3
          go_wp2
          go_ret
          exact ⟨rfl, HK3.out⟩
        · have HK3 := Lib.hid (HK2.out.trans k3)
          have HT3 := Lib.hid htb
          have HF1 := Lib.hid (ifold bt t _ la w3 htb (Ls.arg (HA.out.keep HK3.out) HNA.out) (by rw [HNA.out]; omega))
          have P1 := Lib.hid (foldS_app la lb t 0)
          have P2 := Lib.hid (foldS_app_no la lb t 0)
          have P3 := Lib.hid (foldS_place lb (foldS t la 0).1 0 NA)
          have P4 := Lib.hid (place_ok la t 0)
          rw [h0]
          clear k3 htb HK2 HNw HA1 HO1
          generalize hF1 : foldS t la 0 = F1 at *
          generalize hF2 : foldS t (la ++ lb) 0 = F2 at *
          have HE2 := Lib.hid hF2
          clear hF1 hF2
          have hz : ((0 : Int) != 0) = false := rfl
          have HLn := Lib.hid (show (la ++ lb).length = NA + NB from by rw [List.length_append, HNA.out, HNB.out])
          unfold FoPost at HF1
          rw [HNA.out] at HF1 P4
          by_cases hf1 : F1.2.2 = 0
          · have hp4 := P4.out hf1
            rw [Nat.zero_add] at hp4
            have hp1 := P1.out hf1
            rw [hp4] at hp1
            obtain ⟨q1, q2, q3⟩ := P3.out
            rw [Nat.zero_add, ← hp1] at q1 q2 q3
            have HQ1 := Lib.hid q1
            have HQ2 := Lib.hid q2
            have HQ3 := Lib.hid q3
            clear hp1 hp4 q1 q2 q3 P1 P2 P3 P4
            go_wp2_with fail
            refine HF1.out.mono ?_
            rintro e w4 ⟨k4, ⟨_, c1, rfl, hc1, ht4⟩ | ⟨hbad, _⟩⟩
            rotate_left
            · exact absurd hf1 hbad
            have HK4 := Lib.hid (HK3.out.trans k4)
            have HT4 := Lib.hid (HT3.out.keep k4)
            have HX4 := Lib.hid ht4
            have HAa := Lib.hid (((HA.out.keep HK4.out)).keep ((Keep.refl w4).alloc (.cells #[] 47)))
            have HOa := Lib.hid (Own.made (t := 47) (k := 21) (enc := il) w4.heap.size w4 (Nat.le_refl _))
            clear k4 ht4 HF1 HK3 HT3
            go_wp2_with (first | ((with_reducible refine at_slice [] ?_ (.slice (some ⟨w4.heap.size, 0, none⟩) 0 0) (HSI.out w4) ?_); rfl) | (at_builtin; refine wp_appN elI rfl _ _ rfl w4.heap.size _ a NA acap [] la rfl HNA.out rfl HOa.out HAa.out ?s1 ?s2 ?s3 ?_))
            case s1 => rw [HNA.out]; simp; omega
            case s2 => rw [HNA.out]; simp; omega
            case s3 => simp
            intro v5 w5 o5 g5
            have HO5 := Lib.hid (show Own 47 21 il w4.heap.size w5 v5 la from by simpa using o5)
            have HKg := Lib.hid (HOa.out.grown ((Keep.refl w4).alloc _) (Nat.le_refl _) g5)
            have HB5 := Lib.hid (HB.out.keep (HK4.out.trans HKg.out))
            have hsz5 : w4.heap.size ≤ w5.heap.size := HKg.out.size
            clear o5 g5 HAa HOa
            go_wp2_with (at_builtin; refine wp_appN elI rfl _ _ rfl w4.heap.size _ b NB bcap la lb rfl HNB.out rfl HO5.out HB5.out ?t1 ?t2 ?t3 ?_)
            case t1 => rw [HNB.out, HNA.out]; omega
            case t2 => rw [HNB.out, HNA.out]; omega
            case t3 => exact hsz5
            intro v6 w6 o6 g6
            have HK6 := Lib.hid (HO5.out.grown HKg.out (Nat.le_refl _) g6)
            have HT6 := Lib.hid (HT4.out.keep HK6.out)
            have HX6 := Lib.hid (HX4.out.keep HK6.out)
            have HF2 := Lib.hid (ifold bt t v6 (la ++ lb) w6 HT6.out (Ls.of (o6.row elI).cells) (by rw [HLn.out]; omega))
            rw [HE2.out] at HF2
            unfold FoPost at HF2
            rw [HLn.out] at HF2
            have HKW6 := Lib.hid (HK4.out.trans HK6.out)
            clear o6 g6 HKg HO5 HB5 hsz5 HK4 HT4 HX4
            go_wp2_with fail
            refine HF2.out.mono ?_
            rintro e w7 ⟨k7, hres⟩
            have HX7 := Lib.hid (HX6.out.keep k7)
            have HK7 := Lib.hid (HKW6.out.trans k7)
            have HF3 := Lib.hid (ifold c1 F1.1 _ lb w7 HX7.out (Ls.arg (HB.out.keep HK7.out) HNB.out) (by rw [HNB.out]; omega))
            unfold FoPost at HF3
            rw [HNB.out] at HF3
            clear k7 HF2 HX6 HKW6
            have HML := Lib.hid (place_le lb F1.1 0)
            rw [HNB.out] at HML
            generalize foldS F1.1 lb 0 = F3 at *
            by_cases hf3 : F3.2.2 = 0
            · rcases hres with ⟨_, c2, rfl, _, ht7⟩ | ⟨hbad, _⟩
              rotate_left
              · exact absurd (by rw [HQ3.out]; exact hf3) hbad
              have HT7 := Lib.hid ht7
              clear ht7
              go_wp2_with fail
              refine HF3.out.mono ?_
              rintro e w8 ⟨k8, ⟨_, c3, rfl, _, ht8⟩ | ⟨hbad, _⟩⟩
              rotate_left
              · exact absurd hf3 hbad
              have HSm := Lib.hid (same (.pointer (some ⟨c3, 0, none⟩)) (.pointer (some ⟨c2, 0, none⟩)) F3.1 F2.1 w8 (.inr ⟨c3, rfl, ht8⟩) (.inr ⟨c2, rfl, HT7.out.keep k8⟩))
              rw [decide_eq_true HQ1.out.symm] at HSm
              have HK8 := Lib.hid (HK7.out.trans k8)
              have hadd : ((NA + NB : Nat) : Int) = (NA : Int) + NB := by omega
              clear k8 ht8 HT7 HF3 hf1 hf3
              go_wp2_with fail
              refine HSm.out.mono ?_
              rintro e w9 ⟨rfl, k9⟩
              go_wp2
              go_ret
              exact ⟨rfl, HK8.out.trans k9⟩
            · rcases hres with ⟨hbad, _⟩ | ⟨_, rfl⟩
              · exact absurd (by rw [← HQ3.out]; exact hbad) hf3
              go_wp2_with fail
              refine HF3.out.mono ?_
              rintro e w8 ⟨k8, ⟨hbad, _⟩ | ⟨_, rfl⟩⟩
              · exact absurd hbad hf3
              have HK8 := Lib.hid (HK7.out.trans k8)
              rw [HQ2.out, HQ3.out]
              have hm1 := HQ2.out
              clear k8 HF3 hf1 hf3
              generalize F3.2.1 = m1 at *
              generalize F3.2.2 = x1 at *
              have hadd : ((m1 + NA : Nat) : Int) = (NA : Int) + m1 := by omega
              have hml : m1 ≤ 1000 := by have := HML.out; omega
              go_wp2
              go_ret
              exact ⟨rfl, HK8.out⟩
          · have hp2 := P2.out hf1
            have HQ := Lib.hid hp2
            clear hp2 P1 P2 P3 P4
            go_wp2_with fail
            refine HF1.out.mono ?_
            rintro e w4 ⟨k4, ⟨hbad, _⟩ | ⟨_, rfl⟩⟩
            · exact absurd hbad hf1
            have HK4 := Lib.hid (HK3.out.trans k4)
            have HT4 := Lib.hid (HT3.out.keep k4)
            have HAa := Lib.hid (((HA.out.keep HK4.out)).keep ((Keep.refl w4).alloc (.cells #[] 47)))
            have HOa := Lib.hid (Own.made (t := 47) (k := 21) (enc := il) w4.heap.size w4 (Nat.le_refl _))
            clear k4 HF1 HK3 HT3
            go_wp2_with (first | ((with_reducible refine at_slice [] ?_ (.slice (some ⟨w4.heap.size, 0, none⟩) 0 0) (HSI.out w4) ?_); rfl) | (at_builtin; refine wp_appN elI rfl _ _ rfl w4.heap.size _ a NA acap [] la rfl HNA.out rfl HOa.out HAa.out ?u1 ?u2 ?u3 ?_))
            case u1 => rw [HNA.out]; simp; omega
            case u2 => rw [HNA.out]; simp; omega
            case u3 => simp
            intro v5 w5 o5 g5
            have HO5 := Lib.hid (show Own 47 21 il w4.heap.size w5 v5 la from by simpa using o5)
            have HKg := Lib.hid (HOa.out.grown ((Keep.refl w4).alloc _) (Nat.le_refl _) g5)
            have HB5 := Lib.hid (HB.out.keep (HK4.out.trans HKg.out))
            have hsz5 : w4.heap.size ≤ w5.heap.size := HKg.out.size
            clear o5 g5 HAa HOa
            go_wp2_with (at_builtin; refine wp_appN elI rfl _ _ rfl w4.heap.size _ b NB bcap la lb rfl HNB.out rfl HO5.out HB5.out ?x1 ?x2 ?x3 ?_)
            case x1 => rw [HNB.out, HNA.out]; omega
            case x2 => rw [HNB.out, HNA.out]; omega
            case x3 => exact hsz5
            intro v6 w6 o6 g6
            have HK6 := Lib.hid (HO5.out.grown HKg.out (Nat.le_refl _) g6)
            have HT6 := Lib.hid (HT4.out.keep HK6.out)
            have HF2 := Lib.hid (ifold bt t v6 (la ++ lb) w6 HT6.out (Ls.of (o6.row elI).cells) (by rw [HLn.out]; omega))
            rw [HE2.out] at HF2
            unfold FoPost at HF2
            rw [HLn.out] at HF2
            have HKW6 := Lib.hid (HK4.out.trans HK6.out)
            clear o6 g6 HKg HO5 HB5 hsz5 HK4 HT4
            go_wp2_with fail
            refine HF2.out.mono ?_
            rintro e w7 ⟨k7, ⟨hbad, _⟩ | ⟨_, rfl⟩⟩
            · exact absurd (by rw [← HQ.out]; exact hbad) hf1
            have HK7 := Lib.hid (HKW6.out.trans k7)
            have hb1 : (F1.2.2 != 0) = true := by simpa using hf1
            rw [HQ.out]
            clear k7 HF2 HKW6 hf1
            generalize F1.2.1 = m1 at *
            generalize F1.2.2 = x1 at *
            go_wp2
            go_ret
            exact ⟨by simp, HK7.out⟩

open Go.ChangeShapes Go.WideShapes Go.ChangeAt
theorem own : ownKnob Try.prog.godebug = none := by kernel_rfl
theorem laidOut : laidOutB Try.prog = true := by kernel_rfl

set_option maxRecDepth 100000 in
theorem lifted (os : Os) (started : os.Started) (H : Type) (enc : TypeId × Value → H) :
    ReturnsInHanded {} Try.checked os 5 .any (Rows.incrRowsSpec.pre6 enc Try.prog Try.f5 Rows.incrRowsRow.domain false) (Rows.incrRowsSpec.post enc Try.prog Try.f5 false true false false) := by
  refine returnsInHanded_of_change (C := Try.checked) own started (by kernel_rfl) Try.func5
    (ChangeSpec.witness6 (enc := enc) (C := Try.checked) false ⟨#[], #[.slice none 0 0, .slice none 0 0, .slice none 0 0], []⟩ 8 (by kernel_rfl) (by kernel_rfl) (by kernel_rfl) (by kernel_rfl)) ?_
  intro W base args ds gs before hval0 hW hcnd _
  have hval : ∀ (j : Nat) t v, Try.f5.params[j]? = some t → args[j]? = some v → Value.okWide Try.prog W .any base t v := hval0
  have hW' := hW
  obtain ⟨p, q, hA0, hV, rfl, hfz, hnd⟩ := hW
  have hA : DataW.TrodAll enc Try.prog W 0 (fun _ => true) true Try.f5.params.toList args.toList ds p := hA0

  rw [Try.params5] at hA hval
  obtain ⟨v0, vs0, d0, ds0, p0, q0, hargs, rfl, rfl, h0, r0⟩ := trodAll_cons hA
  obtain ⟨v1, vs1, d1, ds1, p1, q1, rfl, rfl, rfl, h1, r1⟩ := trodAll_cons r0
  obtain ⟨v2, vs2, d2, ds2, p2, q2, rfl, rfl, rfl, h2, r2⟩ := trodAll_cons r1
  obtain ⟨rfl, rfl, rfl⟩ := trodAll_nil r2
  obtain rfl : args = #[v0, v1, v2] := by cases args; simp_all
  obtain ⟨rfl, rfl⟩ := trodVars_none hV
  have k0 := h0
  have lt0 : ∀ x ∈ p0, x.block < W.heap.size := by obtain ⟨m, hm⟩ := k0; exact DataW.trod_lt m _ _ _ hm
  have k1 := h1
  have lt1 : ∀ x ∈ p1, x.block < W.heap.size := by obtain ⟨m, hm⟩ := k1; exact DataW.trod_lt m _ _ _ hm
  have k2 := h2
  have lt2 : ∀ x ∈ p2, x.block < W.heap.size := by obtain ⟨m, hm⟩ := k2; exact DataW.trod_lt m _ _ _ hm
  obtain ⟨a0, cap0, l0, rfl, f0, sq0⟩ := open_routesN (hval 0 31 v0 rfl rfl) h0
  obtain ⟨a1, cap1, l1, rfl, f1, sq1⟩ := open_incsN (hval 1 22 v1 rfl rfl) h1
  obtain ⟨a2, cap2, l2, rfl, f2, sq2⟩ := open_incsN (hval 2 22 v2 rfl rfl) h2
  clear hA0 hval0
  refine (walk a0 cap0 l0 a1 cap1 l1 a2 cap2 l2 W f0 sq0 f1 sq1 f2 sq2).mono fun e W' ⟨he, bel⟩ => ?_
  subst he
  exact ⟨_, rfl, _, _, _, [], _, [], hW', trodAll_mk1 (shut_bool Try.underlying4 _), (trodAll_cons_mk (Below.trod laidOut (by kernel_rfl) (of_decide_eq_true (by kernel_rfl)) k0 bel lt0) (trodAll_cons_mk (Below.trod laidOut (by kernel_rfl) (of_decide_eq_true (by kernel_rfl)) k1 bel lt1) (trodAll_cons_mk (Below.trod laidOut (by kernel_rfl) (of_decide_eq_true (by kernel_rfl)) k2 bel lt2) trodAll_mk0))), rfl, bel.frame _, fun h => by cases h⟩

theorem over : Rows.incrRowsRow.holds Try.pinned (OpenSpec.ofChange Rows.incrRowsSpec) :=
  OpenClaim.holds_of_wide 5 Try.f5 rfl rfl rfl rfl rfl rfl rfl ⟨rfl, rfl, rfl, rfl, rfl⟩ rfl rfl rfl rfl rfl (by kernel_rfl) Try.func5 (by kernel_rfl)
    (of_decide_eq_true (by kernel_rfl)) (by unfold Func.isWrapper; first | (rw [if_pos (by decide +kernel)]; kernel_rfl) | (rw [if_neg (by decide +kernel)]; exact ⟨rfl, rfl⟩))
    (fun os started H enc _ => lifted os started H enc)
end Go.Proofs.Ytgkgpdlakamgiaa.LIncrRows

namespace Go.Proofs.Ytgkgpdlakamgiaa
theorem incrRows_holds : Rows.IncrRowsSaid := LIncrRows.over
#print axioms incrRows_holds
end Go.Proofs.Ytgkgpdlakamgiaa

