/- Proved: what the document's Do answers. Condition: the list is in order and no longer than a table. -/
import Derived.Test.YtgkgpdlakamgiaaGreatRp
import Derived.Test.YtgkgpdlakamgiaaGreatRd
import Derived.Test.YtgkgpdlakamgiaaGreatIa
namespace Go.Proofs.YtgkgpdlakamgiaaGreat
open Go.RowKit


set_option maxRecDepth 100000 in
set_option maxHeartbeats 2000000 in
theorem qdo (v : Value) (l : List Rt) (i : Ic) (w : World) (h : Row rl 57 w v l) (hs : Sorted l) (hl : l.length ≤ 300) : Calls Tryz.prog 45 #[v, .agg (ic i)] w (PutPost w (doS l i.kind i.route)) := by
  have hA := IAt.new w i
  have hS : Keep w (w.alloc (.cells (ic i) 59)) := (Keep.refl w).alloc _
  obtain ⟨n, hn⟩ : ∃ n, n = 20 := ⟨20, rfl⟩
  have hsz : ∀ w, (Go.sizeOf 57).run Tryz.prog w = .ok n w := fun w => by rw [hn]; exact Tryz.sizeOf57 w
  have hn0 : ¬ n = 0 := by omega
  obtain ⟨n2, hn2⟩ : ∃ n, n = 18 := ⟨18, rfl⟩
  have hsz2 : ∀ w, (Go.sizeOf 54).run Tryz.prog w = .ok n2 w := fun w => by rw [hn2]; exact Tryz.sizeOf54 w
  have hn20 : ¬ n2 = 0 := by omega
  have HN := Lib.hid hn
  have HN2 := Lib.hid hn2
  have HA := Lib.hid hA
  have HS := Lib.hid hS
  have HV := Lib.hid (h.keep hS)
  have hk := hA.kind
  have hro := hA.route hn
  have hto := hA.to hn2
  clear hA hS hn hn2 h
  obtain ⟨kd, r⟩ := i
  simp only at hk hro hto ⊢
  have HR := Lib.hid (qrightT r).keep
  have HRP := Lib.hid (qright r.to r.ok).keep
  have HFI := Lib.hid (fun w h => find v l r.to r.ok w h (by omega))
  have HPU := Lib.hid (fun w h => qput v l r w h hs hl)
  have HDR := Lib.hid (fun w h => qdrop v l r.to r.ok w h hs hl)
  have HSO := Lib.hid hs
  obtain ⟨X, hX⟩ : ∃ X, doS l kd r = X := ⟨_, rfl⟩
  rw [hX]
  have HX := Lib.hid hX
  clear hX hs
  obtain ⟨I, hI⟩ : ∃ I, ic ⟨kd, r⟩ = I := ⟨_, rfl⟩
  have HIC := Lib.hid hI
  rw [hI] at hk hro hto HS HV HA ⊢
  clear hI
  obtain ⟨R, hR⟩ : ∃ R, rc r = R := ⟨_, rfl⟩
  have HRC := Lib.hid hR
  rw [hR] at hro HR
  simp only [hR] at HPU
  clear hR
  by_cases h1 : kd = 1
  · have hk1 : (kd == 1) = true := by simpa using h1
    have HXK := Lib.hid (show X = (if rightR r then (if hasP l r.to then (l, 9) else putS l r) else (l, 1)) from by rw [← HX.out]; unfold doS; rw [if_pos h1])
    by_cases hr : rightR r
    · rw [decide_eq_true hr] at HR
      rw [if_pos hr] at HXK
      clear hr
      go_enter Tryz.func45, Tryz.ntmps45
      go_wp2_with fail
      refine (HR.out _).mono ?_
      rintro e w1 ⟨rfl, b1⟩
      have hto1 := (HA.out.keep b1).to HN2.out
      have HV1 := Lib.hid (HV.out.keep b1)
      clear hto hro hk
      go_wp2_with fail
      refine (HFI.out w1 HV1.out.cells).mono ?_
      rintro e w2 ⟨z, rfl, hf, b2⟩
      have HA2 := Lib.hid (HA.out.keep (b1.trans b2))
      have HV2 := Lib.hid (HV.out.keep (b1.trans b2))
      have HK2 := Lib.hid (HS.out.trans (b1.trans b2))
      have hk2 := HA2.out.kind
      have hro2 := HA2.out.route HN.out
      rw [HRC.out] at hro2
      simp only at hk2
      clear hto1 b1 b2 HV1
      rcases hf with ⟨rfl, hh⟩ | ⟨k, x, rfl, hx, he⟩
      · rw [hh] at HXK
        simp only [Bool.false_eq_true, if_false] at HXK
        clear hh
        go_wp2_with fail
        refine (HPU.out w2 HV2.out).mono ?_
        rintro e w3 ⟨v3, rfl, r3, b3⟩
        have HE := Lib.hid (show PutPost w X (.returned (.tuple #[v3, .int .i64 (putS l r).2])) w3 from ⟨v3, by rw [HXK.out], by rw [HXK.out]; exact r3, HK2.out.trans b3⟩)
        clear r3 b3
        go_wp2
        go_ret2
        exact HE.out

      · have hh := (find_rank HSO.out r.ok hx he).1
        have hkI : (k : Int) ≥ 0 := by omega
        rw [if_pos hh] at HXK
        clear hh hx he
        go_wp2
        go_ret2
        exact ⟨v, by rw [HXK.out]; rfl, by rw [HXK.out]; exact HV2.out, HK2.out⟩

    · rw [decide_eq_false hr] at HR
      rw [if_neg hr] at HXK
      clear hr
      go_enter Tryz.func45, Tryz.ntmps45
      go_wp2_with fail
      refine (HR.out _).mono ?_
      rintro e w1 ⟨rfl, b1⟩
      go_wp2
      go_ret2
      exact ⟨v, by rw [HXK.out]; rfl, by rw [HXK.out]; exact HV.out.keep b1, HS.out.trans b1⟩
  · have hk1 : (kd == 1) = false := by simpa using h1
    by_cases h2 : kd = 2
    · have hk2' : (kd == 2) = true := by simpa using h2
      have HXK := Lib.hid (show X = (if rightR r then (if hasP l r.to then putS l r else (l, 8)) else (l, 1)) from by rw [← HX.out]; unfold doS; rw [if_neg h1, if_pos h2])
      by_cases hr : rightR r
      · rw [decide_eq_true hr] at HR
        rw [if_pos hr] at HXK
        clear hr
        go_enter Tryz.func45, Tryz.ntmps45
        go_wp2_with fail
        refine (HR.out _).mono ?_
        rintro e w1 ⟨rfl, b1⟩
        have hto1 := (HA.out.keep b1).to HN2.out
        have HV1 := Lib.hid (HV.out.keep b1)
        clear hto hro hk
        go_wp2_with fail
        refine (HFI.out w1 HV1.out.cells).mono ?_
        rintro e w2 ⟨z, rfl, hf, b2⟩
        have HA2 := Lib.hid (HA.out.keep (b1.trans b2))
        have HV2 := Lib.hid (HV.out.keep (b1.trans b2))
        have HK2 := Lib.hid (HS.out.trans (b1.trans b2))
        have hk2 := HA2.out.kind
        have hro2 := HA2.out.route HN.out
        rw [HRC.out] at hro2
        simp only at hk2
        clear hto1 b1 b2 HV1
        rcases hf with ⟨rfl, hh⟩ | ⟨k, x, rfl, hx, he⟩
        · rw [hh] at HXK
          simp only [Bool.false_eq_true, if_false] at HXK
          clear hh
          go_wp2
          go_ret2
          exact ⟨v, by rw [HXK.out]; rfl, by rw [HXK.out]; exact HV2.out, HK2.out⟩

        · have hh := (find_rank HSO.out r.ok hx he).1
          have hkI : (k : Int) ≥ 0 := by omega
          rw [if_pos hh] at HXK
          clear hh hx he
          go_wp2_with fail
          refine (HPU.out w2 HV2.out).mono ?_
          rintro e w3 ⟨v3, rfl, r3, b3⟩
          have HE := Lib.hid (show PutPost w X (.returned (.tuple #[v3, .int .i64 (putS l r).2])) w3 from ⟨v3, by rw [HXK.out], by rw [HXK.out]; exact r3, HK2.out.trans b3⟩)
          clear r3 b3
          go_wp2
          go_ret2
          exact HE.out

      · rw [decide_eq_false hr] at HR
        rw [if_neg hr] at HXK
        clear hr
        go_enter Tryz.func45, Tryz.ntmps45
        go_wp2_with fail
        refine (HR.out _).mono ?_
        rintro e w1 ⟨rfl, b1⟩
        go_wp2
        go_ret2
        exact ⟨v, by rw [HXK.out]; rfl, by rw [HXK.out]; exact HV.out.keep b1, HS.out.trans b1⟩
    · have hk2' : (kd == 2) = false := by simpa using h2
      by_cases h3 : kd = 3
      · have hk3 : (kd == 3) = true := by simpa using h3
        have HXK := Lib.hid (show X = (if rightP r.to ∧ r = wd r then dropS l r.to else (l, 1)) from by rw [← HX.out]; unfold doS; rw [if_neg h1, if_neg h2, if_pos h3])
        clear h1 h2 h3
        by_cases hr : rightP r.to
        · rw [decide_eq_true hr] at HRP
          by_cases hm : r.metric = 0
          · by_cases hq : r.seq = 0
            · rw [if_pos ⟨hr, Rt.ext' rfl hm hq⟩] at HXK
              have hm' : (r.metric != 0) = false := by simpa using hm
              have hq' : (r.seq != 0) = false := by simpa using hq
              clear hr hm hq
              go_enter Tryz.func45, Tryz.ntmps45
              go_wp2_with fail
              refine (HRP.out _).mono ?_
              rintro e w1 ⟨rfl, b1⟩
              have HA1 := Lib.hid (HA.out.keep b1)
              have hme := HA1.out.metric
              have hse := HA1.out.seq
              have hto1 := HA1.out.to HN2.out
              simp only at hme hse hto1
              have HV1 := Lib.hid (HV.out.keep b1)
              have HK1 := Lib.hid (HS.out.trans b1)
              clear hto hro hk b1
              go_wp2_with fail
              refine (HDR.out w1 HV1.out).mono ?_
              rintro e w3 ⟨v3, rfl, r3, b3⟩
              have HE := Lib.hid (show PutPost w X (.returned (.tuple #[v3, .int .i64 (dropS l r.to).2])) w3 from ⟨v3, by rw [HXK.out], by rw [HXK.out]; exact r3, HK1.out.trans b3⟩)
              clear r3 b3
              go_wp2
              go_ret2
              exact HE.out
            · rw [if_neg (fun h => hq (by rw [h.2]; rfl))] at HXK
              have hm' : (r.metric != 0) = false := by simpa using hm
              have hq' : (r.seq != 0) = true := by simpa using hq
              clear hr hm hq
              go_enter Tryz.func45, Tryz.ntmps45
              go_wp2_with fail
              refine (HRP.out _).mono ?_
              rintro e w1 ⟨rfl, b1⟩
              have HA1 := Lib.hid (HA.out.keep b1)
              have hme := HA1.out.metric
              have hse := HA1.out.seq
              simp only at hme hse
              clear hto hro hk
              go_wp2
              go_ret2
              exact ⟨v, by rw [HXK.out]; rfl, by rw [HXK.out]; exact HV.out.keep b1, HS.out.trans b1⟩
          · rw [if_neg (fun h => hm (by rw [h.2]; rfl))] at HXK
            have hm' : (r.metric != 0) = true := by simpa using hm
            clear hr hm
            go_enter Tryz.func45, Tryz.ntmps45
            go_wp2_with fail
            refine (HRP.out _).mono ?_
            rintro e w1 ⟨rfl, b1⟩
            have HA1 := Lib.hid (HA.out.keep b1)
            have hme := HA1.out.metric
            simp only at hme
            clear hto hro hk
            go_wp2
            go_ret2
            exact ⟨v, by rw [HXK.out]; rfl, by rw [HXK.out]; exact HV.out.keep b1, HS.out.trans b1⟩
        · rw [decide_eq_false hr] at HRP
          rw [if_neg (fun h => hr h.1)] at HXK
          clear hr
          go_enter Tryz.func45, Tryz.ntmps45
          go_wp2_with fail
          refine (HRP.out _).mono ?_
          rintro e w1 ⟨rfl, b1⟩
          go_wp2
          go_ret2
          exact ⟨v, by rw [HXK.out]; rfl, by rw [HXK.out]; exact HV.out.keep b1, HS.out.trans b1⟩
      · have hk3 : (kd == 3) = false := by simpa using h3
        have HXK := Lib.hid (show X = (l, 1) from by rw [← HX.out]; unfold doS; rw [if_neg h1, if_neg h2, if_neg h3])
        clear h1 h2 h3
        go_enter Tryz.func45, Tryz.ntmps45
        go_wp2
        go_ret2
        exact ⟨v, by rw [HXK.out]; rfl, by rw [HXK.out]; exact HV.out, HS.out⟩
end Go.Proofs.YtgkgpdlakamgiaaGreat
