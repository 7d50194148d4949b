/- Proved: what the document's May, Bytes and Print of layer 8 answer. Condition: lists are short enough for memory; numbers have 32 bits. -/
import Derived.Test.YtgkgpdlakamgiaaGreatOi
import Derived.Deep.RegionHeld3
namespace Go.Proofs.YtgkgpdlakamgiaaGreat
open Go.RowKit

set_option maxRecDepth 100000 in
theorem qmay (i : Ic) : GivesK Tryz.prog 29 #[.agg (ic i)] (.bool (decide (rightI i))) := by
  intro w
  have hA := IAt.new w i
  have hS : Keep w (w.alloc (.cells (ic i) 59)) := (Keep.refl w).alloc _
  obtain ⟨n, hn⟩ : ∃ n, n = 18 := ⟨18, rfl⟩
  have hsz : ∀ w, (Go.sizeOf 54).run Tryz.prog w = .ok n w := fun w => by rw [hn]; exact Tryz.sizeOf54 w
  have hn0 : ¬ n = 0 := by omega
  obtain ⟨n2, hn2⟩ : ∃ n, n = 20 := ⟨20, rfl⟩
  have hsz2 : ∀ w, (Go.sizeOf 57).run Tryz.prog w = .ok n2 w := fun w => by rw [hn2]; exact Tryz.sizeOf57 w
  have hn20 : ¬ n2 = 0 := by omega
  have hk := hA.kind
  have HA := Lib.hid hA
  have HS := Lib.hid hS
  have HN := Lib.hid hn
  have HN2 := Lib.hid hn2
  have HRT := Lib.hid (qrightT i.route).keep
  have HRP := Lib.hid (qright i.route.to i.route.ok).keep
  have HD : Hid (decide (rightI i) = if i.kind = 3 then (decide (rightP i.route.to) && ((i.route.metric == 0) && (i.route.seq == 0))) else if i.kind = 1 ∨ i.kind = 2 then decide (rightR i.route) else false) := by
    show decide (rightI i) = _
    rw [Bool.eq_iff_iff, decide_eq_true_eq]
    unfold rightI
    by_cases h3 : i.kind = 3
    · rw [if_pos h3]
      have h1 : ¬ (i.kind = 1 ∨ i.kind = 2) := by omega
      have hw : i.route = wd i.route ↔ i.route.metric = 0 ∧ i.route.seq = 0 := ⟨fun e => by rw [e]; exact ⟨rfl, rfl⟩, fun ⟨a, b⟩ => Rt.ext' rfl a b⟩
      rw [hw]
      simp [h3]
    · rw [if_neg h3]
      by_cases h1 : i.kind = 1 ∨ i.kind = 2
      · rw [if_pos h1]
        simp [h1, h3]
      · rw [if_neg h1]
        simp [h1, h3]
  clear hA hS hn hn2
  generalize hD : decide (rightI i) = D at *
  by_cases h3 : i.kind = 3
  · rw [if_pos h3] at HD
    have hk3 : (i.kind == 3) = true := by simpa using h3
    have h2 := HA.out.to HN.out
    have HE := Lib.hid HD.out.symm
    have HA2 := Lib.hid (fun (w' : World) (b : Keep (w.alloc (.cells (ic i) 59)) w') => And.intro ((HA.out.keep b).metric) ((HA.out.keep b).seq))
    generalize i.kind = k at *
    clear h3 hD HA
    generalize ic i = I at *
    generalize pc i.route.to = T at *
    generalize i.route.metric = m at *
    generalize i.route.seq = q at *
    cases hq : decide (rightP i.route.to)
    · rw [hq] at HRP HE
      go_enter Tryz.func29, Tryz.ntmps29
      go_wp2_with fail
      refine (HRP.out _).mono ?_
      rintro e w1 ⟨rfl, b1⟩
      go_wp2
      go_ret
      exact ⟨by rw [← HE.out]; rfl, HS.out.trans b1⟩
    · rw [hq] at HRP HE
      by_cases hm : m = 0
      · subst hm
        go_enter Tryz.func29, Tryz.ntmps29
        go_wp2_with fail
        refine (HRP.out _).mono ?_
        rintro e w1 ⟨rfl, b1⟩
        obtain ⟨h4, h5⟩ := HA2.out _ b1
        have HK1 := Lib.hid (HS.out.trans b1)
        clear h2 b1
        go_wp2
        go_ret
        exact ⟨by rw [← HE.out]; rfl, HK1.out⟩
      · have hmb : (m == 0) = false := by simpa using hm
        rw [hmb] at HE
        go_enter Tryz.func29, Tryz.ntmps29
        go_wp2_with fail
        refine (HRP.out _).mono ?_
        rintro e w1 ⟨rfl, b1⟩
        obtain ⟨h4, h5⟩ := HA2.out _ b1
        have HK1 := Lib.hid (HS.out.trans b1)
        clear h2 b1
        go_wp2
        go_ret
        exact ⟨by rw [← HE.out]; rfl, HK1.out⟩
  · rw [if_neg h3] at HD
    have hk3 : (i.kind == 3) = false := by simpa using h3
    have h2 := HA.out.route HN2.out
    have HE := Lib.hid HD.out.symm
    by_cases h1 : i.kind = 1
    · rw [if_pos (.inl h1)] at HE
      have hk1 : (i.kind == 1) = true := by simpa using h1
      generalize i.kind = k at *
      clear h1 h3 hD
      generalize decide (rightR i.route) = q at *
      generalize rc i.route = R at *
      generalize ic i = I at *
      go_enter Tryz.func29, Tryz.ntmps29
      go_wp2_with fail
      refine (HRT.out _).mono ?_
      rintro e w1 ⟨rfl, b1⟩
      go_wp2
      go_ret
      exact ⟨by rw [← HE.out]; rfl, HS.out.trans b1⟩
    · have hk1 : (i.kind == 1) = false := by simpa using h1
      by_cases h2' : i.kind = 2
      · rw [if_pos (.inr h2')] at HE
        have hk2 : (i.kind == 2) = true := by simpa using h2'
        generalize i.kind = k at *
        clear h1 h3 hD h2'
        generalize decide (rightR i.route) = q at *
        generalize rc i.route = R at *
        generalize ic i = I at *
        go_enter Tryz.func29, Tryz.ntmps29
        go_wp2_with fail
        refine (HRT.out _).mono ?_
        rintro e w1 ⟨rfl, b1⟩
        go_wp2
        go_ret
        exact ⟨by rw [← HE.out]; rfl, HS.out.trans b1⟩
      · rw [if_neg (by omega)] at HE
        have hk2 : (i.kind == 2) = false := by simpa using h2'
        generalize i.kind = k at *
        clear h1 h3 hD h2' h2
        generalize ic i = I at *
        go_enter Tryz.func29, Tryz.ntmps29
        go_wp2
        go_ret
        exact ⟨by rw [← HE.out]; rfl, HS.out⟩
end Go.Proofs.YtgkgpdlakamgiaaGreat
