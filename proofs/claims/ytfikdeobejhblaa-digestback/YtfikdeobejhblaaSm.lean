/- Proved: what the document's Same answers of two lists of routes. Condition: lists are short enough for memory. -/
import Derived.Test.YtfikdeobejhblaaMt
namespace Go.Proofs.Ytfikdeobejhblaa
open Go.RowKit

set_option maxRecDepth 100000 in
set_option maxHeartbeats 1000000 in
theorem qsame (u v : Value) (l m : List Rt) (w : World) (hu : Cells rl w u l) (hv : Cells rl w v m) (hl : l.length ≤ 1000000) (_hm : m.length ≤ 1000000) : Calls Try.prog 22 #[u, v] w fun e w' => e = .returned (.bool (decide (l = m))) ∧ Keep w w' := by
  obtain ⟨a1, c1, rfl, _, _⟩ := hu.form
  obtain ⟨a2, c2, rfl, _, _⟩ := hv.form
  obtain ⟨n, hn⟩ : ∃ n, n = 20 := ⟨20, rfl⟩
  have hsz : ∀ w, (Go.sizeOf 37).run Try.prog w = .ok n w := fun w => by rw [hn]; exact Try.sizeOf37 w
  have hn0 : ¬ n = 0 := by omega
  have HN := Lib.hid hn
  clear hn
  by_cases hlen : l.length = m.length
  · have hne : ((l.length : Int) != (m.length : Int)) = false := by simp [hlen]
    have HU := Lib.hid hu
    have HV := Lib.hid hv
    have HLE := Lib.hid hlen
    clear hu hv
    obtain ⟨N, hN⟩ : ∃ N, l.length = N := ⟨_, rfl⟩
    obtain ⟨M, hM⟩ : ∃ M, m.length = M := ⟨_, rfl⟩
    have HLN := Lib.hid hN
    have HMN := Lib.hid hM
    rw [hN] at hne hl hlen
    rw [hM] at hne _hm hlen
    rw [hN, hM]
    obtain ⟨D, hD⟩ : ∃ D, decide (l = m) = D := ⟨_, rfl⟩
    rw [hD]
    have HD := Lib.hid hD
    clear hN hM hD
    go_enter Try.func22, Try.ntmps22
    go_wp2
    go_loopw [5] (fun i wr => EqRel w l m i wr) (fun i _ => N - (intOf i).toNat)
    case atStart => exact ⟨0, rfl, Nat.zero_le _, rfl, Keep.refl _⟩
    case round =>
      obtain ⟨k, rfl, hk1, hk2, hk⟩ := hrel
      rw [HLN.out] at hk1
      by_cases hlt : k < N
      · have hltm : k < M := by omega
        obtain ⟨g1, o1, cap1, e1, _, _, _⟩ := HU.out.ptr k (by rw [HLN.out]; exact hlt)
        obtain ⟨g2, o2, cap2, e2, _, _, _⟩ := HV.out.ptr k (by rw [HMN.out]; exact hltm)
        simp at e1 e2
        obtain ⟨rfl, rfl⟩ := e1
        obtain ⟨rfl, rfl⟩ := e2
        obtain ⟨x, hx⟩ : ∃ x, l[k]? = some x := ⟨_, List.getElem?_eq_getElem (by rw [HLN.out]; exact hlt)⟩
        obtain ⟨y, hy⟩ : ∃ y, m[k]? = some y := ⟨_, List.getElem?_eq_getElem (by rw [HMN.out]; exact hltm)⟩
        have d1 : ∀ u : KW wr, (loadCellsFrom ⟨g1, o1 + k * n, none⟩ 0 n #[]).run Try.prog u.1 = .ok (rc x) u.1 := fun u => (HU.out.keep (hk.trans u.2)).rt HN.out k x hx
        have d2 : ∀ u : KW wr, (loadCellsFrom ⟨g2, o2 + k * n, none⟩ 0 n #[]).run Try.prog u.1 = .ok (rc y) u.1 := fun u => (HV.out.keep (hk.trans u.2)).rt HN.out k y hy
        have heq : ∀ w, (Op.equalIn 10000 37 (.agg (rc x)) (.agg (rc y))).run Try.prog w = .ok (decide (x = y)) w := fun w => eq_rc 9995 x y w
        have HX := Lib.hid hx
        have HY := Lib.hid hy
        have HK := Lib.hid hk
        have HTK := Lib.hid hk2
        clear hx hy hk hk2
        by_cases hxy : x = y
        · simp only [decide_eq_true hxy] at heq
          have HXY := Lib.hid hxy
          clear hxy
          generalize rc x = X at *
          generalize rc y = Y at *
          go_wp2_with fail
          refine wp_region_keep (Keep.refl _) (by kernel_rfl) (by kernel_rfl) ?_
          repeat (first | go_big_quiet_step (fail) | quiet_step (fail))
          refine wpQuiet_nil ?_
          rintro w6 ⟨⟨w7, b7⟩, rfl⟩
          have HK7 := Lib.hid (HK.out.trans b7)
          clear HK b7 d1 d2 heq
          go_wp2
          go_roundw
          case rel => exact ⟨k + 1, by go_num, by rw [HLN.out]; omega, by rw [List.take_add_one, List.take_add_one, HTK.out, HX.out, HY.out, HXY.out], HK7.out⟩
          case measure => simp [intOf]; omega
        · simp only [decide_eq_false hxy] at heq
          have HXY := Lib.hid hxy
          clear hxy
          generalize rc x = X at *
          generalize rc y = Y at *
          go_wp2_with fail
          refine wp_region_keep (Keep.refl _) (by kernel_rfl) (by kernel_rfl) ?_
          repeat (first | go_big_quiet_step (fail) | quiet_step (fail))
          refine wpQuiet_nil ?_
          rintro w6 ⟨⟨w7, b7⟩, rfl⟩
          have HK7 := Lib.hid (HK.out.trans b7)
          clear HK b7 d1 d2 heq
          go_wp2
          go_ret
          refine ⟨?_, HK7.out⟩
          rw [← HD.out, decide_eq_false (fun e => HXY.out (by have h1 := HX.out; rw [e, HY.out] at h1; simpa using h1.symm))]
          rfl
      · have hlm : l = m := by
          rw [List.take_of_length_le (by rw [HLN.out]; omega), List.take_of_length_le (by rw [HMN.out]; omega)] at hk2
          exact hk2
        have hDt : D = true := by rw [← HD.out]; exact decide_eq_true hlm
        have HDT := Lib.hid hDt
        have HK := Lib.hid hk
        clear hlm hk2 hDt hk
        go_wp2
        go_ret
        refine ⟨?_, HK.out⟩
        rw [HDT.out]
        rfl
  · have hne : ((l.length : Int) != (m.length : Int)) = true := by simp; omega
    obtain ⟨N, hN⟩ : ∃ N, l.length = N := ⟨_, rfl⟩
    obtain ⟨M, hM⟩ : ∃ M, m.length = M := ⟨_, rfl⟩
    rw [decide_eq_false (fun e => hlen (by rw [e]))]
    rw [hN, hM] at hne ⊢
    clear hu hv hlen hN hM hl _hm
    go_enter Try.func22, Try.ntmps22
    go_wp2
    go_ret
    exact ⟨rfl, Keep.refl _⟩

end Go.Proofs.Ytfikdeobejhblaa
