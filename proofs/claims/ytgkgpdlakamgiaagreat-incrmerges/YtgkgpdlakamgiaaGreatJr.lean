/- Proved: what the document's Print of layer 8, and its SameIncs over lists as they come in, answer. Condition: lists are short enough for memory; numbers have 32 bits. -/
import Derived.Test.YtgkgpdlakamgiaaGreatJq
namespace Go.Proofs.YtgkgpdlakamgiaaGreat
open Go.RowKit

set_option maxRecDepth 100000 in
set_option maxHeartbeats 1000000 in
theorem qsameL (u v : Value) (l m : List Ic) (w : World) (hu : Ls w u l) (hv : Ls w v m) (hl : l.length ≤ 1000000) (_hm : m.length ≤ 1000000) : Calls Tryz.prog 11 #[u, v] w fun e w' => e = .returned (.bool (decide (l = m))) ∧ Keep w w' := by
  obtain ⟨a1, c1, rfl⟩ := hu.form
  obtain ⟨a2, c2, rfl⟩ := hv.form
  obtain ⟨n, hn⟩ : ∃ n, n = 21 := ⟨21, rfl⟩
  have hsz : ∀ w, (Go.sizeOf 59).run Tryz.prog w = .ok n w := fun w => by rw [hn]; exact Tryz.sizeOf59 w
  have hn0 : ¬ n = 0 := by omega
  have HN := Lib.hid hn
  clear hn
  by_cases hlen : l.length = m.length
  · have hne : ((l.length : Int) != (m.length : Int)) = false := by simp [hlen]
    have HU := Lib.hid hu
    have HV := Lib.hid hv
    have HLE := Lib.hid hlen
    clear hu hv
    obtain ⟨N, hN⟩ : ∃ N, l.length = N := ⟨_, rfl⟩
    obtain ⟨M, hM⟩ : ∃ M, m.length = M := ⟨_, rfl⟩
    have HLN := Lib.hid hN
    have HMN := Lib.hid hM
    rw [hN] at hne hl hlen
    rw [hM] at hne _hm hlen
    rw [hN, hM]
    obtain ⟨D, hD⟩ : ∃ D, decide (l = m) = D := ⟨_, rfl⟩
    rw [hD]
    have HD := Lib.hid hD
    clear hN hM hD
    go_enter Tryz.func11, Tryz.ntmps11
    go_wp2
    go_loopw [5] (fun i wr => SiRel w l m i wr) (fun i _ => N - (intOf i).toNat)
    case atStart => exact ⟨0, rfl, Nat.zero_le _, rfl, Keep.refl _⟩
    case round =>
      obtain ⟨k, rfl, hk1, hk2, hk⟩ := hrel
      rw [HLN.out] at hk1
      by_cases hlt : k < N
      · have hltm : k < M := by omega
        obtain ⟨g1, o1, cap1, e1, _, _, _⟩ := (HU.out.at k (by rw [HLN.out]; exact hlt)).ptr k (by rw [HLN.out]; exact hlt)
        obtain ⟨g2, o2, cap2, e2, _, _, _⟩ := (HV.out.at k (by rw [HMN.out]; exact hltm)).ptr k (by rw [HMN.out]; exact hltm)
        simp at e1 e2
        obtain ⟨rfl, rfl⟩ := e1
        obtain ⟨rfl, rfl⟩ := e2
        obtain ⟨x, hx⟩ : ∃ x, l[k]? = some x := ⟨_, List.getElem?_eq_getElem (by rw [HLN.out]; exact hlt)⟩
        obtain ⟨y, hy⟩ : ∃ y, m[k]? = some y := ⟨_, List.getElem?_eq_getElem (by rw [HMN.out]; exact hltm)⟩
        have d1 : ∀ u : KW wr, (loadCellsFrom ⟨g1, o1 + k * n, none⟩ 0 n #[]).run Tryz.prog u.1 = .ok (ic x) u.1 := fun u => Cells.ic ((HU.out.keep (hk.trans u.2)).at k (by rw [HLN.out]; exact hlt)) HN.out k x hx
        have d2 : ∀ u : KW wr, (loadCellsFrom ⟨g2, o2 + k * n, none⟩ 0 n #[]).run Tryz.prog u.1 = .ok (ic y) u.1 := fun u => Cells.ic ((HV.out.keep (hk.trans u.2)).at k (by rw [HMN.out]; exact hltm)) HN.out k y hy
        have heq : ∀ w, (Op.equalIn 10000 59 (.agg (ic x)) (.agg (ic y))).run Tryz.prog w = .ok (decide (x = y)) w := fun w => eq_ic 9994 x y w
        have HX := Lib.hid hx
        have HY := Lib.hid hy
        have HK := Lib.hid hk
        have HTK := Lib.hid hk2
        clear hx hy hk hk2
        by_cases hxy : x = y
        · simp only [decide_eq_true hxy] at heq
          have HXY := Lib.hid hxy
          clear hxy
          generalize ic x = X at *
          generalize ic y = Y at *
          go_wp2_with fail
          refine wp_region_keep (Keep.refl _) (by kernel_rfl) (by kernel_rfl) ?_
          repeat (first | go_big_quiet_step (fail) | quiet_step (fail))
          refine wpQuiet_nil ?_
          rintro w6 ⟨⟨w7, b7⟩, rfl⟩
          have HK7 := Lib.hid (HK.out.trans b7)
          clear HK b7 d1 d2 heq
          go_wp2
          go_roundw
          case rel => exact ⟨k + 1, by go_num, by rw [HLN.out]; omega, by rw [List.take_add_one, List.take_add_one, HTK.out, HX.out, HY.out, HXY.out], HK7.out⟩
          case measure => simp [intOf]; omega
        · simp only [decide_eq_false hxy] at heq
          have HXY := Lib.hid hxy
          clear hxy
          generalize ic x = X at *
          generalize ic y = Y at *
          go_wp2_with fail
          refine wp_region_keep (Keep.refl _) (by kernel_rfl) (by kernel_rfl) ?_
          repeat (first | go_big_quiet_step (fail) | quiet_step (fail))
          refine wpQuiet_nil ?_
          rintro w6 ⟨⟨w7, b7⟩, rfl⟩
          have HK7 := Lib.hid (HK.out.trans b7)
          clear HK b7 d1 d2 heq
          go_wp2
          go_ret
          refine ⟨?_, HK7.out⟩
          rw [← HD.out, decide_eq_false (fun e => HXY.out (by have h1 := HX.out; rw [e, HY.out] at h1; simpa using h1.symm))]
          rfl
      · have hlm : l = m := by
          rw [List.take_of_length_le (by rw [HLN.out]; omega), List.take_of_length_le (by rw [HMN.out]; omega)] at hk2
          exact hk2
        have hDt : D = true := by rw [← HD.out]; exact decide_eq_true hlm
        have HDT := Lib.hid hDt
        have HK := Lib.hid hk
        clear hlm hk2 hDt hk
        go_wp2
        go_ret
        refine ⟨?_, HK.out⟩
        rw [HDT.out]
        rfl
  · have hne : ((l.length : Int) != (m.length : Int)) = true := by simp; omega
    obtain ⟨N, hN⟩ : ∃ N, l.length = N := ⟨_, rfl⟩
    obtain ⟨M, hM⟩ : ∃ M, m.length = M := ⟨_, rfl⟩
    rw [decide_eq_false (fun e => hlen (by rw [e]))]
    rw [hN, hM] at hne ⊢
    clear hu hv hlen hN hM hl _hm
    go_enter Tryz.func11, Tryz.ntmps11
    go_wp2
    go_ret
    exact ⟨rfl, Keep.refl _⟩

set_option maxRecDepth 100000 in
set_option maxHeartbeats 2000000 in
theorem qprint8 (v : Value) (l : List Ic) (w : World) (h : Ls w v l) (hq : ∀ i ∈ l, SqI i) (hl : l.length ≤ 1000000) : Calls Tryz.prog 9 #[v] w fun e w' => e = .returned (.tuple #[.string ⟨(printI l).1.toArray⟩, .int .i64 (printI l).2]) ∧ Keep w w' := by
  obtain ⟨R, hR⟩ : ∃ R, R = printI l := ⟨_, rfl⟩
  rw [← hR]
  unfold printI at hR
  have HR := Lib.hid hR
  have HBs := Lib.hid (fun (w : World) (h : Ls w v l) (hr : ∀ i ∈ l, rightI i) (hl : l.length ≤ 200) => qrowB v l w h hr hq hl)
  obtain ⟨a, cap, rfl⟩ := h.form
  obtain ⟨n, hn⟩ : ∃ n, n = 21 := ⟨21, rfl⟩
  have hsz : ∀ w, (Go.sizeOf 59).run Tryz.prog w = .ok n w := fun w => by rw [hn]; exact Tryz.sizeOf59 w
  have hn0 : ¬ n = 0 := by omega
  have HN := Lib.hid hn
  have HL := Lib.hid h
  obtain ⟨N, hN⟩ : ∃ N, l.length = N := ⟨_, rfl⟩
  have HLN := Lib.hid hN
  rw [hN] at hl HR HBs ⊢
  clear hn h hN hR hq
  go_enter Tryz.func9, Tryz.ntmps9
  go_wp2
  go_loopw [4] (fun i wr => ArRel w l i wr) (fun i _ => N - (intOf i).toNat)
  case atStart => exact ⟨0, rfl, Nat.zero_le _, by simp, Keep.refl _⟩
  case round =>
    obtain ⟨k, rfl, hk1, hk2, hk⟩ := hrel
    rw [HLN.out] at hk1
    by_cases hlt : k < N
    · have hcl := HL.out.at k (by rw [HLN.out]; exact hlt)
      obtain ⟨g, o, cap', e, _, _, _⟩ := hcl.ptr k (by rw [HLN.out]; exact hlt)
      simp at e
      obtain ⟨rfl, rfl⟩ := e
      obtain ⟨x, hx⟩ : ∃ x, l[k]? = some x := ⟨_, List.getElem?_eq_getElem (by rw [HLN.out]; exact hlt)⟩
      have dx := (hcl.keep hk).ic HN.out k x hx
      have HM := Lib.hid (qmay x)
      have HX := Lib.hid hx
      have HT := Lib.hid hk2
      have HK := Lib.hid hk
      clear hcl hx hk hk2
      by_cases hxr : rightI x
      · rw [decide_eq_true hxr] at HM
        have HXR := Lib.hid hxr
        clear hxr
        go_wp2_with fail
        refine (HM.out _).mono ?_
        rintro e w1 ⟨rfl, b1⟩
        have HK1 := Lib.hid (HK.out.trans b1)
        clear b1 dx
        go_wp2
        go_roundw
        case rel =>
          refine ⟨k + 1, by go_num, by rw [HLN.out]; omega, ?_, HK1.out⟩
          intro y hy
          rw [List.take_add_one, HX.out] at hy
          rcases List.mem_append.1 hy with hy | hy
          · exact HT.out y hy
          · simp at hy; rw [hy]; exact HXR.out
        case measure => simp [intOf]; omega
      · rw [decide_eq_false hxr] at HM
        have HRE := Lib.hid (show R = ([], 1) from by rw [HR.out, if_neg fun e => hxr (e x (List.mem_of_getElem? HX.out))])
        clear hxr
        go_wp2_with fail
        refine (HM.out _).mono ?_
        rintro e w1 ⟨rfl, b1⟩
        have HK1 := Lib.hid (HK.out.trans b1)
        clear b1 dx
        go_wp2
        go_ret2
        exact ⟨by rw [HRE.out]; rfl, HK1.out⟩
    · have hall : ∀ i ∈ l, rightI i := by
        rw [List.take_of_length_le (by rw [HLN.out]; omega)] at hk2
        exact hk2
      have HK := Lib.hid hk
      have hR := HR.out
      rw [if_pos hall] at hR
      by_cases hN : 200 < N
      · rw [if_pos hN] at hR
        have hNi : (N : Int) > 200 := by omega
        have HRE := Lib.hid hR
        clear hk hk2 hall hR
        go_wp2
        go_ret2
        exact ⟨by rw [HRE.out]; rfl, HK.out⟩
      · rw [if_neg hN] at hR
        have hNi : ¬ (N : Int) > 200 := by omega
        have HRE := Lib.hid hR
        have HB := Lib.hid (HBs.out wr (HLN.out ▸ HL.out.keep hk) hall (by omega))
        generalize rowB l = RB at *
        clear hk hk2 hall hR
        go_wp2_with fail
        refine HB.out.mono ?_
        rintro e w1 ⟨rfl, b1⟩
        go_wp2
        go_ret2
        exact ⟨by rw [HRE.out]; rfl, HK.out.trans b1⟩
end Go.Proofs.YtgkgpdlakamgiaaGreat
