/- Proved: what the document's New answers. Condition: the list is short enough for memory. -/
import Derived.Test.YtfikdeobejhblaaRp
import Derived.Test.YtfikdeobejhblaaMs
import Derived.Test.YtfikdeobejhblaaMo
namespace Go.Proofs.Ytfikdeobejhblaa
open Go.RowKit

theorem cut_toC {w : World} {g o cap : Nat} {l : List Rt} (h : Cells rl w (.slice (some ⟨g, o, none⟩) l.length cap) l) (j : Nat) (hj : j ≤ l.length) : ∃ v1, (∀ w', (Instr.sliceAt 22 (.slice (some ⟨g, o, none⟩) l.length cap) none (some (.int .i64 j)) none).run Try.prog w' = .ok v1 w') ∧ Cells rl w v1 (l.take j) := by
  have he : Try.prog.elem 22 = 37 := by kernel_rfl
  have h0 := h
  rcases h with ⟨h1, _⟩ | ⟨g', o', cap', h1, h2, h3, h4, _⟩
  · cases h1
  · simp at h1
    obtain ⟨⟨rfl, rfl⟩, rfl⟩ := h1
    have hm : cap ≤ 9223372036854775807 := by unfold maxLen at h3; omega
    have hjc : ¬ cap < j := by omega
    refine ⟨.slice (some ⟨g, o, none⟩) j cap, fun w' => ?_, ?_⟩
    · go_simp
    · have := h0.part rl_len 0 j cap (Nat.zero_le _) hj o (fun _ => by omega) (by omega) (by omega)
      simpa using this
/-- Where prefixes are unlike, there is one answer. -/
theorem find_one {l : List Rt} (hd : (l.map (·.to)).Nodup) (p : Px) : ∃ z : Int, (∀ z', Fnd l p z' → z' = z) ∧ ((0 ≤ z ∧ hasP l p = true) ∨ (z = -1 ∧ hasP l p = false)) := by
  cases hh : hasP l p
  · refine ⟨-1, fun z' hz => ?_, .inr ⟨rfl, rfl⟩⟩
    rcases hz with ⟨h, _⟩ | ⟨k, x, _, hx, he⟩
    · exact h
    · have : hasP l p = true := by
        simp only [hasP, List.any_eq_true, decide_eq_true_eq]
        exact ⟨x, List.mem_of_getElem? hx, he⟩
      rw [hh] at this
      cases this
  · have h1 := hh
    simp only [hasP, List.any_eq_true, decide_eq_true_eq] at h1
    obtain ⟨y, hm, hy⟩ := h1
    obtain ⟨j, hj, he⟩ := List.mem_iff_getElem.1 hm
    refine ⟨(j : Int), fun z' hz => ?_, .inl ⟨by omega, rfl⟩⟩
    rcases hz with ⟨_, h⟩ | ⟨k, x, h0, hx, hxp⟩
    · rw [hh] at h
      cases h
    · obtain ⟨hk, hxe⟩ := List.getElem?_eq_some_iff.1 hx
      have hpw := List.pairwise_iff_getElem.1 (List.pairwise_map.1 hd)
      rw [h0]
      rcases Nat.lt_trichotomy j k with h | h | h
      · exact absurd (by rw [he, hxe, hy, hxp]) (hpw j k hj hk h)
      · rw [h]
      · exact absurd (by rw [he, hxe, hy, hxp]) (hpw k j hk hj h)
theorem take_nodup {l : List Rt} {k : Nat} {x : Rt} (hx : l[k]? = some x) (hd : ((l.take k).map (·.to)).Nodup) (hh : hasP (l.take k) x.to = false) : ((l.take (k + 1)).map (·.to)).Nodup := by
  rw [List.take_add_one, hx, List.map_append]
  refine List.nodup_append.2 ⟨hd, by simp, ?_⟩
  intro a ha b hb
  simp at hb
  subst hb
  obtain ⟨y, hy, rfl⟩ := List.mem_map.1 ha
  intro e
  have : hasP (l.take k) x.to = true := by
    simp only [hasP, List.any_eq_true, decide_eq_true_eq]
    exact ⟨y, hy, e⟩
  rw [hh] at this
  cases this
theorem dup_of {l : List Rt} {k : Nat} {x : Rt} (hx : l[k]? = some x) (hh : hasP (l.take k) x.to = true) : ¬ (l.map (·.to)).Nodup := by
  intro hd
  simp only [hasP, List.any_eq_true, decide_eq_true_eq] at hh
  obtain ⟨y, hm, hy⟩ := hh
  obtain ⟨j, hj, he⟩ := List.mem_iff_getElem.1 hm
  rw [List.length_take] at hj
  rw [List.getElem_take] at he
  obtain ⟨hk, hxe⟩ := List.getElem?_eq_some_iff.1 hx
  exact absurd (by rw [he, hxe, hy]) (List.pairwise_iff_getElem.1 (List.pairwise_map.1 hd) j k (by omega) hk (by omega))
theorem put_perm {l : List Rt} (x : Rt) (hh : hasP l x.to = false) : (putL l x).Perm (x :: l) := by
  unfold putL
  rw [hh, if_neg (by simp)]
  refine List.perm_middle.trans ?_
  rw [List.take_append_drop]
theorem perm_has {l m : List Rt} (h : l.Perm m) (p : Px) : hasP l p = hasP m p := by
  rw [Bool.eq_iff_iff]
  simp only [hasP, List.any_eq_true, decide_eq_true_eq]
  constructor
  · rintro ⟨x, hx, e⟩
    exact ⟨x, h.mem_iff.1 hx, e⟩
  · rintro ⟨x, hx, e⟩
    exact ⟨x, h.mem_iff.2 hx, e⟩
theorem has_take {l : List Rt} {k : Nat} {x : Rt} (hx : l[k]? = some x) (hd : (l.map (·.to)).Nodup) : hasP (l.take k) x.to = false := by
  cases hh : hasP (l.take k) x.to
  · rfl
  · exact absurd hd (dup_of hx hh)
def N1 (w : World) (l : List Rt) (i : Value) (wr : World) : Prop := ∃ k : Nat, i = .int .i64 k ∧ k ≤ l.length ∧ (∀ r ∈ l.take k, rightR r) ∧ Keep w wr
def N2 (w : World) (l : List Rt) (i : Value) (wr : World) : Prop := ∃ k : Nat, i = .int .i64 k ∧ k ≤ l.length ∧ ((l.take k).map (·.to)).Nodup ∧ Keep w wr
def N3 (w : World) (l : List Rt) (v i : Value) (wr : World) : Prop := ∃ (k : Nat) (m : List Rt), i = .int .i64 k ∧ k ≤ l.length ∧ Row rl 37 wr v m ∧ Sorted m ∧ m.Perm (l.take k) ∧ Keep w wr
def QnPost (w : World) (l : List Rt) (e : Ending) (w' : World) : Prop := ∃ v', e = .returned (.tuple #[v', .int .i64 (newE l)]) ∧ Keep w w' ∧ (newE l = 0 → ∃ m, Row rl 37 w' v' m ∧ Sorted m ∧ m.Perm l)

set_option maxRecDepth 100000 in
set_option maxHeartbeats 4000000 in
theorem qnew (a : Option Addr) (cap : Nat) (l : List Rt) (w : World) (hA : ArgL rl w a cap l) (hl : l.length ≤ 1000) : Calls Try.prog 48 #[.slice a l.length cap] w (QnPost w l) := by
  obtain ⟨n, hn⟩ : ∃ n, n = 20 := ⟨20, rfl⟩
  have hsz : ∀ w, (Go.sizeOf 37).run Try.prog w = .ok n w := fun w => by rw [hn]; exact Try.sizeOf37 w
  have hn0 : ¬ n = 0 := by omega
  obtain ⟨n2, hn2⟩ : ∃ n, n = 18 := ⟨18, rfl⟩
  have hsz2 : ∀ w, (Go.sizeOf 34).run Try.prog w = .ok n2 w := fun w => by rw [hn2]; exact Try.sizeOf34 w
  have hn20 : ¬ n2 = 0 := by omega
  have HN := Lib.hid hn
  have HN2 := Lib.hid hn2
  have HA := Lib.hid hA
  obtain ⟨L, hL⟩ : ∃ n, l.length = n := ⟨_, rfl⟩
  have HL := Lib.hid hL
  rw [hL] at hl ⊢
  clear hA hn hn2 hL
  go_enter Try.func48, Try.ntmps48
  go_wp2
  go_loopw [4] (fun i wr => N1 w l i wr) (fun i _ => L - (intOf i).toNat)
  case atStart => exact ⟨0, rfl, Nat.zero_le _, by simp, Keep.refl _⟩
  case round =>
    obtain ⟨k, rfl, hk, hr, hkp⟩ := hrel
    rw [HL.out] at hk
    by_cases hlt : k < L
    · have hne : l ≠ [] := fun e => by have := HL.out; rw [e] at this; simp at this; omega
      have hcl := (HA.out.keep hkp).cells hne
      obtain ⟨g, o, cap', e, _, _, _⟩ := hcl.ptr k (by rw [HL.out]; exact hlt)
      simp at e
      obtain ⟨rfl, rfl⟩ := e
      obtain ⟨x, hx⟩ : ∃ x, l[k]? = some x := ⟨_, List.getElem?_eq_getElem (by rw [HL.out]; exact hlt)⟩
      have d1 := hcl.rt HN.out k x hx
      have HRR := Lib.hid (qrightT x).keep
      have HX := Lib.hid hx
      have HR := Lib.hid hr
      have HKP := Lib.hid hkp
      clear hcl hx hr hkp
      by_cases hrx : rightR x
      · rw [decide_eq_true hrx] at HRR
        have HRX := Lib.hid hrx
        clear hrx
        generalize rc x = X at *
        go_wp2_with fail
        refine (HRR.out _).mono ?_
        rintro e w4 ⟨rfl, b4⟩
        have HB4 := Lib.hid b4
        clear b4 d1
        go_wp2
        go_roundw
        case rel => exact ⟨k + 1, by go_num, by rw [HL.out]; omega, fun r hr => by
          rw [List.take_add_one, HX.out] at hr
          rcases List.mem_append.1 hr with h | h
          · exact HR.out r h
          · simp at h; rw [h]; exact HRX.out, HKP.out.trans HB4.out⟩
        case measure => simp [intOf]; omega
      · rw [decide_eq_false hrx] at HRR
        have HE : Hid (newE l = 1) := by
          show newE l = 1
          unfold newE
          rw [if_neg (fun h => hrx (h x (List.mem_of_getElem? HX.out)))]
        clear hrx
        generalize rc x = X at *
        go_wp2_with fail
        refine (HRR.out _).mono ?_
        rintro e w4 ⟨rfl, b4⟩
        go_wp2
        go_ret2
        exact ⟨_, by rw [HE.out]; rfl, HKP.out.trans b4, fun h => by rw [HE.out] at h; cases h⟩
    · have HALL := Lib.hid (show ∀ r ∈ l, rightR r from fun r hm => hr r (by rw [List.take_of_length_le (by rw [HL.out]; omega)]; exact hm))
      have HK1 := Lib.hid hkp
      clear hr hkp
      go_wp2
      go_loopw [5] (fun i wr => N2 w l i wr) (fun i _ => L - (intOf i).toNat)
      case atStart => exact ⟨0, rfl, Nat.zero_le _, by simp, HK1.out⟩
      case round =>
        clear HK1
        obtain ⟨k, rfl, hk, hd, hkp⟩ := hrel
        rw [HL.out] at hk
        by_cases hlt : k < L
        · have hne : l ≠ [] := fun e => by have := HL.out; rw [e] at this; simp at this; omega
          have hcl := (HA.out.keep hkp).cells hne
          obtain ⟨g, o, cap', e, _, _, _⟩ := hcl.ptr k (by rw [HL.out]; exact hlt)
          simp at e
          obtain ⟨rfl, rfl⟩ := e
          obtain ⟨x, hx⟩ : ∃ x, l[k]? = some x := ⟨_, List.getElem?_eq_getElem (by rw [HL.out]; exact hlt)⟩
          obtain ⟨v1, s1, c1⟩ := cut_toC hcl k (by rw [HL.out]; omega)
          have s2 : ∀ w', (Instr.sliceAt 22 (.slice (some ⟨g, o, none⟩) L cap) none (some (.int .i64 k)) none).run Try.prog w' = .ok v1 w' := fun w' => by rw [← HL.out]; exact s1 w'
          have d1 : ∀ u : KW wr, (loadCellsFrom ⟨g, o + k * n, none⟩ 0 n2 #[]).run Try.prog u.1 = .ok (pc x.to) u.1 := fun u => (hcl.keep u.2).to HN2.out HN.out k x hx
          obtain ⟨z, hz1, hz2⟩ := find_one hd x.to
          have HFD : Hid (∀ u : KW wr, Calls Try.prog 79 #[v1, .agg (pc x.to)] u.1 fun e w'' => e = .returned (.int .i64 z) ∧ ∃ m : KW wr, w'' = m.1) := fun u => keep_at (fun w1 k1 => by
            refine (find v1 (l.take k) x.to x.ok w1 (c1.keep k1) (by rw [List.length_take, HL.out]; omega)).mono ?_
            rintro e w2 ⟨z', rfl, hf, b2⟩
            rw [hz1 z' hf]
            exact ⟨rfl, b2⟩) u
          have HX := Lib.hid hx
          have HD := Lib.hid hd
          have HKP := Lib.hid hkp
          have HZ := Lib.hid hz2
          clear hcl hx hd hkp s1 c1 hz1 hz2
          by_cases hz : z ≥ 0
          · have hzd : decide (z ≥ 0) = true := decide_eq_true hz
            have HE : Hid (newE l = 9) := by
              show newE l = 9
              unfold newE
              rw [if_pos HALL.out, if_neg]
              rcases HZ.out with ⟨_, hh⟩ | ⟨h0, _⟩
              · exact dup_of HX.out hh
              · omega
            generalize pc x.to = X at *
            go_wp2_with fail
            refine wp_region_keep (Keep.refl _) (by kernel_rfl) (by kernel_rfl) ?_
            repeat (first | go_big_quiet_step (fail) | quiet_step (fail))
            first | go_big_quiet_step (exact HFD.out _) | quiet_step (exact HFD.out _)
            repeat (first | go_big_quiet_step (fail) | quiet_step (fail))
            refine wpQuiet_nil ?_
            rintro w6 ⟨⟨w7, b7⟩, rfl⟩
            have HB7 := Lib.hid b7
            clear b7 d1 s2
            go_wp2
            go_ret2
            exact ⟨_, by rw [HE.out]; rfl, HKP.out.trans HB7.out, fun h => by rw [HE.out] at h; cases h⟩
          · have hzd : decide (z ≥ 0) = false := decide_eq_false hz
            have HND := Lib.hid (show ((l.take (k + 1)).map (·.to)).Nodup from by
              rcases HZ.out with ⟨h0, _⟩ | ⟨_, hh⟩
              · omega
              · exact take_nodup HX.out HD.out hh)
            generalize pc x.to = X at *
            go_wp2_with fail
            refine wp_region_keep (Keep.refl _) (by kernel_rfl) (by kernel_rfl) ?_
            repeat (first | go_big_quiet_step (fail) | quiet_step (fail))
            first | go_big_quiet_step (exact HFD.out _) | quiet_step (exact HFD.out _)
            repeat (first | go_big_quiet_step (fail) | quiet_step (fail))
            refine wpQuiet_nil ?_
            rintro w6 ⟨⟨w7, b7⟩, rfl⟩
            have HB7 := Lib.hid b7
            clear b7 d1 s2
            go_wp2
            go_roundw
            case rel => exact ⟨k + 1, by go_num, by rw [HL.out]; omega, HND.out, HKP.out.trans HB7.out⟩
            case measure => simp [intOf]; omega
        · have HND := Lib.hid (show (l.map (·.to)).Nodup from by rwa [List.take_of_length_le (by rw [HL.out]; omega)] at hd)
          have HK1 := Lib.hid hkp
          clear hd hkp
          by_cases hbig : 300 < L
          · have hbI : (L : Int) > 300 := by omega
            have HE : Hid (newE l = 7) := by
              show newE l = 7
              unfold newE
              rw [if_pos HALL.out, if_pos HND.out, if_neg (by rw [HL.out]; omega)]
            go_wp2
            go_ret2
            exact ⟨_, by rw [HE.out]; rfl, HK1.out, fun h => by rw [HE.out] at h; cases h⟩
          · have hbI : ¬ ((L : Int) > 300) := by omega
            have HE : Hid (newE l = 0) := by
              show newE l = 0
              unfold newE
              rw [if_pos HALL.out, if_pos HND.out, if_pos (by rw [HL.out]; omega)]
            go_wp2
            go_loopw [6, 7] (fun v i wr => N3 w l v i wr) (fun _ i _ => L - (intOf i).toNat)
            case atStart => exact ⟨0, [], rfl, Nat.zero_le _, Row.nil _ _, Sorted.nil, by simp, HK1.out⟩
            case round =>
              clear HK1
              obtain ⟨k, m, rfl, hk, hrow, hso, hpm, hkp⟩ := hrel
              rw [HL.out] at hk
              by_cases hlt : k < L
              · have hne : l ≠ [] := fun e => by have := HL.out; rw [e] at this; simp at this; omega
                have hcl := (HA.out.keep hkp).cells hne
                obtain ⟨g, o, cap', e, _, _, _⟩ := hcl.ptr k (by rw [HL.out]; exact hlt)
                simp at e
                obtain ⟨rfl, rfl⟩ := e
                obtain ⟨x, hx⟩ : ∃ x, l[k]? = some x := ⟨_, List.getElem?_eq_getElem (by rw [HL.out]; exact hlt)⟩
                have d1 := hcl.rt HN.out k x hx
                have hml : m.length = k := by rw [hpm.length_eq, List.length_take, HL.out]; omega
                have hh : hasP m x.to = false := by rw [perm_has hpm, has_take hx HND.out]
                have hps : putS m x = (putL m x, 0) := by
                  unfold putS
                  rw [if_pos (HALL.out x (List.mem_of_getElem? hx)), if_neg (by simp [hh]), if_neg (by omega)]
                have HPU := Lib.hid (qput _ m x wr hrow hso (by omega))
                rw [hps] at HPU
                have HPM := Lib.hid (show (putL m x).Perm (l.take (k + 1)) from by
                  rw [List.take_add_one, hx]
                  refine (put_perm x hh).trans ?_
                  refine (List.Perm.cons x hpm).trans ?_
                  exact (List.perm_append_comm (l₁ := [x])))
                have HSO := Lib.hid (putL_sorted hso x)
                have HKP := Lib.hid hkp
                clear hcl hx hrow hso hpm hkp hh hps hml
                generalize rc x = X at *
                go_wp2_with fail
                refine HPU.out.mono ?_
                rintro e w4 ⟨v4, rfl, r4, b4⟩
                have HR4 := Lib.hid r4
                have HB4 := Lib.hid (HKP.out.trans b4)
                clear r4 b4 d1 HPU
                go_wp2
                go_roundw
                case rel => exact ⟨k + 1, _, by go_num, by rw [HL.out]; omega, HR4.out, HSO.out, HPM.out, HB4.out⟩
                case measure => simp [intOf]; omega
              · have HRW := Lib.hid hrow
                have HSO := Lib.hid hso
                have HKP := Lib.hid hkp
                have HPM := Lib.hid (show m.Perm l from by rwa [List.take_of_length_le (by rw [HL.out]; omega)] at hpm)
                clear hrow hso hpm hkp
                go_wp2
                go_ret2
                exact ⟨_, by rw [HE.out]; rfl, HKP.out, fun _ => ⟨m, HRW.out, HSO.out, HPM.out⟩⟩
end Go.Proofs.Ytfikdeobejhblaa
