/- Proved: what the chunk's Cut and the document's answer, what the document's Same answers of two lists of texts, what Join answers. Condition: lists and texts are short enough for memory. -/
import Derived.Test.YtlcdaagehamjlaaC
import Derived.Deep.QuietTactic
import Derived.BigQuiet
import Derived.Lib.Join
import Derived.Test.YtlcdaagehamjlaaShelf
namespace Go.Proofs.Ytlcdaagehamjlaa
open Go.RowKit

set_option maxRecDepth 100000 in
theorem dcut (l : List UInt8) (m : Int) (w : World) (_hl : l.length ≤ 1000000) : Calls Try.prog 9 #[.string ⟨l.toArray⟩, .int .i64 m] w fun e w' => ∃ v, e = .returned (.tuple #[v, .int .i64 (cutE l m)]) ∧ OwnS w.heap.size w' v (cutL l m) ∧ Keep w w' := by
  have hs := dsize m w
  rcases cutE_cases l m with ⟨h, he, hL⟩ | ⟨k, h, h1, h2, h3, he, hL⟩ | ⟨k, h, h1, h2, h3, he, hL, _⟩
  · rw [he, hL]
    rw [h] at hs
    have HS := Lib.hid hs
    clear hs h he hL
    go_enter Try.func9, Try.ntmps9
    go_wp2_with fail
    refine HS.out.mono ?_
    rintro e w ⟨rfl, rfl⟩
    go_wp2
    go_ret2
    exact ⟨_, rfl, Own.nil _ _, Keep.refl _⟩
  · have hk0 : ¬ ((k : Nat) : Int) = 0 := by omega
    rw [he, hL]
    rw [h, if_neg hk0] at hs
    have HS := Lib.hid hs
    have hgt : k * 256 < l.length := by omega
    clear hs h he hL h3
    go_enter Try.func9, Try.ntmps9
    go_wp2_with fail
    refine HS.out.mono ?_
    rintro e w ⟨rfl, rfl⟩
    go_wp2_with fail
    refine (dmost k h2 w).mono ?_
    rintro e w ⟨rfl, rfl⟩
    go_wp2
    go_ret2
    exact ⟨_, rfl, Own.nil _ _, Keep.refl _⟩
  · have hk0 : ¬ ((k : Nat) : Int) = 0 := by omega
    rw [he, hL]
    rw [h, if_neg hk0] at hs
    have HS := Lib.hid hs
    have H3 := Lib.hid h3
    have hgt : ¬ k * 256 < l.length := by omega
    clear hs h he hL h3
    go_enter Try.func9, Try.ntmps9
    go_wp2_with fail
    refine HS.out.mono ?_
    rintro e w ⟨rfl, rfl⟩
    go_wp2_with fail
    refine (dmost k h2 w).mono ?_
    rintro e w ⟨rfl, rfl⟩
    go_wp2_with fail
    refine (split_at l k w (by omega) h2 H3.out).mono ?_
    rintro e w1 ⟨v, rfl, hO, hK⟩
    have HO := Lib.hid hO
    have HK := Lib.hid hK
    clear hO hK
    go_wp2
    go_ret2
    exact ⟨_, rfl, HO.out, HK.out⟩

theorem part_at {k j n : Nat} (h : j < cnt k n) : j * k ≤ n := by
  rcases Nat.eq_zero_or_pos n with rfl | hn
  · rw [cnt_zero] at h
    obtain rfl : j = 0 := by omega
    omega
  · have h1 := cnt_lt (k := k) n hn
    have h2 : j * k ≤ (cnt k n - 1) * k := Nat.mul_le_mul_right k (by omega)
    omega
def CutRel (w : World) (l : List UInt8) (k : Nat) (v i : Value) (wr : World) : Prop := ∃ j : Nat, i = .int .i64 j ∧ j ≤ cnt k l.length ∧ OwnS w.heap.size wr v (partsN k j l) ∧ Keep w wr
set_option maxRecDepth 100000 in
set_option maxHeartbeats 1000000 in
theorem qcut (l : List UInt8) (m : Int) (w : World) (_hl : l.length ≤ 1000000) : Calls Try.prog 10 #[.string ⟨l.toArray⟩, .int .i64 m] w fun e w' => ∃ v, e = .returned (.tuple #[v, .int .i64 (cutE l m)]) ∧ OwnS w.heap.size w' v (cutL l m) ∧ Keep w w' := by
  have hs := qsize m w
  have hc := fun w => qcount l.length m w
  rcases cutE_cases l m with ⟨h, he, hL⟩ | ⟨k, h, h1, h2, h3, he, hL⟩ | ⟨k, h, h1, h2, h3, he, hL, h4⟩
  · rw [he, hL]
    rw [h] at hs
    have HS := Lib.hid hs
    clear hs h he hL hc
    go_enter Try.func10, Try.ntmps10
    go_wp2_with fail
    refine HS.out.mono ?_
    rintro e w ⟨rfl, rfl⟩
    go_wp2
    go_ret2
    exact ⟨_, rfl, Own.nil _ _, Keep.refl _⟩
  · have hk0 : ((k : Nat) : Int) ≠ 0 := by omega
    have hk2 : ((k : Int) == 0) = false := by simpa using hk0
    rw [countI_no (.inr (.inr (by omega)))] at hc
    rw [he, hL]
    rw [h] at hs
    have HS := Lib.hid hs
    have HC := Lib.hid hc
    clear hs h he hL h3 hc
    go_enter Try.func10, Try.ntmps10
    go_wp2_with fail
    refine HS.out.mono ?_
    rintro e w ⟨rfl, rfl⟩
    go_wp2_with fail
    refine (HC.out w).mono ?_
    rintro e w ⟨rfl, rfl⟩
    go_wp2
    go_ret2
    exact ⟨_, rfl, Own.nil _ _, Keep.refl _⟩
  · have hk0 : ((k : Nat) : Int) ≠ 0 := by omega
    have hk2 : ((k : Int) == 0) = false := by simpa using hk0
    rw [countI_ok h (by omega) h3] at hc
    rw [he, hL]
    rw [h] at hs
    have HS := Lib.hid hs
    have HC := Lib.hid hc
    obtain ⟨N, hN⟩ : ∃ N, cnt k l.length = N := ⟨_, rfl⟩
    have HN := Lib.hid hN
    rw [hN] at h4
    clear hs h he hL h3 hc hN
    go_enter Try.func10, Try.ntmps10
    go_wp2_with fail
    refine HS.out.mono ?_
    rintro e w ⟨rfl, rfl⟩
    go_wp2_with fail
    refine (HC.out w).mono ?_
    rintro e w ⟨rfl, rfl⟩
    rw [HN.out]
    go_wp2
    go_loopw [8, 9] (fun v i wr => CutRel w l k v i wr) (fun _ i _ => N - (intOf i).toNat)
    case atStart => exact ⟨0, rfl, Nat.zero_le _, Own.nil _ _, Keep.refl _⟩
    case round =>
      obtain ⟨j, rfl, hj, hO, hK⟩ := hrel
      rw [HN.out] at hj
      have HO := Lib.hid hO
      have HK := Lib.hid hK
      clear hO hK
      by_cases hlt : j < N
      · obtain ⟨P, hP⟩ : ∃ P, j * k = P := ⟨_, rfl⟩
        have hPl : P ≤ l.length := by rw [← hP]; exact part_at (by rw [HN.out]; exact hlt)
        have hprod : (j : Int) * (k : Int) = (P : Int) := by rw [← hP]; exact (Int.natCast_mul _ _).symm
        have HPE := Lib.hid hP
        have hS := HK.out.size
        clear hP
        have HA := fun w => Lib.hid (one_cells w ((⟨l.toArray⟩ : ByteArray).extract P (min (l.length : Int) ((P : Int) + (k : Int))).toNat) ((l.drop P).take k) (by
          rw [ext_mid]
          refine congrArg (fun z => ByteArray.mk (List.toArray z)) ?_
          by_cases hend : l.length < P + k
          · rw [show (min (l.length : Int) ((P : Int) + (k : Int))).toNat = l.length by omega, List.take_of_length_le (by rw [List.length_drop]; exact Nat.le_refl _), List.take_of_length_le (by rw [List.length_drop]; omega)]
          · rw [show (min (l.length : Int) ((P : Int) + (k : Int))).toNat = P + k by omega, Nat.add_sub_cancel_left]))
        go_wp2_with (at_builtin; refine wp_app elS rfl _ _ rfl w.heap.size _ _ (partsN k j l) [(l.drop P).take k] rfl rfl (HO.out.keep ((Keep.refl _).alloc _)) (HA wr).out ?q1 ?q2 ?q3 ?_)
        case q1 => rw [partsN_len]; simp; omega
        case q2 => rw [partsN_len]; simp; omega
        case q3 => simp; omega
        intro v' w2 hO2 hG
        have HO2 := Lib.hid hO2
        have HK2 := Lib.hid (HO.out.grown2 HK.out hG)
        clear hO2 hG HA hprod
        go_wp2
        go_roundw
        case rel => exact ⟨j + 1, by go_num, by rw [HN.out]; omega, by rw [partsN_succ, HPE.out]; exact HO2.out, HK2.out⟩
        case measure => simp [intOf]; omega
      · have hjN : j = N := by omega
        subst hjN
        have HPE := Lib.hid (show parts k l = partsN k j l by rw [parts, HN.out])
        go_wp2
        go_ret2
        exact ⟨_, rfl, by rw [HPE.out]; exact HO.out, HK.out⟩

theorem Cells.txt {w : World} {g o cap : Nat} {L : List (List UInt8)} (h : TexS w (.slice (some ⟨g, o, none⟩) L.length cap) L) (j : Nat) (x : List UInt8) (hx : L[j]? = some x) : w.cell? ⟨g, o + j, none⟩ = some (.string ⟨x.toArray⟩) := by
  have := h.cell (k := 1) (fun _ => rfl) j x hx 0 (by omega) (.string ⟨x.toArray⟩) rfl
  simpa using this
def EgRel {α : Type} (W : World) (l m : List α) (i : Value) (wr : World) : Prop := ∃ k : Nat, i = .int .i64 k ∧ k ≤ l.length ∧ l.take k = m.take k ∧ Keep W wr
set_option maxRecDepth 100000 in
set_option maxHeartbeats 1000000 in
theorem qsame (u v : Value) (l m : List (List UInt8)) (w : World) (hu : TexS w u l) (hv : TexS w v m) (hl : l.length ≤ 1000000) (_hm : m.length ≤ 1000000) : Calls Try.prog 11 #[u, v] w fun e w' => e = .returned (.bool (decide (l = m))) ∧ Keep w w' := by
  obtain ⟨a1, c1, rfl, _, _⟩ := hu.form
  obtain ⟨a2, c2, rfl, _, _⟩ := hv.form
  by_cases hlen : l.length = m.length
  · have hne : ((l.length : Int) != (m.length : Int)) = false := by simp [hlen]
    have HU := Lib.hid hu
    have HV := Lib.hid hv
    clear hu hv
    obtain ⟨N, hN⟩ : ∃ N, l.length = N := ⟨_, rfl⟩
    obtain ⟨M, hM⟩ : ∃ M, m.length = M := ⟨_, rfl⟩
    have HLN := Lib.hid hN
    have HMN := Lib.hid hM
    rw [hN] at hne hl hlen
    rw [hM] at hne _hm hlen
    rw [hN, hM]
    obtain ⟨D, hD⟩ : ∃ D, decide (l = m) = D := ⟨_, rfl⟩
    rw [hD]
    have HD := Lib.hid hD
    clear hN hM hD
    go_enter Try.func11, Try.ntmps11
    go_wp2
    go_loopw [5] (fun i wr => EgRel w l m i wr) (fun i _ => N - (intOf i).toNat)
    case atStart => exact ⟨0, rfl, Nat.zero_le _, rfl, Keep.refl _⟩
    case round =>
      obtain ⟨k, rfl, hk1, hk2, hk⟩ := hrel
      rw [HLN.out] at hk1
      by_cases hlt : k < N
      · have hltm : k < M := by omega
        obtain ⟨g1, o1, cap1, e1, _, _, _⟩ := HU.out.ptr k (by rw [HLN.out]; exact hlt)
        obtain ⟨g2, o2, cap2, e2, _, _, _⟩ := HV.out.ptr k (by rw [HMN.out]; exact hltm)
        simp at e1 e2
        obtain ⟨rfl, rfl⟩ := e1
        obtain ⟨rfl, rfl⟩ := e2
        obtain ⟨x, hx⟩ : ∃ x, l[k]? = some x := ⟨_, List.getElem?_eq_getElem (by rw [HLN.out]; exact hlt)⟩
        obtain ⟨y, hy⟩ : ∃ y, m[k]? = some y := ⟨_, List.getElem?_eq_getElem (by rw [HMN.out]; exact hltm)⟩
        have hc1 := HU.out
        have hc2 := HV.out
        have d1 : ∀ u : KW wr, u.1.cell? ⟨g1, o1 + k, none⟩ = some (.string ⟨x.toArray⟩) := fun u => (hc1.keep (hk.trans u.2)).txt k x hx
        have d2 : ∀ u : KW wr, u.1.cell? ⟨g2, o2 + k, none⟩ = some (.string ⟨y.toArray⟩) := fun u => (hc2.keep (hk.trans u.2)).txt k y hy
        have HX := Lib.hid hx
        have HY := Lib.hid hy
        have HK := Lib.hid hk
        have HTK := Lib.hid hk2
        clear hx hy hk hk2 hc1 hc2
        by_cases h1 : x = y
        · have hn1 : (x == y) = true := by simp [h1]
          have HXY := Lib.hid h1
          clear h1
          go_wp2_with fail
          refine wp_region_keep (Keep.refl _) (by kernel_rfl) (by kernel_rfl) ?_
          repeat (first | go_big_quiet_step (fail) | quiet_step (fail))
          refine wpQuiet_nil ?_
          rintro w6 ⟨⟨w7, b7⟩, hw6⟩
          obtain rfl : w7 = w6 := hw6.symm
          have HK7 := Lib.hid (HK.out.trans b7)
          clear HK hw6 b7 d1 d2
          go_wp2
          go_roundw
          case rel => exact ⟨k + 1, by go_num, by rw [HLN.out]; omega, by rw [List.take_add_one, List.take_add_one, HTK.out, HX.out, HY.out, HXY.out], HK7.out⟩
          case measure => simp [intOf]; omega
        · have hn1 : (x == y) = false := by simp [h1]
          have HXY := Lib.hid h1
          clear h1
          go_wp2_with fail
          refine wp_region_keep (Keep.refl _) (by kernel_rfl) (by kernel_rfl) ?_
          repeat (first | go_big_quiet_step (fail) | quiet_step (fail))
          refine wpQuiet_nil ?_
          rintro w6 ⟨⟨w7, b7⟩, hw6⟩
          obtain rfl : w7 = w6 := hw6.symm
          have HK7 := Lib.hid (HK.out.trans b7)
          clear HK hw6 b7 d1 d2
          go_wp2
          go_ret
          refine ⟨?_, HK7.out⟩
          rw [← HD.out, decide_eq_false (fun e => HXY.out (by have h1 := HX.out; rw [e, HY.out] at h1; simpa using h1.symm))]
          rfl
      · have hlm : l = m := by
          rw [List.take_of_length_le (by rw [HLN.out]; omega), List.take_of_length_le (by rw [HMN.out]; omega)] at hk2
          exact hk2
        have hDt : D = true := by rw [← HD.out]; exact decide_eq_true hlm
        have HDT := Lib.hid hDt
        have HK := Lib.hid hk
        clear hlm hk2 hDt hk
        go_wp2
        go_ret
        refine ⟨?_, HK.out⟩
        rw [HDT.out]
        rfl
  · have hne : ((l.length : Int) != (m.length : Int)) = true := by simp; omega
    obtain ⟨N, hN⟩ : ∃ N, l.length = N := ⟨_, rfl⟩
    obtain ⟨M, hM⟩ : ∃ M, m.length = M := ⟨_, rfl⟩
    rw [decide_eq_false (fun e => hlen (by rw [e]))]
    rw [hN, hM] at hne ⊢
    clear hu hv hlen hN hM hl _hm
    go_enter Try.func11, Try.ntmps11
    go_wp2
    go_ret
    exact ⟨rfl, Keep.refl _⟩

theorem join_empty (L : List (List UInt8)) : Lib.join L [] = L.flatten := by
  cases L with
  | nil => rfl
  | cons x r =>
    rw [Lib.join_cons, List.flatten_cons]
    congr 1
    unfold Lib.joinTail
    congr 1
    induction r with
    | nil => rfl
    | cons y r => simp
set_option maxRecDepth 100000 in
theorem djoin (v : Value) (L : List (List UInt8)) (w : World) (hv : TexS w v L) (hL : L.length ≤ 1000000) (hl : L.flatten.length ≤ 1000000) : Calls Try.prog 12 #[v] w fun e w' => e = .returned (.string ⟨L.flatten.toArray⟩) ∧ Keep w w' := by
  have hj : Calls Try.prog 19 #[v, .string ⟨#[]⟩] w fun e w' => e = .returned (.string ⟨L.flatten.toArray⟩) ∧ Keep w w' := by
    have hv0 := hv
    rcases hv with ⟨rfl, rfl⟩ | ⟨g, o, cap, rfl, h1, h2, h3, h4⟩
    · exact (Try.strings_Join_none none 0 _ w).mono fun e w' ⟨a, b⟩ => ⟨a, by rw [b]; exact Keep.refl _⟩
    · have hm : (L.map fun x => (⟨x.toArray⟩ : ByteArray)).map (·.data.toList) = L := by
        rw [List.map_map]
        exact (List.map_congr_left fun _ _ => rfl).trans (List.map_id _)
      have h := Try.strings_Join g o cap (L.map fun x => ⟨x.toArray⟩) ⟨#[]⟩ w (fun j x hx => by
        rw [List.getElem?_map] at hx
        cases hj : L[j]? with
        | none => rw [hj] at hx; cases hx
        | some y =>
          rw [hj] at hx
          obtain rfl : (⟨y.toArray⟩ : ByteArray) = x := by simpa using hx
          exact hv0.txt j y hj) h3 (by rw [List.length_map]; omega) (by rw [List.length_map]; exact h1) (by rw [hm]; exact (by rw [show (⟨#[]⟩ : ByteArray).data.toList = [] from rfl, join_empty]; omega))
      rw [List.length_map, hm, show (⟨#[]⟩ : ByteArray).data.toList = [] from rfl, join_empty] at h
      exact h
  have HJ := Lib.hid hj
  clear hj hv
  go_enter Try.func12, Try.ntmps12
  go_wp2_with fail
  refine HJ.out.mono ?_
  rintro e w1 ⟨rfl, hK⟩
  have HK := Lib.hid hK
  clear hK
  go_wp2
  go_ret
  exact ⟨rfl, HK.out⟩
end Go.Proofs.Ytlcdaagehamjlaa
