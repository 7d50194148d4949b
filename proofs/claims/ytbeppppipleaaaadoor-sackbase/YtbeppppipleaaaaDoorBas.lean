/- Proved: for every int and every list of bytes the law SackBase returns true (the base never falls; all below it are there; with one more there it rises at most to the next one that isn't), and its arguments read behind the call as they read before. Condition, by the row's own list: math/bits.deBruijn64tab starts as the program's text lays it (the card ties that). -/
import Derived.Test.YtbeppppipleaaaaDoorFi
namespace Go.Proofs.YtbeppppipleaaaaDoor.LSackBase
open Go.RowKit

def InRel (w : World) (B : Nat) (iv : Value) (wr : World) : Prop := ∃ j : Nat, iv = .int .i64 j ∧ j ≤ B ∧ Keep w wr

set_option maxRecDepth 100000 in
set_option maxHeartbeats 2000000 in
theorem walk (n : Int) (a : Option Addr) (cap : Nat) (xs : List UInt8) (w : World) (_hn : -9223372036854775808 ≤ n ∧ n ≤ 9223372036854775807) (hA : ArgB w a cap xs) (ht : Tab w) : Calls Tryd.prog 7 #[.int .i64 n, .slice a xs.length cap] w fun e w' => e = .returned (.bool true) ∧ Keep w w' := by
  have HT := Lib.hid ht
  have HA := Lib.hid hA
  have hsm := hA.small
  unfold maxLen at hsm
  clear ht hA
  obtain ⟨N, hN⟩ : ∃ N, sizeN n = N := ⟨_, rfl⟩
  have hN1 := sizeN_pos n
  have hN2 := sizeN_le n
  have hNe := size_law n
  rw [hN] at hN1 hN2 hNe
  clear hN
  obtain ⟨L, hL⟩ : ∃ L, xs.length = L := ⟨_, rfl⟩
  have HL := Lib.hid hL
  rw [hL] at hsm ⊢
  clear hL
  by_cases hbig : 400 < L
  · have hbI : (L : Int) > 400 := by omega
    go_enter Tryd.func7, Tryd.ntmps7
    go_wp2_with fail
    refine (new_at N hN1 hN2 w HT.out).mono ?_
    rintro e w1 ⟨b, rfl, hb, m1, k1⟩
    go_wp2_with fail
    refine (awake w1 m1.tab).mono ?_
    rintro e w2 ⟨rfl, k2⟩
    go_wp2_with fail
    refine (awake w2 (m1.tab.keep k2)).mono ?_
    rintro e w3 ⟨rfl, k3⟩
    go_wp2
    go_ret
    exact ⟨rfl, k1.trans (k2.trans k3)⟩
  have hbI : ¬ ((L : Int) > 400) := by omega
  go_enter Tryd.func7, Tryd.ntmps7
  go_wp2_with fail
  refine (new_at N hN1 hN2 w HT.out).mono ?_
  rintro e w1 ⟨b, rfl, hb, m1, k1⟩
  go_wp2_with fail
  refine (awake w1 m1.tab).mono ?_
  rintro e w2 ⟨rfl, k2⟩
  have H0 := Lib.hid (FRel.start (nums xs) (m1.keep k2))
  have HK2 := Lib.hid (k1.trans k2)
  clear m1 k1 k2
  go_wp2
  go_loopw [41] (fun i wr => FRel w2 b (List.replicate N false) (nums xs) i wr) (fun i _ => L - (intOf i).toNat)
  case atStart => exact H0.out
  case round =>
    obtain ⟨k, rfl, hk, hM, hO⟩ := hrel
    rw [nums_len, HL.out] at hk
    have HM := Lib.hid hM
    have HO := Lib.hid hO
    have HKr := Lib.hid (hO.made HK2.out hb)
    clear hM hO H0
    by_cases hlt : k < L
    · have hne : xs ≠ [] := fun e => by have := HL.out; rw [e] at this; simp at this; omega
      have hcl := (HA.out.keep HKr.out).cells hne
      obtain ⟨g, o, cap', e, _, _, _⟩ := hcl.ptr k (by rw [HL.out]; exact hlt)
      simp at e
      obtain ⟨rfl, rfl⟩ := e
      obtain ⟨x, hx⟩ : ∃ x, xs[k]? = some x := ⟨_, List.getElem?_eq_getElem (by rw [HL.out]; exact hlt)⟩
      have hc := hcl.byte k x hx
      have HF := Lib.hid (fillN_take (List.replicate N false) (nums xs) k x.toNat (nums_get xs k x hx))
      have hx256 := x.toNat_lt
      generalize x.toNat = c at *
      obtain ⟨l, hl⟩ : ∃ l, fillN (List.replicate N false) ((nums xs).take k) = l := ⟨_, rfl⟩
      have hlN : l.length = N := by rw [← hl, fillN_len, List.length_replicate]
      rw [hl] at HM HF
      have HS := Lib.hid (set_at b l c wr HM.out)
      have HB := Lib.hid (mbase_at b l wr HM.out)
      obtain ⟨p1, p2, p3⟩ := base_set l c
      obtain ⟨l2, hl2⟩ : ∃ l2, setL l c = l2 := ⟨_, rfl⟩
      have hl2N : l2.length = N := by rw [← hl2, setL_len, hlN]
      have hbB := base_le l2
      have hbelow := base_below l2
      have hat := base_at l2
      have hno := setL_no l c
      rw [hl2] at HS p1 p2 p3 HF hno
      rw [hl2N] at hbB
      obtain ⟨B, hB⟩ : ∃ B, baseN l = B := ⟨_, rfl⟩
      obtain ⟨B2, hB2⟩ : ∃ B, baseN l2 = B := ⟨_, rfl⟩
      have hBB : setB l c = false → B2 = B := fun h => by rw [← hB2, hno h, hB]
      have HB2 : Hid (∀ w1, M w1 b l2 → Calls Tryd.prog 16 #[.pointer (some ⟨b, 0, none⟩)] w1 fun e w' => e = .returned (.int .i64 B2) ∧ w' = w1) := Lib.hid fun w1 h => by
        have := mbase_at b l2 w1 h
        rwa [hB2] at this
      rw [hB] at HB p1 p2
      rw [hB2] at p1 p2 hbB hbelow hat
      have HH : Hid (∀ (i : Int) w1, M w1 b l2 → Calls Tryd.prog 15 #[.pointer (some ⟨b, 0, none⟩), .int .i64 i] w1 fun e w' => e = .returned (.bool (hasB l2 i)) ∧ Keep w1 w') := Lib.hid fun i w1 h => has_at b l2 i w1 h
      obtain ⟨s, hs⟩ : ∃ s, setB l c = s := ⟨_, rfl⟩
      rw [hs] at HS p2 p3 hBB
      have HBEL := Lib.hid hbelow
      have HAT := Lib.hid hat
      have hN2' := hN2
      clear hcl hx hl hl2 hno hbelow hat hs hB hB2
      go_wp2_with fail
      refine HB.out.mono ?_
      rintro e w3 ⟨rfl, rfl⟩
      go_wp2_with fail
      refine HS.out.mono ?_
      rintro e w4 ⟨rfl, m4, o4⟩
      have HM4 := Lib.hid m4
      have HO4 := Lib.hid (HO.out.trans o4)
      clear m4 o4
      go_wp2_with fail
      refine (HB2.out _ HM4.out).mono ?_
      rintro e w5 ⟨rfl, rfl⟩
      cases s
      · obtain rfl : B2 = B := hBB rfl
        clear p1 p2 p3 hBB
        go_wp2
        go_loopw [82] (fun i wr => InRel w5 B2 i wr) (fun i _ => B2 - (intOf i).toNat)
        case atStart => exact ⟨0, rfl, Nat.zero_le _, Keep.refl _⟩
        case round =>
          obtain ⟨j, rfl, hj, hkj⟩ := hrel
          have HKj := Lib.hid hkj
          have HMj := Lib.hid (HM4.out.keep hkj)
          clear hkj
          by_cases hjb : j < B2
          · have hh := HH.out j _ HMj.out
            rw [hasB_nat, HBEL.out j hjb] at hh
            have HHj := Lib.hid hh
            clear hh
            go_wp2_with fail
            refine HHj.out.mono ?_
            rintro e w7 ⟨rfl, k7⟩
            go_wp2
            go_roundw
            case rel => exact ⟨j + 1, by go_num, by omega, HKj.out.trans k7⟩
            case measure => simp [intOf]; omega
          · obtain rfl : j = B2 := by omega
            by_cases hjN : j < N
            · have hh := HH.out j _ HMj.out
              rw [hasB_nat, HAT.out] at hh
              have HHj := Lib.hid hh
              clear hh
              go_wp2_with fail
              refine HHj.out.mono ?_
              rintro e w7 ⟨rfl, k7⟩
              have HK7 := Lib.hid (HKj.out.trans k7)
              clear k7
              go_wp2
              go_roundw
              case rel => exact ⟨k + 1, by go_num, by rw [nums_len, HL.out]; exact hlt, by rw [HF.out]; exact HM4.out.keep HK7.out, HO4.out.trans (Only.keep HK7.out)⟩
              case measure => simp [intOf]; omega
            · go_wp2
              go_roundw
              case rel => exact ⟨k + 1, by go_num, by rw [nums_len, HL.out]; exact hlt, by rw [HF.out]; exact HMj.out, HO4.out.trans (Only.keep HKj.out)⟩
              case measure => simp [intOf]; omega
      · have h3 := HH.out c _ HM4.out
        rw [p3 rfl] at h3
        have H3 := Lib.hid h3
        clear h3
        by_cases hup : B < B2
        · obtain ⟨_, hcB⟩ := p2 hup
          obtain rfl : c = B := by omega
          have q1 : ¬ B2 < c := by omega
          have q2 : c ≤ B2 := by omega
          clear p1 p2 p3 hBB hcB
          go_wp2_with fail
          refine H3.out.mono ?_
          rintro e w6 ⟨rfl, k6⟩
          have HM6 := Lib.hid (HM4.out.keep k6)
          have HO6 := Lib.hid (HO4.out.trans (Only.keep k6))
          clear k6
          go_wp2
          go_loopw [82] (fun i wr => InRel w6 B2 i wr) (fun i _ => B2 - (intOf i).toNat)
          case atStart => exact ⟨0, rfl, Nat.zero_le _, Keep.refl _⟩
          case round =>
            obtain ⟨j, rfl, hj, hkj⟩ := hrel
            have HKj := Lib.hid hkj
            have HMj := Lib.hid (HM6.out.keep hkj)
            clear hkj
            by_cases hjb : j < B2
            · have hh := HH.out j _ HMj.out
              rw [hasB_nat, HBEL.out j hjb] at hh
              have HHj := Lib.hid hh
              clear hh
              go_wp2_with fail
              refine HHj.out.mono ?_
              rintro e w7 ⟨rfl, k7⟩
              go_wp2
              go_roundw
              case rel => exact ⟨j + 1, by go_num, by omega, HKj.out.trans k7⟩
              case measure => simp [intOf]; omega
            · obtain rfl : j = B2 := by omega
              by_cases hjN : j < N
              · have hh := HH.out j _ HMj.out
                rw [hasB_nat, HAT.out] at hh
                have HHj := Lib.hid hh
                clear hh
                go_wp2_with fail
                refine HHj.out.mono ?_
                rintro e w7 ⟨rfl, k7⟩
                have HK7 := Lib.hid (HKj.out.trans k7)
                clear k7
                go_wp2
                go_roundw
                case rel => exact ⟨k + 1, by go_num, by rw [nums_len, HL.out]; exact hlt, by rw [HF.out]; exact HM6.out.keep HK7.out, HO6.out.trans (Only.keep HK7.out)⟩
                case measure => simp [intOf]; omega
              · go_wp2
                go_roundw
                case rel => exact ⟨k + 1, by go_num, by rw [nums_len, HL.out]; exact hlt, by rw [HF.out]; exact HMj.out, HO6.out.trans (Only.keep HKj.out)⟩
                case measure => simp [intOf]; omega
        · obtain rfl : B2 = B := by omega
          clear p1 p2 p3 hBB hup
          go_wp2_with fail
          refine H3.out.mono ?_
          rintro e w6 ⟨rfl, k6⟩
          have HM6 := Lib.hid (HM4.out.keep k6)
          have HO6 := Lib.hid (HO4.out.trans (Only.keep k6))
          clear k6
          go_wp2
          go_loopw [82] (fun i wr => InRel w6 B2 i wr) (fun i _ => B2 - (intOf i).toNat)
          case atStart => exact ⟨0, rfl, Nat.zero_le _, Keep.refl _⟩
          case round =>
            obtain ⟨j, rfl, hj, hkj⟩ := hrel
            have HKj := Lib.hid hkj
            have HMj := Lib.hid (HM6.out.keep hkj)
            clear hkj
            by_cases hjb : j < B2
            · have hh := HH.out j _ HMj.out
              rw [hasB_nat, HBEL.out j hjb] at hh
              have HHj := Lib.hid hh
              clear hh
              go_wp2_with fail
              refine HHj.out.mono ?_
              rintro e w7 ⟨rfl, k7⟩
              go_wp2
              go_roundw
              case rel => exact ⟨j + 1, by go_num, by omega, HKj.out.trans k7⟩
              case measure => simp [intOf]; omega
            · obtain rfl : j = B2 := by omega
              by_cases hjN : j < N
              · have hh := HH.out j _ HMj.out
                rw [hasB_nat, HAT.out] at hh
                have HHj := Lib.hid hh
                clear hh
                go_wp2_with fail
                refine HHj.out.mono ?_
                rintro e w7 ⟨rfl, k7⟩
                have HK7 := Lib.hid (HKj.out.trans k7)
                clear k7
                go_wp2
                go_roundw
                case rel => exact ⟨k + 1, by go_num, by rw [nums_len, HL.out]; exact hlt, by rw [HF.out]; exact HM6.out.keep HK7.out, HO6.out.trans (Only.keep HK7.out)⟩
                case measure => simp [intOf]; omega
              · go_wp2
                go_roundw
                case rel => exact ⟨k + 1, by go_num, by rw [nums_len, HL.out]; exact hlt, by rw [HF.out]; exact HMj.out, HO6.out.trans (Only.keep HKj.out)⟩
                case measure => simp [intOf]; omega
    · obtain rfl : k = L := by omega
      have HE := Lib.hid (show (nums xs).take k = nums xs from List.take_of_length_le (by rw [nums_len, HL.out]; exact Nat.le_refl _))
      rw [HE.out] at HM
      obtain ⟨l, hl⟩ : ∃ l, fillN (List.replicate N false) (nums xs) = l := ⟨_, rfl⟩
      rw [hl] at HM
      have hlN : l.length = N := by rw [← hl, fillN_len, List.length_replicate]
      clear hl HE
      have HCT := Lib.hid (count_at b l _ HM.out)
      have hcnt := mis_cnt l
      have hms := missing_at b l 0 N _ HM.out (by omega)
      rw [hlN] at hcnt
      obtain ⟨ms, hmm⟩ : ∃ ms, misL l 0 N = ms := ⟨_, rfl⟩
      rw [hmm] at hms hcnt
      have HMS := Lib.hid hms
      clear hms hmm
      generalize cntN l = C at *
      go_wp2_with fail
      refine HCT.out.mono ?_
      rintro e w4 ⟨rfl, rfl⟩
      go_wp2_with fail
      refine HMS.out.mono ?_
      rintro e w5 ⟨v, rfl, ov, k5⟩
      obtain ⟨va, vc, rfl, _, _⟩ := (Own.row elI ov).cells.form
      have HK5 := Lib.hid (HKr.out.trans k5)
      have hsum : ((C : Int) + (ms.length : Nat) == (N : Int)) = true := by simp; omega
      generalize ms.length = J at *
      clear ov k5
      go_wp2
      go_ret
      exact ⟨rfl, HK5.out⟩

open Go.ChangeShapes Go.WideShapes Go.ChangeAt
set_option maxRecDepth 100000 in
theorem lifted (os : Os) (started : os.Started) (H : Type) (enc : TypeId × Value → H) :
    ReturnsInHanded {} Tryd.checked os 7 .any (fun w args => (Rows.sackBaseSpec.pre enc Tryd.prog Tryd.f7 [] false w args ∧ laidMetH Tryd.prog laid1 w) ∧ sizedMet enc Tryd.prog Tryd.f7 (OpenSpec.ofChange Rows.sackBaseSpec) false w args)
      (Rows.sackBaseSpec.post enc Tryd.prog Tryd.f7 false true false false) := by
  refine returnsInHanded_of_change_and (C := Tryd.checked) (X := fun w _ => laidMetH Tryd.prog laid1 w) (fun _ _ _ hh h => h.of_heap hh) own started (by kernel_rfl) Tryd.func7
    (ChangeSpec.witness_shaped (enc := enc) (C := Tryd.checked) (os := os) (X := fun w _ => laidMetH Tryd.prog laid1 w) false (World.doorLaid Tryd.prog 400 os) #[.int .i64 0, .slice none 0 0] 8 rfl (World.shaped_of_RefB (by kernel_rfl) (by kernel_rfl)) (by kernel_rfl) (by kernel_rfl) (by kernel_rfl) (door_met os _)) ?_
  intro W base args ds gs before hval0 hW _ _ hL _
  have hval : ∀ (j : Nat) t v, Tryd.f7.params[j]? = some t → args[j]? = some v → Value.okWide Tryd.prog W .any base t v := hval0
  have hW' := hW
  obtain ⟨p, q, hA0, hV, rfl, hfz, hnd⟩ := hW
  have hA : DataW.TrodAll enc Tryd.prog W 0 (fun _ => true) true Tryd.f7.params.toList args.toList ds p := hA0

  rw [Tryd.params7] at hA hval
  obtain ⟨v0, vs0, d0, ds0, p0, q0, hargs, rfl, rfl, h0, r0⟩ := trodAll_cons hA
  obtain ⟨v1, vs1, d1, ds1, p1, q1, rfl, rfl, rfl, h1, r1⟩ := trodAll_cons r0
  obtain ⟨rfl, rfl, rfl⟩ := trodAll_nil r1
  obtain rfl : args = #[v0, v1] := by cases args; simp_all
  obtain ⟨rfl, rfl⟩ := trodVars_none hV
  have k0 := h0
  have lt0 : ∀ x ∈ p0, x.block < W.heap.size := by obtain ⟨m, hm⟩ := k0; exact DataW.trod_lt m _ _ _ hm
  have k1 := h1
  have lt1 : ∀ x ∈ p1, x.block < W.heap.size := by obtain ⟨m, hm⟩ := k1; exact DataW.trod_lt m _ _ _ hm
  obtain ⟨a0, rfl, _, _, w0⟩ := open_int Tryd.underlying3 (hval 0 3 v0 rfl rfl) h0
  obtain ⟨a1, cap1, l1, rfl, f1⟩ := open_bytes (hval 1 44 v1 rfl rfl) h1
  clear hA0 hval0
  refine (walk a0 a1 cap1 l1 W (bounds_i64 w0) f1 (of_laid hL)).mono fun e W' ⟨he, bel0⟩ => ?_
  subst he
  have bel : Below W.heap.size W W' := bel0
  exact ⟨_, rfl, _, _, _, [], _, [], hW', trodAll_mk1 (shut_bool Tryd.underlying4 _), (trodAll_cons_mk (Below.trod laidOut (by kernel_rfl) (of_decide_eq_true (by kernel_rfl)) k0 bel lt0) (trodAll_cons_mk (Below.trod laidOut (by kernel_rfl) (of_decide_eq_true (by kernel_rfl)) k1 bel lt1) trodAll_mk0)), rfl, bel.frame _, fun h => by cases h⟩

theorem over : Rows.sackBaseRow.holds Tryd.pinned (OpenSpec.ofChange Rows.sackBaseSpec) :=
  OpenClaim.holds_of_wide 7 Tryd.f7 rfl rfl rfl rfl rfl rfl rfl ⟨rfl, rfl, rfl, rfl, rfl⟩ rfl rfl rfl rfl rfl (by kernel_rfl) Tryd.func7 (by kernel_rfl)
    (of_decide_eq_true (by kernel_rfl)) (by unfold Func.isWrapper; first | (rw [if_pos (by decide +kernel)]; kernel_rfl) | (rw [if_neg (by decide +kernel)]; exact ⟨rfl, rfl⟩))
    (fun os started H enc _ => lifted os started H enc)
theorem card : Claim7.holds Tryd.pinned (.plain (OpenSpec.ofChange Rows.sackBaseSpec)) Rows.sackBaseCard :=
  Claim7.holds_tied_plain_at .later [] [.data] true (true, "99409968b706bc054abbf054ee1bf7ec98067583eb760e09000fa6ba98158752") false
    over (fun _ h => by cases h) (by kernel_rfl) (fun _ h => by cases h) sackBase_row_tie rfl ⟨rfl, rfl⟩ (by kernel_rfl) rfl
    (fun f fn hf hfn => by
      obtain rfl : f = 7 := Option.some.inj ((show Tryd.prog.funcNamed Rows.sackBaseRow.func = some 7 by kernel_rfl).symm.trans hf) |>.symm
      obtain rfl : fn = Tryd.f7 := (Option.some.inj (Tryd.func7.symm.trans hfn)).symm
      exact ⟨by kernel_rfl, fun j t ht => by
        rw [Tryd.params7] at ht
        have hm : t ∈ [3, 44] := by simpa using Array.mem_of_getElem? ht
        have hall : ([3, 44].all fun u => !Tryd.prog.wantsStandIn u) = true := by kernel_rfl
        exact (show Tryd.prog.wantsStandIn t = false by simpa using List.all_eq_true.1 hall t hm)⟩)
    (by kernel_rfl)
end Go.Proofs.YtbeppppipleaaaaDoor.LSackBase

namespace Go.Proofs.YtbeppppipleaaaaDoor
theorem sackBase_holds : Rows.SackBaseCardSaid := LSackBase.card
#print axioms sackBase_holds
end Go.Proofs.YtbeppppipleaaaaDoor

