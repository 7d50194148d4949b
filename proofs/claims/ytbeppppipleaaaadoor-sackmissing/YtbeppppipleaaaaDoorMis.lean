/- Proved: for every int and every list of bytes the law SackMissing returns true (what is missing, and what is there, is all; with all that is missing it is full), and its arguments read behind the call as they read before. Condition, by the row's own list: math/bits.deBruijn64tab starts as the program's text lays it (the card ties that). -/
import Derived.Test.YtbeppppipleaaaaDoorFi
namespace Go.Proofs.YtbeppppipleaaaaDoor.LSackMissing
open Go.RowKit

set_option maxRecDepth 100000 in
set_option maxHeartbeats 1000000 in
theorem walk (n : Int) (a : Option Addr) (cap : Nat) (xs : List UInt8) (w : World) (_hn : -9223372036854775808 ≤ n ∧ n ≤ 9223372036854775807) (hA : ArgB w a cap xs) (ht : Tab w) : Calls Tryd.prog 5 #[.int .i64 n, .slice a xs.length cap] w fun e w' => e = .returned (.bool true) ∧ Keep w w' := by
  have HT := Lib.hid ht
  have HA := Lib.hid hA
  have hsm := hA.small
  unfold maxLen at hsm
  clear ht hA
  obtain ⟨N, hN⟩ : ∃ N, sizeN n = N := ⟨_, rfl⟩
  have hN1 := sizeN_pos n
  have hN2 := sizeN_le n
  have hNe := size_law n
  rw [hN] at hN1 hN2 hNe
  clear hN
  obtain ⟨L, hL⟩ : ∃ L, xs.length = L := ⟨_, rfl⟩
  have HL := Lib.hid hL
  rw [hL] at hsm ⊢
  clear hL
  by_cases hbig : 300 < L
  · have hbI : (L : Int) > 300 := by omega
    go_enter Tryd.func5, Tryd.ntmps5
    go_wp2_with fail
    refine (new_at N hN1 hN2 w HT.out).mono ?_
    rintro e w1 ⟨b, rfl, hb, m1, k1⟩
    go_wp2_with fail
    refine (awake w1 m1.tab).mono ?_
    rintro e w2 ⟨rfl, k2⟩
    go_wp2_with fail
    refine (awake w2 (m1.tab.keep k2)).mono ?_
    rintro e w3 ⟨rfl, k3⟩
    go_wp2
    go_ret
    exact ⟨rfl, k1.trans (k2.trans k3)⟩
  have hbI : ¬ ((L : Int) > 300) := by omega
  go_enter Tryd.func5, Tryd.ntmps5
  go_wp2_with fail
  refine (new_at N hN1 hN2 w HT.out).mono ?_
  rintro e w1 ⟨b, rfl, hb, m1, k1⟩
  go_wp2_with fail
  refine (awake w1 m1.tab).mono ?_
  rintro e w2 ⟨rfl, k2⟩
  have H0 := Lib.hid (FRel.start (nums xs) (m1.keep k2))
  have HK2 := Lib.hid (k1.trans k2)
  clear m1 k1 k2
  go_wp2
  go_loopw [40] (fun i wr => FRel w2 b (List.replicate N false) (nums xs) i wr) (fun i _ => L - (intOf i).toNat)
  case atStart => exact H0.out
  case round =>
    obtain ⟨k, rfl, hk, hM, hO⟩ := hrel
    rw [nums_len, HL.out] at hk
    have HM := Lib.hid hM
    have HO := Lib.hid hO
    have HKr := Lib.hid (hO.made HK2.out hb)
    clear hM hO
    by_cases hlt : k < L
    · have hne : xs ≠ [] := fun e => by have := HL.out; rw [e] at this; simp at this; omega
      have hcl := (HA.out.keep HKr.out).cells hne
      obtain ⟨g, o, cap', e, _, _, _⟩ := hcl.ptr k (by rw [HL.out]; exact hlt)
      simp at e
      obtain ⟨rfl, rfl⟩ := e
      obtain ⟨x, hx⟩ : ∃ x, xs[k]? = some x := ⟨_, List.getElem?_eq_getElem (by rw [HL.out]; exact hlt)⟩
      have hc := hcl.byte k x hx
      have HS := Lib.hid (set_at b _ x.toNat wr HM.out)
      have HF := Lib.hid (fillN_take (List.replicate N false) (nums xs) k x.toNat (nums_get xs k x hx))
      have hx256 := x.toNat_lt
      generalize x.toNat = c at *
      clear hcl hx
      go_wp2_with fail
      refine HS.out.mono ?_
      rintro e w3 ⟨rfl, m3, o3⟩
      go_wp2
      go_roundw
      case rel => exact ⟨k + 1, by go_num, by rw [nums_len, HL.out]; exact hlt, by rw [HF.out]; exact m3, HO.out.trans o3⟩
      case measure => simp [intOf]; omega
    · obtain rfl : k = L := by omega
      have HE := Lib.hid (show (nums xs).take k = nums xs from List.take_of_length_le (by rw [nums_len, HL.out]; exact Nat.le_refl _))
      rw [HE.out] at HM
      obtain ⟨l, hl⟩ : ∃ l, fillN (List.replicate N false) (nums xs) = l := ⟨_, rfl⟩
      rw [hl] at HM
      have hlN : l.length = N := by rw [← hl, fillN_len, List.length_replicate]
      clear hl HE H0
      have hms := missing_at b l 0 N wr HM.out (by omega)
      obtain ⟨ms, hmm⟩ : ∃ ms, misL l 0 N = ms := ⟨_, rfl⟩
      have hmm2 : misL l 0 l.length = ms := by rw [hlN]; exact hmm
      rw [hmm] at hms
      have HMS := Lib.hid hms
      have hcnt := mis_cnt l
      have hhead := mis_head l
      have hsetA := fun k c => mis_set l k c
      have hfull := mis_full l
      rw [hmm2, hlN] at hcnt
      rw [hmm2] at hhead hsetA hfull
      rw [hlN] at hfull
      have HHD := Lib.hid hhead
      have HSA := Lib.hid hsetA
      have HFU := Lib.hid hfull
      clear hms hmm hmm2 hhead hsetA hfull
      go_wp2_with fail
      refine HMS.out.mono ?_
      rintro e w4 ⟨v, rfl, ov, k4⟩
      have hM4 := HM.out.keep k4
      have HOV := Lib.hid (Own.row elI ov)
      obtain ⟨va, vc, rfl, _, _⟩ := HOV.out.cells.form
      obtain ⟨J, hJ⟩ : ∃ J, ms.length = J := ⟨_, rfl⟩
      have HJ := Lib.hid hJ
      have HK4 := Lib.hid (HKr.out.trans k4)
      rw [hJ] at hcnt
      rw [hJ]
      have HC4 : Hid (∀ u : KW w4, Calls Tryd.prog 18 #[.pointer (some ⟨b, 0, none⟩)] u.1 fun e w'' => e = .returned (.int .i64 (cntN l : Nat)) ∧ ∃ m : KW w4, w'' = m.1) := Lib.hid fun u => keep_at (fun w1 k1 => by
        refine (count_at b l w1 (hM4.keep k1)).mono ?_
        rintro e w2 ⟨rfl, rfl⟩
        exact ⟨rfl, Keep.refl _⟩) u
      have HB4 : Hid (∀ u : KW w4, Calls Tryd.prog 16 #[.pointer (some ⟨b, 0, none⟩)] u.1 fun e w'' => e = .returned (.int .i64 (baseN l : Nat)) ∧ ∃ m : KW w4, w'' = m.1) := Lib.hid fun u => keep_at (fun w1 k1 => by
        refine (mbase_at b l w1 (hM4.keep k1)).mono ?_
        rintro e w2 ⟨rfl, rfl⟩
        exact ⟨rfl, Keep.refl _⟩) u
      have HM4 := Lib.hid hM4
      clear hJ ov k4 hM4 HMS HM
      have hsum : ((J : Int) + (cntN l : Nat) != (N : Int)) = false := by simp; omega
      generalize cntN l = C at *
      generalize baseN l = B at *
      by_cases hJ0 : 0 < J
      · have hJI : decide ((J : Int) > 0) = true := decide_eq_true (by omega)
        obtain ⟨g2, o2, c2, e, _, _, _⟩ := HOV.out.cells.ptr 0 (by rw [HJ.out]; exact hJ0)
        simp at e
        obtain ⟨rfl, rfl⟩ := e
        have hc0 : ∀ u : KW w4, u.1.cell? ⟨g2, o2, none⟩ = some (.int .i64 B) := fun u => by
          have := (HOV.out.keep u.2).cells.int 0 B (HHD.out (by rw [HJ.out]; exact hJ0))
          simpa using this
        go_wp2_with fail
        refine wp_region_keep (Keep.refl _) (by kernel_rfl) (by kernel_rfl) ?_
        repeat (first | go_big_quiet_step (fail) | quiet_step (fail))
        first | go_big_quiet_step (exact HC4.out _) | quiet_step (exact HC4.out _)
        repeat (first | go_big_quiet_step (fail) | quiet_step (fail))
        first | go_big_quiet_step (exact HB4.out _) | quiet_step (exact HB4.out _)
        repeat (first | go_big_quiet_step (fail) | quiet_step (fail))
        refine wpQuiet_nil ?_
        rintro w6 ⟨⟨w5, b5⟩, hw6⟩
        obtain rfl : w5 = w6 := hw6.symm
        clear hw6
        have HM5 := Lib.hid (HM4.out.keep b5)
        have HV5 := Lib.hid (HOV.out.keep b5)
        have HK5 := Lib.hid (HK4.out.trans b5)
        clear b5 HC4 HB4
        go_wp2
        go_loopw [74] (fun i wr => FRel w5 b l ms i wr) (fun i _ => J - (intOf i).toNat)
        case atStart => exact FRel.start ms HM5.out
        case round =>
          obtain ⟨k, rfl, hk, hM, hO⟩ := hrel
          rw [HJ.out] at hk
          have HMk := Lib.hid hM
          have HOk := Lib.hid hO
          have HKk := Lib.hid (hO.made HK5.out hb)
          have HVk := Lib.hid (HV5.out.only hO HM5.out.block (by decide))
          clear hM hO
          by_cases hlt : k < J
          · obtain ⟨g3, o3, c3, e, _, _, _⟩ := HVk.out.cells.ptr k (by rw [HJ.out]; exact hlt)
            simp at e
            obtain ⟨⟨rfl, rfl⟩, rfl⟩ := e
            obtain ⟨c, hc⟩ : ∃ c, ms[k]? = some c := ⟨_, List.getElem?_eq_getElem (by rw [HJ.out]; exact hlt)⟩
            have hcell := HVk.out.cells.int k c hc
            have hs := set_at b _ c _ HMk.out
            rw [HSA.out k c hc] at hs
            have HS := Lib.hid hs
            have HF := Lib.hid (fillN_take l ms k c hc)
            clear hc hs
            go_wp2_with fail
            refine HS.out.mono ?_
            rintro e w7 ⟨rfl, m7, o7⟩
            go_wp2
            go_roundw
            case rel => exact ⟨k + 1, by go_num, by rw [HJ.out]; exact hlt, by rw [HF.out]; exact m7, HOk.out.trans o7⟩
            case measure => simp [intOf]; omega
          · obtain rfl : k = J := by omega
            have HE := Lib.hid (show ms.take k = ms from List.take_of_length_le (Nat.le_of_eq HJ.out))
            rw [HE.out] at HMk
            have hfl := full_at b _ _ HMk.out
            rw [fillN_len, HFU.out.1, hlN, decide_eq_true rfl] at hfl
            have HFL := Lib.hid hfl
            clear hfl
            go_wp2_with fail
            refine HFL.out.mono ?_
            rintro e w7 ⟨rfl, k7⟩
            have hbs := mbase_at b _ _ (HMk.out.keep k7)
            rw [HFU.out.1] at hbs
            have hct := count_at b _ _ (HMk.out.keep k7)
            rw [HFU.out.2] at hct
            have HBS := Lib.hid hbs
            have HCT := Lib.hid hct
            have HK7 := Lib.hid (HKk.out.trans k7)
            clear hbs hct k7
            go_wp2_with fail
            refine HBS.out.mono ?_
            rintro e w8 ⟨rfl, rfl⟩
            go_wp2_with fail
            refine HCT.out.mono ?_
            rintro e w9 ⟨rfl, rfl⟩
            go_wp2
            go_ret
            exact ⟨rfl, HK7.out⟩
      · have hJI : decide ((J : Int) > 0) = false := decide_eq_false (by omega)
        go_wp2_with fail
        refine wp_region_keep (Keep.refl _) (by kernel_rfl) (by kernel_rfl) ?_
        repeat (first | go_big_quiet_step (fail) | quiet_step (fail))
        first | go_big_quiet_step (exact HC4.out _) | quiet_step (exact HC4.out _)
        repeat (first | go_big_quiet_step (fail) | quiet_step (fail))
        refine wpQuiet_nil ?_
        rintro w6 ⟨⟨w5, b5⟩, hw6⟩
        obtain rfl : w5 = w6 := hw6.symm
        clear hw6
        have HM5 := Lib.hid (HM4.out.keep b5)
        have HV5 := Lib.hid (HOV.out.keep b5)
        have HK5 := Lib.hid (HK4.out.trans b5)
        clear b5 HC4 HB4
        go_wp2
        go_loopw [74] (fun i wr => FRel w5 b l ms i wr) (fun i _ => J - (intOf i).toNat)
        case atStart => exact FRel.start ms HM5.out
        case round =>
          obtain ⟨k, rfl, hk, hM, hO⟩ := hrel
          rw [HJ.out] at hk
          have HMk := Lib.hid hM
          have HOk := Lib.hid hO
          have HKk := Lib.hid (hO.made HK5.out hb)
          have HVk := Lib.hid (HV5.out.only hO HM5.out.block (by decide))
          clear hM hO
          by_cases hlt : k < J
          · exact absurd hlt (by omega)
          · obtain rfl : k = J := by omega
            have HE := Lib.hid (show ms.take k = ms from List.take_of_length_le (Nat.le_of_eq HJ.out))
            rw [HE.out] at HMk
            have hfl := full_at b _ _ HMk.out
            rw [fillN_len, HFU.out.1, hlN, decide_eq_true rfl] at hfl
            have HFL := Lib.hid hfl
            clear hfl
            go_wp2_with fail
            refine HFL.out.mono ?_
            rintro e w7 ⟨rfl, k7⟩
            have hbs := mbase_at b _ _ (HMk.out.keep k7)
            rw [HFU.out.1] at hbs
            have hct := count_at b _ _ (HMk.out.keep k7)
            rw [HFU.out.2] at hct
            have HBS := Lib.hid hbs
            have HCT := Lib.hid hct
            have HK7 := Lib.hid (HKk.out.trans k7)
            clear hbs hct k7
            go_wp2_with fail
            refine HBS.out.mono ?_
            rintro e w8 ⟨rfl, rfl⟩
            go_wp2_with fail
            refine HCT.out.mono ?_
            rintro e w9 ⟨rfl, rfl⟩
            go_wp2
            go_ret
            exact ⟨rfl, HK7.out⟩

open Go.ChangeShapes Go.WideShapes Go.ChangeAt
set_option maxRecDepth 100000 in
theorem lifted (os : Os) (started : os.Started) (H : Type) (enc : TypeId × Value → H) :
    ReturnsInHanded {} Tryd.checked os 5 .any (fun w args => (Rows.sackMissingSpec.pre enc Tryd.prog Tryd.f5 [] false w args ∧ laidMetH Tryd.prog laid1 w) ∧ sizedMet enc Tryd.prog Tryd.f5 (OpenSpec.ofChange Rows.sackMissingSpec) false w args)
      (Rows.sackMissingSpec.post enc Tryd.prog Tryd.f5 false true false false) := by
  refine returnsInHanded_of_change_and (C := Tryd.checked) (X := fun w _ => laidMetH Tryd.prog laid1 w) (fun _ _ _ hh h => h.of_heap hh) own started (by kernel_rfl) Tryd.func5
    (ChangeSpec.witness_shaped (enc := enc) (C := Tryd.checked) (os := os) (X := fun w _ => laidMetH Tryd.prog laid1 w) false (World.doorLaid Tryd.prog 400 os) #[.int .i64 0, .slice none 0 0] 8 rfl (World.shaped_of_RefB (by kernel_rfl) (by kernel_rfl)) (by kernel_rfl) (by kernel_rfl) (by kernel_rfl) (door_met os _)) ?_
  intro W base args ds gs before hval0 hW _ _ hL _
  have hval : ∀ (j : Nat) t v, Tryd.f5.params[j]? = some t → args[j]? = some v → Value.okWide Tryd.prog W .any base t v := hval0
  have hW' := hW
  obtain ⟨p, q, hA0, hV, rfl, hfz, hnd⟩ := hW
  have hA : DataW.TrodAll enc Tryd.prog W 0 (fun _ => true) true Tryd.f5.params.toList args.toList ds p := hA0

  rw [Tryd.params5] at hA hval
  obtain ⟨v0, vs0, d0, ds0, p0, q0, hargs, rfl, rfl, h0, r0⟩ := trodAll_cons hA
  obtain ⟨v1, vs1, d1, ds1, p1, q1, rfl, rfl, rfl, h1, r1⟩ := trodAll_cons r0
  obtain ⟨rfl, rfl, rfl⟩ := trodAll_nil r1
  obtain rfl : args = #[v0, v1] := by cases args; simp_all
  obtain ⟨rfl, rfl⟩ := trodVars_none hV
  have k0 := h0
  have lt0 : ∀ x ∈ p0, x.block < W.heap.size := by obtain ⟨m, hm⟩ := k0; exact DataW.trod_lt m _ _ _ hm
  have k1 := h1
  have lt1 : ∀ x ∈ p1, x.block < W.heap.size := by obtain ⟨m, hm⟩ := k1; exact DataW.trod_lt m _ _ _ hm
  obtain ⟨a0, rfl, _, _, w0⟩ := open_int Tryd.underlying3 (hval 0 3 v0 rfl rfl) h0
  obtain ⟨a1, cap1, l1, rfl, f1⟩ := open_bytes (hval 1 44 v1 rfl rfl) h1
  clear hA0 hval0
  refine (walk a0 a1 cap1 l1 W (bounds_i64 w0) f1 (of_laid hL)).mono fun e W' ⟨he, bel0⟩ => ?_
  subst he
  have bel : Below W.heap.size W W' := bel0
  exact ⟨_, rfl, _, _, _, [], _, [], hW', trodAll_mk1 (shut_bool Tryd.underlying4 _), (trodAll_cons_mk (Below.trod laidOut (by kernel_rfl) (of_decide_eq_true (by kernel_rfl)) k0 bel lt0) (trodAll_cons_mk (Below.trod laidOut (by kernel_rfl) (of_decide_eq_true (by kernel_rfl)) k1 bel lt1) trodAll_mk0)), rfl, bel.frame _, fun h => by cases h⟩

theorem over : Rows.sackMissingRow.holds Tryd.pinned (OpenSpec.ofChange Rows.sackMissingSpec) :=
  OpenClaim.holds_of_wide 5 Tryd.f5 rfl rfl rfl rfl rfl rfl rfl ⟨rfl, rfl, rfl, rfl, rfl⟩ rfl rfl rfl rfl rfl (by kernel_rfl) Tryd.func5 (by kernel_rfl)
    (of_decide_eq_true (by kernel_rfl)) (by unfold Func.isWrapper; first | (rw [if_pos (by decide +kernel)]; kernel_rfl) | (rw [if_neg (by decide +kernel)]; exact ⟨rfl, rfl⟩))
    (fun os started H enc _ => lifted os started H enc)
theorem card : Claim7.holds Tryd.pinned (.plain (OpenSpec.ofChange Rows.sackMissingSpec)) Rows.sackMissingCard :=
  Claim7.holds_tied_plain_at .later [] [.data] true (true, "99409968b706bc054abbf054ee1bf7ec98067583eb760e09000fa6ba98158752") false
    over (fun _ h => by cases h) (by kernel_rfl) (fun _ h => by cases h) sackMissing_row_tie rfl ⟨rfl, rfl⟩ (by kernel_rfl) rfl
    (fun f fn hf hfn => by
      obtain rfl : f = 5 := Option.some.inj ((show Tryd.prog.funcNamed Rows.sackMissingRow.func = some 5 by kernel_rfl).symm.trans hf) |>.symm
      obtain rfl : fn = Tryd.f5 := (Option.some.inj (Tryd.func5.symm.trans hfn)).symm
      exact ⟨by kernel_rfl, fun j t ht => by
        rw [Tryd.params5] at ht
        have hm : t ∈ [3, 44] := by simpa using Array.mem_of_getElem? ht
        have hall : ([3, 44].all fun u => !Tryd.prog.wantsStandIn u) = true := by kernel_rfl
        exact (show Tryd.prog.wantsStandIn t = false by simpa using List.all_eq_true.1 hall t hm)⟩)
    (by kernel_rfl)
end Go.Proofs.YtbeppppipleaaaaDoor.LSackMissing

namespace Go.Proofs.YtbeppppipleaaaaDoor
theorem sackMissing_holds : Rows.SackMissingCardSaid := LSackMissing.card
#print axioms sackMissing_holds
end Go.Proofs.YtbeppppipleaaaaDoor

