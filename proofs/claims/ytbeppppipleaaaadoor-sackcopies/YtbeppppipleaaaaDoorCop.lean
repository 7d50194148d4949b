/- Proved: for every int and every two lists of bytes the law SackCopies returns true (a copy knows nothing of its original), and its arguments read behind the call as they read before. Condition, by the row's own list: math/bits.deBruijn64tab starts as the program's text lays it (the card ties that). -/
import Derived.Test.YtbeppppipleaaaaDoorFi
namespace Go.Proofs.YtbeppppipleaaaaDoor.LSackCopies
open Go.RowKit

set_option maxRecDepth 100000 in
set_option maxHeartbeats 2000000 in
theorem walk (n : Int) (a : Option Addr) (cap : Nat) (xs : List UInt8) (a2 : Option Addr) (cap2 : Nat) (ys : List UInt8) (w : World) (_hn : -9223372036854775808 ≤ n ∧ n ≤ 9223372036854775807) (hA : ArgB w a cap xs) (hB : ArgB w a2 cap2 ys) (ht : Tab w) : Calls Tryd.prog 9 #[.int .i64 n, .slice a xs.length cap, .slice a2 ys.length cap2] w fun e w' => e = .returned (.bool true) ∧ Keep w w' := by
  have HT := Lib.hid ht
  have HA := Lib.hid hA
  have HA2 := Lib.hid hB
  have hsm := hA.small
  have hsm2 := hB.small
  unfold maxLen at hsm hsm2
  clear ht hA hB
  obtain ⟨N, hN⟩ : ∃ N, sizeN n = N := ⟨_, rfl⟩
  have hN1 := sizeN_pos n
  have hN2 := sizeN_le n
  have hNe := size_law n
  rw [hN] at hN1 hN2 hNe
  clear hN
  obtain ⟨L, hL⟩ : ∃ L, xs.length = L := ⟨_, rfl⟩
  obtain ⟨L2, hL2⟩ : ∃ L, ys.length = L := ⟨_, rfl⟩
  have HL := Lib.hid hL
  have HL2 := Lib.hid hL2
  rw [hL] at hsm ⊢
  rw [hL2] at hsm2 ⊢
  clear hL hL2
  obtain ⟨z, hz⟩ : ∃ z, wrap64 ((L : Int) + L2) = z := ⟨_, rfl⟩
  by_cases hbI : z > 400
  · go_enter Tryd.func9, Tryd.ntmps9
    go_wp2_with fail
    refine (new_at N hN1 hN2 w HT.out).mono ?_
    rintro e w1 ⟨b, rfl, hb, m1, k1⟩
    go_wp2_with fail
    refine (awake w1 m1.tab).mono ?_
    rintro e w2 ⟨rfl, k2⟩
    go_wp2_with fail
    refine (awake w2 (m1.tab.keep k2)).mono ?_
    rintro e w3 ⟨rfl, k3⟩
    go_wp2
    go_ret
    exact ⟨rfl, k1.trans (k2.trans k3)⟩
  go_enter Tryd.func9, Tryd.ntmps9
  go_wp2_with fail
  refine (new_at N hN1 hN2 w HT.out).mono ?_
  rintro e w1 ⟨b, rfl, hb, m1, k1⟩
  go_wp2_with fail
  refine (awake w1 m1.tab).mono ?_
  rintro e w2 ⟨rfl, k2⟩
  have H0 := Lib.hid (FRel.start (nums xs) (m1.keep k2))
  have HK2 := Lib.hid (k1.trans k2)
  clear m1 k1 k2
  go_wp2
  clear hz
  go_loopw [47] (fun i wr => FRel w2 b (List.replicate N false) (nums xs) i wr) (fun i _ => L - (intOf i).toNat)
  case atStart => exact H0.out
  case round =>
    obtain ⟨k, rfl, hk, hM, hO⟩ := hrel
    rw [nums_len, HL.out] at hk
    have HM := Lib.hid hM
    have HO := Lib.hid hO
    have HKr := Lib.hid (hO.made HK2.out hb)
    clear hM hO
    by_cases hlt : k < L
    · have hne : xs ≠ [] := fun e => by have := HL.out; rw [e] at this; simp at this; omega
      have hcl := (HA.out.keep HKr.out).cells hne
      obtain ⟨g, o, cap', e, _, _, _⟩ := hcl.ptr k (by rw [HL.out]; exact hlt)
      simp at e
      obtain ⟨rfl, rfl⟩ := e
      obtain ⟨x, hx⟩ : ∃ x, xs[k]? = some x := ⟨_, List.getElem?_eq_getElem (by rw [HL.out]; exact hlt)⟩
      have hc := hcl.byte k x hx
      have HS := Lib.hid (set_at b _ x.toNat wr HM.out)
      have HF := Lib.hid (fillN_take (List.replicate N false) (nums xs) k x.toNat (nums_get xs k x hx))
      have hx256 := x.toNat_lt
      generalize x.toNat = c at *
      clear hcl hx
      go_wp2_with fail
      refine HS.out.mono ?_
      rintro e w3 ⟨rfl, m3, o3⟩
      go_wp2
      go_roundw
      case rel => exact ⟨k + 1, by go_num, by rw [nums_len, HL.out]; exact hlt, by rw [HF.out]; exact m3, HO.out.trans o3⟩
      case measure => simp [intOf]; omega
    · obtain rfl : k = L := by omega
      have HE := Lib.hid (show (nums xs).take k = nums xs from List.take_of_length_le (by rw [nums_len, HL.out]; exact Nat.le_refl _))
      rw [HE.out] at HM
      obtain ⟨l, hl⟩ : ∃ l, fillN (List.replicate N false) (nums xs) = l := ⟨_, rfl⟩
      rw [hl] at HM
      have hlN : l.length = N := by rw [← hl, fillN_len, List.length_replicate]
      clear hl HE H0
      go_wp2_with fail
      refine (copy_at b l wr HM.out).mono ?_
      rintro e w4 ⟨c, rfl, hc, m4, k4⟩
      have HC4 := Lib.hid m4
      have HM4 := Lib.hid (HM.out.keep k4)
      have HK4 := Lib.hid (HKr.out.trans k4)
      have hbc : b ≠ c := by have := HM.out.lt; omega
      have hcw : w.heap.size ≤ c := by have := HKr.out.size; omega
      have HCT := Lib.hid (count_at b l _ HM4.out)
      have HCTA := Lib.hid (fun w1 (h : M w1 b l) => count_at b l w1 h)
      have hcle := cnt_le l
      have HMO := Lib.hid (fill_cnt l (nums ys))
      have HF0 := Lib.hid (FRel.start (nums ys) HC4.out)
      generalize hC : cntN l = C at *
      have HCC := Lib.hid hC
      clear m4 k4 hC HM
      go_wp2_with fail
      refine HCT.out.mono ?_
      rintro e w5 ⟨rfl, rfl⟩
      go_wp2
      go_loopw [62] (fun i wr => FRel w5 c l (nums ys) i wr) (fun i _ => L2 - (intOf i).toNat)
      case atStart => exact HF0.out
      case round =>
        obtain ⟨k, rfl, hk, hM, hO⟩ := hrel
        rw [nums_len, HL2.out] at hk
        have HM := Lib.hid hM
        have HO := Lib.hid hO
        have HKr := Lib.hid (hO.made HK4.out hcw)
        clear hM hO
        by_cases hlt : k < L2
        · have hne : ys ≠ [] := fun e => by have := HL2.out; rw [e] at this; simp at this; omega
          have hcl := (HA2.out.keep HKr.out).cells hne
          obtain ⟨g, o, cap', e, _, _, _⟩ := hcl.ptr k (by rw [HL2.out]; exact hlt)
          simp at e
          obtain ⟨rfl, rfl⟩ := e
          obtain ⟨x, hx⟩ : ∃ x, ys[k]? = some x := ⟨_, List.getElem?_eq_getElem (by rw [HL2.out]; exact hlt)⟩
          have hc := hcl.byte k x hx
          have HS := Lib.hid (set_at c _ x.toNat wr HM.out)
          have HF := Lib.hid (fillN_take l (nums ys) k x.toNat (nums_get ys k x hx))
          have hx256 := x.toNat_lt
          generalize x.toNat = c at *
          clear hcl hx
          go_wp2_with fail
          refine HS.out.mono ?_
          rintro e w3 ⟨rfl, m3, o3⟩
          go_wp2
          go_roundw
          case rel => exact ⟨k + 1, by go_num, by rw [nums_len, HL2.out]; exact hlt, by rw [HF.out]; exact m3, HO.out.trans o3⟩
          case measure => simp [intOf]; omega
        · obtain rfl : k = L2 := by omega
          have HE := Lib.hid (show (nums ys).take k = nums ys from List.take_of_length_le (by rw [nums_len, HL2.out]; exact Nat.le_refl _))
          rw [HE.out] at HM
          obtain ⟨l2, hl2⟩ : ∃ l2, fillN l (nums ys) = l2 := ⟨_, rfl⟩
          rw [hl2] at HM HMO
          have hl2N : l2.length = N := by rw [← hl2, fillN_len, hlN]
          clear hl2 HE HF0
          have HM5 := Lib.hid (HM4.out.only HO.out hbc HC4.out.pos)
          go_wp2_with fail
          refine (copy_at b l _ HM5.out).mono ?_
          rintro e w6 ⟨d, rfl, hd, m6, k6⟩
          have HD6 := Lib.hid m6
          have HM6 := Lib.hid (HM5.out.keep k6)
          have HC6 := Lib.hid (HM.out.keep k6)
          have HK6 := Lib.hid (HKr.out.trans k6)
          have hbd : b ≠ d := by have := HM5.out.lt; omega
          have hcd : c ≠ d := by have := HM.out.lt; omega
          have hdw : w.heap.size ≤ d := by have := HKr.out.size; omega
          have hmg := merge_at d l N [] _ HD6.out (by omega) (by omega) (by simp)
          have hfu := all_told l
          have hml := merL_len l N []
          rw [hlN] at hfu hml
          obtain ⟨l3, hl3⟩ : ∃ l3, merL l N [] = l3 := ⟨_, rfl⟩
          rw [hl3] at hmg hfu hml
          have HMG := Lib.hid hmg
          generalize newN l N [] = nn at *
          clear hmg hl3 m6 k6
          go_wp2_with fail
          refine HMG.out.mono ?_
          rintro e w7 ⟨rfl, m7, o7⟩
          have HD7 := Lib.hid m7
          have HM7 := Lib.hid (HM6.out.only o7 hbd HD6.out.pos)
          have HC7 := Lib.hid (HC6.out.only o7 hcd HD6.out.pos)
          have HK7 := Lib.hid (o7.made HK6.out hdw)
          clear m7 o7
          have HCT7 := Lib.hid (HCTA.out _ HM7.out)
          have HC2 := Lib.hid (count_at c l2 _ HC7.out)
          have hfl := full_at d l3 _ HD7.out
          rw [hfu, hml, decide_eq_true rfl] at hfl
          have HFL := Lib.hid hfl
          have hge := HMO.out
          have hle2 := cnt_le l2
          generalize cntN l2 = C2 at *
          clear hfl
          go_wp2_with fail
          refine HCT7.out.mono ?_
          rintro e w8 ⟨rfl, rfl⟩
          go_wp2_with fail
          refine HC2.out.mono ?_
          rintro e w8 ⟨rfl, rfl⟩
          go_wp2_with fail
          refine HFL.out.mono ?_
          rintro e w9 ⟨rfl, k9⟩
          have hln := len_at c l2 _ (HC7.out.keep k9)
          rw [hl2N] at hln
          have HLN := Lib.hid hln
          have HK9 := Lib.hid (HK7.out.trans k9)
          clear hln k9
          go_wp2_with fail
          refine HLN.out.mono ?_
          rintro e w10 ⟨rfl, rfl⟩
          go_wp2
          go_ret
          exact ⟨rfl, HK9.out⟩

open Go.ChangeShapes Go.WideShapes Go.ChangeAt
set_option maxRecDepth 100000 in
theorem lifted (os : Os) (started : os.Started) (H : Type) (enc : TypeId × Value → H) :
    ReturnsInHanded {} Tryd.checked os 9 .any (fun w args => (Rows.sackCopiesSpec.pre enc Tryd.prog Tryd.f9 [] false w args ∧ laidMetH Tryd.prog laid1 w) ∧ sizedMet enc Tryd.prog Tryd.f9 (OpenSpec.ofChange Rows.sackCopiesSpec) false w args)
      (Rows.sackCopiesSpec.post enc Tryd.prog Tryd.f9 false true false false) := by
  refine returnsInHanded_of_change_and (C := Tryd.checked) (X := fun w _ => laidMetH Tryd.prog laid1 w) (fun _ _ _ hh h => h.of_heap hh) own started (by kernel_rfl) Tryd.func9
    (ChangeSpec.witness_shaped (enc := enc) (C := Tryd.checked) (os := os) (X := fun w _ => laidMetH Tryd.prog laid1 w) false (World.doorLaid Tryd.prog 400 os) #[.int .i64 0, .slice none 0 0, .slice none 0 0] 8 rfl (World.shaped_of_RefB (by kernel_rfl) (by kernel_rfl)) (by kernel_rfl) (by kernel_rfl) (by kernel_rfl) (door_met os _)) ?_
  intro W base args ds gs before hval0 hW _ _ hL _
  have hval : ∀ (j : Nat) t v, Tryd.f9.params[j]? = some t → args[j]? = some v → Value.okWide Tryd.prog W .any base t v := hval0
  have hW' := hW
  obtain ⟨p, q, hA0, hV, rfl, hfz, hnd⟩ := hW
  have hA : DataW.TrodAll enc Tryd.prog W 0 (fun _ => true) true Tryd.f9.params.toList args.toList ds p := hA0

  rw [Tryd.params9] at hA hval
  obtain ⟨v0, vs0, d0, ds0, p0, q0, hargs, rfl, rfl, h0, r0⟩ := trodAll_cons hA
  obtain ⟨v1, vs1, d1, ds1, p1, q1, rfl, rfl, rfl, h1, r1⟩ := trodAll_cons r0
  obtain ⟨v2, vs2, d2, ds2, p2, q2, rfl, rfl, rfl, h2, r2⟩ := trodAll_cons r1
  obtain ⟨rfl, rfl, rfl⟩ := trodAll_nil r2
  obtain rfl : args = #[v0, v1, v2] := by cases args; simp_all
  obtain ⟨rfl, rfl⟩ := trodVars_none hV
  have k0 := h0
  have lt0 : ∀ x ∈ p0, x.block < W.heap.size := by obtain ⟨m, hm⟩ := k0; exact DataW.trod_lt m _ _ _ hm
  have k1 := h1
  have lt1 : ∀ x ∈ p1, x.block < W.heap.size := by obtain ⟨m, hm⟩ := k1; exact DataW.trod_lt m _ _ _ hm
  have k2 := h2
  have lt2 : ∀ x ∈ p2, x.block < W.heap.size := by obtain ⟨m, hm⟩ := k2; exact DataW.trod_lt m _ _ _ hm
  obtain ⟨a0, rfl, _, _, w0⟩ := open_int Tryd.underlying3 (hval 0 3 v0 rfl rfl) h0
  obtain ⟨a1, cap1, l1, rfl, f1⟩ := open_bytes (hval 1 44 v1 rfl rfl) h1
  obtain ⟨a2, cap2, l2, rfl, f2⟩ := open_bytes (hval 2 44 v2 rfl rfl) h2
  clear hA0 hval0
  refine (walk a0 a1 cap1 l1 a2 cap2 l2 W (bounds_i64 w0) f1 f2 (of_laid hL)).mono fun e W' ⟨he, bel0⟩ => ?_
  subst he
  have bel : Below W.heap.size W W' := bel0
  exact ⟨_, rfl, _, _, _, [], _, [], hW', trodAll_mk1 (shut_bool Tryd.underlying4 _), (trodAll_cons_mk (Below.trod laidOut (by kernel_rfl) (of_decide_eq_true (by kernel_rfl)) k0 bel lt0) (trodAll_cons_mk (Below.trod laidOut (by kernel_rfl) (of_decide_eq_true (by kernel_rfl)) k1 bel lt1) (trodAll_cons_mk (Below.trod laidOut (by kernel_rfl) (of_decide_eq_true (by kernel_rfl)) k2 bel lt2) trodAll_mk0))), rfl, bel.frame _, fun h => by cases h⟩

theorem over : Rows.sackCopiesRow.holds Tryd.pinned (OpenSpec.ofChange Rows.sackCopiesSpec) :=
  OpenClaim.holds_of_wide 9 Tryd.f9 rfl rfl rfl rfl rfl rfl rfl ⟨rfl, rfl, rfl, rfl, rfl⟩ rfl rfl rfl rfl rfl (by kernel_rfl) Tryd.func9 (by kernel_rfl)
    (of_decide_eq_true (by kernel_rfl)) (by unfold Func.isWrapper; first | (rw [if_pos (by decide +kernel)]; kernel_rfl) | (rw [if_neg (by decide +kernel)]; exact ⟨rfl, rfl⟩))
    (fun os started H enc _ => lifted os started H enc)
theorem card : Claim7.holds Tryd.pinned (.plain (OpenSpec.ofChange Rows.sackCopiesSpec)) Rows.sackCopiesCard :=
  Claim7.holds_tied_plain_at .later [] [.data] true (true, "99409968b706bc054abbf054ee1bf7ec98067583eb760e09000fa6ba98158752") false
    over (fun _ h => by cases h) (by kernel_rfl) (fun _ h => by cases h) sackCopies_row_tie rfl ⟨rfl, rfl⟩ (by kernel_rfl) rfl
    (fun f fn hf hfn => by
      obtain rfl : f = 9 := Option.some.inj ((show Tryd.prog.funcNamed Rows.sackCopiesRow.func = some 9 by kernel_rfl).symm.trans hf) |>.symm
      obtain rfl : fn = Tryd.f9 := (Option.some.inj (Tryd.func9.symm.trans hfn)).symm
      exact ⟨by kernel_rfl, fun j t ht => by
        rw [Tryd.params9] at ht
        have hm : t ∈ [3, 44, 44] := by simpa using Array.mem_of_getElem? ht
        have hall : ([3, 44, 44].all fun u => !Tryd.prog.wantsStandIn u) = true := by kernel_rfl
        exact (show Tryd.prog.wantsStandIn t = false by simpa using List.all_eq_true.1 hall t hm)⟩)
    (by kernel_rfl)
end Go.Proofs.YtbeppppipleaaaaDoor.LSackCopies

namespace Go.Proofs.YtbeppppipleaaaaDoor
theorem sackCopies_holds : Rows.SackCopiesCardSaid := LSackCopies.card
#print axioms sackCopies_holds
end Go.Proofs.YtbeppppipleaaaaDoor

