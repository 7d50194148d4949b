/- Proved: for every two ints and every list of bytes the law SackShort returns true (with fewer bits told the other map has no more, and nothing that isn't there), and its arguments read behind the call as they read before. Condition, by the row's own list: math/bits.deBruijn64tab starts as the program's text lays it (the card ties that). -/
import Derived.Test.YtbeppppipleaaaaDoorFi
namespace Go.Proofs.YtbeppppipleaaaaDoor.LSackShort
open Go.RowKit

def TwRel (w : World) (N : Nat) (iv : Value) (wr : World) : Prop := ∃ j : Nat, iv = .int .i64 j ∧ j ≤ N ∧ Keep w wr

set_option maxRecDepth 100000 in
set_option maxHeartbeats 2000000 in
theorem walk (n k0 : Int) (a : Option Addr) (cap : Nat) (xs : List UInt8) (w : World) (_hn : -9223372036854775808 ≤ n ∧ n ≤ 9223372036854775807) (_hk : -9223372036854775808 ≤ k0 ∧ k0 ≤ 9223372036854775807) (hA : ArgB w a cap xs) (ht : Tab w) : Calls Tryd.prog 8 #[.int .i64 n, .int .i64 k0, .slice a xs.length cap] w fun e w' => e = .returned (.bool true) ∧ Keep w w' := by
  have HT := Lib.hid ht
  have HA := Lib.hid hA
  have hsm := hA.small
  unfold maxLen at hsm
  clear ht hA
  obtain ⟨N, hN⟩ : ∃ N, sizeN n = N := ⟨_, rfl⟩
  have hN1 := sizeN_pos n
  have hN2 := sizeN_le n
  have hNe := size_law n
  rw [hN] at hN1 hN2 hNe
  clear hN
  obtain ⟨K, hK, hKe⟩ : ∃ K : Nat, K < 300 ∧ wrap64 ((IntKind.u64.wrap k0).tmod 300) = (K : Int) := by
    have h : 0 ≤ IntKind.u64.wrap k0 := by rw [IntKind.wrap_u64]; omega
    refine ⟨((IntKind.u64.wrap k0) % 300).toNat, by omega, ?_⟩
    rw [Int.tmod_eq_emod_of_nonneg h]
    unfold wrap64
    omega
  obtain ⟨L, hL⟩ : ∃ L, xs.length = L := ⟨_, rfl⟩
  have HL := Lib.hid hL
  rw [hL] at hsm ⊢
  clear hL
  by_cases hbig : 300 < L
  · have hbI : decide ((L : Int) > 300) = true := decide_eq_true (by omega)
    go_enter Tryd.func8, Tryd.ntmps8
    go_wp2_with fail
    refine (new_at N hN1 hN2 w HT.out).mono ?_
    rintro e w1 ⟨b, rfl, hb, m1, k1⟩
    go_wp2_with fail
    refine (new_at N hN1 hN2 w1 m1.tab).mono ?_
    rintro e w2 ⟨c, rfl, hc, m2, k2⟩
    go_wp2_with fail
    refine (awake w2 m2.tab).mono ?_
    rintro e w3 ⟨rfl, k3⟩
    go_wp2_with fail
    refine (awake w3 (m2.tab.keep k3)).mono ?_
    rintro e w4 ⟨rfl, k4⟩
    go_wp2
    go_ret
    exact ⟨rfl, (k1.trans k2).trans (k3.trans k4)⟩
  have hbI : decide ((L : Int) > 300) = false := decide_eq_false (by omega)
  go_enter Tryd.func8, Tryd.ntmps8
  go_wp2_with fail
  refine (new_at N hN1 hN2 w HT.out).mono ?_
  rintro e w1 ⟨b, rfl, hb, m1, k1⟩
  go_wp2_with fail
  refine (new_at N hN1 hN2 w1 m1.tab).mono ?_
  rintro e w2 ⟨c, rfl, hc, m2, k2⟩
  go_wp2_with fail
  refine (awake w2 m2.tab).mono ?_
  rintro e w3 ⟨rfl, k3⟩
  have hbc : b ≠ c := by have := m1.lt; omega
  have hcw : w.heap.size ≤ c := by have := k1.size; omega
  have H0 := Lib.hid (FRel.start (nums xs) ((m1.keep k2).keep k3))
  have HY3 := Lib.hid (m2.keep k3)
  have HK3 := Lib.hid ((k1.trans k2).trans k3)
  clear m1 m2 k1 k2 k3
  go_wp2
  go_loopw [59] (fun i wr => FRel w3 b (List.replicate N false) (nums xs) i wr) (fun i _ => L - (intOf i).toNat)
  case atStart => exact H0.out
  case round =>
    obtain ⟨k, rfl, hk, hM, hO⟩ := hrel
    rw [nums_len, HL.out] at hk
    have HM := Lib.hid hM
    have HO := Lib.hid hO
    have HKr := Lib.hid (hO.made HK3.out hb)
    clear hM hO
    by_cases hlt : k < L
    · have hne : xs ≠ [] := fun e => by have := HL.out; rw [e] at this; simp at this; omega
      have hcl := (HA.out.keep HKr.out).cells hne
      obtain ⟨g, o, cap', e, _, _, _⟩ := hcl.ptr k (by rw [HL.out]; exact hlt)
      simp at e
      obtain ⟨rfl, rfl⟩ := e
      obtain ⟨x, hx⟩ : ∃ x, xs[k]? = some x := ⟨_, List.getElem?_eq_getElem (by rw [HL.out]; exact hlt)⟩
      have hc := hcl.byte k x hx
      have HS := Lib.hid (set_at b _ x.toNat wr HM.out)
      have HF := Lib.hid (fillN_take (List.replicate N false) (nums xs) k x.toNat (nums_get xs k x hx))
      have hx256 := x.toNat_lt
      generalize x.toNat = c at *
      clear hcl hx
      go_wp2_with fail
      refine HS.out.mono ?_
      rintro e w3 ⟨rfl, m3, o3⟩
      go_wp2
      go_roundw
      case rel => exact ⟨k + 1, by go_num, by rw [nums_len, HL.out]; exact hlt, by rw [HF.out]; exact m3, HO.out.trans o3⟩
      case measure => simp [intOf]; omega
    · obtain rfl : k = L := by omega
      have HE := Lib.hid (show (nums xs).take k = nums xs from List.take_of_length_le (by rw [nums_len, HL.out]; exact Nat.le_refl _))
      rw [HE.out] at HM
      obtain ⟨x, hx⟩ : ∃ l, fillN (List.replicate N false) (nums xs) = l := ⟨_, rfl⟩
      rw [hx] at HM
      have hxN : x.length = N := by rw [← hx, fillN_len, List.length_replicate]
      have HX4 := Lib.hid HM.out
      have HY4 := Lib.hid (HY3.out.only HO.out (Ne.symm hbc) HM.out.pos)
      have HK4 := Lib.hid HKr.out
      clear hx HE H0 HM HO HKr HY3
      have HBS := Lib.hid (fun w1 (h : M w1 b x) => mbase_at b x w1 h)
      have HBH := Lib.hid (fun w1 (h : M w1 b x) => behind_at b x K w1 h)
      have hbl := base_le x
      have hsl := behB_len x K
      have hkn := kN_le K
      have hkk : kN (K : Int) = min K 256 := by unfold kN; omega
      have hSG := fun i => short_get x K N hxN.symm i
      have hSC := short_cnt x K N hxN.symm
      have hzl := merL_len (List.replicate N false) (baseN x) (behB x K)
      have hMG := merge_at c (List.replicate N false) (baseN x) (behB x K)
      rw [List.length_replicate] at hzl
      rw [hxN] at hbl
      rw [hkk] at hsl hkn hSG
      have hslB : (behB x K).length ≤ 1000000 := by rw [hsl]; omega
      clear hsl
      generalize merL (List.replicate N false) (baseN x) (behB x K) = z at *
      generalize newN (List.replicate N false) (baseN x) (behB x K) = kk at *
      generalize behB x K = s at *
      generalize baseN x = B at *
      have HMG := Lib.hid hMG
      have HSG := Lib.hid hSG
      have HSL := Lib.hid hslB
      clear hMG hSG hslB hkk
      go_wp2_with fail
      refine (HBS.out _ HX4.out).mono ?_
      rintro e w7 ⟨rfl, rfl⟩
      go_wp2_with fail
      refine (HBH.out _ HX4.out).mono ?_
      rintro e w7 ⟨rfl, k7⟩
      have HMGa := Lib.hid (HMG.out _ (HY4.out.keep k7) (by omega) (by omega) HSL.out)
      have HX7 := Lib.hid (HX4.out.keep k7)
      have HK7 := Lib.hid (HK4.out.trans k7)
      clear k7
      go_wp2_with fail
      refine HMGa.out.mono ?_
      rintro e w8 ⟨rfl, m8, o8⟩
      have HZ8 := Lib.hid m8
      have HX8 := Lib.hid (HX7.out.only o8 hbc m8.pos)
      have HK8 := Lib.hid (o8.made HK7.out hcw)
      clear m8 o8 HMGa HMG
      obtain ⟨mk, hmk⟩ : ∃ mk, min K 256 = mk := ⟨_, rfl⟩
      have hmin : ∀ w ts t, (Builtin.min_ ts t #[.int .i64 K, .int .i64 256]).run Tryd.prog w = .ok (.int .i64 mk) w := fun w ts t => by
        rw [run_min_int2, show (if (256 : Int) < K then (256 : Int) else K) = mk by omega]
      rw [hmk] at HSG hkn
      clear hmk
      go_wp2
      go_loopw [76] (fun i wq => TwRel w8 N i wq) (fun i _ => N - (intOf i).toNat)
      case atStart => exact ⟨0, rfl, Nat.zero_le _, Keep.refl _⟩
      case round =>
        obtain ⟨j, rfl, hj, hkj⟩ := hrel
        have HKj := Lib.hid hkj
        clear hkj
        have HBr : Hid (∀ w1, Keep w8 w1 → Calls Tryd.prog 16 #[.pointer (some ⟨b, 0, none⟩)] w1 fun e w' => e = .returned (.int .i64 B) ∧ w' = w1) := Lib.hid fun w1 q => HBS.out w1 (HX8.out.keep q)
        by_cases hjb : j < N
        · have hg := HSG.out j hjb
          have HHz : Hid (∀ w1, Keep w8 w1 → Calls Tryd.prog 15 #[.pointer (some ⟨c, 0, none⟩), .int .i64 j] w1 fun e w' => e = .returned (.bool (z.getD j false)) ∧ Keep w1 w') := Lib.hid fun w1 q => by
            have := has_at c z j w1 (HZ8.out.keep q)
            rwa [hasB_nat] at this
          have HHx : Hid (∀ w1, Keep w8 w1 → Calls Tryd.prog 15 #[.pointer (some ⟨b, 0, none⟩), .int .i64 j] w1 fun e w' => e = .returned (.bool (x.getD j false)) ∧ Keep w1 w') := Lib.hid fun w1 q => by
            have := has_at b x j w1 (HX8.out.keep q)
            rwa [hasB_nat] at this
          rw [hg] at HHz
          clear hg
          generalize x.getD j false = xb at *
          cases xb
          · rw [Bool.false_and] at HHz
            go_wp2_with fail
            refine (HHz.out _ HKj.out).mono ?_
            rintro e w9 ⟨rfl, k9⟩
            have HK9 := Lib.hid (HKj.out.trans k9)
            clear k9
            go_wp2_with fail
            refine (HHz.out _ HK9.out).mono ?_
            rintro e w10 ⟨rfl, k10⟩
            have HK10 := Lib.hid (HK9.out.trans k10)
            clear k10
            go_wp2_with fail
            refine (HHx.out _ HK10.out).mono ?_
            rintro e w11 ⟨rfl, k11⟩
            have HK11 := Lib.hid (HK10.out.trans k11)
            clear k11
            go_wp2
            go_roundw
            case rel => exact ⟨j + 1, by go_num, by omega, HK11.out⟩
            case measure => simp [intOf]; omega
          · by_cases hin : j < B + 1 + mk
            · have hor : (decide (j < B) || decide (j < B + 1 + mk)) = true := by rw [decide_eq_true hin, Bool.or_true]
              rw [hor, Bool.and_true] at HHz
              clear hor
              go_wp2_with fail
              refine (HHz.out _ HKj.out).mono ?_
              rintro e w9 ⟨rfl, k9⟩
              have HK9 := Lib.hid (HKj.out.trans k9)
              clear k9
              go_wp2_with fail
              refine (HHx.out _ HK9.out).mono ?_
              rintro e w10 ⟨rfl, k10⟩
              have HK10 := Lib.hid (HK9.out.trans k10)
              clear k10
              go_wp2_with fail
              refine (HHz.out _ HK10.out).mono ?_
              rintro e w11 ⟨rfl, k11⟩
              have HK11 := Lib.hid (HK10.out.trans k11)
              clear k11
              go_wp2
              go_roundw
              case rel => exact ⟨j + 1, by go_num, by omega, HK11.out⟩
              case measure => simp [intOf]; omega
            · have hor : (decide (j < B) || decide (j < B + 1 + mk)) = false := by rw [decide_eq_false hin, decide_eq_false (by omega), Bool.or_false]
              rw [hor, Bool.and_false] at HHz
              have q1 : decide ((j : Int) < (B : Int)) = false := decide_eq_false (by omega)
              have q2 : decide ((j : Int) ≤ (B : Int) + (mk : Int)) = false := decide_eq_false (by omega)
              have q3 : ¬ j < B := by omega
              clear hor
              go_wp2_with fail
              refine (HHz.out _ HKj.out).mono ?_
              rintro e w9 ⟨rfl, k9⟩
              have HK9 := Lib.hid (HKj.out.trans k9)
              clear k9
              go_wp2_with fail
              refine (HHz.out _ HK9.out).mono ?_
              rintro e w10 ⟨rfl, k10⟩
              have HK10 := Lib.hid (HK9.out.trans k10)
              clear k10
              go_wp2_with fail
              refine (HHx.out _ HK10.out).mono ?_
              rintro e w11 ⟨rfl, k11⟩
              have HK11 := Lib.hid (HK10.out.trans k11)
              clear k11
              go_wp2_with fail
              refine (HBr.out _ HK11.out).mono ?_
              rintro e w12 ⟨rfl, rfl⟩
              go_wp2_with fail
              refine (HBr.out _ HK11.out).mono ?_
              rintro e w13 ⟨rfl, rfl⟩
              go_wp2
              go_roundw
              case rel => exact ⟨j + 1, by go_num, by omega, HK11.out⟩
              case measure => simp [intOf]; omega
        · obtain rfl : j = N := by omega
          have HC1 := Lib.hid (count_at c z _ (HZ8.out.keep HKj.out))
          have HC2 := Lib.hid (count_at b x _ (HX8.out.keep HKj.out))
          have HK9 := Lib.hid (HK8.out.trans HKj.out)
          generalize cntN z = CZ at *
          generalize cntN x = CX at *
          go_wp2_with fail
          refine HC1.out.mono ?_
          rintro e w9 ⟨rfl, rfl⟩
          go_wp2_with fail
          refine HC2.out.mono ?_
          rintro e w10 ⟨rfl, rfl⟩
          go_wp2
          go_ret
          exact ⟨rfl, HK9.out⟩

open Go.ChangeShapes Go.WideShapes Go.ChangeAt
set_option maxRecDepth 100000 in
theorem lifted (os : Os) (started : os.Started) (H : Type) (enc : TypeId × Value → H) :
    ReturnsInHanded {} Tryd.checked os 8 .any (fun w args => (Rows.sackShortSpec.pre enc Tryd.prog Tryd.f8 [] false w args ∧ laidMetH Tryd.prog laid1 w) ∧ sizedMet enc Tryd.prog Tryd.f8 (OpenSpec.ofChange Rows.sackShortSpec) false w args)
      (Rows.sackShortSpec.post enc Tryd.prog Tryd.f8 false true false false) := by
  refine returnsInHanded_of_change_and (C := Tryd.checked) (X := fun w _ => laidMetH Tryd.prog laid1 w) (fun _ _ _ hh h => h.of_heap hh) own started (by kernel_rfl) Tryd.func8
    (ChangeSpec.witness_shaped (enc := enc) (C := Tryd.checked) (os := os) (X := fun w _ => laidMetH Tryd.prog laid1 w) false (World.doorLaid Tryd.prog 400 os) #[.int .i64 0, .int .i64 0, .slice none 0 0] 8 rfl (World.shaped_of_RefB (by kernel_rfl) (by kernel_rfl)) (by kernel_rfl) (by kernel_rfl) (by kernel_rfl) (door_met os _)) ?_
  intro W base args ds gs before hval0 hW _ _ hL _
  have hval : ∀ (j : Nat) t v, Tryd.f8.params[j]? = some t → args[j]? = some v → Value.okWide Tryd.prog W .any base t v := hval0
  have hW' := hW
  obtain ⟨p, q, hA0, hV, rfl, hfz, hnd⟩ := hW
  have hA : DataW.TrodAll enc Tryd.prog W 0 (fun _ => true) true Tryd.f8.params.toList args.toList ds p := hA0

  rw [Tryd.params8] at hA hval
  obtain ⟨v0, vs0, d0, ds0, p0, q0, hargs, rfl, rfl, h0, r0⟩ := trodAll_cons hA
  obtain ⟨v1, vs1, d1, ds1, p1, q1, rfl, rfl, rfl, h1, r1⟩ := trodAll_cons r0
  obtain ⟨v2, vs2, d2, ds2, p2, q2, rfl, rfl, rfl, h2, r2⟩ := trodAll_cons r1
  obtain ⟨rfl, rfl, rfl⟩ := trodAll_nil r2
  obtain rfl : args = #[v0, v1, v2] := by cases args; simp_all
  obtain ⟨rfl, rfl⟩ := trodVars_none hV
  have k0 := h0
  have lt0 : ∀ x ∈ p0, x.block < W.heap.size := by obtain ⟨m, hm⟩ := k0; exact DataW.trod_lt m _ _ _ hm
  have k1 := h1
  have lt1 : ∀ x ∈ p1, x.block < W.heap.size := by obtain ⟨m, hm⟩ := k1; exact DataW.trod_lt m _ _ _ hm
  have k2 := h2
  have lt2 : ∀ x ∈ p2, x.block < W.heap.size := by obtain ⟨m, hm⟩ := k2; exact DataW.trod_lt m _ _ _ hm
  obtain ⟨a0, rfl, _, _, w0⟩ := open_int Tryd.underlying3 (hval 0 3 v0 rfl rfl) h0
  obtain ⟨a1, rfl, _, _, w1⟩ := open_int Tryd.underlying3 (hval 1 3 v1 rfl rfl) h1
  obtain ⟨a2, cap2, l2, rfl, f2⟩ := open_bytes (hval 2 44 v2 rfl rfl) h2
  clear hA0 hval0
  refine (walk a0 a1 a2 cap2 l2 W (bounds_i64 w0) (bounds_i64 w1) f2 (of_laid hL)).mono fun e W' ⟨he, bel0⟩ => ?_
  subst he
  have bel : Below W.heap.size W W' := bel0
  exact ⟨_, rfl, _, _, _, [], _, [], hW', trodAll_mk1 (shut_bool Tryd.underlying4 _), (trodAll_cons_mk (Below.trod laidOut (by kernel_rfl) (of_decide_eq_true (by kernel_rfl)) k0 bel lt0) (trodAll_cons_mk (Below.trod laidOut (by kernel_rfl) (of_decide_eq_true (by kernel_rfl)) k1 bel lt1) (trodAll_cons_mk (Below.trod laidOut (by kernel_rfl) (of_decide_eq_true (by kernel_rfl)) k2 bel lt2) trodAll_mk0))), rfl, bel.frame _, fun h => by cases h⟩

theorem over : Rows.sackShortRow.holds Tryd.pinned (OpenSpec.ofChange Rows.sackShortSpec) :=
  OpenClaim.holds_of_wide 8 Tryd.f8 rfl rfl rfl rfl rfl rfl rfl ⟨rfl, rfl, rfl, rfl, rfl⟩ rfl rfl rfl rfl rfl (by kernel_rfl) Tryd.func8 (by kernel_rfl)
    (of_decide_eq_true (by kernel_rfl)) (by unfold Func.isWrapper; first | (rw [if_pos (by decide +kernel)]; kernel_rfl) | (rw [if_neg (by decide +kernel)]; exact ⟨rfl, rfl⟩))
    (fun os started H enc _ => lifted os started H enc)
theorem card : Claim7.holds Tryd.pinned (.plain (OpenSpec.ofChange Rows.sackShortSpec)) Rows.sackShortCard :=
  Claim7.holds_tied_plain_at .later [] [.data] true (true, "99409968b706bc054abbf054ee1bf7ec98067583eb760e09000fa6ba98158752") false
    over (fun _ h => by cases h) (by kernel_rfl) (fun _ h => by cases h) sackShort_row_tie rfl ⟨rfl, rfl⟩ (by kernel_rfl) rfl
    (fun f fn hf hfn => by
      obtain rfl : f = 8 := Option.some.inj ((show Tryd.prog.funcNamed Rows.sackShortRow.func = some 8 by kernel_rfl).symm.trans hf) |>.symm
      obtain rfl : fn = Tryd.f8 := (Option.some.inj (Tryd.func8.symm.trans hfn)).symm
      exact ⟨by kernel_rfl, fun j t ht => by
        rw [Tryd.params8] at ht
        have hm : t ∈ [3, 3, 44] := by simpa using Array.mem_of_getElem? ht
        have hall : ([3, 3, 44].all fun u => !Tryd.prog.wantsStandIn u) = true := by kernel_rfl
        exact (show Tryd.prog.wantsStandIn t = false by simpa using List.all_eq_true.1 hall t hm)⟩)
    (by kernel_rfl)
end Go.Proofs.YtbeppppipleaaaaDoor.LSackShort

namespace Go.Proofs.YtbeppppipleaaaaDoor
theorem sackShort_holds : Rows.SackShortCardSaid := LSackShort.card
#print axioms sackShort_holds
end Go.Proofs.YtbeppppipleaaaaDoor

