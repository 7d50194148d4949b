/- Proved: PrefixKinds: prefixes of unlike kinds contain nothing of one another; those of four bytes come first. Condition: none of our own: the listed tables start as the program's text lays them. -/
import Derived.Test.YtabniphnmlbkfaaDoorO
namespace Go.Proofs.YtabniphnmlbkfaaDoor.LPrefixKinds
open Go.RowKit

theorem bytes_len (p : Px) : (bytesL p).length ≤ 17 ∨ ¬ rightP p := by
  by_cases h : rightP p
  · left
    unfold bytesL
    have h1 := h.2.1
    have h2 := sizeN_le p.six
    simp only [List.length_cons, List.length_take]
    have : needN p.len.toNat ≤ 16 := by unfold needN; omega
    omega
  · right; exact h

set_option maxRecDepth 100000 in
set_option maxHeartbeats 1000000 in
theorem walk (a b : Px) (w : World) (ha : a.addr.length = 16) (_ : -9223372036854775808 ≤ a.len ∧ a.len ≤ 9223372036854775807) (hb : b.addr.length = 16) (_ : -9223372036854775808 ≤ b.len ∧ b.len ≤ 9223372036854775807) (ht : Tab w) : Calls Tryd.prog 8 #[.agg (pc a), .agg (pc b)] w fun e w' => e = .returned (.bool true) ∧ Same w w' := by
  obtain ⟨hA, hB, hS⟩ := two_at w a b ha hb
  have HRa := Lib.hid (qright a ha)
  have HRb := Lib.hid (qright b hb)
  have HAW := Lib.hid awake
  have HT := Lib.hid ht
  obtain ⟨n2, hn2⟩ : ∃ n, n = 18 := ⟨18, rfl⟩
  have hsz2 : ∀ w, (Go.sizeOf 24).run Tryd.prog w = .ok n2 w := fun w => by rw [hn2]; exact Tryd.sizeOf24 w
  have HA := Lib.hid hA
  have HB := Lib.hid hB
  have HS := Lib.hid hS
  have HN2 := Lib.hid hn2
  clear hA hB hS hn2 ht
  by_cases hr : rightP a
  · rw [decide_eq_true hr] at HRa
    by_cases hq : rightP b
    · rw [decide_eq_true hq] at HRb
      by_cases hs : a.six = b.six
      · go_enter Tryd.func8, Tryd.ntmps8
        go_wp2_with fail
        refine (HAW.out _ (HT.out.mono HS.out)).mono ?_
        rintro e w1 ⟨rfl, b1⟩
        have f1 := (HA.out.mono b1).whole HN2.out
        go_wp2_with fail
        refine (HRa.out _).mono ?_
        rintro e w2 ⟨rfl, b2⟩
        have f2 := (HB.out.mono (b1.trans b2)).whole HN2.out
        clear f1
        go_wp2_with fail
        refine (HRb.out _).mono ?_
        rintro e w3 ⟨rfl, b3⟩
        have c3 := (b1.trans b2).trans b3
        have f3 := (HA.out.mono c3).six
        have f4 := (HB.out.mono c3).six
        rw [← hs] at f4
        clear f2
        go_wp2_with fail
        refine (HAW.out _ (HT.out.mono (HS.out.trans c3))).mono ?_
        rintro e w4 ⟨rfl, b4⟩
        go_wp2
        go_ret
        exact ⟨rfl, (HS.out.trans c3).trans b4⟩
      · have hs2 : (a.six != b.six) = true := by simpa using hs
        have HCm := Lib.hid (compare a b ha hb)
        have HCt := Lib.hid (contains a b ha hb)
        have HCt2 := Lib.hid (contains b a hb ha)
        have HCo := Lib.hid (common a b ha hb)
        have HBy := Lib.hid (bytes_ok a ha hr)
        have hco : commonZ a b = -1 := by unfold commonZ; rw [if_neg (by intro h; exact hs h.1)]
        have hco2 : commonZ b a = -1 := by unfold commonZ; rw [if_neg (by intro h; exact hs h.1.symm)]
        rw [hasB_eq, hco, show (decide ((0 : Int) ≤ -1) && decide ((-1 : Int) = a.len)) = false by simp] at HCt
        rw [hasB_eq, hco2, show (decide ((0 : Int) ≤ -1) && decide ((-1 : Int) = b.len)) = false by simp] at HCt2
        rw [hco] at HCo
        rw [show cmpP a b = if b.six then -1 else 1 by unfold cmpP; rw [if_neg hs]] at HCm
        have hlen : (bytesL a).length ≤ 17 := (bytes_len a).resolve_right (fun h => h hr)
        generalize bytesL a = Y at *
        clear hco hco2 hs hr hq
        obtain ⟨sa, hsa⟩ : ∃ s, s = a.six := ⟨_, rfl⟩
        obtain ⟨sb, hsb⟩ : ∃ s, s = b.six := ⟨_, rfl⟩
        have HSA := Lib.hid hsa
        have HSB := Lib.hid hsb
        rw [← hsa, ← hsb] at hs2
        rw [← hsb] at HCm
        clear hsa hsb
        cases sa <;> cases sb <;> simp at hs2
        all_goals
          go_enter Tryd.func8, Tryd.ntmps8
          go_wp2_with fail
          refine (HAW.out _ (HT.out.mono HS.out)).mono ?_
          rintro e w1 ⟨rfl, b1⟩
          have f1 := (HA.out.mono b1).whole HN2.out
          go_wp2_with fail
          refine (HRa.out _).mono ?_
          rintro e w2 ⟨rfl, b2⟩
          have f2 := (HB.out.mono (b1.trans b2)).whole HN2.out
          clear f1
          go_wp2_with fail
          refine (HRb.out _).mono ?_
          rintro e w3 ⟨rfl, b3⟩
          have c3 := (b1.trans b2).trans b3
          have f3 := (HA.out.mono c3).six
          have f4 := (HB.out.mono c3).six
          have f5 := (HA.out.mono c3).whole HN2.out
          have f6 := (HB.out.mono c3).whole HN2.out
          rw [← HSA.out] at f3
          rw [← HSB.out] at f4
          clear f2
          go_wp2_with fail
          refine (HCm.out _).mono ?_
          rintro e w4 ⟨rfl, b4⟩
          have c4 := c3.trans b4
          have f5 := (HA.out.mono c4).whole HN2.out
          have f6 := (HB.out.mono c4).whole HN2.out
          go_wp2_with fail
          refine (HCt.out _).mono ?_
          rintro e w5 ⟨rfl, b5⟩
          have c5 := c4.trans b5
          have f5 := (HA.out.mono c5).whole HN2.out
          have f6 := (HB.out.mono c5).whole HN2.out
          go_wp2_with fail
          refine (HCt2.out _).mono ?_
          rintro e w6 ⟨rfl, b6⟩
          have c6 := c5.trans b6
          have f5 := (HA.out.mono c6).whole HN2.out
          have f6 := (HB.out.mono c6).whole HN2.out
          go_wp2_with fail
          refine (HCo.out _).mono ?_
          rintro e w7 ⟨rfl, b7⟩
          have c7 := c6.trans b7
          have f5 := (HA.out.mono c7).whole HN2.out
          have f4 := (HB.out.mono c7).six
          rw [← HSB.out] at f4
          go_wp2_with fail
          refine (HBy.out _).mono ?_
          rintro e w8 ⟨rfl, b8⟩
          go_wp2
          go_ret
          exact ⟨congrArg (fun b => Ending.returned (Value.bool b)) (decide_eq_true (by omega : (Y.length : Int) ≤ 17)), (HS.out.trans c7).trans b8⟩
    · rw [decide_eq_false hq] at HRb
      go_enter Tryd.func8, Tryd.ntmps8
      go_wp2_with fail
      refine (HAW.out _ (HT.out.mono HS.out)).mono ?_
      rintro e w1 ⟨rfl, b1⟩
      have f1 := (HA.out.mono b1).whole HN2.out
      go_wp2_with fail
      refine (HRa.out _).mono ?_
      rintro e w2 ⟨rfl, b2⟩
      have f2 := (HB.out.mono (b1.trans b2)).whole HN2.out
      clear f1
      go_wp2_with fail
      refine (HRb.out _).mono ?_
      rintro e w3 ⟨rfl, b3⟩
      go_wp2_with fail
      refine (HAW.out _ (HT.out.mono (HS.out.trans ((b1.trans b2).trans b3)))).mono ?_
      rintro e w4 ⟨rfl, b4⟩
      go_wp2
      go_ret
      exact ⟨rfl, (HS.out.trans ((b1.trans b2).trans b3)).trans b4⟩
  · rw [decide_eq_false hr] at HRa
    go_enter Tryd.func8, Tryd.ntmps8
    go_wp2_with fail
    refine (HAW.out _ (HT.out.mono HS.out)).mono ?_
    rintro e w1 ⟨rfl, b1⟩
    have f1 := (HA.out.mono b1).whole HN2.out
    go_wp2_with fail
    refine (HRa.out _).mono ?_
    rintro e w2 ⟨rfl, b2⟩
    go_wp2_with fail
    refine (HAW.out _ (HT.out.mono (HS.out.trans (b1.trans b2)))).mono ?_
    rintro e w4 ⟨rfl, b4⟩
    go_wp2
    go_ret
    exact ⟨rfl, (HS.out.trans (b1.trans b2)).trans b4⟩

open Go.ChangeShapes Go.WideShapes Go.ChangeAt
set_option maxRecDepth 100000 in
theorem lifted (os : Os) (started : os.Started) (H : Type) (enc : TypeId × Value → H) :
    ReturnsInHanded {} Tryd.checked os 8 .any (fun w args => (Rows.prefixKindsSpec.pre enc Tryd.prog Tryd.f8 [] false w args ∧ laidMetH Tryd.prog laid3 w) ∧ sizedMet enc Tryd.prog Tryd.f8 (OpenSpec.ofChange Rows.prefixKindsSpec) false w args)
      (Rows.prefixKindsSpec.post enc Tryd.prog Tryd.f8 false true false false) := by
  refine returnsInHanded_of_change_and (C := Tryd.checked) (X := fun w _ => laidMetH Tryd.prog laid3 w) (fun _ _ _ hh h => h.of_heap hh) own started (by kernel_rfl) Tryd.func8
    (ChangeSpec.witness_shaped (enc := enc) (C := Tryd.checked) (os := os) (X := fun w _ => laidMetH Tryd.prog laid3 w) false (World.doorLaid Tryd.prog 400 os) #[.agg (pc zeroP), .agg (pc zeroP)] 8 rfl (World.shaped_of_RefB (by kernel_rfl) (by kernel_rfl)) (by kernel_rfl) (by kernel_rfl) (by kernel_rfl) (door_met os _)) ?_
  intro W base args ds gs before hval0 hW _ _ hL _
  have hval : ∀ (j : Nat) t v, Tryd.f8.params[j]? = some t → args[j]? = some v → Value.okWide Tryd.prog W .any base t v := hval0
  have hW' := hW
  obtain ⟨p, q, hA0, hV, rfl, hfz, hnd⟩ := hW
  have hA : DataW.TrodAll enc Tryd.prog W 0 (fun _ => true) true Tryd.f8.params.toList args.toList ds p := hA0

  rw [Tryd.params8] at hA hval
  obtain ⟨v0, vs0, d0, ds0, p0, q0, hargs, rfl, rfl, h0, r0⟩ := trodAll_cons hA
  obtain ⟨v1, vs1, d1, ds1, p1, q1, rfl, rfl, rfl, h1, r1⟩ := trodAll_cons r0
  obtain ⟨rfl, rfl, rfl⟩ := trodAll_nil r1
  obtain rfl : args = #[v0, v1] := by cases args; simp_all
  obtain ⟨rfl, rfl⟩ := trodVars_none hV
  have k0 := h0
  have lt0 : ∀ x ∈ p0, x.block < W.heap.size := by obtain ⟨m, hm⟩ := k0; exact DataW.trod_lt m _ _ _ hm
  have k1 := h1
  have lt1 : ∀ x ∈ p1, x.block < W.heap.size := by obtain ⟨m, hm⟩ := k1; exact DataW.trod_lt m _ _ _ hm
  obtain ⟨a0, rfl, l0, w0⟩ := open_prefix (hval 0 24 v0 rfl rfl) h0
  obtain ⟨a1, rfl, l1, w1⟩ := open_prefix (hval 1 24 v1 rfl rfl) h1
  clear hA0 hval0
  refine (walk a0 a1 W l0 (bounds_i64 w0) l1 (bounds_i64 w1) (of_laid hL)).mono fun e W' ⟨he, bel0⟩ => ?_
  subst he
  have bel : Below W.heap.size W W' := bel0
  exact ⟨_, rfl, _, _, _, [], _, [], hW', trodAll_mk1 (shut_bool Tryd.underlying4 _), (trodAll_cons_mk (Below.trod laidOut (by kernel_rfl) (of_decide_eq_true (by kernel_rfl)) k0 bel lt0) (trodAll_cons_mk (Below.trod laidOut (by kernel_rfl) (of_decide_eq_true (by kernel_rfl)) k1 bel lt1) trodAll_mk0)), rfl, bel.frame _, fun h => by cases h⟩

theorem over : Rows.prefixKindsRow.holds Tryd.pinned (OpenSpec.ofChange Rows.prefixKindsSpec) :=
  OpenClaim.holds_of_wide 8 Tryd.f8 rfl rfl rfl rfl rfl rfl rfl ⟨rfl, rfl, rfl, rfl, rfl⟩ rfl rfl rfl rfl rfl (by kernel_rfl) Tryd.func8 (by kernel_rfl)
    (of_decide_eq_true (by kernel_rfl)) (by unfold Func.isWrapper; first | (rw [if_pos (by decide +kernel)]; kernel_rfl) | (rw [if_neg (by decide +kernel)]; exact ⟨rfl, rfl⟩))
    (fun os started H enc _ => lifted os started H enc)
theorem card : Claim7.holds Tryd.pinned (.plain (OpenSpec.ofChange Rows.prefixKindsSpec)) Rows.prefixKindsCard :=
  Claim7.holds_tied_plain_at .later [] [.data, .data, .data] true (true, "99f48ac142fb8160a383948506df205cf7e87e3fed5a7f28b0a4a6954dfb29c2") false
    over (fun _ h => by cases h) (by kernel_rfl) (fun _ h => by cases h) prefixKinds_row_tie rfl ⟨rfl, rfl⟩ (by kernel_rfl) rfl
    (fun f fn hf hfn => by
      obtain rfl : f = 8 := Option.some.inj ((show Tryd.prog.funcNamed Rows.prefixKindsRow.func = some 8 by kernel_rfl).symm.trans hf) |>.symm
      obtain rfl : fn = Tryd.f8 := (Option.some.inj (Tryd.func8.symm.trans hfn)).symm
      exact ⟨by kernel_rfl, fun j t ht => by
        rw [Tryd.params8] at ht
        have hm : t ∈ [24, 24] := by simpa using Array.mem_of_getElem? ht
        have hall : ([24, 24].all fun u => !Tryd.prog.wantsStandIn u) = true := by kernel_rfl
        exact (show Tryd.prog.wantsStandIn t = false by simpa using List.all_eq_true.1 hall t hm)⟩)
    (by kernel_rfl)
end Go.Proofs.YtabniphnmlbkfaaDoor.LPrefixKinds

namespace Go.Proofs.YtabniphnmlbkfaaDoor
theorem prefixKinds_holds : Rows.PrefixKindsCardSaid := LPrefixKinds.card
#print axioms prefixKinds_holds
end Go.Proofs.YtabniphnmlbkfaaDoor

