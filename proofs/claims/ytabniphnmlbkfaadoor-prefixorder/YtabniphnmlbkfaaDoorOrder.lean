/- Proved: PrefixOrder: the order is one; a prefix comes ahead of all that it contains, but itself, and what stands between it and one that it contains it contains, too. Condition: none of our own: the listed tables start as the program's text lays them. -/
import Derived.Test.YtabniphnmlbkfaaDoorP5
namespace Go.Proofs.YtabniphnmlbkfaaDoor.LPrefixOrder
open Go.RowKit

theorem three_at (w : World) (p q r : Px) (hp : p.addr.length = 16) (hq : q.addr.length = 16) (hr : r.addr.length = 16) : At (((w.alloc (.cells (pc p) 24)).alloc (.cells (pc q) 24)).alloc (.cells (pc r) 24)) w.heap.size p ∧ At (((w.alloc (.cells (pc p) 24)).alloc (.cells (pc q) 24)).alloc (.cells (pc r) 24)) (w.heap.size + 1) q ∧ At (((w.alloc (.cells (pc p) 24)).alloc (.cells (pc q) 24)).alloc (.cells (pc r) 24)) (w.heap.size + 1 + 1) r ∧ Same w (((w.alloc (.cells (pc p) 24)).alloc (.cells (pc q) 24)).alloc (.cells (pc r) 24)) := by
  obtain ⟨e0, e1, e2⟩ := three_alloc w (.cells (pc p) 24) (.cells (pc q) 24) (.cells (pc r) 24)
  exact ⟨⟨e0, hp⟩, ⟨e1, hq⟩, ⟨e2, hr⟩, (((Same.refl w).alloc _).alloc _).alloc _⟩

set_option maxRecDepth 100000 in
set_option maxHeartbeats 8000000 in
theorem walk0 (a b c : Px) (x y z : Int) (vac vab rb : Bool) (w : World) (ha : a.addr.length = 16) (hb : b.addr.length = 16) (hc : c.addr.length = 16) (ht : Tab w)
    (hx0 : cmpP a b = x) (hx1 : cmpP b a = -x) (hy0 : cmpP b c = y) (hz0 : cmpP a c = z) (hab : decide (a = b) = decide (x = 0)) (hac0 : hasB a c = vac) (hab0 : hasB a b = vab) (hrb : decide (rightP b) = rb)
    (hx : x = -1 ∨ x = 0 ∨ x = 1) (hy : y = -1 ∨ y = 0 ∨ y = 1) (hz : z = -1 ∨ z = 0 ∨ z = 1) (t1 : x ≤ 0 → y ≤ 0 → z ≤ 0) (t2 : 0 ≤ x → 0 ≤ y → 0 ≤ z)
    (t3 : vac = true → z ≤ 0) (t4 : vac = true → x ≤ 0 → y ≤ 0 → rb = true → vab = true) :
    Calls Tryd.prog 6 #[.agg (pc a), .agg (pc b), .agg (pc c)] w fun e w' => e = .returned (.bool true) ∧ Same w w' := by
  obtain ⟨hA, hB, hC, hS⟩ := three_at w a b c ha hb hc
  have HAW := Lib.hid awake
  have HT := Lib.hid ht
  have HX := Lib.hid (compare a b ha hb)
  have HX1 := Lib.hid (compare b a hb ha)
  have HY := Lib.hid (compare b c hb hc)
  have HZ := Lib.hid (compare a c ha hc)
  have HAC := Lib.hid (contains a c ha hc)
  have HAB := Lib.hid (contains a b ha hb)
  have HRB := Lib.hid (qright b hb)
  have HEQ := Lib.hid (fun w => eq_pc a b ha hb w)
  rw [hx0] at HX
  rw [hx1] at HX1
  rw [hy0] at HY
  rw [hz0] at HZ
  rw [hab] at HEQ
  rw [hac0] at HAC
  rw [hab0] at HAB
  rw [hrb] at HRB
  obtain ⟨n2, hn2⟩ : ∃ n, n = 18 := ⟨18, rfl⟩
  have hsz2 : ∀ w, (Go.sizeOf 24).run Tryd.prog w = .ok n2 w := fun w => by rw [hn2]; exact Tryd.sizeOf24 w
  have HA := Lib.hid hA
  have HB := Lib.hid hB
  have HC := Lib.hid hC
  have HS := Lib.hid hS
  have HN := Lib.hid hn2
  have kA : ∀ u : SW (((w.alloc (.cells (pc a) 24)).alloc (.cells (pc b) 24)).alloc (.cells (pc c) 24)), (loadCellsFrom ⟨w.heap.size, 0, none⟩ 0 n2 #[]).run Tryd.prog u.1 = .ok (pc a) u.1 := fun u => (HA.out.mono u.2).whole HN.out
  have kB : ∀ u : SW (((w.alloc (.cells (pc a) 24)).alloc (.cells (pc b) 24)).alloc (.cells (pc c) 24)), (loadCellsFrom ⟨w.heap.size + 1, 0, none⟩ 0 n2 #[]).run Tryd.prog u.1 = .ok (pc b) u.1 := fun u => (HB.out.mono u.2).whole HN.out
  have kC : ∀ u : SW (((w.alloc (.cells (pc a) 24)).alloc (.cells (pc b) 24)).alloc (.cells (pc c) 24)), (loadCellsFrom ⟨w.heap.size + 1 + 1, 0, none⟩ 0 n2 #[]).run Tryd.prog u.1 = .ok (pc c) u.1 := fun u => (HC.out.mono u.2).whole HN.out
  clear hA hB hC hS hn2 ht hx0 hx1 hy0 hz0 hab hac0 hab0 hrb
  have T3 := Lib.hid t3
  have T4 := Lib.hid t4
  go_enter Tryd.func6, Tryd.ntmps6
  go_wp2_with fail
  refine wp_region_same (Same.refl _) (by kernel_rfl) (by kernel_rfl) ?_
  repeat (first | go_big_quiet_step (fail) | quiet_step (fail))
  first | go_big_quiet_step (exact HX.out.at _) | quiet_step (exact HX.out.at _)
  repeat (first | go_big_quiet_step (fail) | quiet_step (fail))
  first | go_big_quiet_step (exact HY.out.at _) | quiet_step (exact HY.out.at _)
  repeat (first | go_big_quiet_step (fail) | quiet_step (fail))
  first | go_big_quiet_step (exact HZ.out.at _) | quiet_step (exact HZ.out.at _)
  repeat (first | go_big_quiet_step (fail) | quiet_step (fail))
  refine wpQuiet_nil ?_
  rintro w1 ⟨⟨w1', b1⟩, rfl⟩
  clear kA kB kC
  go_wp2_with fail
  refine (HAW.out _ (HT.out.mono (HS.out.trans b1))).mono ?_
  rintro e w2 ⟨rfl, b2⟩
  have c2 := b1.trans b2
  have fA := (HA.out.mono c2).whole HN.out
  have fB := (HB.out.mono c2).whole HN.out
  go_wp2_with fail
  refine (HX1.out _).mono ?_
  rintro e w3 ⟨rfl, b3⟩
  have c3 := c2.trans b3
  have fA := (HA.out.mono c3).whole HN.out
  have fB := (HB.out.mono c3).whole HN.out
  have fC := (HC.out.mono c3).whole HN.out
  have hec := HEQ.out
  clear b1 b2 b3 c2 t3 t4 HEQ
  rcases hx with rfl | rfl | rfl <;> rcases hy with rfl | rfl | rfl <;> rcases hz with rfl | rfl | rfl <;> first | (exfalso; omega) | skip
  all_goals
    clear t1 t2
    go_wp2_with fail
    refine (HAC.out _).mono ?_
    rintro e w4 ⟨rfl, b4⟩
    have c4 := c3.trans b4
    have gA := (HA.out.mono c4).whole HN.out
    have gB := (HB.out.mono c4).whole HN.out
    cases vac
    · go_wp2
      go_ret
      exact ⟨rfl, HS.out.trans c4⟩
    · first
        | (exfalso; have := T3.out (by simp); omega)
        | (go_wp2
           go_ret
           exact ⟨rfl, HS.out.trans c4⟩)
        | (go_wp2_with fail
           refine (HRB.out _).mono ?_
           rintro e w5 ⟨rfl, b5⟩
           have c5 := c4.trans b5
           have mA := (HA.out.mono c5).whole HN.out
           have mB := (HB.out.mono c5).whole HN.out
           have T5 := T4.out (by simp) (by omega) (by omega)
           cases rb
           · go_wp2
             go_ret
             exact ⟨rfl, HS.out.trans c5⟩
           · go_wp2_with fail
             refine (HAB.out _).mono ?_
             rintro e w6 ⟨rfl, b6⟩
             go_wp2
             go_ret
             refine ⟨?_, (HS.out.trans c5).trans b6⟩
             first | rfl | exact congrArg (fun b => Ending.returned (Value.bool b)) (T5 (by simp)))

theorem walk (a b c : Px) (w : World) (ha : a.addr.length = 16) (_ : -9223372036854775808 ≤ a.len ∧ a.len ≤ 9223372036854775807) (hb : b.addr.length = 16) (_ : -9223372036854775808 ≤ b.len ∧ b.len ≤ 9223372036854775807) (hc : c.addr.length = 16) (_ : -9223372036854775808 ≤ c.len ∧ c.len ≤ 9223372036854775807) (ht : Tab w) : Calls Tryd.prog 6 #[.agg (pc a), .agg (pc b), .agg (pc c)] w fun e w' => e = .returned (.bool true) ∧ Same w w' := by
  have e1 := cmp_toP a b ha hb
  have e2 := cmp_toP b a hb ha
  have e3 := cmp_toP b c hb hc
  have e4 := cmp_toP a c ha hc
  refine walk0 a b c (cmpP a b) (cmpP b c) (cmpP a c) (hasB a c) (hasB a b) (decide (rightP b)) w ha hb hc ht rfl ?_ rfl rfl ?_ rfl rfl rfl (cmpP_fits a b) (cmpP_fits b c) (cmpP_fits a c) ?_ ?_ ?_ ?_
  · rw [e2, e1, X.cmp_neg (toP b) (toP a)]
  · rw [decide_eq_decide]
    constructor
    · rintro rfl
      rw [e1]
      exact (X.cmp_zero _ _).2 rfl
    · intro h
      rw [e1] at h
      exact toP_inj a b ha hb ((X.cmp_zero _ _).1 h)
  · rw [e1, e3, e4]
    exact X.cmp_trans _ _ _
  · rw [e1, e3, e4]
    exact X.cmp_trans' _ _ _
  · intro h
    rw [e4]
    exact X.has_le _ _ ((has_toP a c ha hc).1 h)
  · intro h h1 h2 h3
    rw [e1] at h1
    rw [e3] at h2
    exact (has_toP a b ha hb).2 (X.has_between _ _ _ ((has_toP a c ha hc).1 h) ((right_toP b hb).1 (of_decide_eq_true h3)) h1 h2)

open Go.ChangeShapes Go.WideShapes Go.ChangeAt
set_option maxRecDepth 100000 in
theorem lifted (os : Os) (started : os.Started) (H : Type) (enc : TypeId × Value → H) :
    ReturnsInHanded {} Tryd.checked os 6 .any (fun w args => (Rows.prefixOrderSpec.pre enc Tryd.prog Tryd.f6 [] false w args ∧ laidMetH Tryd.prog laid3 w) ∧ sizedMet enc Tryd.prog Tryd.f6 (OpenSpec.ofChange Rows.prefixOrderSpec) false w args)
      (Rows.prefixOrderSpec.post enc Tryd.prog Tryd.f6 false true false false) := by
  refine returnsInHanded_of_change_and (C := Tryd.checked) (X := fun w _ => laidMetH Tryd.prog laid3 w) (fun _ _ _ hh h => h.of_heap hh) own started (by kernel_rfl) Tryd.func6
    (ChangeSpec.witness_shaped (enc := enc) (C := Tryd.checked) (os := os) (X := fun w _ => laidMetH Tryd.prog laid3 w) false (World.doorLaid Tryd.prog 400 os) #[.agg (pc zeroP), .agg (pc zeroP), .agg (pc zeroP)] 8 rfl (World.shaped_of_RefB (by kernel_rfl) (by kernel_rfl)) (by kernel_rfl) (by kernel_rfl) (by kernel_rfl) (door_met os _)) ?_
  intro W base args ds gs before hval0 hW _ _ hL _
  have hval : ∀ (j : Nat) t v, Tryd.f6.params[j]? = some t → args[j]? = some v → Value.okWide Tryd.prog W .any base t v := hval0
  have hW' := hW
  obtain ⟨p, q, hA0, hV, rfl, hfz, hnd⟩ := hW
  have hA : DataW.TrodAll enc Tryd.prog W 0 (fun _ => true) true Tryd.f6.params.toList args.toList ds p := hA0

  rw [Tryd.params6] at hA hval
  obtain ⟨v0, vs0, d0, ds0, p0, q0, hargs, rfl, rfl, h0, r0⟩ := trodAll_cons hA
  obtain ⟨v1, vs1, d1, ds1, p1, q1, rfl, rfl, rfl, h1, r1⟩ := trodAll_cons r0
  obtain ⟨v2, vs2, d2, ds2, p2, q2, rfl, rfl, rfl, h2, r2⟩ := trodAll_cons r1
  obtain ⟨rfl, rfl, rfl⟩ := trodAll_nil r2
  obtain rfl : args = #[v0, v1, v2] := by cases args; simp_all
  obtain ⟨rfl, rfl⟩ := trodVars_none hV
  have k0 := h0
  have lt0 : ∀ x ∈ p0, x.block < W.heap.size := by obtain ⟨m, hm⟩ := k0; exact DataW.trod_lt m _ _ _ hm
  have k1 := h1
  have lt1 : ∀ x ∈ p1, x.block < W.heap.size := by obtain ⟨m, hm⟩ := k1; exact DataW.trod_lt m _ _ _ hm
  have k2 := h2
  have lt2 : ∀ x ∈ p2, x.block < W.heap.size := by obtain ⟨m, hm⟩ := k2; exact DataW.trod_lt m _ _ _ hm
  obtain ⟨a0, rfl, l0, w0⟩ := open_prefix (hval 0 24 v0 rfl rfl) h0
  obtain ⟨a1, rfl, l1, w1⟩ := open_prefix (hval 1 24 v1 rfl rfl) h1
  obtain ⟨a2, rfl, l2, w2⟩ := open_prefix (hval 2 24 v2 rfl rfl) h2
  clear hA0 hval0
  refine (walk a0 a1 a2 W l0 (bounds_i64 w0) l1 (bounds_i64 w1) l2 (bounds_i64 w2) (of_laid hL)).mono fun e W' ⟨he, bel0⟩ => ?_
  subst he
  have bel : Below W.heap.size W W' := bel0
  exact ⟨_, rfl, _, _, _, [], _, [], hW', trodAll_mk1 (shut_bool Tryd.underlying4 _), (trodAll_cons_mk (Below.trod laidOut (by kernel_rfl) (of_decide_eq_true (by kernel_rfl)) k0 bel lt0) (trodAll_cons_mk (Below.trod laidOut (by kernel_rfl) (of_decide_eq_true (by kernel_rfl)) k1 bel lt1) (trodAll_cons_mk (Below.trod laidOut (by kernel_rfl) (of_decide_eq_true (by kernel_rfl)) k2 bel lt2) trodAll_mk0))), rfl, bel.frame _, fun h => by cases h⟩

theorem over : Rows.prefixOrderRow.holds Tryd.pinned (OpenSpec.ofChange Rows.prefixOrderSpec) :=
  OpenClaim.holds_of_wide 6 Tryd.f6 rfl rfl rfl rfl rfl rfl rfl ⟨rfl, rfl, rfl, rfl, rfl⟩ rfl rfl rfl rfl rfl (by kernel_rfl) Tryd.func6 (by kernel_rfl)
    (of_decide_eq_true (by kernel_rfl)) (by unfold Func.isWrapper; first | (rw [if_pos (by decide +kernel)]; kernel_rfl) | (rw [if_neg (by decide +kernel)]; exact ⟨rfl, rfl⟩))
    (fun os started H enc _ => lifted os started H enc)
theorem card : Claim7.holds Tryd.pinned (.plain (OpenSpec.ofChange Rows.prefixOrderSpec)) Rows.prefixOrderCard :=
  Claim7.holds_tied_plain_at .later [] [.data, .data, .data] true (true, "99f48ac142fb8160a383948506df205cf7e87e3fed5a7f28b0a4a6954dfb29c2") false
    over (fun _ h => by cases h) (by kernel_rfl) (fun _ h => by cases h) prefixOrder_row_tie rfl ⟨rfl, rfl⟩ (by kernel_rfl) rfl
    (fun f fn hf hfn => by
      obtain rfl : f = 6 := Option.some.inj ((show Tryd.prog.funcNamed Rows.prefixOrderRow.func = some 6 by kernel_rfl).symm.trans hf) |>.symm
      obtain rfl : fn = Tryd.f6 := (Option.some.inj (Tryd.func6.symm.trans hfn)).symm
      exact ⟨by kernel_rfl, fun j t ht => by
        rw [Tryd.params6] at ht
        have hm : t ∈ [24, 24, 24] := by simpa using Array.mem_of_getElem? ht
        have hall : ([24, 24, 24].all fun u => !Tryd.prog.wantsStandIn u) = true := by kernel_rfl
        exact (show Tryd.prog.wantsStandIn t = false by simpa using List.all_eq_true.1 hall t hm)⟩)
    (by kernel_rfl)
end Go.Proofs.YtabniphnmlbkfaaDoor.LPrefixOrder

namespace Go.Proofs.YtabniphnmlbkfaaDoor
theorem prefixOrder_holds : Rows.PrefixOrderCardSaid := LPrefixOrder.card
#print axioms prefixOrder_holds
end Go.Proofs.YtabniphnmlbkfaaDoor

