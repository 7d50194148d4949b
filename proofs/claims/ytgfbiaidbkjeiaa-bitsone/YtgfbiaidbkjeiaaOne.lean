/- Proved: for all numbers the law BitsOne returns true (unlike numbers have unlike codes, none another one's beginning; a greater one has no shorter one), and its arguments read behind the call as they read before. No condition. -/
import Derived.Test.YtgfbiaidbkjeiaaO
import Derived.ShutString
import Derived.ChangeOld
namespace Go.Proofs.Ytgfbiaidbkjeiaa.LOne
open Go.RowKit

theorem at_same {P : Program} {f : FuncId} {args : Array Value} {v : Value} {w0 : World} (h : ∀ u, Same w0 u → Calls P f args u fun e w' => e = .returned v ∧ Same u w') (u : SW w0) : Calls P f args u.1 fun e w'' => e = .returned v ∧ ∃ m : SW w0, w'' = m.1 :=
  (h u.1 u.2).mono fun _ w' ⟨he, hb⟩ => ⟨he, ⟨w', u.2.trans hb⟩, rfl⟩
theorem cut_code (L : List Bool) (hl : L.length ≤ 1000) (w : World) : (Instr.sliceAt 9 (.string ⟨(strL (ofL (bytesL L))).toArray⟩) none (some (.int .i64 L.length)) none).run Try.prog w = .ok (.string ⟨(strL L).toArray⟩) w := by
  obtain ⟨k, hk, e⟩ := ofL_bytesL L
  have h := cut_to (ofL (bytesL L)) L.length (by rw [e]; simp) (by rw [e]; simp; omega) w
  rw [h, e, List.take_left]
theorem cap_min (v : Nat) (w : World) (ts : Array TypeId) (t : TypeId) : (Builtin.min_ ts t #[.int .u64 v, .int .u64 9223372036854775808]).run Try.prog w = .ok (.int .u64 (capN v : Nat)) w := by
  rw [run_min_int2, show (if (9223372036854775808 : Int) < v then 9223372036854775808 else (v : Int)) = ((capN v : Nat) : Int) by unfold capN; split <;> omega]

set_option maxRecDepth 100000 in
set_option maxHeartbeats 1000000 in
theorem walk (a b : Nat) (w : World) (ha : a < 2 ^ 64) (hb : b < 2 ^ 64) :
    Calls Try.prog 5 #[.int .u64 a, .int .u64 b] w fun e w' => e = .returned (.bool true) ∧ Below w.heap.size w w' := by
  obtain ⟨hz, hi⟩ := zero_of_info info27
  obtain ⟨n66, hn66⟩ : ∃ n, n = 66 := ⟨66, rfl⟩
  have hsz : ∀ w, (Go.sizeOf 27).run Try.prog w = .ok n66 w := fun w => by rw [hn66]; exact Try.sizeOf27 w
  have hX0 := (Wr.new w).same ((Same.refl _).alloc (.cells (wc (.pointer none) zl 0) 27))
  have hY0 := Wr.new (w.alloc (.cells (wc (.pointer none) zl 0) 27))
  have hS0 : Same w ((w.alloc (.cells (wc (.pointer none) zl 0) 27)).alloc (.cells (wc (.pointer none) zl 0) 27)) := ((Same.refl w).alloc _).alloc _
  rw [show (w.alloc (.cells (wc (.pointer none) zl 0) 27)).heap.size = w.heap.size + 1 by simp] at hY0
  have HX0 := Lib.hid hX0
  have HY0 := Lib.hid hY0
  have HS0 := Lib.hid hS0
  have HA := Lib.hid ha
  have HB := Lib.hid hb
  have m1 := cap_min a
  have m2 := cap_min b
  clear hX0 hY0 hS0 hn66 hi ha hb
  go_enter Try.func5, Try.ntmps5
  go_wp2_with fail
  refine (wcode_at w.heap.size a [] _ HA.out HX0.out (by simp)).mono ?_
  rintro e w1 ⟨rfl, hx1, ho1⟩
  rw [List.nil_append] at hx1
  have HY1 := Lib.hid (HY0.out.other ho1 (by omega) HX0.out.noBlock)
  have HX1 := Lib.hid hx1
  have HS1 := Lib.hid (HS0.out.only ho1 (Nat.le_refl _))
  clear hx1 ho1 HX0 HY0 HS0 hz hsz
  go_wp2_with fail
  refine (wcode_at (w.heap.size + 1) b [] _ HB.out HY1.out (by simp)).mono ?_
  rintro e w2 ⟨rfl, hy2, ho2⟩
  rw [List.nil_append] at hy2
  have HX2 := Lib.hid (HX1.out.other ho2 (by omega) HY1.out.noBlock)
  have HY2 := Lib.hid hy2
  have HS2 := Lib.hid (HS1.out.only ho2 (by omega))
  clear hy2 ho2 HX1 HY1 HS1
  generalize w.heap.size + 1 = bY at *
  generalize hbx : w.heap.size = bx at *
  have HBX := Lib.hid hbx
  clear hbx
  have lx := codeL_short a
  have ly := codeL_short b
  have Hone := Lib.hid (codeL_one (capN a) (capN b) (by unfold capN; omega) (by unfold capN; omega))
  have Hmono := Lib.hid (codeL_mono (capN a) (capN b))
  have Heq := Lib.hid (show capN a = capN b → codeL (capN a) = codeL (capN b) from fun h => by rw [h])
  generalize codeL (capN a) = X at *
  generalize codeL (capN b) = Y at *
  generalize capN a = ca at *
  generalize capN b = cb at *
  have sx := Lib.hid (at_same (fun u hu => wstring_at bx X u (HX2.out.same hu) (by omega)))
  have sy := Lib.hid (at_same (fun u hu => wstring_at bY Y u (HY2.out.same hu) (by omega)))
  have nx := Lib.hid (at_same (fun u hu => (wlen_at bx X u (HX2.out.same hu)).mono (fun _ _ ⟨he, hw⟩ => ⟨he, by rw [hw]; exact Same.refl _⟩)))
  have ny := Lib.hid (at_same (fun u hu => (wlen_at bY Y u (HY2.out.same hu)).mono (fun _ _ ⟨he, hw⟩ => ⟨he, by rw [hw]; exact Same.refl _⟩)))
  have ox := Lib.hid (rof (bytesL X) (by rw [bytesL_len]; omega))
  have oy := Lib.hid (rof (bytesL Y) (by rw [bytesL_len]; omega))
  have tx := cut_code X (by omega)
  have ty := cut_code Y (by omega)
  have HU := Lib.hid (show ∀ L M : List Bool, strL L = strL M → L = M from strL_inj)
  have Htx := Lib.hid (strL_take X)
  have Hty := Lib.hid (strL_take Y)
  have hlx : (strL X).length = X.length := strL_len X
  have hly : (strL Y).length = Y.length := strL_len Y
  generalize strL (ofL (bytesL X)) = ofx at *
  generalize strL (ofL (bytesL Y)) = ofy at *
  generalize bytesL X = byx at *
  generalize bytesL Y = byy at *
  go_wp2_with fail
  refine wp_region_same (Same.refl _) (by kernel_rfl) (by kernel_rfl) ?_
  first | go_big_quiet_step (exact sx.out _) | quiet_step (exact sx.out _)
  first | go_big_quiet_step (exact ox.out.at _) | quiet_step (exact ox.out.at _)
  first | go_big_quiet_step (exact nx.out _) | quiet_step (exact nx.out _)
  first | go_big_quiet_step (fail) | quiet_step (fail)
  first | go_big_quiet_step (exact sy.out _) | quiet_step (exact sy.out _)
  first | go_big_quiet_step (exact oy.out.at _) | quiet_step (exact oy.out.at _)
  first | go_big_quiet_step (exact ny.out _) | quiet_step (exact ny.out _)
  repeat (first | go_big_quiet_step (fail) | quiet_step (fail))
  refine wpQuiet_nil ?_
  rintro w6 ⟨⟨w7, b7⟩, rfl⟩
  have HS7 := Lib.hid (HS2.out.trans b7)
  clear b7 sx sy nx ny ox oy tx ty HX2 HY2 HS2
  obtain ⟨K, hK⟩ : ∃ K, K = min X.length Y.length := ⟨_, rfl⟩
  have hmin : ∀ w ts t, (Builtin.min_ ts t #[.int .i64 X.length, .int .i64 Y.length]).run Try.prog w = .ok (.int .i64 K) w := fun w ts t => by
    rw [run_min_int2, show (if (Y.length : Int) < X.length then (Y.length : Int) else X.length) = K by split <;> omega]
  have ux := cut_to X K (by omega) (by omega)
  have uy := cut_to Y K (by omega) (by omega)
  have HK := Lib.hid hK
  have AW := Lib.hid awake
  by_cases hc : ca = cb
  · have hxy := Heq.out hc
    subst hc hxy
    clear hK m1 m2 Heq Hone Hmono
    go_wp2_with fail
    refine wp_region_same (Same.refl _) (by kernel_rfl) (by kernel_rfl) ?_
    first | go_big_quiet_step (exact AW.out.at _) | quiet_step (exact AW.out.at _)
    repeat (first | go_big_quiet_step (fail) | quiet_step (fail))
    refine wpQuiet_nil ?_
    rintro w8 ⟨⟨w9, b9⟩, rfl⟩
    go_wp2
    go_ret
    exact ⟨rfl, HS7.out.trans b9⟩
  · have hne : X.take K ≠ Y.take K := fun h => hc (Hone.out K HK.out h)
    have hns : (strL X == strL Y) = false := by
      rw [beq_eq_false_iff_ne]
      intro h
      exact hne (by rw [HU.out X Y h])
    have hnt : (strL (X.take K) == strL (Y.take K)) = false := by
      rw [beq_eq_false_iff_ne]
      intro h
      exact hne (HU.out _ _ h)
    have hcb : ((ca : Int) == (cb : Int)) = false := by
      rw [beq_eq_false_iff_ne]
      omega
    have hci : ¬ (ca : Int) = cb := by omega
    have Hm2 := Hmono.out
    clear hK m1 m2 Heq Hone Hmono hne
    generalize strL (X.take K) = tX at *
    generalize strL (Y.take K) = tY at *
    by_cases hg : cb < ca
    · clear Hm2
      go_wp2_with fail
      refine wp_region_same (Same.refl _) (by kernel_rfl) (by kernel_rfl) ?_
      first | go_big_quiet_step (exact AW.out.at _) | quiet_step (exact AW.out.at _)
      repeat (first | go_big_quiet_step (fail) | quiet_step (fail))
      refine wpQuiet_nil ?_
      rintro w8 ⟨⟨w9, b9⟩, rfl⟩
      go_wp2
      go_ret
      exact ⟨rfl, HS7.out.trans b9⟩
    · have hle : X.length ≤ Y.length := Hm2 (by omega)
      clear Hm2
      go_wp2_with fail
      refine wp_region_same (Same.refl _) (by kernel_rfl) (by kernel_rfl) ?_
      first | go_big_quiet_step (exact AW.out.at _) | quiet_step (exact AW.out.at _)
      repeat (first | go_big_quiet_step (fail) | quiet_step (fail))
      refine wpQuiet_nil ?_
      rintro w8 ⟨⟨w9, b9⟩, rfl⟩
      go_wp2
      go_ret
      exact ⟨rfl, HS7.out.trans b9⟩

open Go.ChangeShapes Go.WideShapes Go.ChangeAt
theorem own : ownKnob Try.prog.godebug = none := by kernel_rfl
theorem laidOut : laidOutB Try.prog = true := by kernel_rfl

set_option maxRecDepth 100000 in
theorem lifted (os : Os) (started : os.Started) (H : Type) (enc : TypeId × Value → H) :
    ReturnsInHanded {} Try.checked os 5 .any (Rows.bitsOneSpec.pre6 enc Try.prog Try.f5 Rows.bitsOneRow.domain false) (Rows.bitsOneSpec.post enc Try.prog Try.f5 false true false false) := by
  refine returnsInHanded_of_change (C := Try.checked) own started (by kernel_rfl) Try.func5
    (ChangeSpec.witness6 (enc := enc) (C := Try.checked) false ⟨#[], #[.int .u64 0, .int .u64 0], []⟩ 8 (by kernel_rfl) (by kernel_rfl) (by kernel_rfl) (by kernel_rfl)) ?_
  intro W base args ds gs before hval0 hW hcnd _
  have hval : ∀ (j : Nat) t v, Try.f5.params[j]? = some t → args[j]? = some v → Value.okWide Try.prog W .any base t v := hval0
  have hW' := hW
  obtain ⟨p, q, hA0, hV, rfl, hfz, hnd⟩ := hW
  have hA : DataW.TrodAll enc Try.prog W 0 (fun _ => true) true Try.f5.params.toList args.toList ds p := hA0

  rw [Try.params5] at hA hval
  obtain ⟨v0, vs0, d0, ds0, p0, q0, hargs, rfl, rfl, h0, r0⟩ := trodAll_cons hA
  obtain ⟨v1, vs1, d1, ds1, p1, q1, rfl, rfl, rfl, h1, r1⟩ := trodAll_cons r0
  obtain ⟨rfl, rfl, rfl⟩ := trodAll_nil r1
  obtain rfl : args = #[v0, v1] := by cases args; simp_all
  obtain ⟨rfl, rfl⟩ := trodVars_none hV
  have k0 := h0
  have lt0 : ∀ x ∈ p0, x.block < W.heap.size := by obtain ⟨m, hm⟩ := k0; exact DataW.trod_lt m _ _ _ hm
  have k1 := h1
  have lt1 : ∀ x ∈ p1, x.block < W.heap.size := by obtain ⟨m, hm⟩ := k1; exact DataW.trod_lt m _ _ _ hm
  obtain ⟨a0, rfl, _, _, w0⟩ := open_int Try.underlying28 (hval 0 28 v0 rfl rfl) h0
  have u0 := bounds_u64 w0
  obtain ⟨a0, rfl⟩ := Int.eq_ofNat_of_zero_le u0.1
  obtain ⟨a1, rfl, _, _, w1⟩ := open_int Try.underlying28 (hval 1 28 v1 rfl rfl) h1
  have u1 := bounds_u64 w1
  obtain ⟨a1, rfl⟩ := Int.eq_ofNat_of_zero_le u1.1
  clear hA0 hval0
  refine (walk a0 a1 W (by omega) (by omega)).mono fun e W' ⟨he, bel⟩ => ?_
  subst he
  exact ⟨_, rfl, _, _, _, [], _, [], hW', trodAll_mk1 (shut_bool Try.underlying4 _), (trodAll_cons_mk (Below.trod laidOut (by kernel_rfl) (of_decide_eq_true (by kernel_rfl)) k0 bel lt0) (trodAll_cons_mk (Below.trod laidOut (by kernel_rfl) (of_decide_eq_true (by kernel_rfl)) k1 bel lt1) trodAll_mk0)), rfl, bel.frame _, fun h => by cases h⟩

theorem over : Rows.bitsOneRow.holds Try.pinned (OpenSpec.ofChange Rows.bitsOneSpec) :=
  OpenClaim.holds_of_wide 5 Try.f5 rfl rfl rfl rfl rfl rfl rfl ⟨rfl, rfl, rfl, rfl, rfl⟩ rfl rfl rfl rfl rfl (by kernel_rfl) Try.func5 (by kernel_rfl)
    (of_decide_eq_true (by kernel_rfl)) (by unfold Func.isWrapper; first | (rw [if_pos (by decide +kernel)]; kernel_rfl) | (rw [if_neg (by decide +kernel)]; exact ⟨rfl, rfl⟩))
    (fun os started H enc _ => lifted os started H enc)
end Go.Proofs.Ytgfbiaidbkjeiaa.LOne

namespace Go.Proofs.Ytgfbiaidbkjeiaa
theorem bitsOne_holds : Rows.BitsOneSaid := LOne.over
#print axioms bitsOne_holds
end Go.Proofs.Ytgfbiaidbkjeiaa

