/- Proved: for every list of fates and every number the law LinkFair returns true (whether fates are fair is the document's; with a longer row allowed they still are), and its arguments read behind the call as they read before. Condition: none of our own. -/
import Derived.Test.YtbakmfeikkpmjaaOp
namespace Go.Proofs.Ytbakmfeikkpmjaa.LLinkFair
open Go.RowKit

set_option maxRecDepth 100000 in
theorem dfair0 (a : Option Addr) (c : Nat) (n : Int) (w : World) : Calls Try.prog 7 #[.slice a 0 c, .int .i64 n] w fun e w' => e = .returned (.bool true) ∧ Keep w w' := by
  by_cases hn1 : n < 1
  · go_enter Try.func7, Try.ntmps7
    go_wp2
    go_ret
    exact ⟨rfl, Keep.refl _⟩
  · go_enter Try.func7, Try.ntmps7
    go_wp2
    go_loopw [5, 15] (fun r i wr => r = .int .i64 0 ∧ i = .int .i64 0 ∧ wr = w) (fun _ _ _ => 0)
    case atStart => exact ⟨rfl, rfl, rfl⟩
    case round =>
      obtain ⟨rfl, rfl, rfl⟩ := hrel
      go_wp2
      go_ret
      exact ⟨rfl, Keep.refl _⟩
set_option maxRecDepth 100000 in
theorem qfair0 (a : Option Addr) (c : Nat) (n : Int) (w : World) : Calls Try.prog 10 #[.slice a 0 c, .int .i64 n] w fun e w' => e = .returned (.bool true) ∧ Keep w w' := by
  go_enter Try.func10, Try.ntmps10
  go_wp2
  go_loopw [5, 6] (fun r i wr => r = .int .i64 0 ∧ i = .int .i64 0 ∧ wr = w) (fun _ _ _ => 0)
  case atStart => exact ⟨rfl, rfl, rfl⟩
  case round =>
    obtain ⟨rfl, rfl, rfl⟩ := hrel
    go_wp2
    go_ret
    exact ⟨rfl, Keep.refl _⟩
theorem dfairA {w : World} {a : Option Addr} {cap : Nat} {l : List Ft} (h : ArgL fl w a cap l) (hl : l.length ≤ 1000000) (n : Int) (hn : -9223372036854775808 ≤ n ∧ n ≤ 9223372036854775807) : Calls Try.prog 7 #[.slice a l.length cap, .int .i64 n] w fun e w' => e = .returned (.bool (fairP l n)) ∧ Keep w w' := by
  by_cases h0 : l = []
  · subst h0
    exact dfair0 a cap n w
  · exact dfair _ l n w (h.cells h0) hl hn
theorem qfairA {w : World} {a : Option Addr} {cap : Nat} {l : List Ft} (h : ArgL fl w a cap l) (hl : l.length ≤ 1000000) (n : Int) (hn : -9223372036854775808 ≤ n ∧ n ≤ 9223372036854775807) : Calls Try.prog 10 #[.slice a l.length cap, .int .i64 n] w fun e w' => e = .returned (.bool (fairP l n)) ∧ Keep w w' := by
  by_cases h0 : l = []
  · subst h0
    exact qfair0 a cap n w
  · exact qfair _ l n w (h.cells h0) hl hn

set_option maxRecDepth 100000 in
set_option maxHeartbeats 1000000 in
theorem walk (a : Option Addr) (cap : Nat) (l : List Ft) (n : Int) (w : World) (hl : ArgL fl w a cap l) (hn : (Lit.int .i64 n).wf = true) : Calls Try.prog 3 #[.slice a l.length cap, .int .i64 n] w fun e w' => e = .returned (.bool true) ∧ Keep w w' := by
  have hb := bounds_i64 hn
  have hlm := hl.small
  have hlm2 : l.length ≤ 9223372036854775807 := by unfold maxLen at hlm; omega
  have HL := Lib.hid hl
  clear hn hlm hl
  by_cases hbig : 300 < l.length ∨ 1099511627776 < n
  · clear HL
    generalize l.length = N at *
    go_enter Try.func3, Try.ntmps3
    rcases hbig with hbig | hbig
    · go_wp2_with fail
      refine (awake w).mono ?_
      rintro e w1 ⟨rfl, k1⟩
      go_wp2_with fail
      refine (awake w1).mono ?_
      rintro e w2 ⟨rfl, k2⟩
      go_wp2
      go_ret
      exact ⟨rfl, k1.trans k2⟩
    · by_cases h3 : 300 < N
      · go_wp2_with fail
        refine (awake w).mono ?_
        rintro e w1 ⟨rfl, k1⟩
        go_wp2_with fail
        refine (awake w1).mono ?_
        rintro e w2 ⟨rfl, k2⟩
        go_wp2
        go_ret
        exact ⟨rfl, k1.trans k2⟩
      · go_wp2_with fail
        refine (awake w).mono ?_
        rintro e w1 ⟨rfl, k1⟩
        go_wp2_with fail
        refine (awake w1).mono ?_
        rintro e w2 ⟨rfl, k2⟩
        go_wp2
        go_ret
        exact ⟨rfl, k1.trans k2⟩
  · obtain ⟨hs, hm⟩ : l.length ≤ 300 ∧ n ≤ 1099511627776 := by omega
    clear hbig
    have H1 := Lib.hid (fun v (k : Keep w v) => dfairA (HL.out.keep k) (by omega) n hb)
    have H2 := Lib.hid (fun v (k : Keep w v) => qfairA (HL.out.keep k) (by omega) n hb)
    have H3 := Lib.hid (fun v (k : Keep w v) => dfairA (HL.out.keep k) (by omega) (n + 1) (by omega))
    have HS := Lib.hid (fun v => send_nil [97] ⟨0, 0, 0⟩ v)
    have hmore := fair_more n l 0
    have e3 : IntKind.i64.wrap (n + 1) = n + 1 := by simp [IntKind.wrap, IntKind.bits, IntKind.signed]; omega
    cases hD : fairP l n with
    | true =>
      rw [hD] at H1 H2
      have hD3 : fairP l (n + 1) = true := hmore hD
      rw [hD3] at H3
      clear HL hmore hD hD3
      generalize l.length = N at *
      go_enter Try.func3, Try.ntmps3
      go_wp2_with fail
      refine (awake w).mono ?_
      rintro e w1 ⟨rfl, k1⟩
      have K1 := Lib.hid k1
      clear k1
      go_wp2_with fail
      refine (H1.out w1 K1.out).mono ?_
      rintro e w2 ⟨rfl, k2⟩
      have K2 := Lib.hid (K1.out.trans k2)
      clear k2
      go_wp2_with fail
      refine (HS.out w2).mono ?_
      rintro e w3 ⟨rfl, k3⟩
      have K3 := Lib.hid (K2.out.trans k3)
      clear k3
      go_wp2_with fail
      refine (arrive_nil w3).mono ?_
      rintro e w3 ⟨rfl, rfl⟩
      go_wp2_with fail
      refine (H2.out w3 K3.out).mono ?_
      rintro e w4 ⟨rfl, k4⟩
      have K4 := Lib.hid (K3.out.trans k4)
      clear k4
      go_wp2_with fail
      refine (H3.out w4 K4.out).mono ?_
      rintro e w5 ⟨rfl, k5⟩
      have K5 := Lib.hid (K4.out.trans k5)
      clear k5
      go_wp2_with fail
      refine (len_nil w5).mono ?_
      rintro e w5 ⟨rfl, rfl⟩
      go_wp2_with fail
      refine (all_nil w5).mono ?_
      rintro e w5 ⟨rfl, rfl⟩
      go_wp2
      go_ret
      exact ⟨rfl, K5.out⟩
    | false =>
      rw [hD] at H1 H2
      clear HL hmore hD H3
      generalize l.length = N at *
      go_enter Try.func3, Try.ntmps3
      go_wp2_with fail
      refine (awake w).mono ?_
      rintro e w1 ⟨rfl, k1⟩
      have K1 := Lib.hid k1
      clear k1
      go_wp2_with fail
      refine (H1.out w1 K1.out).mono ?_
      rintro e w2 ⟨rfl, k2⟩
      have K2 := Lib.hid (K1.out.trans k2)
      clear k2
      go_wp2_with fail
      refine (HS.out w2).mono ?_
      rintro e w3 ⟨rfl, k3⟩
      have K3 := Lib.hid (K2.out.trans k3)
      clear k3
      go_wp2_with fail
      refine (arrive_nil w3).mono ?_
      rintro e w3 ⟨rfl, rfl⟩
      go_wp2_with fail
      refine (H2.out w3 K3.out).mono ?_
      rintro e w4 ⟨rfl, k4⟩
      have K4 := Lib.hid (K3.out.trans k4)
      clear k4
      go_wp2_with fail
      refine (len_nil w4).mono ?_
      rintro e w4 ⟨rfl, rfl⟩
      go_wp2_with fail
      refine (all_nil w4).mono ?_
      rintro e w4 ⟨rfl, rfl⟩
      go_wp2
      go_ret
      exact ⟨rfl, K4.out⟩

open Go.ChangeShapes Go.WideShapes Go.ChangeAt
theorem own : ownKnob Try.prog.godebug = none := by kernel_rfl
theorem laidOut : laidOutB Try.prog = true := by kernel_rfl

set_option maxRecDepth 100000 in
theorem lifted (os : Os) (started : os.Started) (H : Type) (enc : TypeId × Value → H) :
    ReturnsInHanded {} Try.checked os 3 .any (Rows.linkFairSpec.pre6 enc Try.prog Try.f3 Rows.linkFairRow.domain false) (Rows.linkFairSpec.post enc Try.prog Try.f3 false true false false) := by
  refine returnsInHanded_of_change (C := Try.checked) own started (by kernel_rfl) Try.func3
    (ChangeSpec.witness6 (enc := enc) (C := Try.checked) false ⟨#[], #[.slice none 0 0, .int .i64 0], []⟩ 8 (by kernel_rfl) (by kernel_rfl) (by kernel_rfl) (by kernel_rfl)) ?_
  intro W base args ds gs before hval0 hW hcnd _
  have hval : ∀ (j : Nat) t v, Try.f3.params[j]? = some t → args[j]? = some v → Value.okWide Try.prog W .any base t v := hval0
  have hW' := hW
  obtain ⟨p, q, hA0, hV, rfl, hfz, hnd⟩ := hW
  have hA : DataW.TrodAll enc Try.prog W 0 (fun _ => true) true Try.f3.params.toList args.toList ds p := hA0

  rw [Try.params3] at hA hval
  obtain ⟨v0, vs0, d0, ds0, p0, q0, hargs, rfl, rfl, h0, r0⟩ := trodAll_cons hA
  obtain ⟨v1, vs1, d1, ds1, p1, q1, rfl, rfl, rfl, h1, r1⟩ := trodAll_cons r0
  obtain ⟨rfl, rfl, rfl⟩ := trodAll_nil r1
  obtain rfl : args = #[v0, v1] := by cases args; simp_all
  obtain ⟨rfl, rfl⟩ := trodVars_none hV
  have k0 := h0
  have lt0 : ∀ x ∈ p0, x.block < W.heap.size := by obtain ⟨m, hm⟩ := k0; exact DataW.trod_lt m _ _ _ hm
  have k1 := h1
  have lt1 : ∀ x ∈ p1, x.block < W.heap.size := by obtain ⟨m, hm⟩ := k1; exact DataW.trod_lt m _ _ _ hm
  obtain ⟨a0, cap0, l0, rfl, f0⟩ := open_fates (hval 0 22 v0 rfl rfl) h0
  obtain ⟨a1, rfl, _, _, w1⟩ := open_int Try.underlying3 (hval 1 3 v1 rfl rfl) h1
  clear hA0 hval0
  refine (walk a0 cap0 l0 a1 W f0 w1).mono fun e W' ⟨he, bel⟩ => ?_
  subst he
  exact ⟨_, rfl, _, _, _, [], _, [], hW', trodAll_mk1 (shut_bool Try.underlying4 _), (trodAll_cons_mk (Below.trod laidOut (by kernel_rfl) (of_decide_eq_true (by kernel_rfl)) k0 bel lt0) (trodAll_cons_mk (Below.trod laidOut (by kernel_rfl) (of_decide_eq_true (by kernel_rfl)) k1 bel lt1) trodAll_mk0)), rfl, bel.frame _, fun h => by cases h⟩

theorem over : Rows.linkFairRow.holds Try.pinned (OpenSpec.ofChange Rows.linkFairSpec) :=
  OpenClaim.holds_of_wide 3 Try.f3 rfl rfl rfl rfl rfl rfl rfl ⟨rfl, rfl, rfl, rfl, rfl⟩ rfl rfl rfl rfl rfl (by kernel_rfl) Try.func3 (by kernel_rfl)
    (of_decide_eq_true (by kernel_rfl)) (by unfold Func.isWrapper; first | (rw [if_pos (by decide +kernel)]; kernel_rfl) | (rw [if_neg (by decide +kernel)]; exact ⟨rfl, rfl⟩))
    (fun os started H enc _ => lifted os started H enc)
end Go.Proofs.Ytbakmfeikkpmjaa.LLinkFair

namespace Go.Proofs.Ytbakmfeikkpmjaa
theorem linkFair_holds : Rows.LinkFairSaid := LLinkFair.over
#print axioms linkFair_holds
end Go.Proofs.Ytbakmfeikkpmjaa

