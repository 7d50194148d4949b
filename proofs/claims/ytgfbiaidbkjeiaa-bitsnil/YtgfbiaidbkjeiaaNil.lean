/- Proved: for every Op the law BitsNil returns true (a writer, or a reader, that is none does nothing), and its argument reads behind the call as it read before. No condition. -/
import Derived.Test.YtgfbiaidbkjeiaaO
import Derived.ShutString
import Derived.ChangeOld
namespace Go.Proofs.Ytgfbiaidbkjeiaa.LNil
open Go.RowKit

set_option maxRecDepth 100000 in
set_option maxHeartbeats 1000000 in
theorem walk (kd n : Int) (u : Nat) (w : World) (hu : u < 2 ^ 64) :
    Calls Try.prog 6 #[.agg #[.int .i64 kd, .int .i64 n, .int .u64 u]] w fun e w' => e = .returned (.bool true) ∧ Below w.heap.size w w' := by
  have H0 := Lib.hid (OpBox.new w ⟨kd, n, u⟩)
  have HS0 := Lib.hid (show Same w (w.alloc (.cells #[.int .i64 kd, .int .i64 n, .int .u64 u] 30)) from (Same.refl w).alloc _)
  have Hu := Lib.hid hu
  clear hu
  go_enter Try.func6, Try.ntmps6
  go_wp2_with fail
  have e1 := H0.out.n
  have e2 := H0.out.u
  simp only at e1 e2
  generalize w.alloc (.cells #[.int .i64 kd, .int .i64 n, .int .u64 u] 30) = w1 at *
  generalize w.heap.size = g at *
  refine (wbits_nil u n w1).mono ?_
  rintro e w1 ⟨rfl, rfl⟩
  go_wp2_with fail
  refine (wcode_nil u w1 Hu.out).mono ?_
  rintro e w1 ⟨rfl, rfl⟩
  go_wp2_with fail
  refine (awake w1).mono ?_
  rintro e w2 ⟨rfl, hs⟩
  have e3 := (H0.out.same hs).n
  simp only at e3
  have HS2 := Lib.hid (HS0.out.trans hs)
  clear e1 e2 hs HS0 H0
  go_wp2_with fail
  refine (wlen_nil w2).mono ?_
  rintro e w2 ⟨rfl, rfl⟩
  go_wp2_with fail
  refine (wstring_nil w2).mono ?_
  rintro e w2 ⟨rfl, rfl⟩
  go_wp2_with fail
  refine (bits_nil n w2).mono ?_
  rintro e w2 ⟨rfl, rfl⟩
  go_wp2_with fail
  refine (code_nil w2).mono ?_
  rintro e w3 ⟨rfl, rfl⟩
  go_wp2_with fail
  refine (left_nil w2).mono ?_
  rintro e w2 ⟨rfl, rfl⟩
  go_wp2_with fail
  refine (err_nil w2).mono ?_
  rintro e w2 ⟨rfl, rfl⟩
  go_wp2_with fail
  refine (done_nil w2).mono ?_
  rintro e w2 ⟨rfl, rfl⟩
  go_wp2
  go_ret
  exact ⟨rfl, HS2.out⟩

open Go.Joins
theorem open_one {H : Type} {enc : TypeId × Value → H} {W : World} {r : Reach} {b0 : Nat} {v : Value} {d : DataW H} {p : List MemPlace}
    (hv : Value.okWide Try.prog W r b0 30 v) (h : DataW.Trod enc Try.prog W 0 (fun _ => true) true 30 v d p) :
    ∃ (kd n : Int) (u : Nat), v = .agg #[.int .i64 kd, .int .i64 n, .int .u64 u] ∧ u < 2 ^ 64 := by
  obtain ⟨c0, c1, c2, y0, y1, y2, m, rfl, rfl, rfl, g0, g1, g2⟩ := open_agg3 Try.underlying30 (by kernel_rfl) cells30 hv h
  obtain ⟨kd, e0, _, _⟩ := DataW.trod_int Try.underlying3 g0
  obtain ⟨n, e1, _, hn⟩ := DataW.trod_int Try.underlying3 g1
  obtain ⟨u, e2, _, hu⟩ := DataW.trod_int Try.underlying28 g2
  simp at e0 e1 e2
  subst e0 e1 e2
  have hub := bounds_u64 hu
  obtain ⟨u, rfl⟩ := Int.eq_ofNat_of_zero_le hub.1
  exact ⟨kd, n, u, rfl, by omega⟩

open Go.ChangeShapes Go.WideShapes Go.ChangeAt
theorem own : ownKnob Try.prog.godebug = none := by kernel_rfl
theorem laidOut : laidOutB Try.prog = true := by kernel_rfl

set_option maxRecDepth 100000 in
theorem lifted (os : Os) (started : os.Started) (H : Type) (enc : TypeId × Value → H) :
    ReturnsInHanded {} Try.checked os 6 .any (Rows.bitsNilSpec.pre6 enc Try.prog Try.f6 Rows.bitsNilRow.domain false) (Rows.bitsNilSpec.post enc Try.prog Try.f6 false true false false) := by
  refine returnsInHanded_of_change (C := Try.checked) own started (by kernel_rfl) Try.func6
    (ChangeSpec.witness6 (enc := enc) (C := Try.checked) false ⟨#[], #[.agg #[.int .i64 0, .int .i64 0, .int .u64 0]], []⟩ 8 (by kernel_rfl) (by kernel_rfl) (by kernel_rfl) (by kernel_rfl)) ?_
  intro W base args ds gs before hval0 hW hcnd _
  have hval : ∀ (j : Nat) t v, Try.f6.params[j]? = some t → args[j]? = some v → Value.okWide Try.prog W .any base t v := hval0
  have hW' := hW
  obtain ⟨p, q, hA0, hV, rfl, hfz, hnd⟩ := hW
  have hA : DataW.TrodAll enc Try.prog W 0 (fun _ => true) true Try.f6.params.toList args.toList ds p := hA0

  rw [Try.params6] at hA hval
  obtain ⟨v0, vs0, d0, ds0, p0, q0, hargs, rfl, rfl, h0, r0⟩ := trodAll_cons hA
  obtain ⟨rfl, rfl, rfl⟩ := trodAll_nil r0
  obtain rfl : args = #[v0] := by cases args; simp_all
  obtain ⟨rfl, rfl⟩ := trodVars_none hV
  have k0 := h0
  have lt0 : ∀ x ∈ p0, x.block < W.heap.size := by obtain ⟨m, hm⟩ := k0; exact DataW.trod_lt m _ _ _ hm
  obtain ⟨kd, n, u, rfl, hu⟩ := open_one (hval 0 30 v0 rfl rfl) h0
  clear hA0 hval0
  refine (walk kd n u W hu).mono fun e W' ⟨he, bel⟩ => ?_
  subst he
  exact ⟨_, rfl, _, _, _, [], _, [], hW', trodAll_mk1 (shut_bool Try.underlying4 _), (trodAll_cons_mk (Below.trod laidOut (by kernel_rfl) (of_decide_eq_true (by kernel_rfl)) k0 bel lt0) trodAll_mk0), rfl, bel.frame _, fun h => by cases h⟩

theorem over : Rows.bitsNilRow.holds Try.pinned (OpenSpec.ofChange Rows.bitsNilSpec) :=
  OpenClaim.holds_of_wide 6 Try.f6 rfl rfl rfl rfl rfl rfl rfl ⟨rfl, rfl, rfl, rfl, rfl⟩ rfl rfl rfl rfl rfl (by kernel_rfl) Try.func6 (by kernel_rfl)
    (of_decide_eq_true (by kernel_rfl)) (by unfold Func.isWrapper; first | (rw [if_pos (by decide +kernel)]; kernel_rfl) | (rw [if_neg (by decide +kernel)]; exact ⟨rfl, rfl⟩))
    (fun os started H enc _ => lifted os started H enc)
end Go.Proofs.Ytgfbiaidbkjeiaa.LNil

namespace Go.Proofs.Ytgfbiaidbkjeiaa
theorem bitsNil_holds : Rows.BitsNilSaid := LNil.over
#print axioms bitsNil_holds
end Go.Proofs.Ytgfbiaidbkjeiaa

