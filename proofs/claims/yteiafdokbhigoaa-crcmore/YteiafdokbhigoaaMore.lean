/- Proved: for every three texts the law CrcMore returns true (the sum goes on over more bytes, however they are cut), and its arguments read behind the call as they read before. No condition. -/
import Derived.Test.YteiafdokbhigoaaE
import Derived.ProofKit
import Derived.ShutString
import Derived.ChangeOld
import Derived.SizedLaws
namespace Go.Proofs.Yteiafdokbhigoaa.LCrcMore
open Go.RowKit

set_option maxRecDepth 100000 in
set_option maxHeartbeats 400000 in
theorem walk (s t u : List UInt8) (w : World) (hs : s.length ≤ 140737488351232) (ht : t.length ≤ 140737488351232) (hu : u.length ≤ 140737488351232) :
    Calls Try.prog 5 #[.string ⟨s.toArray⟩, .string ⟨t.toArray⟩, .string ⟨u.toArray⟩] w fun e w' => e = .returned (.bool true) ∧ Below w.heap.size w w' := by
  by_cases hl : 3000 < s.length + t.length + u.length
  · go_enter Try.func5, Try.ntmps5
    go_wp2_with fail
    refine (awake w).mono ?_
    rintro e w1 ⟨rfl, b1⟩
    go_wp2_with fail
    refine (awake w1).mono ?_
    rintro e w2 ⟨rfl, b2⟩
    go_wp2
    go_ret
    exact ⟨rfl, b1.trans b2⟩
  · have c15 := Lib.hid (sum s (by omega))
    have c21 := Lib.hid (more (K.sum s) t (K.sum_lt s) (by omega))
    rw [moreN_sum] at c21
    have c21b := Lib.hid (more (K.sum (s ++ t)) u (K.sum_lt _) (by omega))
    rw [moreN_sum] at c21b
    have c15b := Lib.hid (sum (s ++ t ++ u) (by simp only [List.length_append]; omega))
    have c21c := Lib.hid (more 0 s (by omega) (by omega))
    rw [moreN_zero] at c21c
    have c21d := Lib.hid (more (K.sum s) [] (K.sum_lt s) (by simp))
    rw [moreN_sum, List.append_nil] at c21d
    have e1 := app_list s t
    have e2 := app_list (s ++ t) u
    have l1 : (s ++ t).length = s.length + t.length := List.length_append
    generalize K.sum s = x at *
    generalize K.sum (s ++ t) = y at *
    generalize K.sum (s ++ t ++ u) = z at *
    rw [List.append_assoc] at c15b
    go_enter Try.func5, Try.ntmps5
    go_wp2_with fail
    refine (awake w).mono ?_
    rintro e w1 ⟨rfl, b1⟩
    go_wp2_with fail
    refine (c15.out w1).mono ?_
    rintro e w2 ⟨rfl, b2⟩
    go_wp2_with fail
    refine (c21.out w2).mono ?_
    rintro e w3 ⟨rfl, b3⟩
    go_wp2_with fail
    refine (c21b.out w3).mono ?_
    rintro e w4 ⟨rfl, b4⟩
    have B4 := Lib.hid (((b1.trans b2).trans b3).trans b4)
    clear b1 b2 b3 b4
    go_wp2_with fail
    refine (c15b.out w4).mono ?_
    rintro e w5 ⟨rfl, b5⟩
    go_wp2_with fail
    refine (c21c.out w5).mono ?_
    rintro e w6 ⟨rfl, b6⟩
    go_wp2_with fail
    refine (c15.out w6).mono ?_
    rintro e w7 ⟨rfl, b7⟩
    go_wp2_with fail
    refine (c15.out w7).mono ?_
    rintro e w8 ⟨rfl, b8⟩
    go_wp2_with fail
    refine (c21d.out w8).mono ?_
    rintro e w9 ⟨rfl, b9⟩
    go_wp2_with fail
    refine (c15.out w9).mono ?_
    rintro e w10 ⟨rfl, b10⟩
    have B10 := Lib.hid ((((((B4.out.trans b5).trans b6).trans b7).trans b8).trans b9).trans b10)
    clear b5 b6 b7 b8 b9 b10
    go_wp2
    go_ret
    exact ⟨rfl, B10.out⟩

open Go.ChangeShapes Go.WideShapes Go.ChangeAt
theorem own : ownKnob Try.prog.godebug = none := by kernel_rfl
theorem laidOut : laidOutB Try.prog = true := by kernel_rfl

set_option maxRecDepth 100000 in
theorem lifted (os : Os) (started : os.Started) (H : Type) (enc : TypeId × Value → H) :
    ReturnsInHanded {} Try.checked os 5 .any (Rows.crcMoreSpec.pre6 enc Try.prog Try.f5 Rows.crcMoreRow.domain false) (Rows.crcMoreSpec.post enc Try.prog Try.f5 false true false false) := by
  refine returnsInHanded_of_change_sized (C := Try.checked) own started (by kernel_rfl) Try.func5
    (ChangeSpec.witness6 (enc := enc) (C := Try.checked) false ⟨#[], #[.string ⟨#[]⟩, .string ⟨#[]⟩, .string ⟨#[]⟩], []⟩ 8 (by kernel_rfl) (by kernel_rfl) (by kernel_rfl) (by kernel_rfl)) ?_
  intro W base args ds gs before hval0 hW hcnd hsz0 _
  have hval : ∀ (j : Nat) t v, Try.f5.params[j]? = some t → args[j]? = some v → Value.okWide Try.prog W .any base t v := hval0
  have hW' := hW
  obtain ⟨p, q, hA0, hV, rfl, hfz, hnd⟩ := hW
  have hA : DataW.TrodAll enc Try.prog W 0 (fun _ => true) true Try.f5.params.toList args.toList ds p := hA0
  have hsz : (DataW.weightsEach Try.prog (Try.f5.params.toList ++ Rows.crcMoreSpec.plain.varTypes Try.prog) (ds ++ gs)).all (· ≤ reachBytes) = true := hsz0
  rw [Try.params5] at hA hval hsz
  obtain ⟨v0, vs0, d0, ds0, p0, q0, hargs, rfl, rfl, h0, r0⟩ := trodAll_cons hA
  obtain ⟨v1, vs1, d1, ds1, p1, q1, rfl, rfl, rfl, h1, r1⟩ := trodAll_cons r0
  obtain ⟨v2, vs2, d2, ds2, p2, q2, rfl, rfl, rfl, h2, r2⟩ := trodAll_cons r1
  obtain ⟨rfl, rfl, rfl⟩ := trodAll_nil r2
  obtain rfl : args = #[v0, v1, v2] := by cases args; simp_all
  obtain ⟨rfl, rfl⟩ := trodVars_none hV
  have k0 := h0
  have lt0 : ∀ x ∈ p0, x.block < W.heap.size := by obtain ⟨m, hm⟩ := k0; exact DataW.trod_lt m _ _ _ hm
  have k1 := h1
  have lt1 : ∀ x ∈ p1, x.block < W.heap.size := by obtain ⟨m, hm⟩ := k1; exact DataW.trod_lt m _ _ _ hm
  have k2 := h2
  have lt2 : ∀ x ∈ p2, x.block < W.heap.size := by obtain ⟨m, hm⟩ := k2; exact DataW.trod_lt m _ _ _ hm
  obtain ⟨a0, rfl, hd0, _, w0⟩ := Go.ChangeMaps.open_string Try.underlying9 (hval 0 9 v0 rfl rfl) h0
  have z0 : a0.data.toList.length ≤ 140737488351232 := sized_string hsz (j := 0) (t := 9) rfl (by rw [hd0]; rfl)
  obtain ⟨a1, rfl, hd1, _, w1⟩ := Go.ChangeMaps.open_string Try.underlying9 (hval 1 9 v1 rfl rfl) h1
  have z1 : a1.data.toList.length ≤ 140737488351232 := sized_string hsz (j := 1) (t := 9) rfl (by rw [hd1]; rfl)
  obtain ⟨a2, rfl, hd2, _, w2⟩ := Go.ChangeMaps.open_string Try.underlying9 (hval 2 9 v2 rfl rfl) h2
  have z2 : a2.data.toList.length ≤ 140737488351232 := sized_string hsz (j := 2) (t := 9) rfl (by rw [hd2]; rfl)
  clear hA0 hval0
  refine (walk a0.data.toList a1.data.toList a2.data.toList W z0 z1 z2).mono fun e W' ⟨he, bel⟩ => ?_
  subst he
  exact ⟨_, rfl, _, _, _, [], _, [], hW', trodAll_mk1 (shut_bool Try.underlying4 _), (trodAll_cons_mk (Below.trod laidOut (by kernel_rfl) (of_decide_eq_true (by kernel_rfl)) k0 bel lt0) (trodAll_cons_mk (Below.trod laidOut (by kernel_rfl) (of_decide_eq_true (by kernel_rfl)) k1 bel lt1) (trodAll_cons_mk (Below.trod laidOut (by kernel_rfl) (of_decide_eq_true (by kernel_rfl)) k2 bel lt2) trodAll_mk0))), rfl, bel.frame _, fun h => by cases h⟩

theorem over : Rows.crcMoreRow.holds Try.pinned (OpenSpec.ofChange Rows.crcMoreSpec) :=
  OpenClaim.holds_of_wide 5 Try.f5 rfl rfl rfl rfl rfl rfl rfl ⟨rfl, rfl, rfl, rfl, rfl⟩ rfl rfl rfl rfl rfl (by kernel_rfl) Try.func5 (by kernel_rfl)
    (of_decide_eq_true (by kernel_rfl)) (by unfold Func.isWrapper; first | (rw [if_pos (by decide +kernel)]; kernel_rfl) | (rw [if_neg (by decide +kernel)]; exact ⟨rfl, rfl⟩))
    (fun os started H enc _ => lifted os started H enc)
end Go.Proofs.Yteiafdokbhigoaa.LCrcMore

namespace Go.Proofs.Yteiafdokbhigoaa
theorem crcMore_holds : Rows.CrcMoreSaid := LCrcMore.over
#print axioms crcMore_holds
end Go.Proofs.Yteiafdokbhigoaa

