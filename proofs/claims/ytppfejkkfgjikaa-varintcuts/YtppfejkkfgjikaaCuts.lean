/- Proved: for every number, text and cut the law VarintCuts returns true (a number, or a text, that is cut off anywhere isn't read: the bytes end too early), and its arguments read behind the call as they read before. No condition. -/
import Derived.Test.YtppfejkkfgjikaaE
import Derived.Test.YtppfejkkfgjikaaP2
import Derived.ProofKit
import Derived.ShutString
import Derived.ChangeOld
namespace Go.Proofs.Ytppfejkkfgjikaa.LVarintCuts
open Go.RowKit

theorem cut_in (cut : Int) (n : Nat) (h0 : 0 < n) (h1 : n ≤ 1000000) : ∃ j : Nat, wrap64 ((IntKind.u64.wrap cut).tmod (n : Int)) = (j : Int) ∧ j < n := by
  have e : 0 ≤ IntKind.u64.wrap cut := by rw [IntKind.wrap_u64]; omega
  rw [Int.tmod_eq_emod_of_nonneg e]
  have h2 := Int.emod_nonneg (IntKind.u64.wrap cut) (show (n : Int) ≠ 0 by omega)
  have h3 := Int.emod_lt_of_pos (IntKind.u64.wrap cut) (show (0 : Int) < n by omega)
  refine ⟨(IntKind.u64.wrap cut % (n : Int)).toNat, ?_, by omega⟩
  rw [IntWalk.wrap64_in _ (by omega)]
  omega

set_option maxHeartbeats 1000000 in
theorem walk (n : Nat) (s : List UInt8) (cut : Int) (w : World) (hn : n < 2 ^ 64) (hs : s.length ≤ 9223372036854775807) (hc : (Lit.int .i64 cut).wf = true) :
    Calls Try.prog 8 #[.int .u64 n, .string ⟨s.toArray⟩, .int .i64 cut] w fun e w' => e = .returned (.bool true) ∧ Below w.heap.size w w' := by
  have Hn := Lib.hid hn
  have Hc := Lib.hid hc
  clear hn hc
  by_cases h500 : 500 < s.length
  · go_enter Try.func8, Try.ntmps8
    go_wp2_with fail
    refine (awake_at w).mono ?_
    rintro e w1 ⟨rfl, b1⟩
    go_wp2_with fail
    refine (awake_at w1).mono ?_
    rintro e w2 ⟨rfl, k2⟩
    have b2 := bMore b1 k2 (Nat.le_refl _)
    clear b1 k2
    go_wp2
    go_ret
    exact ⟨rfl, b2⟩
  · have hle : s.length ≤ 500 := by omega
    clear h500
    go_enter Try.func8, Try.ntmps8
    go_wp2_with fail
    refine (awake_at w).mono ?_
    rintro e w1 ⟨rfl, b1⟩
    go_wp2_with fail
    have q1 := NewWr.wr w1
    have b2 := bMore b1 (NewWr.below w1) (Nat.le_refl _)
    have hb : w.heap.size ≤ w1.heap.size := b1.size
    refine (wuint_at w1.heap.size n [] (NewWr w1) Hn.out q1 (by simp)).mono ?_
    rintro e w2 ⟨rfl, q2, o2⟩
    have b3 := bOnly b2 o2 hb (Nat.le_refl _)
    clear q1 o2 b2 b1
    go_wp2_with fail
    have hl10 := V.enc_len10 n Hn.out
    refine (wtext_at w1.heap.size s _ w2 q2 (by simp; omega)).mono ?_
    rintro e w3 ⟨rfl, q3, o3⟩
    have b4 := bOnly b3 o3 hb (Nat.le_refl _)
    clear q2 o3 b3
    rw [List.nil_append] at q3
    have hl1 := V.enc_len10 s.length (by omega)
    have hp1 := V.enc_pos n
    have hlen : (V.enc n ++ (V.enc s.length ++ s)).length ≤ 520 := by simp; omega
    have hpos : 1 ≤ (V.enc n ++ (V.enc s.length ++ s)).length := by simp; omega
    have Hcut := Lib.hid (V.both_cut n s · Hn.out hle)
    generalize V.enc n ++ (V.enc s.length ++ s) = all at *
    go_wp2_with fail
    refine (wstring_at w1.heap.size all w3 q3 (by omega)).mono ?_
    rintro e w4 ⟨rfl, rfl⟩
    clear hl10 hl1 hp1
    obtain ⟨j, hj, hjl⟩ := cut_in cut all.length (by omega) (by omega)
    go_wp2_with fail
    rw [ext_take]
    refine (newreader (all.take j) w3 (by unfold maxLen; simp; omega)).mono ?_
    rintro e w4 ⟨b, rfl, hbb, q4, k4⟩
    have b5 := bMore b4 k4 (Nat.le_refl _)
    have hb2 : w.heap.size ≤ b := by have := b4.size; omega
    have H3 := Lib.hid (Hcut.out j hjl)
    clear hj hbb k4 b4 q3
    go_wp2_with fail
    refine (uint_at b _ 0 w4 q4).mono ?_
    rintro e w5 ⟨rfl, q5, o5⟩
    have b6 := bOnly b5 o5 hb2 (Nat.le_refl _)
    clear q4 o5 b5
    go_wp2_with fail
    refine (text_at b _ _ 1000 w5 q5 (by decide)).mono ?_
    rintro e w6 ⟨rfl, q6, o6⟩
    have b7 := bOnly b6 o6 hb2 (Nat.le_refl _)
    rw [H3.out] at q6
    clear q5 o6 b6
    go_wp2_with fail
    refine (err_rd b _ _ w6 q6).mono ?_
    rintro e w7 ⟨rfl, rfl⟩
    go_wp2_with fail
    refine (done_at b _ _ w6 q6).mono ?_
    rintro e w7 ⟨rfl, rfl⟩
    have hd : ∀ l, V.doneF l 3 = 3 := fun l => by unfold V.doneF; rw [if_pos (by decide)]
    rw [hd]
    clear hd
    go_wp2
    go_ret
    exact ⟨rfl, b7⟩

open Go.ChangeShapes Go.WideShapes Go.ChangeAt
theorem own : ownKnob Try.prog.godebug = none := by kernel_rfl
theorem laidOut : laidOutB Try.prog = true := by kernel_rfl

set_option maxRecDepth 100000 in
theorem lifted (os : Os) (started : os.Started) (H : Type) (enc : TypeId × Value → H) :
    ReturnsInHanded {} Try.checked os 8 .any (Rows.varintCutsSpec.pre6 enc Try.prog Try.f8 Rows.varintCutsRow.domain false) (Rows.varintCutsSpec.post enc Try.prog Try.f8 false true false false) := by
  refine returnsInHanded_of_change (C := Try.checked) own started (by kernel_rfl) Try.func8
    (ChangeSpec.witness6 (enc := enc) (C := Try.checked) false ⟨#[], #[.int .u64 0, .string ⟨#[]⟩, .int .i64 0], []⟩ 8 (by kernel_rfl) (by kernel_rfl) (by kernel_rfl) (by kernel_rfl)) ?_
  intro W base args ds gs before hval0 hW hcnd _
  have hval : ∀ (j : Nat) t v, Try.f8.params[j]? = some t → args[j]? = some v → Value.okWide Try.prog W .any base t v := hval0
  have hW' := hW
  obtain ⟨p, q, hA0, hV, rfl, hfz, hnd⟩ := hW
  have hA : DataW.TrodAll enc Try.prog W 0 (fun _ => true) true Try.f8.params.toList args.toList ds p := hA0
  rw [Try.params8] at hA hval
  obtain ⟨v0, vs0, d0, ds0, p0, q0, hargs, rfl, rfl, h0, r0⟩ := trodAll_cons hA
  obtain ⟨v1, vs1, d1, ds1, p1, q1, rfl, rfl, rfl, h1, r1⟩ := trodAll_cons r0
  obtain ⟨v2, vs2, d2, ds2, p2, q2, rfl, rfl, rfl, h2, r2⟩ := trodAll_cons r1
  obtain ⟨rfl, rfl, rfl⟩ := trodAll_nil r2
  obtain rfl : args = #[v0, v1, v2] := by cases args; simp_all
  obtain ⟨rfl, rfl⟩ := trodVars_none hV
  have k0 := h0
  have lt0 : ∀ x ∈ p0, x.block < W.heap.size := by obtain ⟨m, hm⟩ := k0; exact DataW.trod_lt m _ _ _ hm
  have k1 := h1
  have lt1 : ∀ x ∈ p1, x.block < W.heap.size := by obtain ⟨m, hm⟩ := k1; exact DataW.trod_lt m _ _ _ hm
  have k2 := h2
  have lt2 : ∀ x ∈ p2, x.block < W.heap.size := by obtain ⟨m, hm⟩ := k2; exact DataW.trod_lt m _ _ _ hm
  obtain ⟨a0, rfl, _, _, w0⟩ := open_int Try.underlying27 (hval 0 27 v0 rfl rfl) h0
  have u0 := bounds_u64 w0
  obtain ⟨a0, rfl⟩ := Int.eq_ofNat_of_zero_le u0.1
  obtain ⟨a1, rfl, _, _, w1⟩ := Go.ChangeMaps.open_string Try.underlying9 (hval 1 9 v1 rfl rfl) h1
  obtain ⟨a2, rfl, _, _, w2⟩ := open_int Try.underlying3 (hval 2 3 v2 rfl rfl) h2
  clear hA0 hval0
  refine (walk a0 a1.data.toList a2 W (by omega) (by simpa [maxLen] using w1) w2).mono fun e W' ⟨he, bel⟩ => ?_
  subst he
  exact ⟨_, rfl, _, _, _, [], _, [], hW', trodAll_mk1 (shut_bool Try.underlying4 _), (trodAll_cons_mk (Below.trod laidOut (by kernel_rfl) (of_decide_eq_true (by kernel_rfl)) k0 bel lt0) (trodAll_cons_mk (Below.trod laidOut (by kernel_rfl) (of_decide_eq_true (by kernel_rfl)) k1 bel lt1) (trodAll_cons_mk (Below.trod laidOut (by kernel_rfl) (of_decide_eq_true (by kernel_rfl)) k2 bel lt2) trodAll_mk0))), rfl, bel.frame _, fun h => by cases h⟩

theorem over : Rows.varintCutsRow.holds Try.pinned (OpenSpec.ofChange Rows.varintCutsSpec) :=
  OpenClaim.holds_of_wide 8 Try.f8 rfl rfl rfl rfl rfl rfl rfl ⟨rfl, rfl, rfl, rfl, rfl⟩ rfl rfl rfl rfl rfl (by kernel_rfl) Try.func8 (by kernel_rfl)
    (of_decide_eq_true (by kernel_rfl)) (by unfold Func.isWrapper; first | (rw [if_pos (by decide +kernel)]; kernel_rfl) | (rw [if_neg (by decide +kernel)]; exact ⟨rfl, rfl⟩))
    (fun os started H enc _ => lifted os started H enc)
end Go.Proofs.Ytppfejkkfgjikaa.LVarintCuts

namespace Go.Proofs.Ytppfejkkfgjikaa
theorem varintCuts_holds : Rows.VarintCutsSaid := LVarintCuts.over
#print axioms varintCuts_holds
end Go.Proofs.Ytppfejkkfgjikaa

