/- Proved: for every two numbers the law VarintOne returns true (unlike numbers have unlike bytes, of which none are another one's beginning), and its arguments read behind the call as they read before. No condition. -/
import Derived.Test.YtppfejkkfgjikaaE
import Derived.Test.YtppfejkkfgjikaaP2
import Derived.ProofKit
import Derived.ShutString
import Derived.ChangeOld
import Derived.Test.YtppfejkkfgjikaaG
namespace Go.Proofs.Ytppfejkkfgjikaa.LVarintOne
open Go.RowKit

set_option maxHeartbeats 1000000 in
theorem walk (a b : Nat) (w : World) (ha : a < 2 ^ 64) (hb : b < 2 ^ 64) :
    Calls Try.prog 5 #[.int .u64 a, .int .u64 b] w fun e w' => e = .returned (.bool true) ∧ Below w.heap.size w w' := by
  have Ha := Lib.hid ha
  have Hb := Lib.hid hb
  clear ha hb
  have q0 : Wr (NewWr (NewWr w)) w.heap.size [] := (NewWr.wr w).below (NewWr.below _)
  have p0 : Wr (NewWr (NewWr w)) (w.heap.size + 1) [] := by have := NewWr.wr (NewWr w); rw [NewWr.size] at this; exact this
  have b0 : Below w.heap.size w (NewWr (NewWr w)) := bMore (NewWr.below w) (NewWr.below _) (Nat.le_refl _)
  go_enter Try.func5, Try.ntmps5
  go_wp2_with fail
  refine (wuint_at w.heap.size a [] (NewWr (NewWr w)) Ha.out q0 (by simp)).mono ?_
  rintro e w1 ⟨rfl, q1, o1⟩
  have b1 := bOnly b0 o1 (Nat.le_refl _) (Nat.le_refl _)
  have p1 := p0.other o1 (by omega) p0.lt
  clear q0 p0 b0 o1
  go_wp2_with fail
  refine (wuint_at (w.heap.size + 1) b [] w1 Hb.out p1 (by simp)).mono ?_
  rintro e w2 ⟨rfl, p2, o2⟩
  have b2 := bOnly b1 o2 (by omega) (Nat.le_refl _)
  have q2 := q1.other o2 (by omega) q1.lt
  clear q1 p1 b1 o2
  rw [List.nil_append] at p2 q2
  have hla := V.enc_len10 a Ha.out
  have hlb := V.enc_len10 b Hb.out
  have hpa := V.enc_pos a
  have hpb := V.enc_pos b
  have Heq := Lib.hid (fun h => V.enc_inj a b h)
  have Hne := Lib.hid (V.enc_take a b)
  generalize hs : V.enc a = s at *
  generalize ht : V.enc b = t at *
  go_wp2_with fail
  refine (wstring_at w.heap.size s w2 q2 (by omega)).mono ?_
  rintro e w3 ⟨rfl, rfl⟩
  go_wp2_with fail
  refine (wstring_at (w.heap.size + 1) t w2 p2 (by omega)).mono ?_
  rintro e w3 ⟨rfl, rfl⟩
  by_cases hab : a = b
  · subst hab
    obtain rfl : s = t := by rw [← hs, ← ht]
    have hd1 : decide ((s.length : Int) ≤ 10) = true := by simp; omega
    have hd2 : decide (1 ≤ (s.length : Int)) = true := by simp; omega
    clear hs ht Heq Hne
    go_wp2_with fail
    refine wp_region_any (by kernel_rfl) ?_
    change wpAny _ _ _ _ _ _ _ (World.drew _)
    refine wpAny_ready (rs := [0]) (by kernel_rfl) (by simp) ?_
    refine AllReady.cons rfl (fun K hK => ?_) AllReady.nil
    go_simp
    refine (awake_at _).mono ?_
    rintro e w3 ⟨rfl, b3⟩
    refine hK _ _ ?_
    clear hK K
    refine wpAny_quiet_from _ 1 (by kernel_rfl) rfl rfl (by kernel_rfl) ?_
    simp only [List.drop_succ_cons, List.drop_zero]
    repeat (first | go_big_quiet_step (fail) | quiet_step (fail))
    refine wpQuiet_nil ?_
    intro _ hw'
    obtain ⟨nq, hw''⟩ := hw'
    subst hw''
    go_wp2
    go_ret
    exact ⟨rfl, below_drewN (bMore (b2.drew) b3 (Nat.le_refl _)) nq⟩
  · have hd1 : decide ((s.length : Int) ≤ 10) = true := by simp; omega
    have hd2 : decide (1 ≤ (s.length : Int)) = true := by simp; omega
    have hne : (s == t) = false := beq_eq_false_iff_ne.2 fun h => hab (Heq.out h)
    have hab1 : ((a : Int) == (b : Int)) = false := beq_eq_false_iff_ne.2 fun h => hab (by omega)
    have Hn := Lib.hid (Hne.out hab)
    clear hs ht Heq Hne hab
    by_cases hle : s.length ≤ t.length
    · have hx : (((⟨s.toArray⟩ : ByteArray).extract 0 s.length).toList == ((⟨t.toArray⟩ : ByteArray).extract 0 s.length).toList) = false := by
        rw [ext_take, ext_take]
        have := Hn.out
        rw [Nat.min_eq_left hle] at this
        simpa using this
      go_wp2_with fail
      refine wp_region_any (by kernel_rfl) ?_
      change wpAny _ _ _ _ _ _ _ (World.drew _)
      refine wpAny_ready (rs := [0]) (by kernel_rfl) (by simp) ?_
      refine AllReady.cons rfl (fun K hK => ?_) AllReady.nil
      go_simp
      refine (awake_at _).mono ?_
      rintro e w3 ⟨rfl, b3⟩
      refine hK _ _ ?_
      clear hK K
      refine wpAny_quiet_from _ 1 (by kernel_rfl) rfl rfl (by kernel_rfl) ?_
      simp only [List.drop_succ_cons, List.drop_zero]
      repeat (first | go_big_quiet_step (fail) | quiet_step (fail))
      refine wpQuiet_nil ?_
      intro _ hw'
      obtain ⟨nq, hw''⟩ := hw'
      subst hw''
      go_wp2
      go_ret
      exact ⟨rfl, below_drewN (bMore (b2.drew) b3 (Nat.le_refl _)) nq⟩
    · have hx : (((⟨s.toArray⟩ : ByteArray).extract 0 t.length).toList == ((⟨t.toArray⟩ : ByteArray).extract 0 t.length).toList) = false := by
        rw [ext_take, ext_take]
        have := Hn.out
        rw [Nat.min_eq_right (by omega)] at this
        simpa using this
      go_wp2_with fail
      refine wp_region_any (by kernel_rfl) ?_
      change wpAny _ _ _ _ _ _ _ (World.drew _)
      refine wpAny_ready (rs := [0]) (by kernel_rfl) (by simp) ?_
      refine AllReady.cons rfl (fun K hK => ?_) AllReady.nil
      go_simp
      refine (awake_at _).mono ?_
      rintro e w3 ⟨rfl, b3⟩
      refine hK _ _ ?_
      clear hK K
      refine wpAny_quiet_from _ 1 (by kernel_rfl) rfl rfl (by kernel_rfl) ?_
      simp only [List.drop_succ_cons, List.drop_zero]
      repeat (first | go_big_quiet_step (fail) | quiet_step (fail))
      refine wpQuiet_nil ?_
      intro _ hw'
      obtain ⟨nq, hw''⟩ := hw'
      subst hw''
      go_wp2
      go_ret
      exact ⟨rfl, below_drewN (bMore (b2.drew) b3 (Nat.le_refl _)) nq⟩

open Go.ChangeShapes Go.WideShapes Go.ChangeAt
theorem own : ownKnob Try.prog.godebug = none := by kernel_rfl
theorem laidOut : laidOutB Try.prog = true := by kernel_rfl

set_option maxRecDepth 100000 in
theorem lifted (os : Os) (started : os.Started) (H : Type) (enc : TypeId × Value → H) :
    ReturnsInHanded {} Try.checked os 5 .any (Rows.varintOneSpec.pre6 enc Try.prog Try.f5 Rows.varintOneRow.domain false) (Rows.varintOneSpec.post enc Try.prog Try.f5 false true false false) := by
  refine returnsInHanded_of_change (C := Try.checked) own started (by kernel_rfl) Try.func5
    (ChangeSpec.witness6 (enc := enc) (C := Try.checked) false ⟨#[], #[.int .u64 0, .int .u64 0], []⟩ 8 (by kernel_rfl) (by kernel_rfl) (by kernel_rfl) (by kernel_rfl)) ?_
  intro W base args ds gs before hval0 hW hcnd _
  have hval : ∀ (j : Nat) t v, Try.f5.params[j]? = some t → args[j]? = some v → Value.okWide Try.prog W .any base t v := hval0
  have hW' := hW
  obtain ⟨p, q, hA0, hV, rfl, hfz, hnd⟩ := hW
  have hA : DataW.TrodAll enc Try.prog W 0 (fun _ => true) true Try.f5.params.toList args.toList ds p := hA0
  rw [Try.params5] at hA hval
  obtain ⟨v0, vs0, d0, ds0, p0, q0, hargs, rfl, rfl, h0, r0⟩ := trodAll_cons hA
  obtain ⟨v1, vs1, d1, ds1, p1, q1, rfl, rfl, rfl, h1, r1⟩ := trodAll_cons r0
  obtain ⟨rfl, rfl, rfl⟩ := trodAll_nil r1
  obtain rfl : args = #[v0, v1] := by cases args; simp_all
  obtain ⟨rfl, rfl⟩ := trodVars_none hV
  have k0 := h0
  have lt0 : ∀ x ∈ p0, x.block < W.heap.size := by obtain ⟨m, hm⟩ := k0; exact DataW.trod_lt m _ _ _ hm
  have k1 := h1
  have lt1 : ∀ x ∈ p1, x.block < W.heap.size := by obtain ⟨m, hm⟩ := k1; exact DataW.trod_lt m _ _ _ hm
  obtain ⟨a0, rfl, _, _, w0⟩ := open_int Try.underlying27 (hval 0 27 v0 rfl rfl) h0
  have u0 := bounds_u64 w0
  obtain ⟨a0, rfl⟩ := Int.eq_ofNat_of_zero_le u0.1
  obtain ⟨a1, rfl, _, _, w1⟩ := open_int Try.underlying27 (hval 1 27 v1 rfl rfl) h1
  have u1 := bounds_u64 w1
  obtain ⟨a1, rfl⟩ := Int.eq_ofNat_of_zero_le u1.1
  clear hA0 hval0
  refine (walk a0 a1 W (by omega) (by omega)).mono fun e W' ⟨he, bel⟩ => ?_
  subst he
  exact ⟨_, rfl, _, _, _, [], _, [], hW', trodAll_mk1 (shut_bool Try.underlying4 _), (trodAll_cons_mk (Below.trod laidOut (by kernel_rfl) (of_decide_eq_true (by kernel_rfl)) k0 bel lt0) (trodAll_cons_mk (Below.trod laidOut (by kernel_rfl) (of_decide_eq_true (by kernel_rfl)) k1 bel lt1) trodAll_mk0)), rfl, bel.frame _, fun h => by cases h⟩

theorem over : Rows.varintOneRow.holds Try.pinned (OpenSpec.ofChange Rows.varintOneSpec) :=
  OpenClaim.holds_of_wide 5 Try.f5 rfl rfl rfl rfl rfl rfl rfl ⟨rfl, rfl, rfl, rfl, rfl⟩ rfl rfl rfl rfl rfl (by kernel_rfl) Try.func5 (by kernel_rfl)
    (of_decide_eq_true (by kernel_rfl)) (by unfold Func.isWrapper; first | (rw [if_pos (by decide +kernel)]; kernel_rfl) | (rw [if_neg (by decide +kernel)]; exact ⟨rfl, rfl⟩))
    (fun os started H enc _ => lifted os started H enc)
end Go.Proofs.Ytppfejkkfgjikaa.LVarintOne

namespace Go.Proofs.Ytppfejkkfgjikaa
theorem varintOne_holds : Rows.VarintOneSaid := LVarintOne.over
#print axioms varintOne_holds
end Go.Proofs.Ytppfejkkfgjikaa

