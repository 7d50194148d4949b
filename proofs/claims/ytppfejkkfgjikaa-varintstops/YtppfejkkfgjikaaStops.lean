/- Proved: for every text and every list of calls the law VarintStops returns true (once something was wrong nothing is taken any more, whatever is asked), and its arguments read behind the call as they read before. No condition. -/
import Derived.Test.YtppfejkkfgjikaaO
import Derived.Test.YtppfejkkfgjikaaP2
import Derived.ShutString
import Derived.ChangeOld
namespace Go.Proofs.Ytppfejkkfgjikaa.LVarintStops
open Go.RowKit

theorem intF_err (l : List UInt8) (x : Int) (h : x ≠ 0) : V.intF l x = (0, l, x) := by
  unfold V.intF; rw [V.uintF_err l x h]; simp [V.intOfN]

def Rel (w : World) (b : Nat) (s : List UInt8) (len : Nat) (i : Value) (wr : World) : Prop :=
  ∃ k : Nat, k ≤ len ∧ i = .int .i64 k ∧ Rd wr b s 3 ∧ Below w.heap.size w wr

set_option maxHeartbeats 1000000 in
theorem walk (s : List UInt8) (a : Option Addr) (len cap : Nat) (o : Nat → Opv) (w : World) (hs : s.length ≤ 9223372036854775807) (ho : OpsAt w a len o) :
    Calls Try.prog 9 #[.string ⟨s.toArray⟩, .slice a len cap] w fun e w' => e = .returned (.bool true) ∧ Below w.heap.size w w' := by
  by_cases hbig : 500 < s.length ∨ 100 < len
  · by_cases h5 : 500 < s.length
    · go_enter Try.func9, Try.ntmps9
      go_wp2_with fail
      refine (awake_at w).mono ?_
      rintro e w1 ⟨rfl, b1⟩
      go_wp2_with fail
      refine (awake_at w1).mono ?_
      rintro e w2 ⟨rfl, k2⟩
      have b2 := bMore b1 k2 (Nat.le_refl _)
      clear b1 k2
      go_wp2
      go_ret
      exact ⟨rfl, b2⟩
    · have h1 : 100 < len := by omega
      go_enter Try.func9, Try.ntmps9
      go_wp2_with fail
      refine (awake_at w).mono ?_
      rintro e w1 ⟨rfl, b1⟩
      go_wp2_with fail
      refine (awake_at w1).mono ?_
      rintro e w2 ⟨rfl, k2⟩
      have b2 := bMore b1 k2 (Nat.le_refl _)
      clear b1 k2
      go_wp2
      go_ret
      exact ⟨rfl, b2⟩
  · have h5 : s.length ≤ 500 := by omega
    have h1 : len ≤ 100 := by omega
    clear hbig
    go_enter Try.func9, Try.ntmps9
    go_wp2_with fail
    refine (awake_at w).mono ?_
    rintro e w1 ⟨rfl, b1⟩
    go_wp2_with fail
    refine (newreader s w1 (by unfold maxLen; omega)).mono ?_
    rintro e w2 ⟨b, rfl, hbb, q2, k2⟩
    have b2 := bMore b1 k2 (Nat.le_refl _)
    have hb2 : w.heap.size ≤ b := by have := b1.size; omega
    clear hbb k2 b1
    have HF := Lib.hid (show V.rawF s 0 ((s.length : Int) + 1) = ([], s, 3) by unfold V.rawF; rw [if_neg (by simp), if_neg (by omega), if_pos (by omega)])
    go_wp2_with fail
    refine (raw_at b _ s 0 w2 q2).mono ?_
    rw [HF.out]
    rintro e w3 ⟨rfl, q3, o3⟩
    have b3 := bOnly b2 o3 hb2 (Nat.le_refl _)
    clear o3 q2 b2 HF
    go_wp2
    go_loopw [30] (fun i wr => Rel w b s len i wr) (fun i _ => len - (intOf i).toNat)
    case atStart => exact ⟨0, Nat.zero_le _, rfl, q3, b3⟩
    case round =>
      clear q3 b3
      obtain ⟨k, hk, rfl, hr, hbel⟩ := hrel
      by_cases hlt : k < len
      · obtain ⟨g, off, ha, hg, hc⟩ := (ho.below hbel).cells k hlt
        have hok := ho.ok k hlt
        generalize o k = op at *
        have c0 := hc.kd
        have c1 := hc.n
        have c2 := hc.u
        have c3 := hc.s
        subst ha
        have x0 := BoxOp.box wr op
        have r0 := hr.below (BoxOp.below wr op)
        have l0 := bMore hbel (BoxOp.below wr op) (Nat.le_refl _)
        have hgb : wr.heap.size ≠ b := by have := hr.lt; omega
        have HB := Lib.hid (show V.byteF s 3 = (0, s, 3) by unfold V.byteF; rw [if_pos (by decide)])
        have HU := Lib.hid (V.uintF_err s 3 (by decide))
        have HI := Lib.hid (intF_err s 3 (by decide))
        have HT := Lib.hid (V.textF_err s 3 op.n (by decide))
        have HR := Lib.hid (show V.rawF s 3 op.n = ([], s, 3) by unfold V.rawF; rw [if_pos (by decide)])
        have hs8 : ((s.length : Int) != (s.length : Int)) = false := by simp
        clear hr hbel
        go_wp2_with fail
        refine (byte_at b s 3 (BoxOp wr op) r0).mono ?_
        rw [HB.out]
        rintro e w4 ⟨rfl, r1, o1⟩
        have x1 := x0.only o1 hgb
        have l1 := bOnly l0 o1 hb2 (Nat.le_refl _)
        clear x0 r0 l0 o1 c0 c1 c2 c3 hc
        go_wp2_with fail
        refine (uint_at b s 3 w4 r1).mono ?_
        rw [HU.out]
        rintro e w5 ⟨rfl, r2, o2⟩
        have x2 := x1.only o2 hgb
        have l2 := bOnly l1 o2 hb2 (Nat.le_refl _)
        clear x1 r1 l1 o2
        go_wp2_with fail
        refine (int_at b s 3 w5 r2).mono ?_
        rw [HI.out]
        rintro e w6 ⟨rfl, r3, o3⟩
        have x3 := x2.only o3 hgb
        have l3 := bOnly l2 o3 hb2 (Nat.le_refl _)
        have cn := x3.n
        clear x2 r2 l2 o3
        go_wp2_with fail
        refine (text_at b s 3 op.n w6 r3 hok.n).mono ?_
        rw [HT.out]
        rintro e w7 ⟨rfl, r4, o4⟩
        have x4 := x3.only o4 hgb
        have l4 := bOnly l3 o4 hb2 (Nat.le_refl _)
        clear x3 r3 l3 o4 cn
        have cn := x4.n
        go_wp2_with fail
        refine (raw_at b op.n s 3 w7 r4).mono ?_
        rw [HR.out]
        rintro e w8 ⟨rfl, r5, o5⟩
        have l5 := bOnly l4 o5 hb2 (Nat.le_refl _)
        clear x4 r4 l4 o5 cn
        go_wp2_with fail
        refine (left_at b _ w8 r5.rest).mono ?_
        rintro e w9 ⟨rfl, rfl⟩
        go_wp2_with fail
        refine (err_rd b s 3 w8 r5).mono ?_
        rintro e w9 ⟨rfl, rfl⟩
        go_wp2
        go_roundw
        case rel => exact ⟨k + 1, by omega, by go_num, r5, l5⟩
        case measure => simp [intOf]; omega
      · go_wp2_with fail
        refine (done_at b s 3 wr hr).mono ?_
        rintro e w9 ⟨rfl, rfl⟩
        have hd : V.doneF s 3 = 3 := by unfold V.doneF; rw [if_pos (by decide)]
        rw [hd]
        clear hd
        go_wp2
        go_ret
        exact ⟨rfl, hbel⟩

open Go.ChangeShapes Go.WideShapes Go.ChangeAt
theorem own : ownKnob Try.prog.godebug = none := by kernel_rfl
theorem laidOut : laidOutB Try.prog = true := by kernel_rfl

set_option maxRecDepth 100000 in
theorem lifted (os : Os) (started : os.Started) (H : Type) (enc : TypeId × Value → H) :
    ReturnsInHanded {} Try.checked os 9 .any (Rows.varintStopsSpec.pre6 enc Try.prog Try.f9 Rows.varintStopsRow.domain false) (Rows.varintStopsSpec.post enc Try.prog Try.f9 false true false false) := by
  refine returnsInHanded_of_change (C := Try.checked) own started (by kernel_rfl) Try.func9
    (ChangeSpec.witness6 (enc := enc) (C := Try.checked) false ⟨#[], #[.string ⟨#[]⟩, .slice none 0 0], []⟩ 8 (by kernel_rfl) (by kernel_rfl) (by kernel_rfl) (by kernel_rfl)) ?_
  intro W base args ds gs before hval0 hW hcnd _
  have hval : ∀ (j : Nat) t v, Try.f9.params[j]? = some t → args[j]? = some v → Value.okWide Try.prog W .any base t v := hval0
  have hW' := hW
  obtain ⟨p, q, hA0, hV, rfl, hfz, hnd⟩ := hW
  have hA : DataW.TrodAll enc Try.prog W 0 (fun _ => true) true Try.f9.params.toList args.toList ds p := hA0
  rw [Try.params9] at hA hval
  obtain ⟨v0, vs0, d0, ds0, p0, q0, hargs, rfl, rfl, h0, r0⟩ := trodAll_cons hA
  obtain ⟨v1, vs1, d1, ds1, p1, q1, rfl, rfl, rfl, h1, r1⟩ := trodAll_cons r0
  obtain ⟨rfl, rfl, rfl⟩ := trodAll_nil r1
  obtain rfl : args = #[v0, v1] := by cases args; simp_all
  obtain ⟨rfl, rfl⟩ := trodVars_none hV
  have k0 := h0
  have lt0 : ∀ x ∈ p0, x.block < W.heap.size := by obtain ⟨m, hm⟩ := k0; exact DataW.trod_lt m _ _ _ hm
  have k1 := h1
  have lt1 : ∀ x ∈ p1, x.block < W.heap.size := by obtain ⟨m, hm⟩ := k1; exact DataW.trod_lt m _ _ _ hm
  obtain ⟨a0, rfl, _, _, w0⟩ := Go.ChangeMaps.open_string Try.underlying9 (hval 0 9 v0 rfl rfl) h0
  obtain ⟨a1, len1, cap1, o1, rfl, w1⟩ := open_ops (hval 1 22 v1 rfl rfl) h1
  clear hA0 hval0
  refine (walk a0.data.toList a1 len1 cap1 o1 W (by simpa [maxLen] using w0) w1).mono fun e W' ⟨he, bel⟩ => ?_
  subst he
  exact ⟨_, rfl, _, _, _, [], _, [], hW', trodAll_mk1 (shut_bool Try.underlying4 _), (trodAll_cons_mk (Below.trod laidOut (by kernel_rfl) (of_decide_eq_true (by kernel_rfl)) k0 bel lt0) (trodAll_cons_mk (Below.trod laidOut (by kernel_rfl) (of_decide_eq_true (by kernel_rfl)) k1 bel lt1) trodAll_mk0)), rfl, bel.frame _, fun h => by cases h⟩

theorem over : Rows.varintStopsRow.holds Try.pinned (OpenSpec.ofChange Rows.varintStopsSpec) :=
  OpenClaim.holds_of_wide 9 Try.f9 rfl rfl rfl rfl rfl rfl rfl ⟨rfl, rfl, rfl, rfl, rfl⟩ rfl rfl rfl rfl rfl (by kernel_rfl) Try.func9 (by kernel_rfl)
    (of_decide_eq_true (by kernel_rfl)) (by unfold Func.isWrapper; first | (rw [if_pos (by decide +kernel)]; kernel_rfl) | (rw [if_neg (by decide +kernel)]; exact ⟨rfl, rfl⟩))
    (fun os started H enc _ => lifted os started H enc)
end Go.Proofs.Ytppfejkkfgjikaa.LVarintStops

namespace Go.Proofs.Ytppfejkkfgjikaa
theorem varintStops_holds : Rows.VarintStopsSaid := LVarintStops.over
#print axioms varintStops_holds
end Go.Proofs.Ytppfejkkfgjikaa

