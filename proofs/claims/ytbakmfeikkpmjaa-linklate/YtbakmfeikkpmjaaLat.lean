/- Proved: for every two texts and every list of texts the law LinkLate returns true (one that is late comes behind the next one that isn't; nothing that isn't lost stays out), and its arguments read behind the call as they read before. Condition: none of our own. -/
import Derived.Test.YtbakmfeikkpmjaaOp
namespace Go.Proofs.Ytbakmfeikkpmjaa.LLinkLate
open Go.RowKit

theorem hurt0 (x : List UInt8) : hurtP x (kF 0) = x := by
  unfold hurtP
  by_cases hx0 : x = []
  · rw [if_pos hx0, hx0]
  · rw [if_neg hx0, if_neg (by show ¬ (0 : Int) = 4; omega), if_neg (by show ¬ (0 : Int) = 5; omega)]
theorem send0 (b : Nat) (x : List UInt8) (K : List Nat) (v w : World) (W T : Texts) (hl : W.length + T.length ≤ 900000) (h : Lk v K b W T) (m : Mv w [] v K) :
    Calls Try.prog 8 #[.pointer (some ⟨b, 0, none⟩), .string ⟨x.toArray⟩, .agg #[.int .i64 0, .int .i64 0, .int .u32 0]] v fun e w' => e = .returned (.tuple #[]) ∧ ∃ K', Lk w' K' b (W ++ [x] ++ T) [] ∧ Mv w [] w' K' := by
  refine (lsend x (kF 0) (fun h3 => by have : (0 : Int) = 4 ∨ (0 : Int) = 5 := h3; omega) (by show 0 < 4294967296; omega) h hl).mono ?_
  rintro e w' ⟨e1, K', h1, m1⟩
  refine ⟨e1, K', ?_, m.then m1⟩
  have e3 : sendP W T x (kF 0) = (W ++ [x] ++ T, []) := by
    unfold sendP
    rw [if_neg (by show ¬ (0 : Int) = 1; omega), if_neg (by show ¬ (0 : Int) = 3; omega), if_neg (by show ¬ (0 : Int) = 2; omega), hurt0]
  rw [e3] at h1
  exact h1
theorem send3 (b : Nat) (x : List UInt8) (K : List Nat) (v w : World) (W T : Texts) (hl : W.length + T.length ≤ 900000) (h : Lk v K b W T) (m : Mv w [] v K) :
    Calls Try.prog 8 #[.pointer (some ⟨b, 0, none⟩), .string ⟨x.toArray⟩, .agg #[.int .i64 3, .int .i64 0, .int .u32 0]] v fun e w' => e = .returned (.tuple #[]) ∧ ∃ K', Lk w' K' b W (T ++ [x]) ∧ Mv w [] w' K' := by
  refine (lsend x (kF 3) (fun h3 => by have : (3 : Int) = 4 ∨ (3 : Int) = 5 := h3; omega) (by show 0 < 4294967296; omega) h hl).mono ?_
  rintro e w' ⟨e1, K', h1, m1⟩
  refine ⟨e1, K', ?_, m.then m1⟩
  have e3 : sendP W T x (kF 3) = (W, T ++ [x]) := by
    unfold sendP
    rw [if_neg (by show ¬ (3 : Int) = 1; omega), if_pos (show (kF 3).kind = 3 from rfl)]
  rw [e3] at h1
  exact h1
def LtRel (w : World) (h : Texts) (l : Texts) (b : Nat) (i : Value) (wr : World) : Prop := ∃ (j : Nat) (K : List Nat), i = .int .i64 j ∧ j ≤ l.length ∧ Lk wr K b (h ++ l.take j) [] ∧ Mv w [] wr K

set_option maxRecDepth 100000 in
set_option maxHeartbeats 1000000 in
theorem walk (x y : List UInt8) (a : Option Addr) (cap : Nat) (l : Texts) (w : World) (_hx : x.length ≤ 9223372036854775807) (_hy : y.length ≤ 9223372036854775807) (hl : ArgN se w a cap l) : Calls Try.prog 5 #[.string ⟨x.toArray⟩, .string ⟨y.toArray⟩, .slice a l.length cap] w fun e w' => e = .returned (.bool true) ∧ Keep w w' := by
  have hlm := hl.small
  have hlm2 : l.length ≤ 9223372036854775807 := by unfold maxLen at hlm; omega
  have HL := Lib.hid hl
  clear hlm hl
  by_cases hbig : 50 < l.length ∨ x = y
  · clear HL
    generalize l.length = N at *
    by_cases h5 : 50 < N
    · go_enter Try.func5, Try.ntmps5
      go_wp2_with fail
      refine (awake w).mono ?_
      rintro e w1 ⟨rfl, k1⟩
      go_wp2_with fail
      refine (awake w1).mono ?_
      rintro e w2 ⟨rfl, k2⟩
      go_wp2
      go_ret
      exact ⟨rfl, k1.trans k2⟩
    · obtain rfl : x = y := hbig.resolve_left h5
      go_enter Try.func5, Try.ntmps5
      go_wp2_with fail
      refine (awake w).mono ?_
      rintro e w1 ⟨rfl, k1⟩
      go_wp2_with fail
      refine (awake w1).mono ?_
      rintro e w2 ⟨rfl, k2⟩
      go_wp2
      go_ret
      exact ⟨rfl, k1.trans k2⟩
  · have hs : l.length ≤ 50 := by omega
    have hxy : (x == y) = false := by simp only [beq_eq_false_iff_ne]; exact fun e => hbig (.inr e)
    obtain ⟨N, hN⟩ : ∃ N, l.length = N := ⟨_, rfl⟩
    have HN := Lib.hid hN
    rw [hN] at hlm2 hs ⊢
    clear hN hbig
    go_enter Try.func5, Try.ntmps5
    go_wp2_with fail
    refine (awake w).mono ?_
    rintro e w1 ⟨rfl, k1⟩
    have K1 := Lib.hid k1
    clear k1
    go_wp2_with fail
    refine (lnew w1).mono ?_
    rintro e w2 ⟨b, K, rfl, hZ, hF, hK⟩
    have HS := Lib.hid (send3 b x K w2 w [] [] (by simp) hZ (Mv.mk (Turn.keep [] (K1.out.trans hK)) (show More w [] K from fun k hk => .inr (Nat.le_trans K1.out.size (hF k hk)))))
    clear hZ hF hK
    go_wp2_with fail
    refine HS.out.mono ?_
    rintro e w3 ⟨rfl, K3, h3, m3⟩
    have HS3 := Lib.hid (send0 b y K3 w3 w [] [x] (by simp) h3 m3)
    clear h3 m3 HS
    go_wp2_with fail
    refine HS3.out.mono ?_
    rintro e w4 ⟨rfl, K4, h4, m4⟩
    have HZ := Lib.hid (show Lk w4 K4 b [y, x] [] from h4)
    have HM := Lib.hid m4
    clear h4 m4 HS3
    go_wp2_with fail
    go_loopw [35] (fun i wr => LtRel w [y, x] l b i wr) (fun i _ => N - (intOf i).toNat)
    case atStart => exact ⟨0, K4, rfl, Nat.zero_le _, HZ.out, HM.out⟩
    case round =>
      obtain ⟨j, K', rfl, hj, hz, hm⟩ := hrel
      rw [HN.out] at hj
      have HZj := Lib.hid hz
      have HMj := Lib.hid hm
      by_cases hlt : j < N
      · have hcs := HL.out.cells (fun e => by have := HN.out; rw [e] at this; simp at this; omega)
        rw [HN.out] at hcs
        obtain ⟨g, o, cap', e1, _, _, _⟩ := hcs.ptr j (by rw [HN.out]; exact hlt)
        rw [HN.out] at e1
        simp at e1
        obtain ⟨rfl, rfl⟩ := e1
        obtain ⟨z, hx⟩ : ∃ z, l[j]? = some z := ⟨_, List.getElem?_eq_getElem (by rw [HN.out]; exact hlt)⟩
        rw [← HN.out] at hcs
        have hc := (hcs.keep hm.toKeep).txt j z hx
        have HS := Lib.hid (send0 b z K' wr w ([y, x] ++ l.take j) [] (by simp; omega) hz hm)
        have HX := Lib.hid hx
        clear hcs hx hz hm HZ HM
        go_wp2_with fail
        refine HS.out.mono ?_
        rintro e w3 ⟨rfl, K3, h3, m3⟩
        have H3 := Lib.hid (show Lk w3 K3 b ([y, x] ++ l.take (j + 1)) [] from by
          rw [List.take_add_one, HX.out]
          rw [List.append_nil, List.append_assoc] at h3
          exact h3)
        have M3 := Lib.hid m3
        clear h3 m3 HS hc
        go_wp2
        go_roundw
        case rel => exact ⟨j + 1, K3, by go_num, by rw [HN.out]; omega, H3.out, M3.out⟩
        case measure => simp [intOf]; omega
      · have hjN : j = N := by omega
        have hz2 : Lk wr K' b ([y, x] ++ l) [] := by rw [← List.take_of_length_le (l := l) (i := j) (by rw [HN.out]; omega)]; exact hz
        have HA := Lib.hid (lall hz2 (by simp; have := HN.out; omega))
        have HMa := Lib.hid hm
        clear hz hm hz2 HZ HM HZj HMj
        go_wp2_with fail
        refine HA.out.mono ?_
        rintro e w5 ⟨v, rfl, hO, K5, _, m5⟩
        have hv := OwnS.cells hO
        rw [List.append_nil] at hv
        obtain ⟨g, o, c, hvf, _, _, _⟩ := hv.ptr 0 (by simp)
        rw [hvf] at hv
        have c0 := hv.txt 0 y rfl
        have c1 := hv.txt 1 x rfl
        have K5 := Lib.hid (HMa.out.then m5.mv).toKeep
        have hlen : ([y, x] ++ l).length = N + 2 := by simp; exact HN.out
        rw [hlen] at hvf
        subst hvf
        rw [Nat.add_zero] at c0
        clear hv hO m5 HA hlen
        go_wp2
        go_ret
        exact ⟨rfl, K5.out⟩

open Go.ChangeShapes Go.WideShapes Go.ChangeAt
theorem own : ownKnob Try.prog.godebug = none := by kernel_rfl
theorem laidOut : laidOutB Try.prog = true := by kernel_rfl

set_option maxRecDepth 100000 in
theorem lifted (os : Os) (started : os.Started) (H : Type) (enc : TypeId × Value → H) :
    ReturnsInHanded {} Try.checked os 5 .any (Rows.linkLateSpec.pre6 enc Try.prog Try.f5 Rows.linkLateRow.domain false) (Rows.linkLateSpec.post enc Try.prog Try.f5 false true false false) := by
  refine returnsInHanded_of_change (C := Try.checked) own started (by kernel_rfl) Try.func5
    (ChangeSpec.witness6 (enc := enc) (C := Try.checked) false ⟨#[], #[.string ⟨#[]⟩, .string ⟨#[]⟩, .slice none 0 0], []⟩ 8 (by kernel_rfl) (by kernel_rfl) (by kernel_rfl) (by kernel_rfl)) ?_
  intro W base args ds gs before hval0 hW hcnd _
  have hval : ∀ (j : Nat) t v, Try.f5.params[j]? = some t → args[j]? = some v → Value.okWide Try.prog W .any base t v := hval0
  have hW' := hW
  obtain ⟨p, q, hA0, hV, rfl, hfz, hnd⟩ := hW
  have hA : DataW.TrodAll enc Try.prog W 0 (fun _ => true) true Try.f5.params.toList args.toList ds p := hA0

  rw [Try.params5] at hA hval
  obtain ⟨v0, vs0, d0, ds0, p0, q0, hargs, rfl, rfl, h0, r0⟩ := trodAll_cons hA
  obtain ⟨v1, vs1, d1, ds1, p1, q1, rfl, rfl, rfl, h1, r1⟩ := trodAll_cons r0
  obtain ⟨v2, vs2, d2, ds2, p2, q2, rfl, rfl, rfl, h2, r2⟩ := trodAll_cons r1
  obtain ⟨rfl, rfl, rfl⟩ := trodAll_nil r2
  obtain rfl : args = #[v0, v1, v2] := by cases args; simp_all
  obtain ⟨rfl, rfl⟩ := trodVars_none hV
  have k0 := h0
  have lt0 : ∀ x ∈ p0, x.block < W.heap.size := by obtain ⟨m, hm⟩ := k0; exact DataW.trod_lt m _ _ _ hm
  have k1 := h1
  have lt1 : ∀ x ∈ p1, x.block < W.heap.size := by obtain ⟨m, hm⟩ := k1; exact DataW.trod_lt m _ _ _ hm
  have k2 := h2
  have lt2 : ∀ x ∈ p2, x.block < W.heap.size := by obtain ⟨m, hm⟩ := k2; exact DataW.trod_lt m _ _ _ hm
  obtain ⟨a0, rfl, _, _, w0⟩ := Go.ChangeMaps.open_string Try.underlying9 (hval 0 9 v0 rfl rfl) h0
  obtain ⟨a1, rfl, _, _, w1⟩ := Go.ChangeMaps.open_string Try.underlying9 (hval 1 9 v1 rfl rfl) h1
  obtain ⟨a2, cap2, l2, rfl, f2⟩ := open_texts (hval 2 33 v2 rfl rfl) h2
  clear hA0 hval0
  refine (walk a0.data.toList a1.data.toList a2 cap2 l2 W (by simpa [maxLen] using w0) (by simpa [maxLen] using w1) f2).mono fun e W' ⟨he, bel⟩ => ?_
  subst he
  exact ⟨_, rfl, _, _, _, [], _, [], hW', trodAll_mk1 (shut_bool Try.underlying4 _), (trodAll_cons_mk (Below.trod laidOut (by kernel_rfl) (of_decide_eq_true (by kernel_rfl)) k0 bel lt0) (trodAll_cons_mk (Below.trod laidOut (by kernel_rfl) (of_decide_eq_true (by kernel_rfl)) k1 bel lt1) (trodAll_cons_mk (Below.trod laidOut (by kernel_rfl) (of_decide_eq_true (by kernel_rfl)) k2 bel lt2) trodAll_mk0))), rfl, bel.frame _, fun h => by cases h⟩

theorem over : Rows.linkLateRow.holds Try.pinned (OpenSpec.ofChange Rows.linkLateSpec) :=
  OpenClaim.holds_of_wide 5 Try.f5 rfl rfl rfl rfl rfl rfl rfl ⟨rfl, rfl, rfl, rfl, rfl⟩ rfl rfl rfl rfl rfl (by kernel_rfl) Try.func5 (by kernel_rfl)
    (of_decide_eq_true (by kernel_rfl)) (by unfold Func.isWrapper; first | (rw [if_pos (by decide +kernel)]; kernel_rfl) | (rw [if_neg (by decide +kernel)]; exact ⟨rfl, rfl⟩))
    (fun os started H enc _ => lifted os started H enc)
end Go.Proofs.Ytbakmfeikkpmjaa.LLinkLate

namespace Go.Proofs.Ytbakmfeikkpmjaa
theorem linkLate_holds : Rows.LinkLateSaid := LLinkLate.over
#print axioms linkLate_holds
end Go.Proofs.Ytbakmfeikkpmjaa

