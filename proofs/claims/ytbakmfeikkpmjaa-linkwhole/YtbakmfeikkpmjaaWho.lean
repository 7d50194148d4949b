/- Proved: for every list of texts the law LinkWhole returns true (without a fate all comes, as it was sent, in order), and its argument reads behind the call as it read before. Condition: none of our own. -/
import Derived.Test.YtbakmfeikkpmjaaOp
namespace Go.Proofs.Ytbakmfeikkpmjaa.LLinkWhole
open Go.RowKit

def SeRel (w : World) (l : Texts) (b : Nat) (i : Value) (wr : World) : Prop := ∃ (j : Nat) (K : List Nat), i = .int .i64 j ∧ j ≤ l.length ∧ Lk wr K b (l.take j) [] ∧ Mv w [] wr K
def ArRel (w : World) (l : Texts) (b : Nat) (i : Value) (wr : World) : Prop := ∃ (j : Nat) (K : List Nat) (W T : Texts), i = .int .i64 j ∧ j ≤ l.length ∧ W ++ T = l.drop j ∧ Lk wr K b W T ∧ Mv w [] wr K
theorem send0 (w : World) (l : Texts) (b j : Nat) (hj : j < l.length) (hl : l.length ≤ 200) (x : List UInt8) (hx : l[j]? = some x) (K : List Nat) (v : World) (h : Lk v K b (l.take j) []) (m : Mv w [] v K) :
    Calls Try.prog 8 #[.pointer (some ⟨b, 0, none⟩), .string ⟨x.toArray⟩, .agg #[.int .i64 0, .int .i64 0, .int .u32 0]] v fun e w' => e = .returned (.tuple #[]) ∧ ∃ K', Lk w' K' b (l.take (j + 1)) [] ∧ Mv w [] w' K' := by
  refine (lsend x (kF 0) (fun h3 => by have : (0 : Int) = 4 ∨ (0 : Int) = 5 := h3; omega) (by show 0 < 4294967296; omega) h (by simp; omega)).mono ?_
  rintro e w' ⟨e1, K', h1, m1⟩
  refine ⟨e1, K', ?_, m.then m1⟩
  have e2 : hurtP x (kF 0) = x := by
    unfold hurtP
    by_cases hx0 : x = []
    · rw [if_pos hx0, hx0]
    · rw [if_neg hx0, if_neg (by show ¬ (0 : Int) = 4; omega), if_neg (by show ¬ (0 : Int) = 5; omega)]
  have e3 : sendP (l.take j) [] x (kF 0) = (l.take (j + 1), []) := by
    unfold sendP
    rw [if_neg (by show ¬ (0 : Int) = 1; omega), if_neg (by show ¬ (0 : Int) = 3; omega), if_neg (by show ¬ (0 : Int) = 2; omega), e2, List.take_add_one, hx, List.append_nil]
    rfl
  rw [e3] at h1
  exact h1

set_option maxRecDepth 100000 in
set_option maxHeartbeats 1000000 in
theorem walk (a : Option Addr) (cap : Nat) (l : Texts) (w : World) (hl : ArgN se w a cap l) : Calls Try.prog 4 #[.slice a l.length cap] w fun e w' => e = .returned (.bool true) ∧ Keep w w' := by
  have hlm := hl.small
  have hlm2 : l.length ≤ 9223372036854775807 := by unfold maxLen at hlm; omega
  have HL := Lib.hid hl
  clear hlm hl
  by_cases hbig : 200 < l.length
  · clear HL
    generalize l.length = N at *
    go_enter Try.func4, Try.ntmps4
    go_wp2_with fail
    refine (awake w).mono ?_
    rintro e w1 ⟨rfl, k1⟩
    go_wp2_with fail
    refine (awake w1).mono ?_
    rintro e w2 ⟨rfl, k2⟩
    go_wp2
    go_ret
    exact ⟨rfl, k1.trans k2⟩
  · have hs : l.length ≤ 200 := by omega
    obtain ⟨N, hN⟩ : ∃ N, l.length = N := ⟨_, rfl⟩
    have HN := Lib.hid hN
    rw [hN] at hbig hlm2 hs ⊢
    clear hN
    go_enter Try.func4, Try.ntmps4
    go_wp2_with fail
    refine (awake w).mono ?_
    rintro e w1 ⟨rfl, k1⟩
    have K1 := Lib.hid k1
    clear k1
    go_wp2_with fail
    refine (lnew w1).mono ?_
    rintro e w2 ⟨b, K, rfl, hZ, hF, hK⟩
    have HM := Lib.hid (Mv.mk (Turn.keep [] (K1.out.trans hK)) (show More w [] K from fun k hk => .inr (Nat.le_trans K1.out.size (hF k hk))))
    have HZ := Lib.hid hZ
    clear hZ hF hK
    go_wp2_with fail
    go_loopw [23] (fun i wr => SeRel w l b i wr) (fun i _ => N - (intOf i).toNat)
    case atStart => exact ⟨0, K, rfl, Nat.zero_le _, HZ.out, HM.out⟩
    case round =>
      obtain ⟨j, K', rfl, hj, hz, hm⟩ := hrel
      rw [HN.out] at hj
      have HZj := Lib.hid hz
      have HMj := Lib.hid hm
      by_cases hlt : j < N
      · have hcs := HL.out.cells (fun e => by have := HN.out; rw [e] at this; simp at this; omega)
        rw [HN.out] at hcs
        obtain ⟨g, o, cap', e1, _, _, _⟩ := hcs.ptr j (by rw [HN.out]; exact hlt)
        rw [HN.out] at e1
        simp at e1
        obtain ⟨rfl, rfl⟩ := e1
        obtain ⟨x, hx⟩ : ∃ x, l[j]? = some x := ⟨_, List.getElem?_eq_getElem (by rw [HN.out]; exact hlt)⟩
        rw [← HN.out] at hcs
        have hc := (hcs.keep hm.toKeep).txt j x hx
        have HS := Lib.hid (send0 w l b j (by rw [HN.out]; exact hlt) (by rw [HN.out]; exact hs) x hx K' wr hz hm)
        clear hcs hx hz hm HZ HM
        go_wp2_with fail
        refine HS.out.mono ?_
        rintro e w3 ⟨rfl, K3, h3, m3⟩
        have H3 := Lib.hid h3
        have M3 := Lib.hid m3
        clear h3 m3 HS hc
        go_wp2
        go_roundw
        case rel => exact ⟨j + 1, K3, by go_num, by rw [HN.out]; omega, H3.out, M3.out⟩
        case measure => simp [intOf]; omega
      · have hjN : j = N := by omega
        subst hjN
        have HZa := Lib.hid (show Lk wr K' b l [] by rw [← List.take_of_length_le (l := l) (i := j) (by rw [HN.out]; exact Nat.le_refl _)]; exact hz)
        have HMa := Lib.hid hm
        clear hz hm HZ HM HZj HMj
        go_wp2_with fail
        go_loopw [34] (fun i wr => ArRel w l b i wr) (fun i _ => j - (intOf i).toNat)
        case atStart => exact ⟨0, K', l, [], rfl, Nat.zero_le _, by simp, HZa.out, HMa.out⟩
        case round =>
          obtain ⟨q, K4, W, T, rfl, hq, hWT, hz, hm⟩ := hrel
          rw [HN.out] at hq
          by_cases hlt : q < j
          · have hcs := HL.out.cells (fun e => by have := HN.out; rw [e] at this; simp at this; omega)
            rw [HN.out] at hcs
            obtain ⟨g, o, cap', e1, _, _, _⟩ := hcs.ptr q (by rw [HN.out]; exact hlt)
            rw [HN.out] at e1
            simp at e1
            obtain ⟨rfl, rfl⟩ := e1
            obtain ⟨x, hx⟩ : ∃ x, l[q]? = some x := ⟨_, List.getElem?_eq_getElem (by rw [HN.out]; exact hlt)⟩
            rw [← HN.out] at hcs
            have hc := (hcs.keep hm.toKeep).txt q x hx
            have hdr : l.drop q = x :: l.drop (q + 1) := by
              obtain ⟨h1, h2⟩ := List.getElem?_eq_some_iff.1 hx
              rw [List.drop_eq_getElem_cons h1, h2]
            have HA := Lib.hid (larrive hz (hWT.trans hdr))
            have HMq := Lib.hid hm
            clear hcs hx hz hm hdr hWT HZa HMa
            go_wp2_with fail
            refine HA.out.mono ?_
            rintro e w3 ⟨rfl, K3, W3, T3, e3, h3, m3⟩
            have H3 := Lib.hid h3
            have M3 := Lib.hid (HMq.out.then m3.mv)
            have E3 := Lib.hid e3
            have hlen : W3.length + T3.length + q + 1 = j := by
              have := congrArg List.length e3
              rw [List.length_append, List.length_drop, HN.out] at this
              omega
            have HLe := Lib.hid (llen h3 (by omega))
            clear h3 m3 e3 HA hc
            generalize W3.length + T3.length = m at *
            have hmm : ((m : Int) != (j : Int) - (q : Int) - 1) = false := by simp; omega
            go_wp2_with fail
            refine HLe.out.mono ?_
            rintro e w4 ⟨rfl, k4⟩
            have H4 := Lib.hid (H3.out.keep k4)
            have M4 := Lib.hid (M3.out.then (Mv.keep _ k4))
            clear k4 HLe
            go_wp2
            go_roundw
            case rel => exact ⟨q + 1, K3, W3, T3, by go_num, by rw [HN.out]; omega, E3.out, H4.out, M4.out⟩
            case measure => simp [intOf]; omega
          · have hqj : q = j := by omega
            have hnil : W ++ T = [] := by rw [hWT, List.drop_of_length_le (by rw [HN.out]; omega)]
            obtain ⟨rfl, rfl⟩ : W = [] ∧ T = [] := by simpa using hnil
            have HA := Lib.hid (arr_none hz)
            have HMq := Lib.hid hm
            clear hz hm hnil hWT HZa HMa
            go_wp2_with fail
            refine HA.out.mono ?_
            rintro e w3 ⟨rfl, rfl⟩
            go_wp2
            go_ret
            exact ⟨rfl, HMq.out.toKeep⟩

open Go.ChangeShapes Go.WideShapes Go.ChangeAt
theorem own : ownKnob Try.prog.godebug = none := by kernel_rfl
theorem laidOut : laidOutB Try.prog = true := by kernel_rfl

set_option maxRecDepth 100000 in
theorem lifted (os : Os) (started : os.Started) (H : Type) (enc : TypeId × Value → H) :
    ReturnsInHanded {} Try.checked os 4 .any (Rows.linkWholeSpec.pre6 enc Try.prog Try.f4 Rows.linkWholeRow.domain false) (Rows.linkWholeSpec.post enc Try.prog Try.f4 false true false false) := by
  refine returnsInHanded_of_change (C := Try.checked) own started (by kernel_rfl) Try.func4
    (ChangeSpec.witness6 (enc := enc) (C := Try.checked) false ⟨#[], #[.slice none 0 0], []⟩ 8 (by kernel_rfl) (by kernel_rfl) (by kernel_rfl) (by kernel_rfl)) ?_
  intro W base args ds gs before hval0 hW hcnd _
  have hval : ∀ (j : Nat) t v, Try.f4.params[j]? = some t → args[j]? = some v → Value.okWide Try.prog W .any base t v := hval0
  have hW' := hW
  obtain ⟨p, q, hA0, hV, rfl, hfz, hnd⟩ := hW
  have hA : DataW.TrodAll enc Try.prog W 0 (fun _ => true) true Try.f4.params.toList args.toList ds p := hA0

  rw [Try.params4] at hA hval
  obtain ⟨v0, vs0, d0, ds0, p0, q0, hargs, rfl, rfl, h0, r0⟩ := trodAll_cons hA
  obtain ⟨rfl, rfl, rfl⟩ := trodAll_nil r0
  obtain rfl : args = #[v0] := by cases args; simp_all
  obtain ⟨rfl, rfl⟩ := trodVars_none hV
  have k0 := h0
  have lt0 : ∀ x ∈ p0, x.block < W.heap.size := by obtain ⟨m, hm⟩ := k0; exact DataW.trod_lt m _ _ _ hm
  obtain ⟨a0, cap0, l0, rfl, f0⟩ := open_texts (hval 0 33 v0 rfl rfl) h0
  clear hA0 hval0
  refine (walk a0 cap0 l0 W f0).mono fun e W' ⟨he, bel⟩ => ?_
  subst he
  exact ⟨_, rfl, _, _, _, [], _, [], hW', trodAll_mk1 (shut_bool Try.underlying4 _), (trodAll_cons_mk (Below.trod laidOut (by kernel_rfl) (of_decide_eq_true (by kernel_rfl)) k0 bel lt0) trodAll_mk0), rfl, bel.frame _, fun h => by cases h⟩

theorem over : Rows.linkWholeRow.holds Try.pinned (OpenSpec.ofChange Rows.linkWholeSpec) :=
  OpenClaim.holds_of_wide 4 Try.f4 rfl rfl rfl rfl rfl rfl rfl ⟨rfl, rfl, rfl, rfl, rfl⟩ rfl rfl rfl rfl rfl (by kernel_rfl) Try.func4 (by kernel_rfl)
    (of_decide_eq_true (by kernel_rfl)) (by unfold Func.isWrapper; first | (rw [if_pos (by decide +kernel)]; kernel_rfl) | (rw [if_neg (by decide +kernel)]; exact ⟨rfl, rfl⟩))
    (fun os started H enc _ => lifted os started H enc)
end Go.Proofs.Ytbakmfeikkpmjaa.LLinkWhole

namespace Go.Proofs.Ytbakmfeikkpmjaa
theorem linkWhole_holds : Rows.LinkWholeSaid := LLinkWhole.over
#print axioms linkWhole_holds
end Go.Proofs.Ytbakmfeikkpmjaa

