/- Proved: for every list of texts the law SenderWhole returns true (told at each tick that all that was sent is there, a sender sends each chunk once, and ends behind as many ticks as there are eights of chunks), and its argument reads behind the call as it read before. Condition, by the row's own list: math/bits.deBruijn64tab starts as the program's text lays it (the card ties that). -/
import Derived.Test.YtcnaaoakcmdfkaaDoorWk
namespace Go.Proofs.YtcnaaoakcmdfkaaDoor.LSenderWhole
open Go.RowKit

def WhRel (b bm bc : Nat) (n : Nat) (W : World) (nv iv : Value) (wr : World) : Prop :=
  ∃ (k : Nat) (s : Sd), iv = .int .i64 k ∧ nv = .int .i64 (min (8 * k) n : Nat) ∧ k ≤ (n + 7) / 8 ∧ S wr b bm bc s ∧ Wh n k s ∧ Turn [b, bm, bc] W wr
def InRel (k m : Nat) (W : World) (nv iv : Value) (wr : World) : Prop :=
  ∃ j : Nat, iv = .int .i64 j ∧ nv = .int .i64 (8 * k + j : Nat) ∧ j ≤ m ∧ Keep W wr
set_option maxRecDepth 100000 in
set_option maxHeartbeats 1000000 in
theorem walk (a : Option Addr) (cap : Nat) (L : List (List UInt8)) (w : World) (h : ArgN se w a cap L) (ht : Tab w) : Calls Tryd.prog 8 #[.slice a L.length cap] w fun e w' => e = .returned (.bool true) ∧ Keep w w' := by
  have HA := Lib.hid h
  have HT := Lib.hid ht
  have HM := Lib.hid (fun v (k : Keep w v) => qmay 1 2 a cap L v (h.toArgL.keep k))
  by_cases hm : mayP 1 2 L
  rotate_left
  · rw [decide_eq_false hm] at HM
    clear hm h ht
    generalize L.length = N at *
    go_enter Tryd.func8, Tryd.ntmps8
    go_wp2_with fail
    refine (awake w HT.out).mono ?_
    rintro e v1 ⟨rfl, k1⟩
    go_wp2_with fail
    refine (HM.out v1 k1).mono ?_
    rintro e v2 ⟨rfl, rfl⟩
    go_wp2_with fail
    refine (awake v2 (HT.out.keep k1)).mono ?_
    rintro e v3 ⟨rfl, k3⟩
    go_wp2
    go_ret
    exact ⟨rfl, k1.trans k3⟩
  · rw [decide_eq_true hm] at HM
    have HMay := Lib.hid hm
    obtain ⟨N, hN⟩ : ∃ N, L.length = N := ⟨_, rfl⟩
    have HN := Lib.hid hN
    have hn1 : 1 ≤ N := by rw [← hN]; exact hm.2.2.2.1
    have hn2 : N ≤ 256 := by rw [← hN]; exact hm.2.2.2.2
    rw [hN] at HM ⊢
    clear hm h ht hN
    go_enter Tryd.func8, Tryd.ntmps8
    go_wp2_with fail
    refine (awake w HT.out).mono ?_
    rintro e v1 ⟨rfl, k1⟩
    go_wp2_with fail
    refine (HM.out v1 k1).mono ?_
    rintro e v2 ⟨rfl, rfl⟩
    have HK1 := Lib.hid k1
    clear k1 HM
    go_wp2_with (at_builtin; refine wp_appN elS rfl _ _ rfl v2.heap.size _ a N cap [] L rfl HN.out rfl (Own.made v2.heap.size v2 (Nat.le_refl _)) (HA.out.keep (HK1.out.trans ((Keep.refl v2).alloc _))) ?q1 ?q2 ?q3 ?_)
    case q1 => rw [HN.out]; simp; omega
    case q2 => rw [HN.out]; simp; omega
    case q3 => simp
    intro cv v3 hO hG
    have HO := Lib.hid hO
    have HK3 := Lib.hid (show Keep v2 v3 from (Own.made (t := 9) (k := 1) (enc := se) v2.heap.size v2 (Nat.le_refl _)).grown ((Keep.refl v2).alloc _) (Nat.le_refl _) hG)
    clear hO hG
    go_wp2_with fail
    refine (snew_at 1 2 cv L v3 ((HT.out.keep HK1.out).keep HK3.out) (OwnS.cells HO.out) (by rw [HN.out]; omega)).mono ?_
    rintro e v4 (⟨_, b, bm, bc, rfl, s0, g1, g2, g3, k4⟩ | ⟨h, _⟩)
    rotate_left
    · exact absurd HMay.out h
    have HS := Lib.hid s0
    have HL := Lib.hid (Wh.new L)
    rw [HN.out] at HL
    have HK4 := Lib.hid ((HK1.out.trans HK3.out).trans k4)
    have hz := (HK1.out.trans HK3.out).size
    have HG := Lib.hid (show w.heap.size ≤ b ∧ w.heap.size ≤ bm ∧ w.heap.size ≤ bc from ⟨by omega, by omega, by omega⟩)
    clear s0 g1 g2 g3 k4 hz
    go_wp2_with fail
    obtain ⟨Q, hQ⟩ : ∃ Q, (N + 7) / 8 = Q := ⟨_, rfl⟩
    rw [show ((N : Int) + 7) / 8 = (Q : Int) by omega]
    have HQ := Lib.hid hQ
    have hQ2 : Q ≤ 33 := by omega
    obtain ⟨n, hn⟩ : ∃ n, n = 6 := ⟨6, rfl⟩
    have hsz : ∀ w, (Go.sizeOf 34).run Tryd.prog w = .ok n w := fun w => by rw [hn]; exact Tryd.sizeOf34 w
    have hn0 : ¬ n = 0 := by omega
    obtain ⟨hz, _⟩ := zero_of_info infoF
    have HN6 := Lib.hid hn
    clear hn hQ
    go_loopw [5, 29] (fun nv iv wr => WhRel b bm bc N v4 nv iv wr) (fun _ i _ => 40 - (intOf i).toNat)
    case atStart => exact ⟨0, _, rfl, by simp, by omega, HS.out, HL.out, Turn.refl _ _⟩
    case round =>
      obtain ⟨k, s, rfl, rfl, hk, hS, hWh, hT⟩ := hrel
      rw [HQ.out] at hk
      have HS1 := Lib.hid hS
      have HWh := Lib.hid hWh
      have HT1 := Lib.hid hT
      clear hS hWh hT
      by_cases hlt : k < Q
      · have h8 : 8 * k < N := by have := HQ.out; omega
        obtain ⟨hE, hF, hA2, hW2⟩ := HWh.out.step h8
        have hnow := HWh.out.now
        have HTick := Lib.hid (tick_at HS1.out (by omega))
        rw [hE, hF] at HTick
        have HA2 := Lib.hid hA2
        have HW2 := Lib.hid hW2
        have hmin : min (8 * k) N = 8 * k := by omega
        rw [hmin]
        obtain ⟨m, hm⟩ : ∃ m, min (8 * (k + 1)) N - 8 * k = m := ⟨_, rfl⟩
        have hm8 : m ≤ 8 := by omega
        have hmm : min (8 * (k + 1)) N = 8 * k + m := by omega
        rw [hm] at HTick
        rw [hmm] at HA2 HW2
        have HMM := Lib.hid hmm
        clear hE hF hA2 hW2 hnow hmin hm hmm h8
        go_wp2_with fail
        refine HTick.out.mono ?_
        rintro e v5 ⟨lv, rfl, o5, s5, t5⟩
        have hlen : ((List.range' (8 * k) m).map s.on.frame).length = m := by simp
        have hoc := o5.cells
        obtain ⟨la, lcap, rfl, _, _⟩ := hoc.form
        have HLN := Lib.hid hlen
        have HOC := Lib.hid hoc
        have HS5 := Lib.hid s5
        have HT5 := Lib.hid (HT1.out.trans (t5.mono (by simp) : Turn [b, bm, bc] wr v5))
        rw [hlen]
        clear o5 s5 t5 HTick hoc hlen
        go_wp2_with fail
        generalize wr = wo at *
        go_loopw [5, 40] (fun nv iv wr => InRel k m v5 nv iv wr) (fun _ i _ => 10 - (intOf i).toNat)
        case atStart => exact ⟨0, rfl, by simp, Nat.zero_le _, Keep.refl _⟩
        case round =>
          obtain ⟨j, rfl, rfl, hj, hK⟩ := hrel
          have HK := Lib.hid hK
          clear hK
          by_cases hjm : j < m
          · obtain ⟨x, hx⟩ : ∃ x, ((List.range' (8 * k) m).map s.on.frame)[j]? = some x := ⟨_, List.getElem?_eq_getElem (by rw [HLN.out]; exact hjm)⟩
            have hxi : x.idx = ((8 * k + j : Nat) : Int) := by
              rw [List.getElem?_map, List.getElem?_range' hjm] at hx
              simp only [Option.map_some, Option.some.injEq] at hx
              rw [← hx, Nat.one_mul]
              rfl
            have hc := HOC.out.keep HK.out
            obtain ⟨g, o, cap', hv, _, _, _⟩ := hc.ptr j (by rw [HLN.out]; exact hjm)
            injection hv with e1 e2 e3
            subst e1 e3
            have hl6 := CelF.whole hc HN6.out j x hx
            have hst := (FAt.new wr zeroF).store x
            have hput := (FAt.new wr zeroF).put x
            have c3 := hput.idx
            rw [hxi] at c3
            have hzs : (fc x).size = n := by rw [HN6.out]; rfl
            have HK3 := Lib.hid (HK.out.trans (((Keep.refl wr).alloc (.cells (fc zeroF) 34)).setRow wr.heap.size (fc x) (Nat.le_refl _)))
            clear hc e2 hx hxi hput
            generalize fc x = C at *
            generalize fc zeroF = Z at *
            go_wp2
            go_roundw
            case rel => exact ⟨j + 1, by go_num, by go_num, by omega, HK3.out⟩
            case measure => simp [intOf]; omega
          · obtain rfl : j = m := by omega
            have HAck := Lib.hid (ack_at (ackF (8 * k + j) N) (HS5.out.keep HK.out) (by show (-9223372036854775808 : Int) ≤ ((8 * k + j : Nat) : Int); omega) (by show ((8 * k + j : Nat) : Int) ≤ 9223372036854775807; omega) (Nat.zero_le _))
            have HB := Lib.hid (fun w => build_frame5 2 1 2 ((8 * k + j : Nat) : Int) N w)
            go_wp2_with ((with_reducible refine at_build (t := 34) [(0, .int .i64 2), (1, .int .i64 1), (2, .int .i64 2), (3, .int .i64 ((8 * k + j : Nat) : Int)), (4, .int .i64 N)] ?_ (.agg (fc (ackF (8 * k + j) N))) ?_ ?_); rfl; exact HB.out _)
            refine HAck.out.mono ?_
            rintro e v7 ⟨rfl, s7, t7⟩
            have HS7 := Lib.hid s7
            have HT7 := Lib.hid (((HT5.out.thenKeep HK.out).trans (t7.mono (by simp) : Turn [b, bm, bc] wr v7)))
            clear s7 t7 HAck
            go_wp2
            go_roundw
            case rel => exact ⟨k + 1, _, by go_num, by rw [HMM.out]; simp, by rw [HQ.out]; omega, HS7.out, HW2.out, HT7.out⟩
            case measure => simp [intOf]; omega
      · obtain rfl : k = Q := by omega
        obtain ⟨hfull, htr⟩ := HWh.out.end (by have := HQ.out; omega) hn1
        have hmin : min (8 * k) N = N := by have := HQ.out; omega
        rw [hmin]
        have HDone := Lib.hid (done_at HS1.out)
        rw [decide_eq_true hfull] at HDone
        have HTr := Lib.hid (fun v (k1 : Keep wr v) => tries_at 0 (HS1.out.keep k1))
        rw [htr] at HTr
        clear hfull htr hmin
        go_wp2_with fail
        refine HDone.out.mono ?_
        rintro e v6 ⟨rfl, k6⟩
        go_wp2_with fail
        refine (HTr.out v6 k6).mono ?_
        rintro e v7 ⟨rfl, rfl⟩
        have HK6 := Lib.hid k6
        clear k6 HDone HTr
        go_wp2
        go_ret
        have hg := HG.out
        exact ⟨rfl, (Turn.made HK4.out HT1.out (by simp; omega)).trans HK6.out⟩

open Go.ChangeShapes Go.WideShapes Go.ChangeAt
set_option maxRecDepth 100000 in
theorem lifted (os : Os) (started : os.Started) (H : Type) (enc : TypeId × Value → H) :
    ReturnsInHanded {} Tryd.checked os 8 .any (fun w args => (Rows.senderWholeSpec.pre enc Tryd.prog Tryd.f8 [] false w args ∧ laidMetH Tryd.prog laid1 w) ∧ sizedMet enc Tryd.prog Tryd.f8 (OpenSpec.ofChange Rows.senderWholeSpec) false w args)
      (Rows.senderWholeSpec.post enc Tryd.prog Tryd.f8 false true false false) := by
  refine returnsInHanded_of_change_and (C := Tryd.checked) (X := fun w _ => laidMetH Tryd.prog laid1 w) (fun _ _ _ hh h => h.of_heap hh) own started (by kernel_rfl) Tryd.func8
    (ChangeSpec.witness_shaped (enc := enc) (C := Tryd.checked) (os := os) (X := fun w _ => laidMetH Tryd.prog laid1 w) false (World.doorLaid Tryd.prog 400 os) #[.slice none 0 0] 8 rfl (World.shaped_of_RefB (by kernel_rfl) (by kernel_rfl)) (by kernel_rfl) (by kernel_rfl) (by kernel_rfl) (door_met os _)) ?_
  intro W base args ds gs before hval0 hW _ _ hL _
  have hval : ∀ (j : Nat) t v, Tryd.f8.params[j]? = some t → args[j]? = some v → Value.okWide Tryd.prog W .any base t v := hval0
  have hW' := hW
  obtain ⟨p, q, hA0, hV, rfl, hfz, hnd⟩ := hW
  have hA : DataW.TrodAll enc Tryd.prog W 0 (fun _ => true) true Tryd.f8.params.toList args.toList ds p := hA0

  rw [Tryd.params8] at hA hval
  obtain ⟨v0, vs0, d0, ds0, p0, q0, hargs, rfl, rfl, h0, r0⟩ := trodAll_cons hA
  obtain ⟨rfl, rfl, rfl⟩ := trodAll_nil r0
  obtain rfl : args = #[v0] := by cases args; simp_all
  obtain ⟨rfl, rfl⟩ := trodVars_none hV
  have k0 := h0
  have lt0 : ∀ x ∈ p0, x.block < W.heap.size := by obtain ⟨m, hm⟩ := k0; exact DataW.trod_lt m _ _ _ hm
  obtain ⟨a0, cap0, l0, rfl, f0⟩ := open_texts (hval 0 22 v0 rfl rfl) h0
  clear hA0 hval0
  refine (walk a0 cap0 l0 W f0 (of_laid hL)).mono fun e W' ⟨he, bel0⟩ => ?_
  subst he
  have bel : Below W.heap.size W W' := bel0
  exact ⟨_, rfl, _, _, _, [], _, [], hW', trodAll_mk1 (shut_bool Tryd.underlying4 _), (trodAll_cons_mk (Below.trod laidOut (by kernel_rfl) (of_decide_eq_true (by kernel_rfl)) k0 bel lt0) trodAll_mk0), rfl, bel.frame _, fun h => by cases h⟩

theorem over : Rows.senderWholeRow.holds Tryd.pinned (OpenSpec.ofChange Rows.senderWholeSpec) :=
  OpenClaim.holds_of_wide 8 Tryd.f8 rfl rfl rfl rfl rfl rfl rfl ⟨rfl, rfl, rfl, rfl, rfl⟩ rfl rfl rfl rfl rfl (by kernel_rfl) Tryd.func8 (by kernel_rfl)
    (of_decide_eq_true (by kernel_rfl)) (by unfold Func.isWrapper; first | (rw [if_pos (by decide +kernel)]; kernel_rfl) | (rw [if_neg (by decide +kernel)]; exact ⟨rfl, rfl⟩))
    (fun os started H enc _ => lifted os started H enc)
theorem card : Claim7.holds Tryd.pinned (.plain (OpenSpec.ofChange Rows.senderWholeSpec)) Rows.senderWholeCard :=
  Claim7.holds_tied_plain_at .later [] [.data] true (true, "554ae483f9e9f502615417fb0d3524028c2a08dd4716909f5bdc5e82ac887e20") false
    over (fun _ h => by cases h) (by kernel_rfl) (fun _ h => by cases h) senderWhole_row_tie rfl ⟨rfl, rfl⟩ (by kernel_rfl) rfl
    (fun f fn hf hfn => by
      obtain rfl : f = 8 := Option.some.inj ((show Tryd.prog.funcNamed Rows.senderWholeRow.func = some 8 by kernel_rfl).symm.trans hf) |>.symm
      obtain rfl : fn = Tryd.f8 := (Option.some.inj (Tryd.func8.symm.trans hfn)).symm
      exact ⟨by kernel_rfl, fun j t ht => by
        rw [Tryd.params8] at ht
        have hm : t ∈ [22] := by simpa using Array.mem_of_getElem? ht
        have hall : ([22].all fun u => !Tryd.prog.wantsStandIn u) = true := by kernel_rfl
        exact (show Tryd.prog.wantsStandIn t = false by simpa using List.all_eq_true.1 hall t hm)⟩)
    (by kernel_rfl)
end Go.Proofs.YtcnaaoakcmdfkaaDoor.LSenderWhole

namespace Go.Proofs.YtcnaaoakcmdfkaaDoor
theorem senderWhole_holds : Rows.SenderWholeCardSaid := LSenderWhole.card
#print axioms senderWhole_holds
end Go.Proofs.YtcnaaoakcmdfkaaDoor

