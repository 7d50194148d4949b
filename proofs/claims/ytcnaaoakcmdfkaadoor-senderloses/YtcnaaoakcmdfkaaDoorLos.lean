/- Proved: for every list of texts the law SenderLoses returns true (without any answer a sender gives up behind eight tries, at the 33rd tick), and its argument reads behind the call as it read before. Condition, by the row's own list: math/bits.deBruijn64tab starts as the program's text lays it (the card ties that). -/
import Derived.Test.YtcnaaoakcmdfkaaDoorAy
import Derived.Test.YtcnaaoakcmdfkaaDoorSr
namespace Go.Proofs.YtcnaaoakcmdfkaaDoor.LSenderLoses
open Go.RowKit

def LoRel (b bm bc : Nat) (n : Nat) (W : World) (iv : Value) (wr : World) : Prop :=
  ∃ (i : Nat) (s : Sd), iv = .int .i64 i ∧ i ≤ 40 ∧ S wr b bm bc s ∧ Lo n i s ∧ s.now ≤ i ∧ Turn [b, bc] W wr
set_option maxRecDepth 100000 in
set_option maxHeartbeats 1000000 in
theorem walk (a : Option Addr) (cap : Nat) (L : List (List UInt8)) (w : World) (h : ArgN se w a cap L) (ht : Tab w) : Calls Tryd.prog 5 #[.slice a L.length cap] w fun e w' => e = .returned (.bool true) ∧ Keep w w' := by
  have HA := Lib.hid h
  have HT := Lib.hid ht
  have HM := Lib.hid (fun v (k : Keep w v) => qmay 0 0 a cap L v (h.toArgL.keep k))
  by_cases hm : mayP 0 0 L
  rotate_left
  · rw [decide_eq_false hm] at HM
    clear hm h ht
    generalize L.length = N at *
    go_enter Tryd.func5, Tryd.ntmps5
    go_wp2_with fail
    refine (awake w HT.out).mono ?_
    rintro e v1 ⟨rfl, k1⟩
    go_wp2_with fail
    refine (HM.out v1 k1).mono ?_
    rintro e v2 ⟨rfl, rfl⟩
    go_wp2_with fail
    refine (awake v2 (HT.out.keep k1)).mono ?_
    rintro e v3 ⟨rfl, k3⟩
    go_wp2
    go_ret
    exact ⟨rfl, k1.trans k3⟩
  · rw [decide_eq_true hm] at HM
    have HMay := Lib.hid hm
    obtain ⟨N, hN⟩ : ∃ N, L.length = N := ⟨_, rfl⟩
    have HN := Lib.hid hN
    have hn1 : 1 ≤ N := by rw [← hN]; exact hm.2.2.2.1
    have hn2 : N ≤ 256 := by rw [← hN]; exact hm.2.2.2.2
    rw [hN] at HM ⊢
    clear hm h ht hN
    go_enter Tryd.func5, Tryd.ntmps5
    go_wp2_with fail
    refine (awake w HT.out).mono ?_
    rintro e v1 ⟨rfl, k1⟩
    go_wp2_with fail
    refine (HM.out v1 k1).mono ?_
    rintro e v2 ⟨rfl, rfl⟩
    have HK1 := Lib.hid k1
    clear k1 HM
    go_wp2_with (at_builtin; refine wp_appN elS rfl _ _ rfl v2.heap.size _ a N cap [] L rfl HN.out rfl (Own.made v2.heap.size v2 (Nat.le_refl _)) (HA.out.keep (HK1.out.trans ((Keep.refl v2).alloc _))) ?q1 ?q2 ?q3 ?_)
    case q1 => rw [HN.out]; simp; omega
    case q2 => rw [HN.out]; simp; omega
    case q3 => simp
    intro cv v3 hO hG
    have HO := Lib.hid hO
    have HK3 := Lib.hid (show Keep v2 v3 from (Own.made (t := 9) (k := 1) (enc := se) v2.heap.size v2 (Nat.le_refl _)).grown ((Keep.refl v2).alloc _) (Nat.le_refl _) hG)
    clear hO hG
    go_wp2_with fail
    refine (snew_at 0 0 cv L v3 ((HT.out.keep HK1.out).keep HK3.out) (OwnS.cells HO.out) (by rw [HN.out]; omega)).mono ?_
    rintro e v4 (⟨_, b, bm, bc, rfl, s0, g1, g2, g3, k4⟩ | ⟨h, _⟩)
    rotate_left
    · exact absurd HMay.out h
    have HS := Lib.hid s0
    have HL := Lib.hid (Lo.new 0 0 L)
    rw [HN.out] at HL
    have HK4 := Lib.hid ((HK1.out.trans HK3.out).trans k4)
    have hz := (HK1.out.trans HK3.out).size
    have HG := Lib.hid (show w.heap.size ≤ b ∧ w.heap.size ≤ bc from ⟨by omega, by omega⟩)
    clear s0 g1 g2 g3 k4 hz
    go_wp2_with fail
    go_loopw [23] (fun iv wr => LoRel b bm bc N v4 iv wr) (fun i _ => 41 - (intOf i).toNat)
    case atStart => exact ⟨0, _, rfl, by omega, HS.out, HL.out, Nat.le_refl _, Turn.refl _ _⟩
    case round =>
      obtain ⟨i, s, rfl, hi, hS, hLo, hnow, hT⟩ := hrel
      have HS := Lib.hid hS
      have HLo := Lib.hid hLo
      have HT1 := Lib.hid hT
      have HNow := Lib.hid hnow
      clear hS hLo hT hnow
      by_cases hlt : i < 40
      · obtain ⟨hE, hL2⟩ := HLo.out.step hn1
        have HTick := Lib.hid (tick_at HS.out (by have := HNow.out; omega))
        have HL2 := Lib.hid hL2
        have HNow2 := Lib.hid (show s.tick.now ≤ i + 1 by have := tick_now s; have := HNow.out; omega)
        rw [hE] at HTick
        clear hE hL2
        by_cases h32 : i < 32
        · rw [if_pos h32] at HTick
          have d1 : decide ((i : Int) < 32) = true := decide_eq_true (by omega)
          have d2 : decide ((i : Int) ≥ 32) = false := decide_eq_false (by omega)
          clear h32
          go_wp2_with fail
          refine HTick.out.mono ?_
          rintro e v5 ⟨lv, rfl, _, s5, t5⟩
          have HS5 := Lib.hid s5
          have HT5 := Lib.hid (HT1.out.trans t5)
          clear s5 t5 HTick
          go_wp2
          go_roundw
          case rel => exact ⟨i + 1, _, by go_num, by omega, HS5.out, HL2.out, HNow2.out, HT5.out⟩
          case measure => simp [intOf]; omega
        · rw [if_neg h32] at HTick
          have d1 : decide ((i : Int) < 32) = false := decide_eq_false (by omega)
          have d2 : decide ((i : Int) ≥ 32) = true := decide_eq_true (by omega)
          clear h32
          go_wp2_with fail
          refine HTick.out.mono ?_
          rintro e v5 ⟨lv, rfl, _, s5, t5⟩
          have HS5 := Lib.hid s5
          have HT5 := Lib.hid (HT1.out.trans t5)
          clear s5 t5 HTick
          go_wp2
          go_roundw
          case rel => exact ⟨i + 1, _, by go_num, by omega, HS5.out, HL2.out, HNow2.out, HT5.out⟩
          case measure => simp [intOf]; omega
      · obtain rfl : i = 40 := by omega
        obtain ⟨e1, e2, e3⟩ := HLo.out.end (by omega) hn1
        have HErr := Lib.hid (err_at HS.out)
        rw [e1] at HErr
        have HDone := Lib.hid (fun v (k : Keep wr v) => done_at (HS.out.keep k))
        rw [decide_eq_false e2] at HDone
        have HTr := Lib.hid (fun v (k : Keep wr v) => tries_at 0 (HS.out.keep k))
        rw [e3] at HTr
        clear e1 e2 e3
        go_wp2_with fail
        refine HErr.out.mono ?_
        rintro e v5 ⟨rfl, k5⟩
        go_wp2_with fail
        refine (HDone.out v5 k5).mono ?_
        rintro e v6 ⟨rfl, k6⟩
        go_wp2_with fail
        refine (HTr.out v6 (k5.trans k6)).mono ?_
        rintro e v7 ⟨rfl, rfl⟩
        have HK6 := Lib.hid (k5.trans k6)
        clear k5 k6 HErr HDone HTr
        go_wp2
        go_ret
        have hg := HG.out
        exact ⟨rfl, (Turn.made HK4.out HT1.out (by simp; omega)).trans HK6.out⟩

open Go.ChangeShapes Go.WideShapes Go.ChangeAt
set_option maxRecDepth 100000 in
theorem lifted (os : Os) (started : os.Started) (H : Type) (enc : TypeId × Value → H) :
    ReturnsInHanded {} Tryd.checked os 5 .any (fun w args => (Rows.senderLosesSpec.pre enc Tryd.prog Tryd.f5 [] false w args ∧ laidMetH Tryd.prog laid1 w) ∧ sizedMet enc Tryd.prog Tryd.f5 (OpenSpec.ofChange Rows.senderLosesSpec) false w args)
      (Rows.senderLosesSpec.post enc Tryd.prog Tryd.f5 false true false false) := by
  refine returnsInHanded_of_change_and (C := Tryd.checked) (X := fun w _ => laidMetH Tryd.prog laid1 w) (fun _ _ _ hh h => h.of_heap hh) own started (by kernel_rfl) Tryd.func5
    (ChangeSpec.witness_shaped (enc := enc) (C := Tryd.checked) (os := os) (X := fun w _ => laidMetH Tryd.prog laid1 w) false (World.doorLaid Tryd.prog 400 os) #[.slice none 0 0] 8 rfl (World.shaped_of_RefB (by kernel_rfl) (by kernel_rfl)) (by kernel_rfl) (by kernel_rfl) (by kernel_rfl) (door_met os _)) ?_
  intro W base args ds gs before hval0 hW _ _ hL _
  have hval : ∀ (j : Nat) t v, Tryd.f5.params[j]? = some t → args[j]? = some v → Value.okWide Tryd.prog W .any base t v := hval0
  have hW' := hW
  obtain ⟨p, q, hA0, hV, rfl, hfz, hnd⟩ := hW
  have hA : DataW.TrodAll enc Tryd.prog W 0 (fun _ => true) true Tryd.f5.params.toList args.toList ds p := hA0

  rw [Tryd.params5] at hA hval
  obtain ⟨v0, vs0, d0, ds0, p0, q0, hargs, rfl, rfl, h0, r0⟩ := trodAll_cons hA
  obtain ⟨rfl, rfl, rfl⟩ := trodAll_nil r0
  obtain rfl : args = #[v0] := by cases args; simp_all
  obtain ⟨rfl, rfl⟩ := trodVars_none hV
  have k0 := h0
  have lt0 : ∀ x ∈ p0, x.block < W.heap.size := by obtain ⟨m, hm⟩ := k0; exact DataW.trod_lt m _ _ _ hm
  obtain ⟨a0, cap0, l0, rfl, f0⟩ := open_texts (hval 0 22 v0 rfl rfl) h0
  clear hA0 hval0
  refine (walk a0 cap0 l0 W f0 (of_laid hL)).mono fun e W' ⟨he, bel0⟩ => ?_
  subst he
  have bel : Below W.heap.size W W' := bel0
  exact ⟨_, rfl, _, _, _, [], _, [], hW', trodAll_mk1 (shut_bool Tryd.underlying4 _), (trodAll_cons_mk (Below.trod laidOut (by kernel_rfl) (of_decide_eq_true (by kernel_rfl)) k0 bel lt0) trodAll_mk0), rfl, bel.frame _, fun h => by cases h⟩

theorem over : Rows.senderLosesRow.holds Tryd.pinned (OpenSpec.ofChange Rows.senderLosesSpec) :=
  OpenClaim.holds_of_wide 5 Tryd.f5 rfl rfl rfl rfl rfl rfl rfl ⟨rfl, rfl, rfl, rfl, rfl⟩ rfl rfl rfl rfl rfl (by kernel_rfl) Tryd.func5 (by kernel_rfl)
    (of_decide_eq_true (by kernel_rfl)) (by unfold Func.isWrapper; first | (rw [if_pos (by decide +kernel)]; kernel_rfl) | (rw [if_neg (by decide +kernel)]; exact ⟨rfl, rfl⟩))
    (fun os started H enc _ => lifted os started H enc)
theorem card : Claim7.holds Tryd.pinned (.plain (OpenSpec.ofChange Rows.senderLosesSpec)) Rows.senderLosesCard :=
  Claim7.holds_tied_plain_at .later [] [.data] true (true, "554ae483f9e9f502615417fb0d3524028c2a08dd4716909f5bdc5e82ac887e20") false
    over (fun _ h => by cases h) (by kernel_rfl) (fun _ h => by cases h) senderLoses_row_tie rfl ⟨rfl, rfl⟩ (by kernel_rfl) rfl
    (fun f fn hf hfn => by
      obtain rfl : f = 5 := Option.some.inj ((show Tryd.prog.funcNamed Rows.senderLosesRow.func = some 5 by kernel_rfl).symm.trans hf) |>.symm
      obtain rfl : fn = Tryd.f5 := (Option.some.inj (Tryd.func5.symm.trans hfn)).symm
      exact ⟨by kernel_rfl, fun j t ht => by
        rw [Tryd.params5] at ht
        have hm : t ∈ [22] := by simpa using Array.mem_of_getElem? ht
        have hall : ([22].all fun u => !Tryd.prog.wantsStandIn u) = true := by kernel_rfl
        exact (show Tryd.prog.wantsStandIn t = false by simpa using List.all_eq_true.1 hall t hm)⟩)
    (by kernel_rfl)
end Go.Proofs.YtcnaaoakcmdfkaaDoor.LSenderLoses

namespace Go.Proofs.YtcnaaoakcmdfkaaDoor
theorem senderLoses_holds : Rows.SenderLosesCardSaid := LSenderLoses.card
#print axioms senderLoses_holds
end Go.Proofs.YtcnaaoakcmdfkaaDoor

