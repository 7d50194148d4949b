/- Proved: for every text the law ReceiverCursors returns true (any bytes are the receiver that the document says, or are refused as it says; its cursor is the bytes). Condition, by the row's own list: math/bits.deBruijn64tab starts as the program's text lays it (the card ties that). -/
import Derived.Test.YtifcibmpeolmdaaDoorOp
namespace Go.Proofs.YtifcibmpeolmdaaDoor.LReceiverCursors
open Go.RowKit

set_option maxRecDepth 100000 in
set_option maxHeartbeats 2000000 in
theorem walk (s : ByteArray) (w : World) (ht : Tab w) : Calls Tryd.prog 5 #[.string s] w fun e w' => e = .returned (.bool true) ∧ Keep w w' := by
  obtain ⟨l, hl⟩ : ∃ l : List UInt8, s = ⟨l.toArray⟩ := ⟨s.data.toList, rfl⟩
  subst hl
  have HT := Lib.hid ht
  have hs := size_of l
  clear ht
  by_cases hb : 2000 < l.length
  · go_enter Tryd.func5, Tryd.ntmps5
    go_wp2_with fail
    refine (awake_at w HT.out).mono ?_
    rintro e w1 ⟨rfl, k1⟩
    have HK := Lib.hid k1
    clear k1
    go_wp2_with fail
    refine (awake_at w1 (HT.out.keep HK.out)).mono ?_
    rintro e w2 ⟨rfl, k2⟩
    have HK2 := Lib.hid (HK.out.trans k2)
    clear k2
    go_wp2
    go_ret
    exact ⟨rfl, HK2.out⟩
  have HZ := Lib.hid (fun v (q : Tab v) => zresume l v (by unfold maxLen; omega) q)
  have HY := Lib.hid (fun v => yresume l v (by unfold maxLen; omega))
  by_cases h0 : (resumeF l).2 = 0
  · obtain ⟨y, hy⟩ : ∃ y, resumeF l = (y, 0) := ⟨(resumeF l).1, by rw [← h0]⟩
    obtain ⟨_, hcur, _⟩ := cursor_resume hy
    rw [hy] at HZ HY
    have HC := Lib.hid (fun v K b (h : Z v K b y) => zcursor h)
    rw [hcur] at HC
    have HA1 := Lib.hid (fun v K b (h : Z v K b y) => zack h)
    have HA2 := Lib.hid (fun v K b (h : Y v K b y) => yack h)
    have hE : ∀ w, (Op.equalIn 10000 32 (.agg (fc y.ack)) (.agg (fc y.ack))).run Tryd.prog w = .ok true w := fun w => by
      have := eq_fc 9997 y.ack y.ack w
      rw [decide_eq_true rfl] at this
      exact this
    clear h0 hy hcur
    generalize fc y.ack = C at *
    go_enter Tryd.func5, Tryd.ntmps5
    go_wp2_with fail
    refine (awake_at w HT.out).mono ?_
    rintro e w1 ⟨rfl, k1⟩
    have HK := Lib.hid k1
    clear k1
    go_wp2_with fail
    refine (HZ.out w1 (HT.out.keep HK.out)).mono ?_
    rintro e w2 ⟨k2, ⟨_, b, K, rfl, hz, _⟩ | ⟨h0, _⟩⟩
    rotate_left
    · exact absurd rfl h0
    have HK2 := Lib.hid (HK.out.trans k2)
    have HZ2 := Lib.hid hz
    clear k2 hz HK HZ
    go_wp2_with fail
    refine (HY.out w2).mono ?_
    rintro e w3 ⟨k3, ⟨_, g, L, rfl, hy, _⟩ | ⟨h0, _⟩⟩
    rotate_left
    · exact absurd rfl h0
    have HK3 := Lib.hid (HK2.out.trans k3)
    have HZ3 := Lib.hid (HZ2.out.keep k3)
    have HY3 := Lib.hid hy
    clear k3 hy HK2 HZ2 HY
    go_wp2_with fail
    refine (HC.out w3 _ _ HZ3.out).mono ?_
    rintro e w4 ⟨rfl, k4⟩
    have HK4 := Lib.hid (HK3.out.trans k4)
    have HZ4 := Lib.hid (HZ3.out.keep k4)
    have HY4 := Lib.hid (HY3.out.keep k4)
    clear k4 HK3 HZ3 HY3 HC
    go_wp2_with fail
    refine (HA1.out w4 _ _ HZ4.out).mono ?_
    rintro e w5 ⟨rfl, k5⟩
    have HK5 := Lib.hid (HK4.out.trans k5)
    have HY5 := Lib.hid (HY4.out.keep k5)
    clear k5 HK4 HZ4 HY4 HA1
    go_wp2_with fail
    refine (HA2.out w5 _ _ HY5.out).mono ?_
    rintro e w6 ⟨rfl, k6⟩
    have HK6 := Lib.hid (HK5.out.trans k6)
    clear k6 HK5 HY5 HA2
    go_wp2
    go_ret
    exact ⟨rfl, HK6.out⟩
  · obtain ⟨R, hR⟩ : ∃ R, resumeF l = R := ⟨_, rfl⟩
    obtain ⟨y, x⟩ := R
    rw [hR] at HZ HY h0
    have hx : x ≠ 0 := h0
    have t0 : (x == 0) = false := by simpa using hx
    have HX := Lib.hid hx
    clear h0 hR hx
    go_enter Tryd.func5, Tryd.ntmps5
    go_wp2_with fail
    refine (awake_at w HT.out).mono ?_
    rintro e w1 ⟨rfl, k1⟩
    have HK := Lib.hid k1
    clear k1
    go_wp2_with fail
    refine (HZ.out w1 (HT.out.keep HK.out)).mono ?_
    rintro e w2 ⟨k2, ⟨h0, _⟩ | ⟨_, rfl⟩⟩
    · exact absurd h0 HX.out
    have HK2 := Lib.hid (HK.out.trans k2)
    clear k2 HK HZ
    simp only
    go_wp2_with fail
    refine (HY.out w2).mono ?_
    rintro e w3 ⟨k3, ⟨h0, _⟩ | ⟨_, rfl⟩⟩
    · exact absurd h0 HX.out
    have HK3 := Lib.hid (HK2.out.trans k3)
    clear k3 HK2 HY
    simp only
    go_wp2
    go_ret
    exact ⟨rfl, HK3.out⟩

open Go.ChangeShapes Go.WideShapes Go.ChangeAt
set_option maxRecDepth 100000 in
theorem lifted (os : Os) (started : os.Started) (H : Type) (enc : TypeId × Value → H) :
    ReturnsInHanded {} Tryd.checked os 5 .any (fun w args => (Rows.receiverCursorsSpec.pre enc Tryd.prog Tryd.f5 [] false w args ∧ laidMetH Tryd.prog laid1 w) ∧ sizedMet enc Tryd.prog Tryd.f5 (OpenSpec.ofChange Rows.receiverCursorsSpec) false w args)
      (Rows.receiverCursorsSpec.post enc Tryd.prog Tryd.f5 false true false false) := by
  refine returnsInHanded_of_change_and (C := Tryd.checked) (X := fun w _ => laidMetH Tryd.prog laid1 w) (fun _ _ _ hh h => h.of_heap hh) own started (by kernel_rfl) Tryd.func5
    (ChangeSpec.witness_shaped (enc := enc) (C := Tryd.checked) (os := os) (X := fun w _ => laidMetH Tryd.prog laid1 w) false (World.doorLaid Tryd.prog 400 os) #[.string ⟨#[]⟩] 8 rfl (World.shaped_of_RefB (by kernel_rfl) (by kernel_rfl)) (by kernel_rfl) (by kernel_rfl) (by kernel_rfl) (door_met os _)) ?_
  intro W base args ds gs before hval0 hW _ _ hL _
  have hval : ∀ (j : Nat) t v, Tryd.f5.params[j]? = some t → args[j]? = some v → Value.okWide Tryd.prog W .any base t v := hval0
  have hW' := hW
  obtain ⟨p, q, hA0, hV, rfl, hfz, hnd⟩ := hW
  have hA : DataW.TrodAll enc Tryd.prog W 0 (fun _ => true) true Tryd.f5.params.toList args.toList ds p := hA0

  rw [Tryd.params5] at hA hval
  obtain ⟨v0, vs0, d0, ds0, p0, q0, hargs, rfl, rfl, h0, r0⟩ := trodAll_cons hA
  obtain ⟨rfl, rfl, rfl⟩ := trodAll_nil r0
  obtain rfl : args = #[v0] := by cases args; simp_all
  obtain ⟨rfl, rfl⟩ := trodVars_none hV
  have k0 := h0
  have lt0 : ∀ x ∈ p0, x.block < W.heap.size := by obtain ⟨m, hm⟩ := k0; exact DataW.trod_lt m _ _ _ hm
  obtain ⟨a0, rfl, _, _, w0⟩ := Go.ChangeMaps.open_string Tryd.underlying9 (hval 0 9 v0 rfl rfl) h0
  clear hA0 hval0
  refine (walk a0 W  (of_laid hL)).mono fun e W' ⟨he, bel0⟩ => ?_
  subst he
  have bel : Below W.heap.size W W' := bel0
  exact ⟨_, rfl, _, _, _, [], _, [], hW', trodAll_mk1 (shut_bool Tryd.underlying4 _), (trodAll_cons_mk (Below.trod laidOut (by kernel_rfl) (of_decide_eq_true (by kernel_rfl)) k0 bel lt0) trodAll_mk0), rfl, bel.frame _, fun h => by cases h⟩

theorem over : Rows.receiverCursorsRow.holds Tryd.pinned (OpenSpec.ofChange Rows.receiverCursorsSpec) :=
  OpenClaim.holds_of_wide 5 Tryd.f5 rfl rfl rfl rfl rfl rfl rfl ⟨rfl, rfl, rfl, rfl, rfl⟩ rfl rfl rfl rfl rfl (by kernel_rfl) Tryd.func5 (by kernel_rfl)
    (of_decide_eq_true (by kernel_rfl)) (by unfold Func.isWrapper; first | (rw [if_pos (by decide +kernel)]; kernel_rfl) | (rw [if_neg (by decide +kernel)]; exact ⟨rfl, rfl⟩))
    (fun os started H enc _ => lifted os started H enc)
theorem card : Claim7.holds Tryd.pinned (.plain (OpenSpec.ofChange Rows.receiverCursorsSpec)) Rows.receiverCursorsCard :=
  Claim7.holds_tied_plain_at .later [] [.data] true (true, "9f1138924d784bfed17d71e72dd25563e285159175c97e71dd8c43ba71e9644f") false
    over (fun _ h => by cases h) (by kernel_rfl) (fun _ h => by cases h) receiverCursors_row_tie rfl ⟨rfl, rfl⟩ (by kernel_rfl) rfl
    (fun f fn hf hfn => by
      obtain rfl : f = 5 := Option.some.inj ((show Tryd.prog.funcNamed Rows.receiverCursorsRow.func = some 5 by kernel_rfl).symm.trans hf) |>.symm
      obtain rfl : fn = Tryd.f5 := (Option.some.inj (Tryd.func5.symm.trans hfn)).symm
      exact ⟨by kernel_rfl, fun j t ht => by
        rw [Tryd.params5] at ht
        have hm : t ∈ [9] := by simpa using Array.mem_of_getElem? ht
        have hall : ([9].all fun u => !Tryd.prog.wantsStandIn u) = true := by kernel_rfl
        exact (show Tryd.prog.wantsStandIn t = false by simpa using List.all_eq_true.1 hall t hm)⟩)
    (by kernel_rfl)
end Go.Proofs.YtifcibmpeolmdaaDoor.LReceiverCursors

namespace Go.Proofs.YtifcibmpeolmdaaDoor
theorem receiverCursors_holds : Rows.ReceiverCursorsCardSaid := LReceiverCursors.card
#print axioms receiverCursors_holds
end Go.Proofs.YtifcibmpeolmdaaDoor
