/- Proved: for every frame the law ReceiverNil returns true (a receiver that is none takes nothing), and its argument reads behind the call as it read before. Condition, by the row's own list: math/bits.deBruijn64tab starts as the program's text lays it (the card ties that). -/
import Derived.Test.YtifcibmpeolmdaaDoorOp
namespace Go.Proofs.YtifcibmpeolmdaaDoor.LReceiverNil
open Go.RowKit

set_option maxRecDepth 100000 in
set_option maxHeartbeats 1000000 in
theorem walk (f : Fr) (w : World) (_hq : ArgF f) (ht : Tab w) : Calls Tryd.prog 6 #[.agg (fc f)] w fun e w' => e = .returned (.bool true) ∧ Keep w w' := by
  have k0 : Keep w (w.alloc (.cells (fc f) 32)) := (Keep.refl w).alloc _
  have HF := Lib.hid (FAt.new w f)
  have HT := Lib.hid (ht.keep k0)
  have HK := Lib.hid k0
  obtain ⟨n, hn⟩ : ∃ n, n = 6 := ⟨6, rfl⟩
  have hsz : ∀ w, (Go.sizeOf 32).run Tryd.prog w = .ok n w := fun w => by rw [hn]; exact Tryd.sizeOf32 w
  have hn0 : ¬ n = 0 := by omega
  have HN := Lib.hid hn
  have he : fc zeroF = #[.int .i64 0, .int .i64 0, .int .i64 0, .int .i64 0, .int .i64 0, .string ⟨#[]⟩] := rfl
  have hE : ∀ w, (Op.equalIn 10000 32 (.agg (fc zeroF)) (.agg (fc zeroF))).run Tryd.prog w = .ok true w := fun w => by
    have := eq_fc 9997 zeroF zeroF w
    rw [decide_eq_true rfl] at this
    exact this
  have HA := Lib.hid vack_nil
  rw [he] at hE HA
  clear ht k0 hn he
  generalize fc f = C at *
  go_enter Tryd.func6, Tryd.ntmps6
  go_wp2_with fail
  refine (vdata_nil _).mono ?_
  rintro e v ⟨rfl, rfl⟩
  go_wp2_with fail
  refine (awake_at _ HT.out).mono ?_
  rintro e v1 ⟨rfl, k1⟩
  have hl := (HF.out.keep k1).whole HN.out
  go_wp2_with fail
  refine (vtake_nil f v1).mono ?_
  rintro e v2 ⟨rfl, k2⟩
  have HK2 := Lib.hid ((HK.out.trans k1).trans k2)
  clear hl k1 k2
  go_wp2_with fail
  refine (HA.out v2).mono ?_
  rintro e v3 ⟨rfl, k3⟩
  have HK3 := Lib.hid (HK2.out.trans k3)
  clear k3 HA
  go_wp2_with fail
  refine (vdone_nil v3).mono ?_
  rintro e v ⟨rfl, rfl⟩
  go_wp2_with fail
  refine (vthere_nil v).mono ?_
  rintro e v ⟨rfl, rfl⟩
  go_wp2_with fail
  refine (vdrops_nil 1 v).mono ?_
  rintro e v ⟨rfl, rfl⟩
  go_wp2_with fail
  refine (vcursor_nil v).mono ?_
  rintro e v ⟨rfl, rfl⟩
  go_wp2
  go_ret
  exact ⟨rfl, HK3.out⟩

open Go.ChangeShapes Go.WideShapes Go.ChangeAt
set_option maxRecDepth 100000 in
theorem lifted (os : Os) (started : os.Started) (H : Type) (enc : TypeId × Value → H) :
    ReturnsInHanded {} Tryd.checked os 6 .any (fun w args => (Rows.receiverNilSpec.pre enc Tryd.prog Tryd.f6 [] false w args ∧ laidMetH Tryd.prog laid1 w) ∧ sizedMet enc Tryd.prog Tryd.f6 (OpenSpec.ofChange Rows.receiverNilSpec) false w args)
      (Rows.receiverNilSpec.post enc Tryd.prog Tryd.f6 false true false false) := by
  refine returnsInHanded_of_change_and (C := Tryd.checked) (X := fun w _ => laidMetH Tryd.prog laid1 w) (fun _ _ _ hh h => h.of_heap hh) own started (by kernel_rfl) Tryd.func6
    (ChangeSpec.witness_shaped (enc := enc) (C := Tryd.checked) (os := os) (X := fun w _ => laidMetH Tryd.prog laid1 w) false (World.doorLaid Tryd.prog 400 os) #[.agg (fc zeroF)] 8 rfl (World.shaped_of_RefB (by kernel_rfl) (by kernel_rfl)) (by kernel_rfl) (by kernel_rfl) (by kernel_rfl) (door_met os _)) ?_
  intro W base args ds gs before hval0 hW _ _ hL _
  have hval : ∀ (j : Nat) t v, Tryd.f6.params[j]? = some t → args[j]? = some v → Value.okWide Tryd.prog W .any base t v := hval0
  have hW' := hW
  obtain ⟨p, q, hA0, hV, rfl, hfz, hnd⟩ := hW
  have hA : DataW.TrodAll enc Tryd.prog W 0 (fun _ => true) true Tryd.f6.params.toList args.toList ds p := hA0

  rw [Tryd.params6] at hA hval
  obtain ⟨v0, vs0, d0, ds0, p0, q0, hargs, rfl, rfl, h0, r0⟩ := trodAll_cons hA
  obtain ⟨rfl, rfl, rfl⟩ := trodAll_nil r0
  obtain rfl : args = #[v0] := by cases args; simp_all
  obtain ⟨rfl, rfl⟩ := trodVars_none hV
  have k0 := h0
  have lt0 : ∀ x ∈ p0, x.block < W.heap.size := by obtain ⟨m, hm⟩ := k0; exact DataW.trod_lt m _ _ _ hm
  obtain ⟨a0, rfl, f0⟩ := open_frame (hval 0 32 v0 rfl rfl) h0
  clear hA0 hval0
  refine (walk a0 W f0 (of_laid hL)).mono fun e W' ⟨he, bel0⟩ => ?_
  subst he
  have bel : Below W.heap.size W W' := bel0
  exact ⟨_, rfl, _, _, _, [], _, [], hW', trodAll_mk1 (shut_bool Tryd.underlying4 _), (trodAll_cons_mk (Below.trod laidOut (by kernel_rfl) (of_decide_eq_true (by kernel_rfl)) k0 bel lt0) trodAll_mk0), rfl, bel.frame _, fun h => by cases h⟩

theorem over : Rows.receiverNilRow.holds Tryd.pinned (OpenSpec.ofChange Rows.receiverNilSpec) :=
  OpenClaim.holds_of_wide 6 Tryd.f6 rfl rfl rfl rfl rfl rfl rfl ⟨rfl, rfl, rfl, rfl, rfl⟩ rfl rfl rfl rfl rfl (by kernel_rfl) Tryd.func6 (by kernel_rfl)
    (of_decide_eq_true (by kernel_rfl)) (by unfold Func.isWrapper; first | (rw [if_pos (by decide +kernel)]; kernel_rfl) | (rw [if_neg (by decide +kernel)]; exact ⟨rfl, rfl⟩))
    (fun os started H enc _ => lifted os started H enc)
theorem card : Claim7.holds Tryd.pinned (.plain (OpenSpec.ofChange Rows.receiverNilSpec)) Rows.receiverNilCard :=
  Claim7.holds_tied_plain_at .later [] [.data] true (true, "9f1138924d784bfed17d71e72dd25563e285159175c97e71dd8c43ba71e9644f") false
    over (fun _ h => by cases h) (by kernel_rfl) (fun _ h => by cases h) receiverNil_row_tie rfl ⟨rfl, rfl⟩ (by kernel_rfl) rfl
    (fun f fn hf hfn => by
      obtain rfl : f = 6 := Option.some.inj ((show Tryd.prog.funcNamed Rows.receiverNilRow.func = some 6 by kernel_rfl).symm.trans hf) |>.symm
      obtain rfl : fn = Tryd.f6 := (Option.some.inj (Tryd.func6.symm.trans hfn)).symm
      exact ⟨by kernel_rfl, fun j t ht => by
        rw [Tryd.params6] at ht
        have hm : t ∈ [32] := by simpa using Array.mem_of_getElem? ht
        have hall : ([32].all fun u => !Tryd.prog.wantsStandIn u) = true := by kernel_rfl
        exact (show Tryd.prog.wantsStandIn t = false by simpa using List.all_eq_true.1 hall t hm)⟩)
    (by kernel_rfl)
end Go.Proofs.YtifcibmpeolmdaaDoor.LReceiverNil

namespace Go.Proofs.YtifcibmpeolmdaaDoor
theorem receiverNil_holds : Rows.ReceiverNilCardSaid := LReceiverNil.card
#print axioms receiverNil_holds
end Go.Proofs.YtifcibmpeolmdaaDoor
