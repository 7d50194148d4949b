/- Proved: for every route and every kind of change the law TableNil returns true (in a table that is none there are no routes), and its arguments read behind the call as they read before. No condition. -/
import Derived.Test.YtgocmolebanflaaAx
import Derived.Test.YtgocmolebanflaaOp
import Derived.ShutString
import Derived.ChangeOld
namespace Go.Proofs.Ytgocmolebanflaa.LTableNil
open Go.RowKit

theorem fold_inc (k : Int) (r : Rt) : Array.foldl (fun cs x => cs.setIfInBounds (1 + x.snd) x.fst) (ic ⟨k, zeroR⟩) (rc r).zipIdx 0 (rc r).size = ic ⟨k, r⟩ := by
  have hf := fold_sets 1 (rc r).toList 0 (ic ⟨k, zeroR⟩) (by rw [ic_size, Array.length_toList, rc_size]; omega)
  rw [show (rc r).size = (rc r).zipIdx.size by simp, ← Array.foldl_toList, Array.toList_zipIdx]
  rw [hf]
  have h1 : ((ic ⟨k, zeroR⟩).toList.drop (1 + 0 + (rc r).toList.length)) = [] := List.drop_of_length_le (by rw [Array.length_toList, ic_size, Array.length_toList, rc_size]; omega)
  rw [h1, List.append_nil]
  simp [ic, il, rc]
theorem new_0 : newE [] = 0 := by
  unfold newE
  rw [if_pos (by simp), if_pos (by simp), if_pos (by simp)]
theorem get_0 (p : Px) : getS [] p = zeroR := by simp [getS, hasP]
theorem bet_0 (p q : Px) : betS [] p q = [] := by simp [betS]

set_option maxRecDepth 100000 in
set_option maxHeartbeats 4000000 in
theorem walk (r : Rt) (k : Int) (w : World) (_ : (Lit.int .i64 k).wf = true) : Calls Try.prog 7 #[.agg (rc r), .int .i64 k] w fun e w' => e = .returned (.bool true) ∧ Below w.heap.size w w' := by
  obtain ⟨hz34, _⟩ := zero_of_info info34b
  obtain ⟨n, hn⟩ : ∃ n, n = 18 := ⟨18, rfl⟩
  have hsz : ∀ w, (Go.sizeOf 25).run Try.prog w = .ok n w := fun w => by rw [hn]; exact Try.sizeOf25 w
  have hn0 : ¬ n = 0 := by omega
  obtain ⟨n2, hn2⟩ : ∃ n, n = 20 := ⟨20, rfl⟩
  have hsz2 : ∀ w, (Go.sizeOf 34).run Try.prog w = .ok n2 w := fun w => by rw [hn2]; exact Try.sizeOf34 w
  have hzs : (rc zeroR).size = n2 := by rw [hn2]; exact rc_size _
  have HN := Lib.hid hn
  have HN2 := Lib.hid hn2
  have hA := RAt.new w r
  have hto := hA.to hn
  have HA := Lib.hid hA
  have HK0 := Lib.hid (show Keep w (w.alloc (.cells (rc r) 34)) from (Keep.refl w).alloc _)
  have HG := Lib.hid (get (.pointer none) [] r.to r.ok (w.alloc (.cells (rc r) 34)) (.inl ⟨rfl, rfl⟩))
  rw [get_0, show hasP [] r.to = false from rfl] at HG
  have HP := Lib.hid (put_nil r)
  have HD := Lib.hid (drop_nil r.to)
  have HDo := Lib.hid (do_nil ⟨k, r⟩)
  have HB := Lib.hid (build_inc k r)
  have hRz : (rc r).size = n2 := by rw [hn2]; exact rc_size _
  have hfold := fold_inc k r
  rw [hRz] at hfold
  have h21 : ¬ 21 < 1 + n2 := by omega
  have HL := Lib.hid (fun w => len_at (.pointer none) [] w (.inl ⟨rfl, rfl⟩))
  have HAl := Lib.hid (fun w => all (.pointer none) [] w (.inl ⟨rfl, rfl⟩))
  have HBt := Lib.hid (fun w => between (.pointer none) [] r.to r.to r.ok r.ok w (.inl ⟨rfl, rfl⟩))
  simp only [bet_0] at HBt
  obtain ⟨R, hR⟩ : ∃ R, rc r = R := ⟨_, rfl⟩
  have HRC := Lib.hid hR
  rw [hR] at hto HA HK0 HG HP hRz hfold
  simp only [hR] at HB ⊢
  clear hA hn hn2 hR
  generalize ic ⟨k, r⟩ = I at *
  have hfold2 : Array.foldl (fun cs x => cs.setIfInBounds (1 + x.snd) x.fst) #[Value.int .i64 k, .bool false, .int .u8 0, .int .u8 0, .int .u8 0, .int .u8 0, .int .u8 0, .int .u8 0, .int .u8 0, .int .u8 0, .int .u8 0, .int .u8 0, .int .u8 0, .int .u8 0, .int .u8 0, .int .u8 0, .int .u8 0, .int .u8 0, .int .i64 0, .int .i64 0, .int .u32 0] R.zipIdx 0 n2 = I := hfold
  clear hfold
  obtain ⟨T, hT⟩ : ∃ T, pc r.to = T := ⟨_, rfl⟩
  have HTC := Lib.hid hT
  simp only [hT] at hto HG HD HBt
  clear hT
  go_enter Try.func7, Try.ntmps7
  go_wp2_with fail
  refine HG.out.mono ?_
  rintro e w1 ⟨rfl, b1⟩
  have hZ := RAt.new w1 zeroR
  have hst := hZ.store zeroR
  have HK1 := Lib.hid ((HK0.out.trans b1).trans (((Keep.refl w1).alloc (.cells (rc zeroR) 34)).setRow w1.heap.size (rc zeroR) (Nat.le_refl _)))
  have HA1 := Lib.hid (HA.out.keep (b1.trans (((Keep.refl w1).alloc (.cells (rc zeroR) 34)).setRow w1.heap.size (rc zeroR) (Nat.le_refl _))))
  clear b1 hZ hto HK0 HA HG
  go_wp2_with fail
  generalize (w1.alloc (.cells (rc zeroR) 34)).setRow w1.heap.size (rc zeroR) = w2 at *
  refine (new_of _ [] [] w2 (Cells.nil w2) (by simp) new_0 Sorted.nil (List.Perm.refl _)).mono ?_
  rintro e w3 ⟨b, rfl, hb, tb, b3⟩
  clear hst
  go_wp2_with fail
  refine (awake w3).mono ?_
  rintro e w4 ⟨rfl, b4⟩
  have HT4 := Lib.hid (tb.keep b4)
  have HA4 := Lib.hid (HA1.out.keep (b3.trans b4))
  have HK4 := Lib.hid (HK1.out.trans (b3.trans b4))
  have l4 := HA4.out.whole HN2.out
  rw [HRC.out] at l4
  clear tb b3 b4 hb HA1 HK1
  go_wp2_with fail
  refine (HP.out _).mono ?_
  rintro e w5 ⟨rfl, b5⟩
  have HA5 := Lib.hid (HA4.out.keep b5)
  have l5 := HA5.out.to HN.out
  rw [HTC.out] at l5
  clear l4
  go_wp2_with fail
  refine (HD.out _).mono ?_
  rintro e w6 ⟨rfl, b6⟩
  have HA6 := Lib.hid (HA5.out.keep b6)
  have l6 := HA6.out.whole HN2.out
  rw [HRC.out] at l6
  clear l5
  go_wp2_with fail
  refine (HDo.out _).mono ?_
  rintro e w7 ⟨rfl, b7⟩
  clear l6
  go_wp2_with fail
  refine (HL.out _).mono ?_
  rintro e w8 ⟨rfl, b8⟩
  go_wp2_with fail
  refine (HAl.out _).mono ?_
  rintro e w9 ⟨va, rfl, oa, b9⟩
  obtain ⟨a1, c1, e1, _, _⟩ := (oa.row elR).cells.form
  subst e1
  have HK9 := Lib.hid (((b5.trans b6).trans (b7.trans b8)).trans b9)
  have HA9 := Lib.hid (HA4.out.keep HK9.out)
  have l9 := HA9.out.to HN.out
  rw [HTC.out] at l9
  clear b5 b6 b7 b8 b9 oa HA5 HA6
  go_wp2_with fail
  refine (HBt.out _).mono ?_
  rintro e w10 ⟨vb, rfl, hvb, b10⟩
  obtain ⟨a2, c2, e2, _, _⟩ := hvb.cells.form
  subst e2
  clear l9 hvb
  go_wp2_with fail
  refine (copy_nil _).mono ?_
  rintro e w11 ⟨rfl, b11⟩
  have HT11 := Lib.hid (HT4.out.keep (HK9.out.trans (b10.trans b11)))
  have HSm := Lib.hid (same (.pointer none) _ [] [] w11 (.inl ⟨rfl, rfl⟩) (Tp.of HT11.out))
  rw [decide_eq_true rfl] at HSm
  go_wp2_with fail
  refine HSm.out.mono ?_
  rintro e w12 ⟨rfl, b12⟩
  have HCh := Lib.hid (changes (.pointer none) _ [] [] w12 (.inl ⟨rfl, rfl⟩) (Tp.of (HT11.out.keep b12)))
  go_wp2_with fail
  refine HCh.out.mono ?_
  rintro e w13 ⟨vc, rfl, hvc, b13⟩
  rw [chg_nil] at hvc
  obtain ⟨a3, c3, e3, _, _⟩ := hvc.cells.form
  subst e3
  have HKF := Lib.hid (HK4.out.trans (HK9.out.trans ((b10.trans b11).trans (b12.trans b13))))
  clear b10 b11 b12 b13 hvc
  go_wp2
  go_ret
  exact ⟨rfl, HKF.out⟩

open Go.ChangeShapes Go.WideShapes Go.ChangeAt

set_option maxRecDepth 100000 in
theorem lifted (os : Os) (started : os.Started) (H : Type) (enc : TypeId × Value → H) :
    ReturnsInHanded {} Try.checked os 7 .any (Rows.tableNilSpec.pre6 enc Try.prog Try.f7 Rows.tableNilRow.domain false) (Rows.tableNilSpec.post enc Try.prog Try.f7 false true false false) := by
  refine returnsInHanded_of_change (C := Try.checked) own started (by kernel_rfl) Try.func7
    (ChangeSpec.witness6 (enc := enc) (C := Try.checked) false ⟨#[], #[.agg (rc zeroR), .int .i64 0], []⟩ 8 (by kernel_rfl) (by kernel_rfl) (by kernel_rfl) (by kernel_rfl)) ?_
  intro W base args ds gs before hval0 hW hcnd _
  have hval : ∀ (j : Nat) t v, Try.f7.params[j]? = some t → args[j]? = some v → Value.okWide Try.prog W .any base t v := hval0
  have hW' := hW
  obtain ⟨p, q, hA0, hV, rfl, hfz, hnd⟩ := hW
  have hA : DataW.TrodAll enc Try.prog W 0 (fun _ => true) true Try.f7.params.toList args.toList ds p := hA0

  rw [Try.params7] at hA hval
  obtain ⟨v0, vs0, d0, ds0, p0, q0, hargs, rfl, rfl, h0, r0⟩ := trodAll_cons hA
  obtain ⟨v1, vs1, d1, ds1, p1, q1, rfl, rfl, rfl, h1, r1⟩ := trodAll_cons r0
  obtain ⟨rfl, rfl, rfl⟩ := trodAll_nil r1
  obtain rfl : args = #[v0, v1] := by cases args; simp_all
  obtain ⟨rfl, rfl⟩ := trodVars_none hV
  have k0 := h0
  have lt0 : ∀ x ∈ p0, x.block < W.heap.size := by obtain ⟨m, hm⟩ := k0; exact DataW.trod_lt m _ _ _ hm
  have k1 := h1
  have lt1 : ∀ x ∈ p1, x.block < W.heap.size := by obtain ⟨m, hm⟩ := k1; exact DataW.trod_lt m _ _ _ hm
  obtain ⟨a0, rfl⟩ := open_route (hval 0 34 v0 rfl rfl) h0
  obtain ⟨a1, rfl, _, _, w1⟩ := open_int Try.underlying3 (hval 1 3 v1 rfl rfl) h1
  clear hA0 hval0
  refine (walk a0 a1 W w1).mono fun e W' ⟨he, bel⟩ => ?_
  subst he
  exact ⟨_, rfl, _, _, _, [], _, [], hW', trodAll_mk1 (shut_bool Try.underlying4 _), (trodAll_cons_mk (Below.trod laidOut (by kernel_rfl) (of_decide_eq_true (by kernel_rfl)) k0 bel lt0) (trodAll_cons_mk (Below.trod laidOut (by kernel_rfl) (of_decide_eq_true (by kernel_rfl)) k1 bel lt1) trodAll_mk0)), rfl, bel.frame _, fun h => by cases h⟩

theorem over : Rows.tableNilRow.holds Try.pinned (OpenSpec.ofChange Rows.tableNilSpec) :=
  OpenClaim.holds_of_wide 7 Try.f7 rfl rfl rfl rfl rfl rfl rfl ⟨rfl, rfl, rfl, rfl, rfl⟩ rfl rfl rfl rfl rfl (by kernel_rfl) Try.func7 (by kernel_rfl)
    (of_decide_eq_true (by kernel_rfl)) (by unfold Func.isWrapper; first | (rw [if_pos (by decide +kernel)]; kernel_rfl) | (rw [if_neg (by decide +kernel)]; exact ⟨rfl, rfl⟩))
    (fun os started H enc _ => lifted os started H enc)
end Go.Proofs.Ytgocmolebanflaa.LTableNil

namespace Go.Proofs.Ytgocmolebanflaa
theorem tableNil_holds : Rows.TableNilSaid := LTableNil.over
#print axioms tableNil_holds
end Go.Proofs.Ytgocmolebanflaa

