/- Proved: for every list of frames the law ReceiverDrops returns true (what is refused changes nothing that is told, but its count), and its argument reads behind the call as it read before. Condition, by the row's own list: math/bits.deBruijn64tab starts as the program's text lays it (the card ties that). -/
import Derived.Test.YtifcibmpeolmdaaDoorFw
namespace Go.Proofs.YtifcibmpeolmdaaDoor.LReceiverDrops
open Go.RowKit

def DrRel (w0 : World) (b M : Nat) (iv : Value) (wr : World) : Prop :=
  ∃ (k : Nat) (r : Rv) (K : List Nat), iv = .int .i64 k ∧ k ≤ M ∧ Z wr K b r ∧ From w0.heap.size K ∧ Keep w0 wr ∧ ∀ e, r.d e ≤ k
set_option maxRecDepth 100000 in
set_option maxHeartbeats 4000000 in
theorem walk (a : Option Addr) (cap : Nat) (A : List Fq) (w : World) (h : ArgL fq w a cap A) (ht : Tab w) : Calls Tryd.prog 8 #[.slice a A.length cap] w fun e w' => e = .returned (.bool true) ∧ Keep w w' := by
  have HA := Lib.hid h
  have HT := Lib.hid ht
  obtain ⟨M, hM⟩ : ∃ M, A.length = M := ⟨_, rfl⟩
  have HM := Lib.hid hM
  rw [hM]
  clear hM h ht
  by_cases hlong : M ≤ 100
  rotate_left
  · have hgt : (M : Int) > 100 := by omega
    clear hlong
    go_enter Tryd.func8, Tryd.ntmps8
    go_wp2_with fail
    refine (awake_at w HT.out).mono ?_
    rintro e v1 ⟨rfl, k1⟩
    have HK := Lib.hid k1
    clear k1
    go_wp2_with fail
    refine (awake_at v1 (HT.out.keep HK.out)).mono ?_
    rintro e v2 ⟨rfl, k2⟩
    have HK2 := Lib.hid (HK.out.trans k2)
    clear k2
    go_wp2
    go_ret
    exact ⟨rfl, HK2.out⟩
  have hgt : ¬ (M : Int) > 100 := by omega
  obtain ⟨n, hn⟩ : ∃ n, n = 6 := ⟨6, rfl⟩
  have hsz : ∀ w, (Go.sizeOf 32).run Tryd.prog w = .ok n w := fun w => by rw [hn]; exact Tryd.sizeOf32 w
  have hn0 : ¬ n = 0 := by omega
  obtain ⟨hz, _⟩ := zero_of_info infoF
  have HN := Lib.hid hn
  have HZS := Lib.hid (fun f : Fr => (show (fc f).size = n by rw [hn]; rfl))
  clear hn
  go_enter Tryd.func8, Tryd.ntmps8
  go_wp2_with fail
  refine (awake_at w HT.out).mono ?_
  rintro e v1 ⟨rfl, k1⟩
  have HK1 := Lib.hid k1
  clear k1
  go_wp2_with fail
  refine (znew 1 2 6 (by unfold mayR; omega) v1 (HT.out.keep HK1.out)).mono ?_
  rintro e v2 ⟨b, K0, rfl, z2, f2, k2⟩
  have HZ2 := Lib.hid z2
  have HF2 := Lib.hid (f2.mono HK1.out.size)
  have HK2 := Lib.hid (HK1.out.trans k2)
  clear z2 f2 k2 HK1 hgt
  go_wp2_with fail
  go_loopw [30] (fun iv wr => DrRel w b M iv wr) (fun i _ => 110 - (intOf i).toNat)
  case atStart => exact ⟨0, _, _, rfl, Nat.zero_le _, HZ2.out, HF2.out, HK2.out, fun e => Nat.le_refl _⟩
  case round =>
    obtain ⟨k, r, K, rfl, hk, hZ, hF, hK, hd⟩ := hrel
    have HZ := Lib.hid hZ
    have HF := Lib.hid hF
    have HK := Lib.hid hK
    have HD := Lib.hid hd
    clear hZ hF hK hd
    by_cases hlt : k < M
    rotate_left
    · obtain rfl : k = M := by omega
      go_wp2
      go_ret
      exact ⟨rfl, HK.out⟩
    obtain ⟨x, hx⟩ : ∃ x, A[k]? = some x := ⟨_, List.getElem?_eq_getElem (by rw [HM.out]; exact hlt)⟩
    have hc := (HA.out.keep HK.out).cells (by intro q; rw [q] at hx; simp at hx)
    obtain ⟨g, o, c, hv, _, _, _⟩ := hc.ptr k (by rw [HM.out]; exact hlt)
    rw [HM.out] at hv
    injection hv with y1 y2 y3
    subst y1 y3
    have hl := whole_fq hc HN.out k x hx
    obtain ⟨hst, hfa, hkn⟩ := frame_new wr x.f
    have HFa := Lib.hid hfa
    have HZ1 := Lib.hid (HZ.out.keep hkn)
    have HK1 := Lib.hid (HK.out.trans hkn)
    have HSq := Lib.hid x.q.toSqF
    have h5 := hfa.data
    have hzs := HZS.out x.f
    clear hc y2 hfa hkn hx HZ HK
    generalize x.f = f at *
    by_cases hbig : 2000 < f.data.length
    · have hgt : (f.data.length : Int) > 2000 := by omega
      clear hbig
      generalize fc f = C at *
      generalize fc zeroF = C0 at *
      go_wp2
      go_ret
      exact ⟨rfl, HK1.out⟩
    have hgt : ¬ (f.data.length : Int) > 2000 := by omega
    have HCu := Lib.hid (zcursor HZ1.out)
    have HAck := Lib.hid (fun v (q : Keep ((wr.alloc (.cells (fc zeroF) 32)).setRow wr.heap.size (fc f)) v) => zack (HZ1.out.keep q))
    have HSt := Lib.hid (fun v => frame_new v r.ack)
    clear hbig
    obtain ⟨C, hC⟩ : ∃ C, fc f = C := ⟨_, rfl⟩
    obtain ⟨CA, hCA⟩ : ∃ C, fc r.ack = C := ⟨_, rfl⟩
    have HC := Lib.hid hC
    have HCA := Lib.hid hCA
    rw [hC] at HCu HAck hst hzs h5 HZ1 HK1 HFa hl
    simp only [hCA] at HAck HSt
    clear hC hCA
    obtain ⟨C0, hC0⟩ : ∃ C, fc zeroF = C := ⟨_, rfl⟩
    rw [hC0] at HCu HAck hst h5 HZ1 HK1 HFa hz
    simp only [hC0] at HSt
    clear hC0
    go_wp2_with fail
    generalize hv1 : (wr.alloc (.cells C0 32)).setRow wr.heap.size C = v1 at *
    generalize hfb : wr.heap.size = fb at *
    clear hst hv1 hl
    refine HCu.out.mono ?_
    rintro e v2 ⟨rfl, q2⟩
    have HK2' := Lib.hid (HK1.out.trans q2)
    have HZ2' := Lib.hid (HZ1.out.keep q2)
    have HFa2 := Lib.hid (HFa.out.keep q2)
    have hAck := HAck.out v2 q2
    clear q2 HK1 HZ1 HFa HCu HAck h5
    go_wp2_with fail
    refine hAck.mono ?_
    rintro e v3 ⟨rfl, q3⟩
    obtain ⟨hst3, hfa3, hk3⟩ := HSt.out v3
    have HK3 := Lib.hid ((HK2'.out.trans q3).trans hk3)
    have HZ3 := Lib.hid ((HZ2'.out.keep q3).keep hk3)
    have HFa3 := Lib.hid ((HFa2.out.keep q3).keep hk3)
    have HAb := Lib.hid hfa3
    have HAn := Lib.hid (show v3.heap.size ∉ K from fun q => Nat.lt_irrefl _ ((HZ2'.out.keep q3).low _ q))
    have HFf := Lib.hid (show fb < v3.heap.size from block_lt (HFa2.out.keep q3))
    clear q3 hfa3 hk3 hAck HK2' HZ2' HFa2 HSt
    have hzs3 : CA.size = n := by rw [← HCA.out]; exact HZS.out r.ack
    have hd0 : ∀ j, sumD r.d j ≤ 100 * j := fun j => sumD_le r.d 100 (fun e => by have := HD.out e; omega) j
    have hd1 : ∀ e, r.d e ≤ 100 := fun e => by have := HD.out e; omega
    have HD0 := Lib.hid (And.intro hd0 hd1)
    clear hd0 hd1
    go_wp2_with fail
    generalize hv4 : (v3.alloc (.cells C0 32)).setRow v3.heap.size CA = v4 at *
    generalize hab : v3.heap.size = ab at *
    clear hst3 hv4
    generalize wr = wm at *
    go_loopw [9, 42] (fun nv jv w4 => SmRel r.d v4 nv jv w4) (fun _ jv _ => 30 - (intOf jv).toNat)
    case atStart => exact ⟨rfl, 0, rfl, by omega, rfl⟩
    case round =>
      obtain ⟨rfl, j, rfl, hj, rfl⟩ := hrel
      have b1 : sumD r.d j ≤ 5000 := by have := HD0.out.1 j; omega
      have b2 : r.d (j : Int) ≤ 5000 := by have := HD0.out.2 (j : Int); omega
      by_cases hj2 : j < 20
      · have HDr := Lib.hid (zdrops (j : Int) HZ3.out)
        have HS := Lib.hid (show sumD r.d (j + 1) = sumD r.d j + r.d (j : Int) from rfl)
        generalize r.d (j : Int) = z at *
        generalize sumD r.d j = s at *
        go_wp2_with fail
        refine HDr.out.mono ?_
        rintro e w4 ⟨rfl, rfl⟩
        go_wp2
        go_roundw
        case rel => exact ⟨rfl, j + 1, by go_num, by omega, by rw [HS.out]; rfl⟩
        case measure => simp [intOf]; omega
      · obtain rfl : j = 20 := by omega
        generalize wr = v4 at *
        have hl4 := HFa3.out.whole HN.out
        rw [HC.out] at hl4
        have hTk := ztake f HSq.out HZ3.out (by have := HD0.out.2 (r.wrong f : Nat); omega)
        rw [HC.out] at hTk
        have HTk := Lib.hid hTk
        have hm := sumD_take r f
        have HM2 := Lib.hid hm
        have HCur := Lib.hid (fun h : r.wrong f ≠ 0 => And.intro (core_cursor (take_no h).1) (core_data (take_no h).1).2.2.1)
        clear hTk hm b1 b2 hj hj2
        obtain ⟨W, hW⟩ : ∃ W, r.wrong f = W := ⟨_, rfl⟩
        rw [hW] at HTk HM2 HCur
        clear hW
        go_wp2_with fail
        refine HTk.out.mono ?_
        rintro e v5 ⟨rfl, K', z5, t5, m5⟩
        have HZ5 := Lib.hid z5
        have HK5 := Lib.hid (Turn.from HK3.out t5 HF.out)
        have HF5 := Lib.hid (HF.out.more m5 HK3.out.size)
        have HAb5 := Lib.hid (show FAt v5 ab r.ack from t5.obj HAb.out HAn.out)
        have HDt := Lib.hid (fun e => take_d r f e k (HD.out e))
        clear z5 t5 m5 HTk hl4 HFa3 HAb HZ3 HK3
        go_wp2_with fail
        go_loopw [12, 54] (fun nv jv w4 => SmRel (r.take f).d v5 nv jv w4) (fun _ jv _ => 30 - (intOf jv).toNat)
        case atStart => exact ⟨rfl, 0, rfl, by omega, rfl⟩
        case round =>
          obtain ⟨rfl, j, rfl, hj, rfl⟩ := hrel
          have b1 : sumD (r.take f).d j ≤ 5000 := by have := sumD_le (r.take f).d 200 (fun e => by have := HDt.out e; omega) j; omega
          have b2 : (r.take f).d (j : Int) ≤ 5000 := by have := HDt.out (j : Int); omega
          by_cases hj2 : j < 20
          · have HDr := Lib.hid (zdrops (j : Int) HZ5.out)
            have HS := Lib.hid (show sumD (r.take f).d (j + 1) = sumD (r.take f).d j + (r.take f).d (j : Int) from rfl)
            generalize (r.take f).d (j : Int) = z at *
            generalize sumD (r.take f).d j = s at *
            go_wp2_with fail
            refine HDr.out.mono ?_
            rintro e w4 ⟨rfl, rfl⟩
            go_wp2
            go_roundw
            case rel => exact ⟨rfl, j + 1, by go_num, by omega, by rw [HS.out]; rfl⟩
            case measure => simp [intOf]; omega
          · obtain rfl : j = 20 := by omega
            generalize wr = v6 at *
            have HRel := Lib.hid (fun v (q : Keep v6 v) => (show DrRel w b M (.int .i64 ((k + 1 : Nat) : Int)) v from ⟨k + 1, r.take f, K', rfl, by omega, HZ5.out.keep q, HF5.out, HK5.out.trans q, HDt.out⟩))
            have hn9 : sumD r.d 20 ≤ 5000 := by have := HD0.out.1 20; omega
            have a8 : ∀ u : KW v6, (loadCellsFrom ⟨ab, 0, none⟩ 0 n #[]).run Tryd.prog u.1 = .ok CA u.1 := fun u => by rw [← HCA.out]; exact (HAb5.out.keep u.2).whole HN.out
            have hE := same_fc r.ack
            rw [HCA.out] at hE
            have HC5 := Lib.hid (fun v (q : Keep v6 v) => zcursor (HZ5.out.keep q))
            have HA5 := Lib.hid (fun v (q : Keep v6 v) => zack (HZ5.out.keep q))
            have hm := HM2.out
            clear b1 b2 hj hj2
            generalize sumD (r.take f).d 20 = m9 at *
            generalize sumD r.d 20 = n9 at *
            by_cases hw : W = 0
            · rw [if_pos hw, Nat.add_zero] at hm
              subst hw hm
              clear a8 hE HC5 HA5
              go_wp2_with fail
              refine wp_region_keep (Keep.refl _) (by kernel_rfl) (by kernel_rfl) ?_
              repeat (first | go_big_quiet_step (fail) | quiet_step (fail))
              refine wpQuiet_nil ?_
              rintro v8 ⟨⟨v9, k9⟩, hv⟩
              obtain rfl : v9 = v8 := hv.symm
              have HR9 := Lib.hid (HRel.out v9 k9)
              clear hv k9
              go_wp2
              go_roundw
              case rel => exact HR9.out
              case measure => simp [intOf]; omega
            · rw [if_neg hw] at hm
              subst hm
              obtain ⟨c1, c2⟩ := HCur.out hw
              rw [c1] at HC5
              rw [c2, HCA.out] at HA5
              have t0 : (((W : Nat) : Int) == 0) = false := by simp; omega
              have t1 : (((W : Nat) : Int) != 0) = true := by simp; omega
              clear hw c1 c2
              generalize r.cursor = cu at *
              go_wp2_with fail
              refine wp_region_keep (Keep.refl _) (by kernel_rfl) (by kernel_rfl) ?_
              repeat (first | go_big_quiet_step (fail) | quiet_step (fail))
              first | go_big_quiet_step (exact keep_at HC5.out _) | quiet_step (exact keep_at HC5.out _)
              repeat (first | go_big_quiet_step (fail) | quiet_step (fail))
              first | go_big_quiet_step (exact keep_at HA5.out _) | quiet_step (exact keep_at HA5.out _)
              repeat (first | go_big_quiet_step (fail) | quiet_step (fail))
              refine wpQuiet_nil ?_
              rintro v8 ⟨⟨v9, k9⟩, hv⟩
              obtain rfl : v9 = v8 := hv.symm
              have HR9 := Lib.hid (HRel.out v9 k9)
              clear hv k9 a8
              go_wp2
              go_roundw
              case rel => exact HR9.out
              case measure => simp [intOf]; omega

open Go.ChangeShapes Go.WideShapes Go.ChangeAt
set_option maxRecDepth 100000 in
theorem lifted (os : Os) (started : os.Started) (H : Type) (enc : TypeId × Value → H) :
    ReturnsInHanded {} Tryd.checked os 8 .any (fun w args => (Rows.receiverDropsSpec.pre enc Tryd.prog Tryd.f8 [] false w args ∧ laidMetH Tryd.prog laid1 w) ∧ sizedMet enc Tryd.prog Tryd.f8 (OpenSpec.ofChange Rows.receiverDropsSpec) false w args)
      (Rows.receiverDropsSpec.post enc Tryd.prog Tryd.f8 false true false false) := by
  refine returnsInHanded_of_change_and (C := Tryd.checked) (X := fun w _ => laidMetH Tryd.prog laid1 w) (fun _ _ _ hh h => h.of_heap hh) own started (by kernel_rfl) Tryd.func8
    (ChangeSpec.witness_shaped (enc := enc) (C := Tryd.checked) (os := os) (X := fun w _ => laidMetH Tryd.prog laid1 w) false (World.doorLaid Tryd.prog 400 os) #[.slice none 0 0] 8 rfl (World.shaped_of_RefB (by kernel_rfl) (by kernel_rfl)) (by kernel_rfl) (by kernel_rfl) (by kernel_rfl) (door_met os _)) ?_
  intro W base args ds gs before hval0 hW _ _ hL _
  have hval : ∀ (j : Nat) t v, Tryd.f8.params[j]? = some t → args[j]? = some v → Value.okWide Tryd.prog W .any base t v := hval0
  have hW' := hW
  obtain ⟨p, q, hA0, hV, rfl, hfz, hnd⟩ := hW
  have hA : DataW.TrodAll enc Tryd.prog W 0 (fun _ => true) true Tryd.f8.params.toList args.toList ds p := hA0

  rw [Tryd.params8] at hA hval
  obtain ⟨v0, vs0, d0, ds0, p0, q0, hargs, rfl, rfl, h0, r0⟩ := trodAll_cons hA
  obtain ⟨rfl, rfl, rfl⟩ := trodAll_nil r0
  obtain rfl : args = #[v0] := by cases args; simp_all
  obtain ⟨rfl, rfl⟩ := trodVars_none hV
  have k0 := h0
  have lt0 : ∀ x ∈ p0, x.block < W.heap.size := by obtain ⟨m, hm⟩ := k0; exact DataW.trod_lt m _ _ _ hm
  obtain ⟨a0, cap0, l0, rfl, f0⟩ := open_frames (hval 0 22 v0 rfl rfl) h0
  clear hA0 hval0
  refine (walk a0 cap0 l0 W f0 (of_laid hL)).mono fun e W' ⟨he, bel0⟩ => ?_
  subst he
  have bel : Below W.heap.size W W' := bel0
  exact ⟨_, rfl, _, _, _, [], _, [], hW', trodAll_mk1 (shut_bool Tryd.underlying4 _), (trodAll_cons_mk (Below.trod laidOut (by kernel_rfl) (of_decide_eq_true (by kernel_rfl)) k0 bel lt0) trodAll_mk0), rfl, bel.frame _, fun h => by cases h⟩

theorem over : Rows.receiverDropsRow.holds Tryd.pinned (OpenSpec.ofChange Rows.receiverDropsSpec) :=
  OpenClaim.holds_of_wide 8 Tryd.f8 rfl rfl rfl rfl rfl rfl rfl ⟨rfl, rfl, rfl, rfl, rfl⟩ rfl rfl rfl rfl rfl (by kernel_rfl) Tryd.func8 (by kernel_rfl)
    (of_decide_eq_true (by kernel_rfl)) (by unfold Func.isWrapper; first | (rw [if_pos (by decide +kernel)]; kernel_rfl) | (rw [if_neg (by decide +kernel)]; exact ⟨rfl, rfl⟩))
    (fun os started H enc _ => lifted os started H enc)
theorem card : Claim7.holds Tryd.pinned (.plain (OpenSpec.ofChange Rows.receiverDropsSpec)) Rows.receiverDropsCard :=
  Claim7.holds_tied_plain_at .later [] [.data] true (true, "9f1138924d784bfed17d71e72dd25563e285159175c97e71dd8c43ba71e9644f") false
    over (fun _ h => by cases h) (by kernel_rfl) (fun _ h => by cases h) receiverDrops_row_tie rfl ⟨rfl, rfl⟩ (by kernel_rfl) rfl
    (fun f fn hf hfn => by
      obtain rfl : f = 8 := Option.some.inj ((show Tryd.prog.funcNamed Rows.receiverDropsRow.func = some 8 by kernel_rfl).symm.trans hf) |>.symm
      obtain rfl : fn = Tryd.f8 := (Option.some.inj (Tryd.func8.symm.trans hfn)).symm
      exact ⟨by kernel_rfl, fun j t ht => by
        rw [Tryd.params8] at ht
        have hm : t ∈ [22] := by simpa using Array.mem_of_getElem? ht
        have hall : ([22].all fun u => !Tryd.prog.wantsStandIn u) = true := by kernel_rfl
        exact (show Tryd.prog.wantsStandIn t = false by simpa using List.all_eq_true.1 hall t hm)⟩)
    (by kernel_rfl)
end Go.Proofs.YtifcibmpeolmdaaDoor.LReceiverDrops

namespace Go.Proofs.YtifcibmpeolmdaaDoor
theorem receiverDrops_holds : Rows.ReceiverDropsCardSaid := LReceiverDrops.card
#print axioms receiverDrops_holds
end Go.Proofs.YtifcibmpeolmdaaDoor

