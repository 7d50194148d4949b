/- Proved: what the document's Tokens of layer 5 answers. Condition: the text has at most 10^8 bytes. -/
import Derived.Test.YtpimecnpdpcceaaGreatQv
import Derived.OwnWalk
namespace Go.Proofs.YtpimecnpdpcceaaGreat
open Go.RowKit

set_option maxRecDepth 100000 in
set_option maxHeartbeats 8000000 in
theorem qtokens (s : List UInt8) (hs : s.length ≤ 100000000) (w : World) : Calls Tryz.prog 73 #[.string ⟨s.toArray⟩] w (QoPost w (Lz.tokensF s)) := by
  obtain ⟨R, hR⟩ : ∃ R, R = Lz.tokensF s := ⟨_, rfl⟩
  rw [← hR]
  unfold Lz.tokensF at hR
  have HOf := Lib.hid (Bit.rof s (by omega))
  have hll : (Bit.ofL s).length ≤ 1000000000 := by rw [Bit.ofL_len]; omega
  have HLL := Lib.hid hll
  generalize hO : Bit.ofL s = O at hR HOf HLL
  have HCode := Lib.hid (fun (b : Nat) (w' : World) (h : Bit.Qd w' b O 0) => qcode5 b O 0 w' h)
  generalize Bit.codeF O 0 = c at hR HCode
  obtain ⟨N, l0, x⟩ := c
  simp only at hR HCode
  have HR := Lib.hid hR
  have HBD := Lib.hid (build_rd ⟨(Bit.strL O).toArray⟩)
  clear hR hO hll hs
  go_enter Tryz.func73, Tryz.ntmps73
  go_wp2_with fail
  refine (HOf.out _).mono ?_
  rintro e w0 ⟨rfl, q0⟩
  have HK0 := Lib.hid (bk q0)
  have HQ0 := Lib.hid (qd_new w0 O HLL.out)
  have HKA := Lib.hid (show Keep w0 (w0.alloc (.cells #[.string ⟨(Bit.strL O).toArray⟩, .int .i64 0] 152)) from (Keep.refl _).alloc _)
  have HC1 := Lib.hid (HCode.out _ _ HQ0.out)
  clear q0 HCode HOf HLL
  go_wp2_with (first | (refine at_build [(0, .string ⟨(Bit.strL O).toArray⟩)] rfl _ (HBD.out _) ?_) | fail)
  refine HC1.out.mono ?_
  rintro e w2 ⟨rfl, r2, o2⟩
  have HK2 := Lib.hid (Only.made HKA.out (bo o2) (Nat.le_refl _))
  have HQ2 := Lib.hid r2
  have d1 := r2.c1
  clear r2 o2 HC1 HKA HQ0 HBD
  by_cases hx : x = 0
  · have hxb : (x != 0) = false := by simp [hx]
    have HQ3 := Lib.hid (show Bit.Qd w2 w0.heap.size l0 0 from by rw [← hx]; exact HQ2.out)
    have hR := HR.out
    rw [if_neg (by simp [hx])] at hR
    by_cases hbig : 65536 < N
    · have hbi : (N : Int) > 65536 := by omega
      rw [if_pos hbig] at hR
      have HRE := Lib.hid hR
      clear hR HR
      go_wp2
      go_ret3
      rw [HRE.out]
      exact ⟨_, rfl, Row.nil _ _, HK0.out.trans HK2.out⟩
    · have hbi : ¬ (N : Int) > 65536 := by omega
      rw [if_neg hbig] at hR
      have HRE := Lib.hid hR
      clear hR HR HQ2
      go_wp2
      go_loopw [7, 8] (fun lv hv wr => QoRel w0 N l0 lv hv wr) (fun _ hv _ => N - (intOf hv).toNat)
      case atStart => exact ⟨0, N, l0, [], rfl, Nat.zero_le _, Nat.zero_le _, Nat.sub_le _ _, rfl, Own.nil _ _, HQ3.out, HK2.out⟩
      case round =>
        obtain ⟨has, f, l, T, rfl, hhas, hfew, hf, heq, hown, hrd, hw⟩ := hrel
        have HEQ := Lib.hid heq
        have HO := Lib.hid hown
        have HRD := Lib.hid hrd
        have HK := Lib.hid hw
        clear heq hown hrd hw d1
        by_cases hlt : has < N
        · have hlti : (has : Int) < N := by omega
          obtain ⟨f', rfl⟩ : ∃ f', f = f' + 1 := ⟨f - 1, by omega⟩
          have hst := HEQ.out
          rw [Lz.takesF_step hlt] at hst
          have HRoom := Lib.hid (fun (h : (Lz.takeF has N l).2.2 = 0) => Lz.okT_room (Lz.take_okT (l := l) (l1 := (Lz.takeF has N l).2.1) hlt (by rw [← h])))
          have HT0 := Lib.hid (fun bit l1 (h : Bit.bitsF l 0 1 = (bit, l1, 0)) (hb : bit = 0) => take_bit0 (has := has) (n := N) h hb)
          have HT1 := Lib.hid (fun bit l1 (h : Bit.bitsF l 0 1 = (bit, l1, 0)) (hb : bit = 1) => take_bit1 (has := has) (n := N) h hb)
          have HT2 := Lib.hid (fun bit l1 x (h : Bit.bitsF l 0 1 = (bit, l1, x)) (hx : x ≠ 0) => take_wrong (has := has) (n := N) h hx)
          generalize Lz.takeF has N l = r at hst HRoom HT0 HT1 HT2
          have HST := Lib.hid hst
          have HErr := Lib.hid (fun (h : r.2.2 ≠ 0) => show R = ([], 0, r.2.2) from by rw [HRE.out, HST.out, if_pos h]; simp only; rw [if_pos h])
          have HGo := Lib.hid (fun (h : r.2.2 = 0) => show Lz.takesF N N 0 l0 [] = Lz.takesF N f' (has + Lz.sizeT r.1) r.2.1 (T ++ [r.1]) from by rw [HST.out, if_neg (by simp [h])])
          have hb1 := Bit.qbits_at w0.heap.size 1 l 0 wr HRD.out
          have HB1 := Lib.hid (one_bit l)
          generalize hbf : Bit.bitsF l 0 1 = c1 at *
          obtain ⟨bit, l1, x1⟩ := c1
          simp only at hb1 HB1
          have HBC := Lib.hid hb1
          clear hst HEQ hb1 hbf HST
          go_wp2_with fail
          refine HBC.out.mono ?_
          rintro e w3 ⟨rfl, r3, o3⟩
          have HO3 := Lib.hid (HO.out.only (bo o3) (by omega))
          have HK3 := Lib.hid (Only.made HK.out (bo o3) (Nat.le_refl _))
          have HQ3' := Lib.hid r3
          have d3 := r3.c1
          clear r3 o3 HBC HO HK HRD
          by_cases hx1 : x1 = 0
          · subst hx1
            by_cases hbit : bit = 0
            · subst hbit
              have hb8 := Bit.qbits_at w0.heap.size 8 l1 0 w3 HQ3'.out
              have hr := HT0.out 0 l1 rfl rfl
              clear HT0 HT1 HT2
              generalize Bit.bitsF l1 0 8 = c2 at hb8 hr
              obtain ⟨v, l2, x2⟩ := c2
              simp only at hb8 hr
              have HC2 := Lib.hid hb8
              have HRr := Lib.hid hr
              have hv : (v : Int) % 256 = ((UInt8.ofNat v).toNat : Nat) := by simp [UInt8.toNat_ofNat']
              have HBB := Lib.hid (build_byteQ (UInt8.ofNat v))
              have HBS := Lib.hid (slice_tokQ ⟨UInt8.ofNat v, 0, 0⟩)
              have HBR := Lib.hid (fun w => Row.tokQ w ⟨UInt8.ofNat v, 0, 0⟩)
              clear hb8 hr HB1
              go_wp2_with fail
              refine HC2.out.mono ?_
              rintro e w4 ⟨rfl, r4, o4⟩
              have HO4 := Lib.hid (HO3.out.only (bo o4) (by omega))
              have HK4 := Lib.hid (Only.made HK3.out (bo o4) (Nat.le_refl _))
              have HQ4 := Lib.hid r4
              clear r4 o4 HC2 HO3 HK3 HQ3' d3
              generalize UInt8.ofNat v = c at *
              go_wp2_with (first | (refine at_build [(0, .int .u8 (c.toNat : Nat))] rfl _ (HBB.out _) ?_) | (refine at_slice [(0, .agg (tc ⟨c, 0, 0⟩))] rfl _ (HBS.out _) ?_) | (at_builtin; refine wp_app elQ rfl _ _ rfl (w0.heap.size + 1) _ _ T [⟨c, 0, 0⟩] rfl rfl (HO4.out.keep ((Keep.refl _).alloc _)) (HBR.out _).cells ?q1 ?q2 ?q3 ?_))
              case q1 => simp; omega
              case q2 => simp; omega
              case q3 => have := HQ4.out.block; have := Bit.lt_of_block this; simp; omega
              intro v9 w9 k1 k2
              have HK9 := Lib.hid ((HO4.out.keep ((Keep.refl _).alloc _)).grown (HK4.out.alloc _) (by omega) k2)
              have HQ9 := Lib.hid (Qd_app (Qd_keep HQ4.out ((Keep.refl _).alloc _)) (HO4.out.keep ((Keep.refl _).alloc _)) (by omega) k2)
              have d9 := HQ9.out.c1
              have HO9 := Lib.hid k1
              clear k1 k2 hv
              by_cases hx2 : x2 = 0
              · have hx2b : (x2 != 0) = false := by simp [hx2]
                have hrr : r = (⟨c, 0, 0⟩, l2, 0) := by rw [HRr.out, if_neg (by simp [hx2])]
                have hG := HGo.out (by rw [hrr])
                rw [hrr] at hG
                simp only at hG
                rw [show Lz.sizeT ⟨c, 0, 0⟩ = 1 from by unfold Lz.sizeT; rfl] at hG
                have HG := Lib.hid hG
                have HQ10 := Lib.hid (show Bit.Qd w9 w0.heap.size l2 0 from by rw [← hx2]; exact HQ9.out)
                clear hrr hG
                go_wp2
                go_roundw
                case rel => exact ⟨has + 1, f', l2, T ++ [⟨c, 0, 0⟩], by go_num, by omega, by simp; omega, by omega, HG.out, HO9.out, HQ10.out, HK9.out⟩
                case measure => simp [intOf]; omega
              · have hx2b : (x2 != 0) = true := by simpa using hx2
                have hrr : r = (⟨0, 0, 0⟩, l2, x2) := by rw [HRr.out, if_pos hx2]
                have HRX := Lib.hid (HErr.out (by rw [hrr]; exact hx2))
                rw [hrr] at HRX
                clear hrr
                have c1 : ∀ u : KW w9, u.1.cell? ⟨w0.heap.size, 1, none⟩ = some (.int .i64 x2) := fun u => (Qd_keep HQ9.out u.2).c1
                go_wp2_with fail
                refine wp_region_keep (Keep.refl w9) (by kernel_rfl) (by kernel_rfl) ?_
                repeat (first | go_big_quiet_step (fail) | quiet_step (fail))
                refine wpQuiet_nil ?_
                rintro w6 ⟨⟨w7, b6⟩, rfl⟩
                go_wp2
                go_ret3
                rw [HRX.out]
                exact ⟨_, rfl, Row.nil _ _, HK0.out.trans (HK9.out.trans b6)⟩
            · have hbit1 : bit = 1 := by
                rcases HB1.out rfl with h | h
                · exact absurd h hbit
                · exact h
              subst hbit1
              have hr := HT1.out 1 l1 rfl rfl
              clear HT0 HT1 HT2 HB1 hbit
              unfold copyF at hr
              have hc1 := qcode5 w0.heap.size l1 0 w3 HQ3'.out
              generalize Bit.codeF l1 0 = c2 at hr hc1
              obtain ⟨back, l2, x2⟩ := c2
              simp only at hr hc1
              have HC1 := Lib.hid hc1
              have HC2 := Lib.hid (fun w' (h : Bit.Qd w' w0.heap.size l2 x2) => qcode5 w0.heap.size l2 x2 w' h)
              have HW2 := Lib.hid (code_wrong l2 x2)
              generalize Bit.codeF l2 x2 = c3 at hr HC2 HW2
              obtain ⟨more, l3, x3⟩ := c3
              simp only at hr HC2 HW2
              have HRr := Lib.hid hr
              clear hr hc1
              go_wp2_with fail
              refine HC1.out.mono ?_
              rintro e w4 ⟨rfl, r4, o4⟩
              have HO4 := Lib.hid (HO3.out.only (bo o4) (by omega))
              have HK4 := Lib.hid (Only.made HK3.out (bo o4) (Nat.le_refl _))
              have HCC := Lib.hid (HC2.out w4 r4)
              clear r4 o4 HC1 HC2 HO3 HK3 HQ3' d3
              go_wp2_with fail
              refine HCC.out.mono ?_
              rintro e w5 ⟨rfl, r5, o5⟩
              have HO5 := Lib.hid (HO4.out.only (bo o5) (by omega))
              have HK5 := Lib.hid (Only.made HK4.out (bo o5) (Nat.le_refl _))
              have HQ5 := Lib.hid r5
              have d5 := r5.c1
              clear r5 o5 HCC HO4 HK4
              by_cases hx3 : x3 = 0
              · subst hx3
                have hr := HRr.out
                rw [if_neg (by simp)] at hr
                by_cases h1 : has ≤ back
                · have h1i : (back : Int) ≥ has := by omega
                  have HRX := Lib.hid (HErr.out (by rw [hr, if_pos h1]; simp))
                  rw [hr, if_pos h1] at HRX
                  clear hr
                  go_wp2
                  go_ret3
                  rw [HRX.out]
                  exact ⟨_, rfl, Row.nil _ _, HK0.out.trans HK5.out⟩
                · have h1i : ¬ (back : Int) ≥ has := by omega
                  rw [if_neg h1] at hr
                  have h1n : back < has := by omega
                  by_cases h2 : N - has < 3
                  · have h2i : (N : Int) - has < 3 := by omega
                    have HRX := Lib.hid (HErr.out (by rw [hr, if_pos (.inl h2)]; simp))
                    rw [hr, if_pos (.inl h2)] at HRX
                    clear hr
                    go_wp2
                    go_ret3
                    rw [HRX.out]
                    exact ⟨_, rfl, Row.nil _ _, HK0.out.trans HK5.out⟩
                  · have h2i : ¬ (N : Int) - has < 3 := by omega
                    by_cases h3 : N - has - 3 < more
                    · have h3i : (more : Int) > (N : Int) - has - 3 := by omega
                      have HRX := Lib.hid (HErr.out (by rw [hr, if_pos (.inr h3)]; simp))
                      rw [hr, if_pos (.inr h3)] at HRX
                      clear hr
                      go_wp2
                      go_ret3
                      rw [HRX.out]
                      exact ⟨_, rfl, Row.nil _ _, HK0.out.trans HK5.out⟩
                    · have h3i : ¬ (more : Int) > (N : Int) - has - 3 := by omega
                      rw [if_neg (by omega)] at hr
                      have hroom := HRoom.out (by rw [hr])
                      have HG := Lib.hid (HGo.out (by rw [hr]))
                      rw [hr] at HG hroom
                      have hsz3 : Lz.sizeT ⟨0, back + 1, more + 3⟩ = more + 3 := by unfold Lz.sizeT; simp only; omega
                      rw [hsz3] at HG
                      have HBC := Lib.hid (fun w => build_copyQ (back + 1) (more + 3) w)
                      rw [show ((back + 1 : Nat) : Int) = (back : Int) + 1 by omega, show ((more + 3 : Nat) : Int) = (more : Int) + 3 by omega] at HBC
                      have HBS := Lib.hid (slice_tokQ ⟨0, back + 1, more + 3⟩)
                      have HBR := Lib.hid (fun w => Row.tokQ w ⟨0, back + 1, more + 3⟩)
                      generalize hK : (⟨0, back + 1, more + 3⟩ : Lz.Tk) = t at *
                      have hbs : back ≤ 65536 := by omega
                      have hms : more ≤ 65536 := by omega
                      clear hr hK hsz3 hroom h3 h2 h1
                      go_wp2_with (first | (refine at_build [(1, .int .i64 ((back : Int) + 1)), (2, .int .i64 ((more : Int) + 3))] rfl _ (HBC.out _) ?_) | (refine at_slice [(0, .agg (tc t))] rfl _ (HBS.out _) ?_) | (at_builtin; refine wp_app elQ rfl _ _ rfl (w0.heap.size + 1) _ _ T [t] rfl rfl (HO5.out.keep ((Keep.refl _).alloc _)) (HBR.out _).cells ?q1 ?q2 ?q3 ?_))
                      case q1 => simp; omega
                      case q2 => simp; omega
                      case q3 => have := HQ5.out.block; have := Bit.lt_of_block this; simp; omega
                      intro v9 w9 k1 k2
                      have HK9 := Lib.hid ((HO5.out.keep ((Keep.refl _).alloc _)).grown (HK5.out.alloc _) (by omega) k2)
                      have HQ9 := Lib.hid (Qd_app (Qd_keep HQ5.out ((Keep.refl _).alloc _)) (HO5.out.keep ((Keep.refl _).alloc _)) (by omega) k2)
                      have d9 := HQ9.out.c1
                      have HO9 := Lib.hid k1
                      clear k1 k2 d5
                      go_wp2
                      go_roundw
                      case rel => exact ⟨has + (more + 3), f', l3, T ++ [t], by go_num, by omega, by simp; omega, by omega, HG.out, HO9.out, HQ9.out, HK9.out⟩
                      case measure => simp [intOf]; omega
              · have hx3b : (x3 != 0) = true := by simpa using hx3
                have hx3c : (x3 == 0) = false := by simpa using hx3
                have hm0 := HW2.out hx3
                subst hm0
                have hrr := HRr.out
                rw [if_pos hx3] at hrr
                have HRX := Lib.hid (HErr.out (by rw [hrr]; exact hx3))
                rw [hrr] at HRX
                have HB3 := Lib.hid build_3
                have HS3 := Lib.hid slice_3
                have HR3 := Lib.hid Row.tok3
                clear hrr
                go_wp2_with (first | (refine at_build [(1, .int .i64 _), (2, .int .i64 _)] rfl _ (HB3.out _ _ _) ?_) | (refine at_slice [(0, .agg #[.int .u8 0, .int .i64 _, .int .i64 _])] rfl _ (HS3.out _ _ _) ?_) | (at_builtin; refine wp_app elQ3 rfl _ _ rfl (w0.heap.size + 1) _ _ (T.map e3) [(0, _, _)] rfl rfl (HO5.out.as3.keep ((Keep.refl _).alloc _)) (HR3.out _ _ _).cells ?q1 ?q2 ?q3 ?_))
                case q1 => simp; omega
                case q2 => simp; omega
                case q3 => have := HQ5.out.block; have := Bit.lt_of_block this; simp; omega
                intro v9 w9 k1 k2
                have HK9 := Lib.hid ((HO5.out.as3.keep ((Keep.refl _).alloc _)).grown (HK5.out.alloc _) (by omega) k2)
                have HQ9 := Lib.hid (Qd_app (Qd_keep HQ5.out ((Keep.refl _).alloc _)) (HO5.out.as3.keep ((Keep.refl _).alloc _)) (by omega) k2)
                have d9 := HQ9.out.c1
                clear k1 k2 d5
                have c1 : ∀ u : KW w9, u.1.cell? ⟨w0.heap.size, 1, none⟩ = some (.int .i64 x3) := fun u => (Qd_keep HQ9.out u.2).c1
                go_wp2_with fail
                refine wp_region_keep (Keep.refl w9) (by kernel_rfl) (by kernel_rfl) ?_
                repeat (first | go_big_quiet_step (fail) | quiet_step (fail))
                refine wpQuiet_nil ?_
                rintro w6 ⟨⟨w7, b6⟩, rfl⟩
                go_wp2
                go_ret3
                rw [HRX.out]
                exact ⟨_, rfl, Row.nil _ _, HK0.out.trans (HK9.out.trans b6)⟩
          · have hx1c : (x1 == 0) = false := by simpa using hx1
            have hx1b : (x1 != 0) = true := by simpa using hx1
            have hrr := HT2.out bit l1 x1 rfl hx1
            have HRX := Lib.hid (HErr.out (by rw [hrr]; exact hx1))
            rw [hrr] at HRX
            have hc1 := qcode5 w0.heap.size l1 x1
            rw [Bit.code_err l1 x1 hx1] at hc1
            have HC := Lib.hid hc1
            have HC1 := Lib.hid (HC.out w3 HQ3'.out)
            have HBC := Lib.hid (fun w => build_copyQ 1 3 w)
            have HBS := Lib.hid (slice_tokQ ⟨0, 1, 3⟩)
            have HBR := Lib.hid (fun w => Row.tokQ w ⟨0, 1, 3⟩)
            clear hrr hc1 HT0 HT1 HT2 HB1
            go_wp2_with fail
            refine HC1.out.mono ?_
            rintro e w4 ⟨rfl, r4, o4⟩
            have HO4 := Lib.hid (HO3.out.only (bo o4) (by omega))
            have HK4 := Lib.hid (Only.made HK3.out (bo o4) (Nat.le_refl _))
            have HCC := Lib.hid (HC.out w4 r4)
            clear r4 o4 HC1 HO3 HK3 HQ3' d3
            go_wp2_with fail
            refine HCC.out.mono ?_
            rintro e w5 ⟨rfl, r5, o5⟩
            have HO5 := Lib.hid (HO4.out.only (bo o5) (by omega))
            have HK5 := Lib.hid (Only.made HK4.out (bo o5) (Nat.le_refl _))
            have HQ5 := Lib.hid r5
            have d5 := r5.c1
            clear r5 o5 HCC HC HO4 HK4
            generalize hK : (⟨0, 1, 3⟩ : Lz.Tk) = t at *
            clear hK
            go_wp2_with (first | (refine at_build [(1, .int .i64 1), (2, .int .i64 3)] rfl _ (HBC.out _) ?_) | (refine at_slice [(0, .agg (tc t))] rfl _ (HBS.out _) ?_) | (at_builtin; refine wp_app elQ rfl _ _ rfl (w0.heap.size + 1) _ _ T [t] rfl rfl (HO5.out.keep ((Keep.refl _).alloc _)) (HBR.out _).cells ?q1 ?q2 ?q3 ?_))
            case q1 => simp; omega
            case q2 => simp; omega
            case q3 => have := HQ5.out.block; have := Bit.lt_of_block this; simp; omega
            intro v9 w9 k1 k2
            have HK9 := Lib.hid ((HO5.out.keep ((Keep.refl _).alloc _)).grown (HK5.out.alloc _) (by omega) k2)
            have HQ9 := Lib.hid (Qd_app (Qd_keep HQ5.out ((Keep.refl _).alloc _)) (HO5.out.keep ((Keep.refl _).alloc _)) (by omega) k2)
            have d9 := HQ9.out.c1
            clear k1 k2 d5
            have c1 : ∀ u : KW w9, u.1.cell? ⟨w0.heap.size, 1, none⟩ = some (.int .i64 x1) := fun u => (Qd_keep HQ9.out u.2).c1
            go_wp2_with fail
            refine wp_region_keep (Keep.refl w9) (by kernel_rfl) (by kernel_rfl) ?_
            repeat (first | go_big_quiet_step (fail) | quiet_step (fail))
            refine wpQuiet_nil ?_
            rintro w6 ⟨⟨w7, b6⟩, rfl⟩
            go_wp2
            go_ret3
            rw [HRX.out]
            exact ⟨_, rfl, Row.nil _ _, HK0.out.trans (HK9.out.trans b6)⟩
        · have hlti : ¬ (has : Int) < N := by omega
          have hE := HRE.out
          rw [HEQ.out, Lz.takesF_end N f l T has (by omega)] at hE
          simp only [ne_eq, not_true, if_false] at hE
          have HE2 := Lib.hid hE
          have HD := Lib.hid (Bit.qdone_at w0.heap.size l 0 wr HRD.out)
          clear hE HEQ
          generalize Bit.doneF l 0 = y at *
          go_wp2_with fail
          refine HD.out.mono ?_
          rintro e w3 ⟨rfl, b3⟩
          have HK3 := Lib.hid (HK.out.trans (bk b3))
          have HRow := Lib.hid ((HO.out.keep (bk b3)).row elQ)
          clear b3
          by_cases hy : y = 0
          · have hyb : (y != 0) = false := by simp [hy]
            have HRX := Lib.hid (show R = (T, N, 0) from by rw [HE2.out, if_neg (by simp [hy])])
            go_wp2
            go_ret3
            rw [HRX.out]
            exact ⟨_, rfl, HRow.out, HK0.out.trans HK3.out⟩
          · have hyb : (y != 0) = true := by simpa using hy
            have HRX := Lib.hid (show R = ([], 0, y) from by rw [HE2.out, if_pos hy])
            go_wp2
            go_ret3
            rw [HRX.out]
            exact ⟨_, rfl, Row.nil _ _, HK0.out.trans HK3.out⟩
  · have hxb : (x != 0) = true := by simpa using hx
    have HRX := Lib.hid (show R = ([], 0, x) from by rw [HR.out, if_pos hx])
    have c1 : ∀ u : KW w2, u.1.cell? ⟨w0.heap.size, 1, none⟩ = some (.int .i64 x) := fun u => (Qd_keep HQ2.out u.2).c1
    go_wp2_with fail
    refine wp_region_keep (Keep.refl w2) (by kernel_rfl) (by kernel_rfl) ?_
    repeat (first | go_big_quiet_step (fail) | quiet_step (fail))
    refine wpQuiet_nil ?_
    rintro w6 ⟨⟨w7, b6⟩, rfl⟩
    go_wp2
    go_ret3
    rw [HRX.out]
    exact ⟨_, rfl, Row.nil _ _, HK0.out.trans (HK2.out.trans b6)⟩
end Go.Proofs.YtpimecnpdpcceaaGreat
