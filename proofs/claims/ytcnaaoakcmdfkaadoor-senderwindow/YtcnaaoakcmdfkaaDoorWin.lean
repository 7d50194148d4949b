/- Proved: for every list of texts and every list of bytes the law SenderWindow returns true (however it is answered, what is sent lies in the window, isn't there, and is its chunk; nothing is sent more than eight times; a chunk that is due at each tick is sent), and its arguments read behind the call as they read before. Condition, by the row's own list: math/bits.deBruijn64tab starts as the program's text lays it (the card ties that). -/
import Derived.Test.YtcnaaoakcmdfkaaDoorWw
namespace Go.Proofs.YtcnaaoakcmdfkaaDoor.LSenderWindow
open Go.RowKit

def WiRel (L : List (List UInt8)) (b bm bc : Nat) (n m : Nat) (W : World) (iv : Value) (wr : World) : Prop :=
  ∃ (k : Nat) (s : Sd), iv = .int .i64 k ∧ k ≤ m ∧ S wr b bm bc s ∧ s.ch.length = n ∧ (∀ i t, L[i]? = some t → (s.at i).data = t) ∧ s.now ≤ k ∧ Turn [b, bm, bc] W wr
def FxRel (m : Nat) (W : World) (iv : Value) (wr : World) : Prop := ∃ j : Nat, iv = .int .i64 j ∧ j ≤ m ∧ Keep W wr
set_option maxRecDepth 100000 in
set_option maxHeartbeats 1000000 in
theorem walk (a : Option Addr) (cap : Nat) (L : List (List UInt8)) (a1 : Option Addr) (cap1 : Nat) (A : List UInt8) (w : World) (h : ArgN se w a cap L) (h1 : ArgB w a1 cap1 A) (ht : Tab w) : Calls Tryd.prog 4 #[.slice a L.length cap, .slice a1 A.length cap1] w fun e w' => e = .returned (.bool true) ∧ Keep w w' := by
  have HA := Lib.hid h
  have HA1 := Lib.hid h1
  obtain ⟨M, hM⟩ : ∃ M, A.length = M := ⟨_, rfl⟩
  have HMM := Lib.hid hM
  rw [hM]
  clear hM
  have HT := Lib.hid ht
  have HM := Lib.hid (fun v (k : Keep w v) => qmay 0 0 a cap L v (h.toArgL.keep k))
  by_cases hm : mayP 0 0 L
  rotate_left
  · rw [decide_eq_false hm] at HM
    clear hm h h1 ht
    generalize L.length = N at *
    go_enter Tryd.func4, Tryd.ntmps4
    go_wp2_with fail
    refine (awake w HT.out).mono ?_
    rintro e v1 ⟨rfl, k1⟩
    go_wp2_with fail
    refine (HM.out v1 k1).mono ?_
    rintro e v2 ⟨rfl, rfl⟩
    go_wp2_with fail
    refine (awake v2 (HT.out.keep k1)).mono ?_
    rintro e v3 ⟨rfl, k3⟩
    go_wp2
    go_ret
    exact ⟨rfl, k1.trans k3⟩
  · rw [decide_eq_true hm] at HM
    have HMay := Lib.hid hm
    obtain ⟨N, hN⟩ : ∃ N, L.length = N := ⟨_, rfl⟩
    have HN := Lib.hid hN
    have hn1 : 1 ≤ N := by rw [← hN]; exact hm.2.2.2.1
    have hn2 : N ≤ 256 := by rw [← hN]; exact hm.2.2.2.2
    rw [hN] at HM ⊢
    by_cases hlong : M ≤ 200
    rotate_left
    · have hgt : (M : Int) > 200 := by omega
      clear hm h h1 ht hN hlong
      go_enter Tryd.func4, Tryd.ntmps4
      go_wp2_with fail
      refine (awake w HT.out).mono ?_
      rintro e v1 ⟨rfl, k1⟩
      go_wp2_with fail
      refine (HM.out v1 k1).mono ?_
      rintro e v2 ⟨rfl, rfl⟩
      go_wp2_with fail
      refine (awake v2 (HT.out.keep k1)).mono ?_
      rintro e v3 ⟨rfl, k3⟩
      go_wp2
      go_ret
      exact ⟨rfl, k1.trans k3⟩
    have hgt : ¬ (M : Int) > 200 := by omega
    clear hm h h1 ht hN
    go_enter Tryd.func4, Tryd.ntmps4
    go_wp2_with fail
    refine (awake w HT.out).mono ?_
    rintro e v1 ⟨rfl, k1⟩
    go_wp2_with fail
    refine (HM.out v1 k1).mono ?_
    rintro e v2 ⟨rfl, rfl⟩
    have HK1 := Lib.hid k1
    clear k1 HM
    go_wp2_with (at_builtin; refine wp_appN elS rfl _ _ rfl v2.heap.size _ a N cap [] L rfl HN.out rfl (Own.made v2.heap.size v2 (Nat.le_refl _)) (HA.out.keep (HK1.out.trans ((Keep.refl v2).alloc _))) ?q1 ?q2 ?q3 ?_)
    case q1 => rw [HN.out]; simp; omega
    case q2 => rw [HN.out]; simp; omega
    case q3 => simp
    intro cv v3 hO hG
    have HO := Lib.hid hO
    have HK3 := Lib.hid (show Keep v2 v3 from (Own.made (t := 9) (k := 1) (enc := se) v2.heap.size v2 (Nat.le_refl _)).grown ((Keep.refl v2).alloc _) (Nat.le_refl _) hG)
    clear hO hG
    go_wp2_with fail
    refine (snew_at 0 0 cv L v3 ((HT.out.keep HK1.out).keep HK3.out) (OwnS.cells HO.out) (by rw [HN.out]; omega)).mono ?_
    rintro e v4 (⟨_, b, bm, bc, rfl, s0, g1, g2, g3, k4⟩ | ⟨h, _⟩)
    rotate_left
    · exact absurd HMay.out h
    have HS := Lib.hid s0
    have HK4 := Lib.hid ((HK1.out.trans HK3.out).trans k4)
    have hz := (HK1.out.trans HK3.out).size
    have HG := Lib.hid (show w.heap.size ≤ b ∧ w.heap.size ≤ bm ∧ w.heap.size ≤ bc from ⟨by omega, by omega, by omega⟩)
    clear s0 g1 g2 g3 k4 hz
    go_wp2_with fail
    have hch : (newS 0 0 L).ch.length = N := by rw [← HN.out]; simp [newS]
    obtain ⟨n, hn⟩ : ∃ n, n = 6 := ⟨6, rfl⟩
    have hsz : ∀ w, (Go.sizeOf 34).run Tryd.prog w = .ok n w := fun w => by rw [hn]; exact Tryd.sizeOf34 w
    have hn0 : ¬ n = 0 := by omega
    obtain ⟨hz, _⟩ := zero_of_info infoF
    have HN6 := Lib.hid hn
    clear hn
    go_loopw [39] (fun iv wr => WiRel L b bm bc N M v4 iv wr) (fun i _ => 210 - (intOf i).toNat)
    case atStart => exact ⟨0, _, rfl, Nat.zero_le _, HS.out, hch, fun i t h => new_data 0 0 L i t h, Nat.le_refl _, Turn.refl _ _⟩
    case round =>
      obtain ⟨k, s, rfl, hk, hS, hcl, hdat, hnow, hT⟩ := hrel
      have HS1 := Lib.hid hS
      have HCL := Lib.hid hcl
      have HDat := Lib.hid hdat
      have HNow := Lib.hid hnow
      have HT1 := Lib.hid hT
      clear hS hcl hdat hnow hT hch
      by_cases hlt : k < M
      rotate_left
      · obtain rfl : k = M := by omega
        go_wp2
        go_ret
        have hg := HG.out
        exact ⟨rfl, Turn.made HK4.out HT1.out (by simp; omega)⟩
      obtain ⟨x, hx⟩ : ∃ x, A[k]? = some x := ⟨_, List.getElem?_eq_getElem (by rw [HMM.out]; exact hlt)⟩
      have hkw := Turn.made HK4.out HT1.out (by have hg := HG.out; simp; omega)
      have hc := HA1.out.cells (fun e => by have := HMM.out; rw [e] at this; simp at this; omega)
      obtain ⟨g1, o1, cap', hv, _, _, _⟩ := hc.ptr k (by rw [HMM.out]; exact hlt)
      injection hv with e1 e2 e3
      subst e1 e3
      have c8 := Cells.byte (hc.keep hkw) k x hx
      have hx256 := x.toNat_lt
      have hb6 := HS1.out.lt
      have hb7 := HS1.out.map.lt
      have hb8 := HS1.out.ltc
      have HTh := Lib.hid (there_at HS1.out)
      clear hc e2 hx hkw
      generalize x.toNat = c at *
      go_wp2_with fail
      refine HTh.out.mono ?_
      rintro e v5 ⟨c1, rfl, hc1, m5, k5⟩
      have HBase := Lib.hid (mbase_at c1 s.l v5 m5)
      have HK5 := Lib.hid k5
      have HTh2 := Lib.hid (there_at (HS1.out.keep k5))
      have hz5 := k5.size
      clear c8 m5 k5 HTh
      go_wp2_with fail
      refine HBase.out.mono ?_
      rintro e v6 ⟨rfl, rfl⟩
      clear HBase
      go_wp2_with fail
      refine HTh2.out.mono ?_
      rintro e v7 ⟨c2, rfl, hc2, m7, k7⟩
      have HM7 := Lib.hid m7
      have HS7 := Lib.hid ((HS1.out.keep HK5.out).keep k7)
      have HT7 := Lib.hid ((HT1.out.thenKeep HK5.out).thenKeep k7)
      have HTick := Lib.hid (tick_at HS7.out (by have := HNow.out; omega))
      clear m7 k7 HTh2
      go_wp2_with fail
      refine HTick.out.mono ?_
      rintro e v8 ⟨lv, rfl, o8, s8, t8⟩
      have HT8 := Lib.hid (HT7.out.trans (t8.mono (by simp) : Turn [b, bm, bc] v7 v8))
      have hz7 := HM7.out.lt
      have hbp := HS7.out.pos
      have hbc := HS7.out.posc
      have HM8 := Lib.hid (HM7.out.turn t8 (by simp; omega) (by simp; omega))
      have HS8 := Lib.hid s8
      clear t8 s8 HTick
      rcases tick_cases s with ⟨q1, q2, q3, q4⟩ | ⟨q1, q2, q3, q4, _⟩ | ⟨q1, q2, q5, q3, q4, q6⟩
      · rw [q3] at o8
        rw [q2]
        have HO := Lib.hid o8
        obtain ⟨la, lcap, rfl, _, _⟩ := o8.cells.form
        have HDone := Lib.hid (done_at HS8.out)
        rw [q4, decide_eq_true q1] at HDone
        clear q1 q2 q3 q4 o8
        go_wp2_with fail
        refine HDone.out.mono ?_
        rintro e v9 ⟨rfl, k9⟩
        go_wp2
        go_ret
        have hg := HG.out
        exact ⟨rfl, (Turn.made HK4.out HT8.out (by simp; omega)).trans k9⟩
      · rw [q4] at o8
        rw [q3]
        obtain ⟨la, lcap, rfl, _, _⟩ := o8.cells.form
        have HErr := Lib.hid (err_at HS8.out)
        have he : s.tick.err = 16 := by unfold Sd.err; rw [if_pos q2]
        rw [he] at HErr
        clear q1 q2 q3 q4 o8 he
        go_wp2_with fail
        refine HErr.out.mono ?_
        rintro e v9 ⟨rfl, k9⟩
        go_wp2
        go_ret
        have hg := HG.out
        exact ⟨rfl, (Turn.made HK4.out HT8.out (by simp; omega)).trans k9⟩
      rw [q3]
      have hoc := o8.cells
      obtain ⟨la, lcap, rfl, _, _⟩ := hoc.form
      have HOC := Lib.hid hoc
      have hfl := tickF_len s
      have HSI := Lib.hid (fun j x h => sent_is (s := s) HS7.out.good q5 q4 j x h)
      have HFS := Lib.hid (first_sent HS7.out.good q1 q6)
      obtain ⟨m, hm⟩ : ∃ m, s.tickF.length = m := ⟨_, rfl⟩
      have HML := Lib.hid hm
      rw [hm] at hfl ⊢
      have hm2 : m ≤ 256 := Nat.le_trans hfl HS7.out.map.few
      have hbase : baseN s.l ≤ 256 := Nat.le_trans (base_le s.l) HS7.out.map.few
      have HNow8 := Lib.hid (show s.tick.now ≤ k + 1 by have := tick_now s; have := HNow.out; omega)
      have HCL8 := Lib.hid (show s.tick.ch.length = N by rw [(tick_ses s).2.2.2]; exact HCL.out)
      have HDat8 := Lib.hid (fun i t (h : L[i]? = some t) => (tick_data HS7.out.good i).trans (HDat.out i t h))
      have HTri := Lib.hid (fun i => HS8.out.good.tries i)
      have HAr := Lib.hid (fun v (q : Keep v8 v) => (HA.out.keep ((Turn.made HK4.out HT8.out (by have hg := HG.out; simp; omega)).trans q)).cells (fun e => by have := HN.out; rw [e] at this; simp at this; omega))
      have HB := Lib.hid (fun i => (decide_eq_true (show baseN s.l ≤ i ↔ baseN s.l ≤ i from Iff.rfl)))
      clear q1 q2 q3 q4 q5 q6 o8 hoc hfl hm HB
      generalize baseN s.l = B at *
      go_wp2_with fail
      generalize wr = wo at *
      go_loopw [77] (fun iv wr => FxRel m v8 iv wr) (fun i _ => 300 - (intOf i).toNat)
      case atStart => exact ⟨0, rfl, Nat.zero_le _, Keep.refl _⟩
      case round =>
        obtain ⟨j, rfl, hj, hK⟩ := hrel
        have HKj := Lib.hid hK
        clear hK
        by_cases hjm : j < m
        · obtain ⟨x2, hx2⟩ : ∃ x, s.tickF[j]? = some x := ⟨_, List.getElem?_eq_getElem (by rw [HML.out]; exact hjm)⟩
          obtain ⟨i, f1, f2, f3, f4, f5, f6, f7⟩ := HSI.out j x2 hx2
          have hc8 := HOC.out.keep HKj.out
          obtain ⟨g2, o2, cap2, hv2, _, _, _⟩ := hc8.ptr j (by rw [HML.out]; exact hjm)
          injection hv2 with z1 z2 z3
          subst z1 z3
          have hl9 := CelF.whole hc8 HN6.out j x2 hx2
          have hst2 := (FAt.new wr zeroF).store x2
          have hput := (FAt.new wr zeroF).put x2
          have hzs2 : (fc x2).size = n := by rw [HN6.out]; rfl
          have hK9 : Keep wr ((wr.alloc (.cells (fc zeroF) 34)).setRow wr.heap.size (fc x2)) := ((Keep.refl wr).alloc _).setRow _ _ (Nat.le_refl _)
          obtain ⟨w9, hw9⟩ : ∃ w9, (wr.alloc (.cells (fc zeroF) 34)).setRow wr.heap.size (fc x2) = w9 := ⟨_, rfl⟩
          have hiN : i < N := by rw [← HCL.out]; exact f4
          obtain ⟨tx, htx⟩ : ∃ tx, L[i]? = some tx := ⟨_, List.getElem?_eq_getElem (by rw [HN.out]; exact hiN)⟩
          have hdx : x2.data = tx := by rw [f6]; exact HDat.out i tx htx
          have hca := HAr.out _ (Keep.refl _)
          obtain ⟨ga, oa, capa, hva, _, _, _⟩ := hca.ptr i (by rw [HN.out]; exact hiN)
          injection hva with y1 y2 y3
          subst y1 y3
          rw [hw9] at hput hK9
          have HP := Lib.hid hput
          have HK9 := Lib.hid (HKj.out.trans hK9)
          have a1 : ∀ u : KW w9, u.1.cell? ⟨wr.heap.size, 3, none⟩ = some (.int .i64 (i : Nat)) := fun u => by rw [(HP.out.keep u.2).idx, f1]
          have a2 : ∀ u : KW w9, u.1.cell? ⟨wr.heap.size, 4, none⟩ = some (.int .i64 (N : Nat)) := fun u => by rw [(HP.out.keep u.2).tot, f7, HCL.out]
          have a3 : ∀ u : KW w9, u.1.cell? ⟨wr.heap.size, 5, none⟩ = some (.string ⟨tx.toArray⟩) := fun u => by rw [(HP.out.keep u.2).data, hdx]
          have a4 : ∀ u : KW w9, u.1.cell? ⟨ga, oa + i, none⟩ = some (.string ⟨tx.toArray⟩) := fun u => TexS.text (HAr.out _ (HK9.out.trans u.2)) i tx htx
          have HHas : Hid (∀ u : KW w9, Calls Tryd.prog 27 #[.pointer (some ⟨c2, 0, none⟩), .int .i64 (i : Nat)] u.1 fun e w'' => e = .returned (.bool false) ∧ ∃ m : KW w9, w'' = m.1) := Lib.hid fun u => keep_at (fun w1 k1 => by
            have := has_at c2 s.l i w1 (HM8.out.keep (HK9.out.trans k1))
            rw [f5] at this
            exact this) u
          obtain ⟨T, hT⟩ : ∃ T, s.tick.tries (i : Nat) = T := ⟨_, rfl⟩
          have hT8 : T ≤ 8 := by
            rw [← hT]
            unfold Sd.tries
            rw [if_pos (by omega)]
            exact HTri.out _
          have HTr : Hid (∀ u : KW w9, Calls Tryd.prog 26 #[.pointer (some ⟨b, 0, none⟩), .int .i64 (i : Nat)] u.1 fun e w'' => e = .returned (.int .i64 (T : Nat)) ∧ ∃ m : KW w9, w'' = m.1) := Lib.hid fun u => keep_at (fun w1 k1 => by
            have := tries_at (i : Nat) (HS8.out.keep (HK9.out.trans k1))
            rw [hT] at this
            refine this.mono ?_
            rintro e w2 ⟨rfl, rfl⟩
            exact ⟨rfl, Keep.refl _⟩) u
          have hW9 := Lib.hid hw9
          have d1 : ¬ (i : Int) < (B : Int) := by omega
          have d2 : decide ((i : Int) ≥ (B : Int) + 8) = false := decide_eq_false (by omega)
          have d3 : decide ((T : Int) > 8) = false := decide_eq_false (by omega)
          clear hc8 z2 y2 hx2 hput hK9 f1 f3 f4 f5 f6 f7 hca hdx htx hT hT8 hw9
          generalize fc x2 = C2 at *
          generalize fc zeroF = Z2 at *
          go_wp2_with fail
          rw [hW9.out]
          clear hW9 hl9 hst2
          refine wp_region_keep (Keep.refl _) (by kernel_rfl) (by kernel_rfl) ?_
          repeat (first | go_big_quiet_step (fail) | quiet_step (fail))
          first | go_big_quiet_step (exact HHas.out _) | quiet_step (exact HHas.out _)
          repeat (first | go_big_quiet_step (fail) | quiet_step (fail))
          first | go_big_quiet_step (exact HTr.out _) | quiet_step (exact HTr.out _)
          repeat (first | go_big_quiet_step (fail) | quiet_step (fail))
          refine wpQuiet_nil ?_
          rintro v10 ⟨⟨v11, k11⟩, hv⟩
          obtain rfl : v11 = v10 := hv.symm
          have HK11 := Lib.hid (HK9.out.trans k11)
          clear hv k11 a1 a2 a3 a4 HHas HTr HP
          go_wp2
          go_roundw
          case rel => exact ⟨j + 1, by go_num, by omega, HK11.out⟩
          case measure => simp [intOf]; omega
        · obtain rfl : j = m := by omega
          obtain ⟨T, hT⟩ : ∃ T, s.tick.tries (B : Nat) = T := ⟨_, rfl⟩
          have hT0 : T ≠ 0 := by rw [← hT]; exact HFS.out
          have HTr := Lib.hid (tries_at (B : Nat) (HS8.out.keep HKj.out))
          rw [hT] at HTr
          have hTn : ¬ (T : Int) = 0 := by omega
          have hTb : ((T : Int) == 0) = false := by simpa using hT0
          clear hT hT0
          by_cases h3 : c % 3 = 0
          · have hc3 : ((c : Int) % 3 == 0) = true := by
              have : (c : Int) % 3 = 0 := by omega
              rw [this]; rfl
            obtain ⟨y, hy⟩ : ∃ y, min (c / 3) N = y := ⟨_, rfl⟩
            have hmin : ∀ w ts t, (Builtin.min_ ts t #[.int .i64 ((c : Int) / 3), .int .i64 N]).run Tryd.prog w = .ok (.int .i64 (y : Nat)) w := fun w ts t => by
              rw [run_min_int2, show (if (N : Int) < (c : Int) / 3 then (N : Int) else (c : Int) / 3) = (y : Nat) by split <;> omega]
            have HAck := Lib.hid (ack_at ⟨2, 0, 0, (y : Nat), (N : Nat), []⟩ (HS8.out.keep HKj.out) (by show (-9223372036854775808 : Int) ≤ ((y : Nat) : Int); omega) (by show ((y : Nat) : Int) ≤ 9223372036854775807; omega) (Nat.zero_le _))
            have HB3 := Lib.hid (fun w => build_frame3 2 (y : Nat) (N : Nat) w)
            clear h3 hy
            go_wp2_with fail
            refine HTr.out.mono ?_
            rintro e v9 ⟨rfl, rfl⟩
            go_wp2_with ((with_reducible refine at_build (t := 34) [(0, .int .i64 2), (3, .int .i64 (y : Nat)), (4, .int .i64 (N : Nat))] ?_ (.agg (fc ⟨2, 0, 0, (y : Nat), (N : Nat), []⟩)) ?_ ?_); rfl; exact HB3.out _)
            refine HAck.out.mono ?_
            rintro e v10 ⟨rfl, s10, t10⟩
            have HS10 := Lib.hid s10
            have HT10 := Lib.hid ((HT8.out.thenKeep HKj.out).trans (t10.mono (by simp) : Turn [b, bm, bc] v9 v10))
            have HX := Lib.hid (ack_ses s.tick ⟨2, 0, 0, (y : Nat), (N : Nat), []⟩)
            have HY := Lib.hid (ack_now s.tick ⟨2, 0, 0, (y : Nat), (N : Nat), []⟩)
            clear s10 t10 HAck HTr hmin
            go_wp2
            go_roundw
            case rel => exact ⟨k + 1, _, by go_num, by omega, HS10.out, by rw [HX.out.2.2.1]; exact HCL8.out, fun i t h => by unfold Sd.at; rw [HX.out.2.2.1]; exact HDat8.out i t h, by rw [HY.out]; exact HNow8.out, HT10.out⟩
            case measure => simp [intOf]; omega
          · have hc3 : ((c : Int) % 3 == 0) = false := by
              have : ¬ (c : Int) % 3 = 0 := by omega
              simpa using this
            clear h3
            go_wp2_with fail
            refine HTr.out.mono ?_
            rintro e v9 ⟨rfl, rfl⟩
            go_wp2
            go_roundw
            case rel => exact ⟨k + 1, _, by go_num, by omega, HS8.out.keep HKj.out, HCL8.out, HDat8.out, HNow8.out, HT8.out.thenKeep HKj.out⟩
            case measure => simp [intOf]; omega

open Go.ChangeShapes Go.WideShapes Go.ChangeAt
set_option maxRecDepth 100000 in
theorem lifted (os : Os) (started : os.Started) (H : Type) (enc : TypeId × Value → H) :
    ReturnsInHanded {} Tryd.checked os 4 .any (fun w args => (Rows.senderWindowSpec.pre enc Tryd.prog Tryd.f4 [] false w args ∧ laidMetH Tryd.prog laid1 w) ∧ sizedMet enc Tryd.prog Tryd.f4 (OpenSpec.ofChange Rows.senderWindowSpec) false w args)
      (Rows.senderWindowSpec.post enc Tryd.prog Tryd.f4 false true false false) := by
  refine returnsInHanded_of_change_and (C := Tryd.checked) (X := fun w _ => laidMetH Tryd.prog laid1 w) (fun _ _ _ hh h => h.of_heap hh) own started (by kernel_rfl) Tryd.func4
    (ChangeSpec.witness_shaped (enc := enc) (C := Tryd.checked) (os := os) (X := fun w _ => laidMetH Tryd.prog laid1 w) false (World.doorLaid Tryd.prog 400 os) #[.slice none 0 0, .slice none 0 0] 8 rfl (World.shaped_of_RefB (by kernel_rfl) (by kernel_rfl)) (by kernel_rfl) (by kernel_rfl) (by kernel_rfl) (door_met os _)) ?_
  intro W base args ds gs before hval0 hW _ _ hL _
  have hval : ∀ (j : Nat) t v, Tryd.f4.params[j]? = some t → args[j]? = some v → Value.okWide Tryd.prog W .any base t v := hval0
  have hW' := hW
  obtain ⟨p, q, hA0, hV, rfl, hfz, hnd⟩ := hW
  have hA : DataW.TrodAll enc Tryd.prog W 0 (fun _ => true) true Tryd.f4.params.toList args.toList ds p := hA0

  rw [Tryd.params4] at hA hval
  obtain ⟨v0, vs0, d0, ds0, p0, q0, hargs, rfl, rfl, h0, r0⟩ := trodAll_cons hA
  obtain ⟨v1, vs1, d1, ds1, p1, q1, rfl, rfl, rfl, h1, r1⟩ := trodAll_cons r0
  obtain ⟨rfl, rfl, rfl⟩ := trodAll_nil r1
  obtain rfl : args = #[v0, v1] := by cases args; simp_all
  obtain ⟨rfl, rfl⟩ := trodVars_none hV
  have k0 := h0
  have lt0 : ∀ x ∈ p0, x.block < W.heap.size := by obtain ⟨m, hm⟩ := k0; exact DataW.trod_lt m _ _ _ hm
  have k1 := h1
  have lt1 : ∀ x ∈ p1, x.block < W.heap.size := by obtain ⟨m, hm⟩ := k1; exact DataW.trod_lt m _ _ _ hm
  obtain ⟨a0, cap0, l0, rfl, f0⟩ := open_texts (hval 0 22 v0 rfl rfl) h0
  obtain ⟨a1, cap1, l1, rfl, f1⟩ := open_bytes (hval 1 57 v1 rfl rfl) h1
  clear hA0 hval0
  refine (walk a0 cap0 l0 a1 cap1 l1 W f0 f1 (of_laid hL)).mono fun e W' ⟨he, bel0⟩ => ?_
  subst he
  have bel : Below W.heap.size W W' := bel0
  exact ⟨_, rfl, _, _, _, [], _, [], hW', trodAll_mk1 (shut_bool Tryd.underlying4 _), (trodAll_cons_mk (Below.trod laidOut (by kernel_rfl) (of_decide_eq_true (by kernel_rfl)) k0 bel lt0) (trodAll_cons_mk (Below.trod laidOut (by kernel_rfl) (of_decide_eq_true (by kernel_rfl)) k1 bel lt1) trodAll_mk0)), rfl, bel.frame _, fun h => by cases h⟩

theorem over : Rows.senderWindowRow.holds Tryd.pinned (OpenSpec.ofChange Rows.senderWindowSpec) :=
  OpenClaim.holds_of_wide 4 Tryd.f4 rfl rfl rfl rfl rfl rfl rfl ⟨rfl, rfl, rfl, rfl, rfl⟩ rfl rfl rfl rfl rfl (by kernel_rfl) Tryd.func4 (by kernel_rfl)
    (of_decide_eq_true (by kernel_rfl)) (by unfold Func.isWrapper; first | (rw [if_pos (by decide +kernel)]; kernel_rfl) | (rw [if_neg (by decide +kernel)]; exact ⟨rfl, rfl⟩))
    (fun os started H enc _ => lifted os started H enc)
theorem card : Claim7.holds Tryd.pinned (.plain (OpenSpec.ofChange Rows.senderWindowSpec)) Rows.senderWindowCard :=
  Claim7.holds_tied_plain_at .later [] [.data] true (true, "554ae483f9e9f502615417fb0d3524028c2a08dd4716909f5bdc5e82ac887e20") false
    over (fun _ h => by cases h) (by kernel_rfl) (fun _ h => by cases h) senderWindow_row_tie rfl ⟨rfl, rfl⟩ (by kernel_rfl) rfl
    (fun f fn hf hfn => by
      obtain rfl : f = 4 := Option.some.inj ((show Tryd.prog.funcNamed Rows.senderWindowRow.func = some 4 by kernel_rfl).symm.trans hf) |>.symm
      obtain rfl : fn = Tryd.f4 := (Option.some.inj (Tryd.func4.symm.trans hfn)).symm
      exact ⟨by kernel_rfl, fun j t ht => by
        rw [Tryd.params4] at ht
        have hm : t ∈ [22, 57] := by simpa using Array.mem_of_getElem? ht
        have hall : ([22, 57].all fun u => !Tryd.prog.wantsStandIn u) = true := by kernel_rfl
        exact (show Tryd.prog.wantsStandIn t = false by simpa using List.all_eq_true.1 hall t hm)⟩)
    (by kernel_rfl)
end Go.Proofs.YtcnaaoakcmdfkaaDoor.LSenderWindow

namespace Go.Proofs.YtcnaaoakcmdfkaaDoor
theorem senderWindow_holds : Rows.SenderWindowCardSaid := LSenderWindow.card
#print axioms senderWindow_holds
end Go.Proofs.YtcnaaoakcmdfkaaDoor

