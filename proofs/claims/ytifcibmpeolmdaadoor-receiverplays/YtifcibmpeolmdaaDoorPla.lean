/- Proved: for every three numbers and every list of frames the law ReceiverPlays returns true (whatever frames come, what is taken, refused, counted and told is the document's), and its arguments read behind the call as they read before. Condition, by the row's own list: math/bits.deBruijn64tab starts as the program's text lays it (the card ties that). -/
import Derived.Test.YtifcibmpeolmdaaDoorPw
namespace Go.Proofs.YtifcibmpeolmdaaDoor.LReceiverPlays
open Go.RowKit

def PlRel (w0 : World) (b g bi bc bd M N : Nat) (iv : Value) (wr : World) : Prop :=
  ∃ (k : Nat) (x : Rv) (K : List Nat), iv = .int .i64 k ∧ k ≤ M ∧ Z wr K b x ∧ R wr g bi bc bd x ∧ From w0.heap.size K ∧ From w0.heap.size [g, bi, bc, bd] ∧ Apart K [g, bi, bc, bd] ∧ Keep w0 wr ∧ x.c.length = N ∧ ∀ e, x.d e ≤ k
def IxRel (v : World) (iv : Value) (wr : World) : Prop := wr = v ∧ ∃ j : Nat, iv = .int .i64 j ∧ j ≤ 20
set_option maxRecDepth 100000 in
set_option maxHeartbeats 8000000 in
theorem walk (s1 s2 tot : Int) (a : Option Addr) (cap : Nat) (A : List Fq) (w : World) (hb1 : -9223372036854775808 ≤ s1 ∧ s1 ≤ 9223372036854775807) (hb2 : -9223372036854775808 ≤ s2 ∧ s2 ≤ 9223372036854775807) (_hb3 : -9223372036854775808 ≤ tot ∧ tot ≤ 9223372036854775807) (h : ArgL fq w a cap A) (ht : Tab w) :
    Calls Tryd.prog 3 #[.int .i64 s1, .int .i64 s2, .int .i64 tot, .slice a A.length cap] w fun e w' => e = .returned (.bool true) ∧ Keep w w' := by
  have HA := Lib.hid h
  have HT := Lib.hid ht
  obtain ⟨M, hM⟩ : ∃ M, A.length = M := ⟨_, rfl⟩
  have HM := Lib.hid hM
  rw [hM]
  clear hM h ht
  by_cases hlong : M ≤ 200
  rotate_left
  · have hgt : (M : Int) > 200 := by omega
    clear hlong hb1 hb2 _hb3
    go_enter Tryd.func3, Tryd.ntmps3
    go_wp2_with fail
    refine (awake_at w HT.out).mono ?_
    rintro e v1 ⟨rfl, k1⟩
    have HK := Lib.hid k1
    clear k1
    go_wp2_with fail
    refine (awake_at v1 (HT.out.keep HK.out)).mono ?_
    rintro e v2 ⟨rfl, k2⟩
    have HK2 := Lib.hid (HK.out.trans k2)
    clear k2
    go_wp2
    go_ret
    exact ⟨rfl, HK2.out⟩
  have hgt : ¬ (M : Int) > 200 := by omega
  have HQm := Lib.hid (qmay_at s1 s2 tot)
  by_cases hm : mayR s1 s2 tot
  rotate_left
  · have HNo := Lib.hid (vnew_no s1 s2 tot hb1 hb2 hm)
    rw [decide_eq_false hm] at HQm
    clear hlong hb1 hb2 _hb3 hm
    go_enter Tryd.func3, Tryd.ntmps3
    go_wp2_with fail
    refine (awake_at w HT.out).mono ?_
    rintro e v1 ⟨rfl, k1⟩
    have HK := Lib.hid k1
    clear k1
    go_wp2_with fail
    refine (HNo.out v1).mono ?_
    rintro e v2 ⟨rfl, k2⟩
    have HK2 := Lib.hid (HK.out.trans k2)
    clear k2
    go_wp2_with fail
    refine (HQm.out v2).mono ?_
    rintro e v2 ⟨rfl, rfl⟩
    go_wp2
    go_ret
    exact ⟨rfl, HK2.out⟩
  rw [decide_eq_true hm] at HQm
  obtain ⟨N, rfl⟩ := Int.eq_ofNat_of_zero_le (show 0 ≤ tot by have := hm.2.2.1; omega)
  have HNew := Lib.hid (fun v (q : Tab v) => znew s1 s2 N hm v q)
  have HNew2 := Lib.hid (fun v (q : 0 < v.heap.size) => qnew_at s1 s2 N hm v q)
  obtain ⟨n, hn⟩ : ∃ n, n = 6 := ⟨6, rfl⟩
  have hsz : ∀ w, (Go.sizeOf 32).run Tryd.prog w = .ok n w := fun w => by rw [hn]; exact Tryd.sizeOf32 w
  have hn0 : ¬ n = 0 := by omega
  obtain ⟨hz, _⟩ := zero_of_info infoF
  have HN := Lib.hid hn
  have HZS := Lib.hid (fun f : Fr => (show (fc f).size = n by rw [hn]; rfl))
  have HLong := Lib.hid hlong
  clear hn hb1 hb2 _hb3 hm hlong
  go_enter Tryd.func3, Tryd.ntmps3
  go_wp2_with fail
  refine (awake_at w HT.out).mono ?_
  rintro e v1 ⟨rfl, k1⟩
  have HK1 := Lib.hid k1
  clear k1
  go_wp2_with fail
  refine (HNew.out v1 (HT.out.keep HK1.out)).mono ?_
  rintro e v2 ⟨b, K0, rfl, z2, f2, k2⟩
  have HZ2 := Lib.hid z2
  have HF2 := Lib.hid (f2.mono HK1.out.size)
  have HK2 := Lib.hid (HK1.out.trans k2)
  clear z2 f2 k2 HK1 HNew
  go_wp2_with fail
  refine (HQm.out v2).mono ?_
  rintro e v2 ⟨rfl, rfl⟩
  go_wp2_with fail
  refine (HNew2.out v2 (HT.out.keep HK2.out).pos).mono ?_
  rintro e v3 ⟨g, bi, bc, bd, rfl, z3, f3, k3⟩
  have H0 := Lib.hid (show PlRel w b g bi bc bd M N (.int .i64 ((0 : Nat) : Int)) v3 from ⟨0, _, K0, rfl, Nat.zero_le _, HZ2.out.keep k3, z3, HF2.out, From.mono f3 HK2.out.size, Apart.from HZ2.out.low f3, HK2.out.trans k3, by simp [newR], fun e => Nat.le_refl _⟩)
  clear z3 f3 k3 HZ2 HF2 HK2 hgt HNew2 HQm
  go_wp2_with fail
  go_loopw [58] (fun iv wr => PlRel w b g bi bc bd M N iv wr) (fun i _ => 210 - (intOf i).toNat)
  case atStart => exact H0.out
  case round =>
    obtain ⟨k, x, K, rfl, hk, hzx, hry, hfx, hfy, hap, hK, hxn, hdx⟩ := hrel
    have HX := Lib.hid (And.intro hzx (And.intro hry (And.intro hfx (And.intro hfy hap))))
    have HD := Lib.hid hdx
    have HK := Lib.hid hK
    have HXN := Lib.hid hxn
    clear hzx hry hfx hfy hap hK hxn hdx H0
    have hlong := HLong.out
    by_cases hlt : k < M
    · obtain ⟨q, hq⟩ : ∃ q, A[k]? = some q := ⟨_, List.getElem?_eq_getElem (by rw [HM.out]; exact hlt)⟩
      have hc := (HA.out.keep HK.out).cells (by intro e; rw [e] at hq; simp at hq)
      obtain ⟨ga, o, c, hv, _, _, _⟩ := hc.ptr k (by rw [HM.out]; exact hlt)
      rw [HM.out] at hv
      injection hv with y1 y2 y3
      subst y1 y3
      have hl := whole_fq hc HN.out k q hq
      obtain ⟨hst, hfa, hkn⟩ := frame_new wr q.f
      have h5 := hfa.data
      have HSq := Lib.hid q.q.toSqF
      have hzs := HZS.out q.f
      have HTwo := Lib.hid (show TwoP w b g bi bc bd wr.heap.size q.f x x ((wr.alloc (.cells (fc zeroF) 32)).setRow wr.heap.size (fc q.f)) from
        ⟨K, HX.out.1.keep hkn, HX.out.2.1.keep hkn, HX.out.2.2.1, HX.out.2.2.2.1, HX.out.2.2.2.2, HK.out.trans hkn, hfa, fun e => Nat.lt_irrefl _ (HX.out.1.low _ e), fun e => Nat.lt_irrefl _ (HX.out.2.1.low _ e)⟩)
      have HK1 := Lib.hid (HK.out.trans hkn)
      clear hc y2 hfa hkn hq HX HK
      generalize q.f = f at *
      obtain ⟨C0, hC0⟩ : ∃ C, fc zeroF = C := ⟨_, rfl⟩
      rw [hC0] at hst h5 HTwo HK1 hz
      clear hC0
      obtain ⟨C, hC⟩ : ∃ C, fc f = C := ⟨_, rfl⟩
      rw [hC] at hst h5 HTwo HK1 hzs hl
      have HC := Lib.hid hC
      clear hC
      by_cases hbig : 2000 < f.data.length
      · have hgt : (f.data.length : Int) > 2000 := by omega
        clear hbig
        go_wp2
        go_ret
        exact ⟨rfl, HK1.out⟩
      have hgt : ¬ (f.data.length : Int) > 2000 := by omega
      clear hbig
      go_wp2_with fail
      generalize hv4 : (wr.alloc (.cells C0 32)).setRow wr.heap.size C = v4 at *
      generalize hfb : wr.heap.size = fb at *
      clear hst hv4 hl h5
      obtain ⟨P, hP⟩ : ∃ P, PhP w b g bi bc bd fb f x = P := ⟨_, rfl⟩
      have ne : Nonempty (PW P) := ⟨⟨v4.drew, 0, by rw [← hP]; exact HTwo.out.keep (Keep.refl _).drew⟩⟩
      have a1 : ∀ u : PW P, (loadCellsFrom ⟨fb, 0, none⟩ 0 n #[]).run Tryd.prog u.1 = .ok C u.1 := by
        rintro ⟨v, p, hp⟩
        rw [← hP] at hp
        rw [← HC.out]
        exact (PhP.facts p hp).1.whole HN.out
      have a2 : ∀ u : PW P, u.1.cell? ⟨g, 2, none⟩ = some (.slice (some ⟨bi, 0, none⟩) N N) := by
        rintro ⟨v, p, hp⟩
        rw [← hP] at hp
        rw [← HXN.out]
        exact (PhP.facts p hp).2
      have hlen : (x.take f).c.length = N := by rw [take_len, HXN.out]
      have cA : Hid (∀ v, P 0 v → Calls Tryd.prog 14 #[.pointer (some ⟨b, 0, none⟩), .agg C] v fun e w' => e = .returned (.int .i64 (x.wrong f : Nat)) ∧ P 1 w') := Lib.hid (by
        rw [← hP, ← HC.out]
        intro v hv
        exact TwoP.one (show TwoP w b g bi bc bd fb f x x v from hv) HSq.out (by have := HD.out (x.wrong f : Nat); omega))
      have cB : Hid (∀ v, P 1 v → Calls Tryd.prog 15 #[.pointer (some ⟨g, 0, none⟩), .agg C] v fun e w' => e = .returned (.int .i64 (x.wrong f : Nat)) ∧ P 2 w') := Lib.hid (by
        rw [← hP, ← HC.out]
        intro v hv
        exact TwoP.two (show TwoP w b g bi bc bd fb f (x.take f) x v from hv) HSq.out (by have := HD.out (x.wrong f : Nat); omega))
      have cC : Hid (∀ v, P 2 v → Calls Tryd.prog 16 #[.pointer (some ⟨b, 0, none⟩)] v fun e w' => e = .returned (.agg (fc (x.take f).ack)) ∧ P 3 w') := Lib.hid (by
        rw [← hP]
        intro v hv
        have hv : TwoP w b g bi bc bd fb f (x.take f) (x.take f) v := hv
        obtain ⟨K, h1, _⟩ := id hv
        exact (zack h1).mono fun e w' ⟨e1, e2⟩ => ⟨e1, hv.keep e2⟩)
      have cD : Hid (∀ v, P 3 v → Calls Tryd.prog 17 #[.pointer (some ⟨g, 0, none⟩)] v fun e w' => e = .returned (.agg (fc (x.take f).ack)) ∧ P 4 w') := Lib.hid (by
        rw [← hP]
        intro v hv
        have hv : TwoP w b g bi bc bd fb f (x.take f) (x.take f) v := hv
        obtain ⟨K, _, h2, _⟩ := id hv
        exact (qack_at h2).mono fun e w' ⟨e1, e2⟩ => ⟨e1, hv.keep e2⟩)
      have cE : Hid (∀ v, P 4 v → Calls Tryd.prog 18 #[.pointer (some ⟨b, 0, none⟩)] v fun e w' => e = .returned (.bool (decide (x.take f).full)) ∧ P 5 w') := Lib.hid (by
        rw [← hP]
        intro v hv
        have hv : TwoP w b g bi bc bd fb f (x.take f) (x.take f) v := hv
        obtain ⟨K, h1, _⟩ := id hv
        exact (zdone h1).mono fun e w' ⟨e1, e2⟩ => ⟨e1, hv.keep e2⟩)
      have cF : Hid (∀ v, P 5 v → Calls Tryd.prog 19 #[.slice (some ⟨bi, 0, none⟩) N N] v fun e w' => e = .returned (.int .i64 (baseN (x.take f).l : Nat)) ∧ P 6 w') := Lib.hid (by
        rw [← hP, ← hlen]
        intro v hv
        have hv : TwoP w b g bi bc bd fb f (x.take f) (x.take f) v := hv
        obtain ⟨K, _, h2, _⟩ := id hv
        exact (qbase _ (x.take f).l v h2.bools (by rw [h2.good.len]; exact h2.good.few)).mono fun e w' ⟨e1, e2⟩ => ⟨e1, by rw [e2]; exact hv⟩)
      have HP0 := Lib.hid (show P 0 v4.drew from by rw [← hP]; exact HTwo.out.keep (Keep.refl _).drew)
      have HP6 := Lib.hid (fun v => (show P 6 v → TwoP w b g bi bc bd fb f (x.take f) (x.take f) v from by rw [← hP]; exact id))
      have HD2 := Lib.hid (fun e => take_d x f e k (HD.out e))
      have HL2 := Lib.hid hlen
      have hE := same_fc (x.take f).ack
      have hfu : decide (x.take f).full = (((baseN (x.take f).l : Nat) : Int) == (N : Int)) := by
        rw [Bool.eq_iff_iff, decide_eq_true_eq, beq_iff_eq]
        unfold Rv.full
        rw [hlen]
        omega
      rw [hfu] at cE
      clear hP HTwo HK1 HD hlen hfu
      generalize fc (x.take f).ack = CA at *
      generalize baseN (x.take f).l = bn at *
      generalize x.wrong f = W at *
      generalize x.take f = x2 at *
      obtain ⟨B, hB⟩ : ∃ B, ((bn : Int) == (N : Int)) = B := ⟨_, rfl⟩
      rw [hB] at cE
      have hBB : (B != B) = false := by simp
      refine wp_region_ph (A := isCall) (C := P) (by kernel_rfl) (by kernel_rfl) (by kernel_rfl) HP0.out ?_
      repeat (refine ph_quiet (by rfl) ?_; (first | go_big_quiet_step (fail) | quiet_step (fail)); refine wpQuiet_nil ?_)
      refine ph_act cA.out (fun K hK => ?_)
      refine ⟨by rfl, by rfl, fun w => by go_simp, ?_⟩
      go_simp
      refine hK _ ?_
      clear hK K
      repeat (refine ph_quiet (by rfl) ?_; (first | go_big_quiet_step (fail) | quiet_step (fail)); refine wpQuiet_nil ?_)
      refine ph_act cB.out (fun K hK => ?_)
      refine ⟨by rfl, by rfl, fun w => by go_simp, ?_⟩
      go_simp
      refine hK _ ?_
      clear hK K
      repeat (refine ph_quiet (by rfl) ?_; (first | go_big_quiet_step (fail) | quiet_step (fail)); refine wpQuiet_nil ?_)
      refine ph_act cC.out (fun K hK => ?_)
      refine ⟨by rfl, by rfl, fun w => by go_simp, ?_⟩
      go_simp
      refine hK _ ?_
      clear hK K
      repeat (refine ph_quiet (by rfl) ?_; (first | go_big_quiet_step (fail) | quiet_step (fail)); refine wpQuiet_nil ?_)
      refine ph_act cD.out (fun K hK => ?_)
      refine ⟨by rfl, by rfl, fun w => by go_simp, ?_⟩
      go_simp
      refine hK _ ?_
      clear hK K
      repeat (refine ph_quiet (by rfl) ?_; (first | go_big_quiet_step (fail) | quiet_step (fail)); refine wpQuiet_nil ?_)
      refine ph_act cE.out (fun K hK => ?_)
      refine ⟨by rfl, by rfl, fun w => by go_simp, ?_⟩
      go_simp
      refine hK _ ?_
      clear hK K
      repeat (refine ph_quiet (by rfl) ?_; (first | go_big_quiet_step (fail) | quiet_step (fail)); refine wpQuiet_nil ?_)
      refine ph_check2 (by rfl) rfl ?_
      simp only [Act.put, List.setIfInBounds_toArray, List.set_cons_zero, List.set_cons_succ]
      repeat (refine ph_quiet (by rfl) ?_; (first | go_big_quiet_step (fail) | quiet_step (fail)); refine wpQuiet_nil ?_)
      refine ph_act cF.out (fun K hK => ?_)
      refine ⟨by rfl, by rfl, fun w => by go_simp, ?_⟩
      go_simp
      refine hK _ ?_
      clear hK K
      repeat (refine ph_quiet (by rfl) ?_; (first | go_big_quiet_step (fail) | quiet_step (fail)); refine wpQuiet_nil ?_)
      refine ph_nil ?_
      intro v5 h5
      obtain ⟨K2, p1, p2, p3, p4, p5, p6, _, _, _⟩ := HP6.out v5 h5
      have HRel := Lib.hid (show PlRel w b g bi bc bd M N (.int .i64 ((k + 1 : Nat) : Int)) v5 from ⟨k + 1, x2, K2, rfl, by omega, p1, p2, p3, p4, p5, p6, HL2.out, HD2.out⟩)
      clear h5 p1 p2 p3 p4 p5 p6 HP6 HP0 cA cB cC cD cE cF a1 a2 ne hE hB hBB
      go_wp2
      go_roundw
      case rel => exact HRel.out
      case measure => simp [intOf]; omega
    · obtain rfl : k = M := by omega
      have cd := HX.out.2.1.d
      have HZ := Lib.hid HX.out.1
      have HR := Lib.hid HX.out.2.1
      clear HX HD hlt hk hlong
      go_wp2_with fail
      generalize wr = v6 at *
      go_loopw [98] (fun iv w' => IxRel v6 iv w') (fun i _ => 30 - (intOf i).toNat)
      case atStart => exact ⟨rfl, 0, rfl, by omega⟩
      case round =>
        obtain ⟨rfl, j, rfl, hj⟩ := hrel
        clear cd
        by_cases hj2 : j < 20
        · have c1 := HR.out.count j hj2
          have HDr := Lib.hid (zdrops (j : Int) HZ.out)
          generalize x.d (j : Int) = z at *
          go_wp2_with fail
          refine HDr.out.mono ?_
          rintro e w9 ⟨rfl, rfl⟩
          go_wp2
          go_roundw
          case rel => exact ⟨rfl, j + 1, by go_num, by omega⟩
          case measure => simp [intOf]; omega
        · obtain rfl : j = 20 := by omega
          clear hj hj2
          have hlx : x.l.length ≤ 256 := by rw [HR.out.good.len]; exact HR.out.good.few
          have HDx := Lib.hid (zdata HZ.out)
          have HDy := Lib.hid (fun v (q : Keep wr v) => qdata_at (HR.out.keep q))
          have HCx := Lib.hid (fun v (q : Keep wr v) => zcursor (HZ.out.keep q))
          have HCy := Lib.hid (fun v (q : Keep wr v) => qcursor_at (HR.out.keep q))
          have HTh := Lib.hid (fun v (q : Keep wr v) => zthere (HZ.out.keep q))
          have HN1 : Hid (∀ v c, Go.Proofs.YtifcibmpeolmdaaDoor.M v c x.l → Calls Tryd.prog 26 #[.pointer (some ⟨c, 0, none⟩)] v fun e w' => e = .returned (.int .i64 (cntN x.l : Nat)) ∧ Keep v w') := Lib.hid (fun v c m => (count_at c x.l v m).mono fun e w' ⟨e1, e2⟩ => ⟨e1, by rw [e2]; exact Keep.refl _⟩)
          have HQc : Hid (∀ v, Keep wr v → Calls Tryd.prog 27 #[.slice (some ⟨bi, 0, none⟩) N N] v fun e w' => e = .returned (.int .i64 (cntN x.l : Nat)) ∧ Keep v w') := Lib.hid (fun v q => by
            rw [← HXN.out]
            exact (qcount _ x.l v (HR.out.keep q).bools hlx).mono fun e w' ⟨e1, e2⟩ => ⟨e1, by rw [e2]; exact Keep.refl _⟩)
          have HC0 := Lib.hid (fun v (q : Keep wr v) => (show v.cell? ⟨g, 2, none⟩ = some (.slice (some ⟨bi, 0, none⟩) N N) from by rw [← HXN.out]; exact (HR.out.keep q).i))
          clear hlx
          generalize x.cursor = cx at *
          generalize x.data = dx at *
          generalize cntN x.l = cn at *
          by_cases hf : x.full
          · skip
            have HE := Lib.hid (show x.dataE = 0 ∧ decide x.full = true from ⟨if_pos hf, decide_eq_true hf⟩)
            clear hf
            rw [HE.out.1] at HDx
            rw [HE.out.2] at HDy
            go_wp2_with fail
            refine HDx.out.mono ?_
            rintro e u1 ⟨rfl, q1⟩
            have Q1 := Lib.hid q1
            clear q1 HDx
            go_wp2_with fail
            refine (HDy.out u1 Q1.out).mono ?_
            rintro e u1 ⟨rfl, rfl⟩
            have HC1 := Lib.hid (fun v (q : Keep u1 v) => HCx.out v (Q1.out.trans q))
            have HC2 := Lib.hid (fun v (q : Keep u1 v) => HCy.out v (Q1.out.trans q))
            have HT1 := Lib.hid (fun v (q : Keep u1 v) => HTh.out v (Q1.out.trans q))
            have HQ1 := Lib.hid (fun v (q : Keep u1 v) => HQc.out v (Q1.out.trans q))
            have HCC := Lib.hid (fun v (q : Keep u1 v) => HC0.out v (Q1.out.trans q))
            clear HDy HCx HCy HTh HQc HC0
            go_wp2_with fail
            generalize u1 = wc at *
            have cn0 := HCC.out wc.drew (Keep.refl wc).drew
            have cna := HCC.out (wc.drewN 1) ((Keep.refl wc).drewN 1)
            first | go_region_held_law (fun w' => w'.cell? ⟨g, 2, none⟩ = some (.slice (some ⟨bi, 0, none⟩) N N)) (first | exact HCC.out _ k5 | exact HCC.out _ k4 | exact HCC.out _ k3 | exact HCC.out _ k2 | exact HCC.out _ k1 | exact HCC.out _ (Keep.refl wc).drew | exact HCC.out _ ((Keep.refl wc).drewN 1) | exact HCC.out _ (Keep.refl wc)) (first | (go_at_call 23; refine (HC1.out _ (by first | exact (Keep.refl wc).drew | exact (Keep.refl wc).drewN 1 | exact Keep.refl wc)).mono ?_; rintro e v1 ⟨rfl, q1⟩; have k1 : Keep wc v1 := Keep.trans (by first | exact (Keep.refl wc).drew | exact (Keep.refl wc).drewN 1 | exact Keep.refl wc) q1) | (go_at_call 24; refine (HC2.out _ k1).mono ?_; rintro e v2 ⟨rfl, q2⟩; have k2 : Keep wc v2 := Keep.trans k1 q2) | (go_at_call 25; refine (HT1.out _ k2).mono ?_; rintro e v3 ⟨c5, rfl, hc5, m5, q3⟩; have k3 : Keep wc v3 := Keep.trans k2 q3) | (go_at_call 26; refine (HN1.out _ c5 m5).mono ?_; rintro e v4 ⟨rfl, q4⟩; have k4 : Keep wc v4 := Keep.trans k3 q4) | (go_at_call 27; refine (HQ1.out _ k4).mono ?_; rintro e v5 ⟨rfl, q5⟩; have k5 : Keep wc v5 := Keep.trans k4 q5)) | fail
            have HK9 := Lib.hid (HK.out.trans (Q1.out.trans k5))
            clear k1 k2 k3 k4 k5 q1 q2 q3 q4 q5 m5 hc5 cn0 cna
            go_wp2
            go_ret
            exact ⟨rfl, HK9.out⟩
          · skip
            have HE := Lib.hid (show x.dataE = 11 ∧ decide x.full = false from ⟨if_neg hf, decide_eq_false hf⟩)
            clear hf
            rw [HE.out.1] at HDx
            rw [HE.out.2] at HDy
            go_wp2_with fail
            refine HDx.out.mono ?_
            rintro e u1 ⟨rfl, q1⟩
            have Q1 := Lib.hid q1
            clear q1 HDx
            go_wp2_with fail
            refine (HDy.out u1 Q1.out).mono ?_
            rintro e u1 ⟨rfl, rfl⟩
            have HC1 := Lib.hid (fun v (q : Keep u1 v) => HCx.out v (Q1.out.trans q))
            have HC2 := Lib.hid (fun v (q : Keep u1 v) => HCy.out v (Q1.out.trans q))
            have HT1 := Lib.hid (fun v (q : Keep u1 v) => HTh.out v (Q1.out.trans q))
            have HQ1 := Lib.hid (fun v (q : Keep u1 v) => HQc.out v (Q1.out.trans q))
            have HCC := Lib.hid (fun v (q : Keep u1 v) => HC0.out v (Q1.out.trans q))
            clear HDy HCx HCy HTh HQc HC0
            go_wp2_with fail
            generalize u1 = wc at *
            have cn0 := HCC.out wc.drew (Keep.refl wc).drew
            have cna := HCC.out (wc.drewN 1) ((Keep.refl wc).drewN 1)
            first | go_region_held3 (fun w' => w'.cell? ⟨g, 2, none⟩ = some (.slice (some ⟨bi, 0, none⟩) N N)) (first | exact HCC.out _ k5 | exact HCC.out _ k4 | exact HCC.out _ k3 | exact HCC.out _ k2 | exact HCC.out _ k1 | exact HCC.out _ (Keep.refl wc).drew | exact HCC.out _ ((Keep.refl wc).drewN 1) | exact HCC.out _ (Keep.refl wc)) (first | (go_at_call 23; refine (HC1.out _ (by first | exact (Keep.refl wc).drew | exact (Keep.refl wc).drewN 1 | exact Keep.refl wc)).mono ?_; rintro e v1 ⟨rfl, q1⟩; have k1 : Keep wc v1 := Keep.trans (by first | exact (Keep.refl wc).drew | exact (Keep.refl wc).drewN 1 | exact Keep.refl wc) q1) | (go_at_call 24; refine (HC2.out _ k1).mono ?_; rintro e v2 ⟨rfl, q2⟩; have k2 : Keep wc v2 := Keep.trans k1 q2) | (go_at_call 25; refine (HT1.out _ k2).mono ?_; rintro e v3 ⟨c5, rfl, hc5, m5, q3⟩; have k3 : Keep wc v3 := Keep.trans k2 q3) | (go_at_call 26; refine (HN1.out _ c5 m5).mono ?_; rintro e v4 ⟨rfl, q4⟩; have k4 : Keep wc v4 := Keep.trans k3 q4) | (go_at_call 27; refine (HQ1.out _ k4).mono ?_; rintro e v5 ⟨rfl, q5⟩; have k5 : Keep wc v5 := Keep.trans k4 q5)) | fail
            have HK9 := Lib.hid (HK.out.trans (Q1.out.trans k5))
            clear k1 k2 k3 k4 k5 q1 q2 q3 q4 q5 m5 hc5 cn0 cna
            go_wp2
            go_ret
            exact ⟨rfl, HK9.out⟩

open Go.ChangeShapes Go.WideShapes Go.ChangeAt
set_option maxRecDepth 100000 in
theorem lifted (os : Os) (started : os.Started) (H : Type) (enc : TypeId × Value → H) :
    ReturnsInHanded {} Tryd.checked os 3 .any (fun w args => (Rows.receiverPlaysSpec.pre enc Tryd.prog Tryd.f3 [] false w args ∧ laidMetH Tryd.prog laid1 w) ∧ sizedMet enc Tryd.prog Tryd.f3 (OpenSpec.ofChange Rows.receiverPlaysSpec) false w args)
      (Rows.receiverPlaysSpec.post enc Tryd.prog Tryd.f3 false true false false) := by
  refine returnsInHanded_of_change_and (C := Tryd.checked) (X := fun w _ => laidMetH Tryd.prog laid1 w) (fun _ _ _ hh h => h.of_heap hh) own started (by kernel_rfl) Tryd.func3
    (ChangeSpec.witness_shaped (enc := enc) (C := Tryd.checked) (os := os) (X := fun w _ => laidMetH Tryd.prog laid1 w) false (World.doorLaid Tryd.prog 400 os) #[.int .i64 0, .int .i64 0, .int .i64 0, .slice none 0 0] 8 rfl (World.shaped_of_RefB (by kernel_rfl) (by kernel_rfl)) (by kernel_rfl) (by kernel_rfl) (by kernel_rfl) (door_met os _)) ?_
  intro W base args ds gs before hval0 hW _ _ hL _
  have hval : ∀ (j : Nat) t v, Tryd.f3.params[j]? = some t → args[j]? = some v → Value.okWide Tryd.prog W .any base t v := hval0
  have hW' := hW
  obtain ⟨p, q, hA0, hV, rfl, hfz, hnd⟩ := hW
  have hA : DataW.TrodAll enc Tryd.prog W 0 (fun _ => true) true Tryd.f3.params.toList args.toList ds p := hA0

  rw [Tryd.params3] at hA hval
  obtain ⟨v0, vs0, d0, ds0, p0, q0, hargs, rfl, rfl, h0, r0⟩ := trodAll_cons hA
  obtain ⟨v1, vs1, d1, ds1, p1, q1, rfl, rfl, rfl, h1, r1⟩ := trodAll_cons r0
  obtain ⟨v2, vs2, d2, ds2, p2, q2, rfl, rfl, rfl, h2, r2⟩ := trodAll_cons r1
  obtain ⟨v3, vs3, d3, ds3, p3, q3, rfl, rfl, rfl, h3, r3⟩ := trodAll_cons r2
  obtain ⟨rfl, rfl, rfl⟩ := trodAll_nil r3
  obtain rfl : args = #[v0, v1, v2, v3] := by cases args; simp_all
  obtain ⟨rfl, rfl⟩ := trodVars_none hV
  have k0 := h0
  have lt0 : ∀ x ∈ p0, x.block < W.heap.size := by obtain ⟨m, hm⟩ := k0; exact DataW.trod_lt m _ _ _ hm
  have k1 := h1
  have lt1 : ∀ x ∈ p1, x.block < W.heap.size := by obtain ⟨m, hm⟩ := k1; exact DataW.trod_lt m _ _ _ hm
  have k2 := h2
  have lt2 : ∀ x ∈ p2, x.block < W.heap.size := by obtain ⟨m, hm⟩ := k2; exact DataW.trod_lt m _ _ _ hm
  have k3 := h3
  have lt3 : ∀ x ∈ p3, x.block < W.heap.size := by obtain ⟨m, hm⟩ := k3; exact DataW.trod_lt m _ _ _ hm
  obtain ⟨a0, rfl, _, _, w0⟩ := open_int Tryd.underlying3 (hval 0 3 v0 rfl rfl) h0
  obtain ⟨a1, rfl, _, _, w1⟩ := open_int Tryd.underlying3 (hval 1 3 v1 rfl rfl) h1
  obtain ⟨a2, rfl, _, _, w2⟩ := open_int Tryd.underlying3 (hval 2 3 v2 rfl rfl) h2
  obtain ⟨a3, cap3, l3, rfl, f3⟩ := open_frames (hval 3 22 v3 rfl rfl) h3
  clear hA0 hval0
  refine (walk a0 a1 a2 a3 cap3 l3 W (bounds_i64 w0) (bounds_i64 w1) (bounds_i64 w2) f3 (of_laid hL)).mono fun e W' ⟨he, bel0⟩ => ?_
  subst he
  have bel : Below W.heap.size W W' := bel0
  exact ⟨_, rfl, _, _, _, [], _, [], hW', trodAll_mk1 (shut_bool Tryd.underlying4 _), (trodAll_cons_mk (Below.trod laidOut (by kernel_rfl) (of_decide_eq_true (by kernel_rfl)) k0 bel lt0) (trodAll_cons_mk (Below.trod laidOut (by kernel_rfl) (of_decide_eq_true (by kernel_rfl)) k1 bel lt1) (trodAll_cons_mk (Below.trod laidOut (by kernel_rfl) (of_decide_eq_true (by kernel_rfl)) k2 bel lt2) (trodAll_cons_mk (Below.trod laidOut (by kernel_rfl) (of_decide_eq_true (by kernel_rfl)) k3 bel lt3) trodAll_mk0)))), rfl, bel.frame _, fun h => by cases h⟩

theorem over : Rows.receiverPlaysRow.holds Tryd.pinned (OpenSpec.ofChange Rows.receiverPlaysSpec) :=
  OpenClaim.holds_of_wide 3 Tryd.f3 rfl rfl rfl rfl rfl rfl rfl ⟨rfl, rfl, rfl, rfl, rfl⟩ rfl rfl rfl rfl rfl (by kernel_rfl) Tryd.func3 (by kernel_rfl)
    (of_decide_eq_true (by kernel_rfl)) (by unfold Func.isWrapper; first | (rw [if_pos (by decide +kernel)]; kernel_rfl) | (rw [if_neg (by decide +kernel)]; exact ⟨rfl, rfl⟩))
    (fun os started H enc _ => lifted os started H enc)
theorem card : Claim7.holds Tryd.pinned (.plain (OpenSpec.ofChange Rows.receiverPlaysSpec)) Rows.receiverPlaysCard :=
  Claim7.holds_tied_plain_at .later [] [.data] true (true, "9f1138924d784bfed17d71e72dd25563e285159175c97e71dd8c43ba71e9644f") false
    over (fun _ h => by cases h) (by kernel_rfl) (fun _ h => by cases h) receiverPlays_row_tie rfl ⟨rfl, rfl⟩ (by kernel_rfl) rfl
    (fun f fn hf hfn => by
      obtain rfl : f = 3 := Option.some.inj ((show Tryd.prog.funcNamed Rows.receiverPlaysRow.func = some 3 by kernel_rfl).symm.trans hf) |>.symm
      obtain rfl : fn = Tryd.f3 := (Option.some.inj (Tryd.func3.symm.trans hfn)).symm
      exact ⟨by kernel_rfl, fun j t ht => by
        rw [Tryd.params3] at ht
        have hm : t ∈ [3, 3, 3, 22] := by simpa using Array.mem_of_getElem? ht
        have hall : ([3, 3, 3, 22].all fun u => !Tryd.prog.wantsStandIn u) = true := by kernel_rfl
        exact (show Tryd.prog.wantsStandIn t = false by simpa using List.all_eq_true.1 hall t hm)⟩)
    (by kernel_rfl)
end Go.Proofs.YtifcibmpeolmdaaDoor.LReceiverPlays

namespace Go.Proofs.YtifcibmpeolmdaaDoor
theorem receiverPlays_holds : Rows.ReceiverPlaysCardSaid := LReceiverPlays.card
#print axioms receiverPlays_holds
end Go.Proofs.YtifcibmpeolmdaaDoor

