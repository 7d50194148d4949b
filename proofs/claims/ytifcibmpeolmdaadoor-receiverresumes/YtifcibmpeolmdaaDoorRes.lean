/- Proved: for every number, every list of frames and every number of 64 bits the law ReceiverResumes returns true (resumed at any point from its cursor a receiver goes on as it would have: the same is taken, told, and there), and its arguments read behind the call as they read before. Condition, by the row's own list: math/bits.deBruijn64tab starts as the program's text lays it (the card ties that). -/
import Derived.Test.YtifcibmpeolmdaaDoorTw
namespace Go.Proofs.YtifcibmpeolmdaaDoor.LReceiverResumes
open Go.RowKit

def RsRel (w0 : World) (b M : Nat) (yv iv : Value) (wr : World) : Prop :=
  ∃ (k b2 : Nat) (x y : Rv) (K L : List Nat), iv = .int .i64 k ∧ yv = .pointer (some ⟨b2, 0, none⟩) ∧ k ≤ M ∧ Z wr K b x ∧ Z wr L b2 y ∧ From w0.heap.size K ∧ From w0.heap.size L ∧ Apart K L ∧ Keep w0 wr ∧ x.core = y.core ∧ (∀ e, x.d e ≤ k) ∧ ∀ e, y.d e ≤ k
set_option maxRecDepth 100000 in
set_option maxHeartbeats 4000000 in
theorem walk (tot : Int) (a : Option Addr) (cap : Nat) (A : List Fq) (cuts : Nat) (w : World) (_ht0 : -9223372036854775808 ≤ tot ∧ tot ≤ 9223372036854775807) (h : ArgL fq w a cap A) (_hcu : cuts < 18446744073709551616) (ht : Tab w) : Calls Tryd.prog 4 #[.int .i64 tot, .slice a A.length cap, .int .u64 cuts] w fun e w' => e = .returned (.bool true) ∧ Keep w w' := by
  have HA := Lib.hid h
  have HT := Lib.hid ht
  obtain ⟨M, hM⟩ : ∃ M, A.length = M := ⟨_, rfl⟩
  have HM := Lib.hid hM
  rw [hM]
  clear hM h ht
  have htl := tot_law tot
  obtain ⟨N, hN⟩ : ∃ N, totN tot = N := ⟨_, rfl⟩
  have HNN := Lib.hid (show 1 ≤ N ∧ N ≤ 20 from by rw [← hN]; exact totN_in tot)
  rw [hN] at htl
  clear hN
  by_cases hlong : M ≤ 100
  rotate_left
  · have hgt : (M : Int) > 100 := by omega
    clear hlong
    go_enter Tryd.func4, Tryd.ntmps4
    go_wp2_with fail
    refine (awake_at w HT.out).mono ?_
    rintro e v1 ⟨rfl, k1⟩
    have HK := Lib.hid k1
    clear k1
    go_wp2_with fail
    refine (awake_at v1 (HT.out.keep HK.out)).mono ?_
    rintro e v2 ⟨rfl, k2⟩
    have HK2 := Lib.hid (HK.out.trans k2)
    clear k2
    go_wp2
    go_ret
    exact ⟨rfl, HK2.out⟩
  have hgt : ¬ (M : Int) > 100 := by omega
  obtain ⟨n, hn⟩ : ∃ n, n = 6 := ⟨6, rfl⟩
  have hsz : ∀ w, (Go.sizeOf 32).run Tryd.prog w = .ok n w := fun w => by rw [hn]; exact Tryd.sizeOf32 w
  have hn0 : ¬ n = 0 := by omega
  obtain ⟨hz, _⟩ := zero_of_info infoF
  have HN := Lib.hid hn
  have HZS := Lib.hid (fun f : Fr => (show (fc f).size = n by rw [hn]; rfl))
  have HNew := Lib.hid (fun v (q : Tab v) => znew 1 2 N (by unfold mayR; have := HNN.out; omega) v q)
  clear hn
  go_enter Tryd.func4, Tryd.ntmps4
  go_wp2_with fail
  refine (awake_at w HT.out).mono ?_
  rintro e v1 ⟨rfl, k1⟩
  have HK1 := Lib.hid k1
  clear k1
  go_wp2_with fail
  refine (HNew.out v1 (HT.out.keep HK1.out)).mono ?_
  rintro e v2 ⟨b, K0, rfl, z2, f2, k2⟩
  have HZ2 := Lib.hid z2
  have HF2 := Lib.hid (f2.mono HK1.out.size)
  have HK2 := Lib.hid (HK1.out.trans k2)
  clear z2 f2 k2 HK1
  go_wp2_with fail
  refine (HNew.out v2 (HT.out.keep HK2.out)).mono ?_
  rintro e v3 ⟨b2, L0, rfl, z3, f3, k3⟩
  have H0 := Lib.hid (show RsRel w b M (.pointer (some ⟨b2, 0, none⟩)) (.int .i64 ((0 : Nat) : Int)) v3 from ⟨0, b2, _, _, K0, L0, rfl, rfl, Nat.zero_le _, HZ2.out.keep k3, z3, HF2.out, f3.mono HK2.out.size, Apart.from HZ2.out.low f3, HK2.out.trans k3, rfl, fun e => Nat.le_refl _, fun e => Nat.le_refl _⟩)
  clear z3 f3 k3 HZ2 HF2 HK2 hgt htl HNew
  go_wp2_with fail
  go_loopw [9, 50] (fun yv iv wr => RsRel w b M yv iv wr) (fun _ i _ => 110 - (intOf i).toNat)
  case atStart => exact H0.out
  case round =>
    obtain ⟨k, b2, x, y, K, L, rfl, rfl, hk, hzx, hzy, hfx, hfy, hap, hK, hco, hdx, hdy⟩ := hrel
    have HX := Lib.hid (And.intro hzx (And.intro hzy (And.intro hfx (And.intro hfy (And.intro hap hK)))))
    have HD := Lib.hid (And.intro hco (And.intro hdx hdy))
    have HK := Lib.hid hK
    clear hzx hzy hfx hfy hap hK hco hdx hdy H0
    by_cases hlt : k < M
    rotate_left
    · obtain rfl : k = M := by omega
      go_wp2
      go_ret
      exact ⟨rfl, HK.out⟩
    obtain ⟨q, hq⟩ : ∃ q, A[k]? = some q := ⟨_, List.getElem?_eq_getElem (by rw [HM.out]; exact hlt)⟩
    have hc := (HA.out.keep HK.out).cells (by intro e; rw [e] at hq; simp at hq)
    obtain ⟨g, o, c, hv, _, _, _⟩ := hc.ptr k (by rw [HM.out]; exact hlt)
    rw [HM.out] at hv
    injection hv with y1 y2 y3
    subst y1 y3
    have hl := whole_fq hc HN.out k q hq
    obtain ⟨hst, hfa, hkn⟩ := frame_new wr q.f
    have h5 := hfa.data
    have HSq := Lib.hid q.q.toSqF
    have hzs := HZS.out q.f
    have HTwo := Lib.hid (show Two w b b2 wr.heap.size q.f x y ((wr.alloc (.cells (fc zeroF) 32)).setRow wr.heap.size (fc q.f)) from
      ⟨K, L, HX.out.1.keep hkn, HX.out.2.1.keep hkn, HX.out.2.2.1, HX.out.2.2.2.1, HX.out.2.2.2.2.1, HK.out.trans hkn, hfa, fun e => Nat.lt_irrefl _ (HX.out.1.low _ e), fun e => Nat.lt_irrefl _ (HX.out.2.1.low _ e)⟩)
    have HK1 := Lib.hid (HK.out.trans hkn)
    clear hc y2 hfa hkn hq HX HK
    generalize q.f = f at *
    obtain ⟨C0, hC0⟩ : ∃ C, fc zeroF = C := ⟨_, rfl⟩
    rw [hC0] at hst h5 HTwo HK1 hz
    clear hC0
    obtain ⟨C, hC⟩ : ∃ C, fc f = C := ⟨_, rfl⟩
    rw [hC] at hst h5 HTwo HK1 hzs hl
    have HC := Lib.hid hC
    clear hC
    by_cases hbig : 500 < f.data.length
    · have hgt : (f.data.length : Int) > 500 := by omega
      clear hbig
      go_wp2
      go_ret
      exact ⟨rfl, HK1.out⟩
    have hgt : ¬ (f.data.length : Int) > 500 := by omega
    clear hbig
    have cA : Hid (∀ v, Two w b b2 wr.heap.size f x y v → Calls Tryd.prog 14 #[.pointer (some ⟨b, 0, none⟩), .agg C] v fun e w' => e = .returned (.int .i64 (x.wrong f : Nat)) ∧ Two w b b2 wr.heap.size f (x.take f) y w') := Lib.hid (fun v hv => by
      rw [← HC.out]
      exact hv.one HSq.out (by have := HD.out.2.1 (x.wrong f : Nat); omega))
    have cB : Hid (∀ v, Two w b b2 wr.heap.size f (x.take f) y v → Calls Tryd.prog 14 #[.pointer (some ⟨b2, 0, none⟩), .agg C] v fun e w' => e = .returned (.int .i64 (x.wrong f : Nat)) ∧ Two w b b2 wr.heap.size f (x.take f) (y.take f) w') := Lib.hid (fun v hv => by
      rw [← HC.out, core_wrong HD.out.1 f]
      exact hv.two HSq.out (by have := HD.out.2.2 (y.wrong f : Nat); omega))
    go_wp2_with fail
    generalize hv4 : (wr.alloc (.cells C0 32)).setRow wr.heap.size C = v4 at *
    generalize hfb : wr.heap.size = fb at *
    clear hst hv4 hl h5
    obtain ⟨P, hP⟩ : ∃ P, PhT w b b2 fb f x y = P := ⟨_, rfl⟩
    have ne : Nonempty (PW P) := ⟨⟨v4.drew, 0, by rw [← hP]; exact HTwo.out.keep (Keep.refl _).drew⟩⟩
    have a1 : ∀ u : PW P, (loadCellsFrom ⟨fb, 0, none⟩ 0 n #[]).run Tryd.prog u.1 = .ok C u.1 := by
      rintro ⟨v, p, hp⟩
      rw [← hP] at hp
      rw [← HC.out]
      exact (PhT.fat p hp).whole HN.out
    have cA' : Hid (∀ v, P 0 v → Calls Tryd.prog 14 #[.pointer (some ⟨b, 0, none⟩), .agg C] v fun e w' => e = .returned (.int .i64 (x.wrong f : Nat)) ∧ P 1 w') := Lib.hid (by rw [← hP]; exact cA.out)
    have cB' : Hid (∀ v, P 1 v → Calls Tryd.prog 14 #[.pointer (some ⟨b2, 0, none⟩), .agg C] v fun e w' => e = .returned (.int .i64 (x.wrong f : Nat)) ∧ P 2 w') := Lib.hid (by rw [← hP]; exact cB.out)
    have HP0 := Lib.hid (show P 0 v4.drew from by rw [← hP]; exact HTwo.out.keep (Keep.refl _).drew)
    have HP2 := Lib.hid (fun v => (show P 2 v → Two w b b2 fb f (x.take f) (y.take f) v from by rw [← hP]; exact id))
    have HD2 := Lib.hid (show (x.take f).core = (y.take f).core ∧ (∀ e, (x.take f).d e ≤ k + 1) ∧ (∀ e, (y.take f).d e ≤ k + 1) from ⟨core_take HD.out.1 f, fun e => take_d x f e k (HD.out.2.1 e), fun e => take_d y f e k (HD.out.2.2 e)⟩)
    clear hP cA cB HTwo HK1 HD
    generalize x.wrong f = W at *
    generalize x.take f = x2 at *
    generalize y.take f = y2 at *
    refine wp_region_ph (A := isCall) (C := P) (by kernel_rfl) (by kernel_rfl) (by kernel_rfl) HP0.out ?_
    repeat (refine ph_quiet (by rfl) ?_; (first | go_big_quiet_step (fail) | quiet_step (fail)); refine wpQuiet_nil ?_)
    refine ph_act cA'.out (fun K hK => ?_)
    refine ⟨by rfl, by rfl, fun w => by go_simp, ?_⟩
    go_simp
    refine hK _ ?_
    clear hK K
    repeat (refine ph_quiet (by rfl) ?_; (first | go_big_quiet_step (fail) | quiet_step (fail)); refine wpQuiet_nil ?_)
    refine ph_act cB'.out (fun K hK => ?_)
    refine ⟨by rfl, by rfl, fun w => by go_simp, ?_⟩
    go_simp
    refine hK _ ?_
    clear hK K
    repeat (refine ph_quiet (by rfl) ?_; (first | go_big_quiet_step (fail) | quiet_step (fail)); refine wpQuiet_nil ?_)
    refine ph_nil ?_
    intro v5 h5
    obtain ⟨K, L, hzx, hzy, hfx, hfy, hap, hK, _, _, _⟩ := HP2.out v5 h5
    have HX := Lib.hid hzx
    have HFx := Lib.hid hfx
    have HK5 := Lib.hid hK
    have HY5 := Lib.hid (And.intro hzy (And.intro hfy hap))
    clear h5 HP2 HP0 cA' cB' a1 ne hzx hzy hfx hfy hap hK
    go_wp2_with fail
    rotate_left
    · have HY := Lib.hid HY5.out.1
      have HFr := Lib.hid (And.intro HFx.out HY5.out.2)
      have HCo := Lib.hid HD2.out.1
      have HDd := Lib.hid HD2.out.2
      clear HY5 HFx HD2
      obtain ⟨e1, e2, e3, e4, _⟩ := core_data HCo.out
      have HD1 := Lib.hid (fun v' (q : Keep v5 v') => zdata (HX.out.keep q))
      have HD2 := Lib.hid (fun v' (q : Keep v5 v') => zdata (HY.out.keep q))
      have HA1 := Lib.hid (fun v' (q : Keep v5 v') => zack (HX.out.keep q))
      have HA2 := Lib.hid (fun v' (q : Keep v5 v') => zack (HY.out.keep q))
      have HC1 := Lib.hid (fun v' (q : Keep v5 v') => zcursor (HX.out.keep q))
      have HC2 := Lib.hid (fun v' (q : Keep v5 v') => zcursor (HY.out.keep q))
      have HT1 := Lib.hid (fun v' (q : Keep v5 v') => zthere (HX.out.keep q))
      have HT2 := Lib.hid (fun v' (q : Keep v5 v') => zthere (HY.out.keep q))
      have HN1 := Lib.hid (fun v' c (m : Go.Proofs.YtifcibmpeolmdaaDoor.M v' c x2.l) => count_at c x2.l v' m)
      rw [← e1, ← e2] at HD2
      rw [← e3] at HA2
      rw [← core_cursor HCo.out] at HC2
      rw [← e4] at HT2
      have hE := same_fc x2.ack
      have HRel := Lib.hid (fun v' (q : Keep v5 v') => (show RsRel w b M (.pointer (some ⟨b2, 0, none⟩)) (.int .i64 ((k + 1 : Nat) : Int)) v' from ⟨k + 1, b2, x2, y2, _, _, rfl, rfl, by omega, HX.out.keep q, HY.out.keep q, HFr.out.1, HFr.out.2.1, HFr.out.2.2, HK5.out.trans q, HCo.out, HDd.out.1, HDd.out.2⟩))
      clear e1 e2 e3 e4
      generalize x2.data = dx at *
      generalize x2.dataE = ex at *
      generalize fc x2.ack = CA at *
      generalize x2.cursor = cx at *
      generalize cntN x2.l = cn at *
      go_wp2_with fail
      refine (HD1.out v5 (Keep.refl _)).mono ?_
      rintro e u1 ⟨rfl, q1⟩
      have Q1 := Lib.hid q1
      clear q1 HD1
      go_wp2_with fail
      refine (HD2.out u1 Q1.out).mono ?_
      rintro e u2 ⟨rfl, q2⟩
      have Q2 := Lib.hid (Q1.out.trans q2)
      clear q2 HD2 Q1
      go_wp2_with fail
      refine (HA1.out u2 Q2.out).mono ?_
      rintro e u3 ⟨rfl, q3⟩
      have Q3 := Lib.hid (Q2.out.trans q3)
      clear q3 HA1 Q2
      go_wp2_with fail
      refine (HA2.out u3 Q3.out).mono ?_
      rintro e u4 ⟨rfl, q4⟩
      have Q4 := Lib.hid (Q3.out.trans q4)
      clear q4 HA2 Q3
      go_wp2_with fail
      refine (HC1.out u4 Q4.out).mono ?_
      rintro e u5 ⟨rfl, q5⟩
      have Q5 := Lib.hid (Q4.out.trans q5)
      clear q5 HC1 Q4
      go_wp2_with fail
      refine (HC2.out u5 Q5.out).mono ?_
      rintro e u6 ⟨rfl, q6⟩
      have Q6 := Lib.hid (Q5.out.trans q6)
      clear q6 HC2 Q5
      go_wp2_with fail
      refine (HT1.out u6 Q6.out).mono ?_
      rintro e u7 ⟨c1, rfl, _, m7, q7⟩
      have Q7 := Lib.hid (Q6.out.trans q7)
      have HM7 := Lib.hid m7
      clear q7 HT1 Q6 m7
      go_wp2_with fail
      refine (HN1.out u7 c1 HM7.out).mono ?_
      rintro e u7 ⟨rfl, rfl⟩
      clear HM7
      go_wp2_with fail
      refine (HT2.out u7 Q7.out).mono ?_
      rintro e u8 ⟨c2, rfl, _, m8, q8⟩
      have Q8 := Lib.hid (Q7.out.trans q8)
      have HM8 := Lib.hid m8
      clear q8 HT2 Q7 m8
      go_wp2_with fail
      refine (HN1.out u8 c2 HM8.out).mono ?_
      rintro e u8 ⟨rfl, rfl⟩
      have HR9 := Lib.hid (HRel.out u8 Q8.out)
      clear HM8 HN1 HRel Q8
      go_wp2
      go_roundw
      case rel => exact HR9.out
      case measure => simp [intOf]; omega
    · have HYc := Lib.hid (fun v' (q : Keep v5 v') => zcursor (HY5.out.1.keep q))
      have HAg := Lib.hid (fun v' (q : Keep v5 v') => zagain HY5.out.1.good v' ((HY5.out.1.keep q).tab))
      obtain ⟨cy, hcy⟩ : ∃ c, y2.cursor = c := ⟨_, rfl⟩
      have HZc := Lib.hid (fun v' K b (h : Z v' K b y2.core) => zcursor h)
      have hcc : y2.core.cursor = y2.cursor := core_cursor rfl
      rw [hcc] at HZc
      rw [hcy] at HYc HAg HZc
      clear hcc hcy
      refine (HYc.out v5 (Keep.refl _)).mono ?_
      rintro e w1 ⟨rfl, q1⟩
      have P1 := Lib.hid q1
      clear q1
      go_wp2_with fail
      refine (HAg.out w1 P1.out).mono ?_
      rintro e w2 ⟨b3, L3, rfl, z3, f3, q2⟩
      have HZ3 := Lib.hid z3
      have HF3 := Lib.hid (f3.mono (HK5.out.trans P1.out).size)
      have HAp3 := Lib.hid (Apart.from (HX.out.keep P1.out).low f3)
      have P2 := Lib.hid (P1.out.trans q2)
      clear z3 f3 q2 P1 HAg
      go_wp2_with fail
      refine (HZc.out w2 _ _ HZ3.out).mono ?_
      rintro e w3 ⟨rfl, q3⟩
      have P3 := Lib.hid (P2.out.trans q3)
      have HZ4 := Lib.hid (HZ3.out.keep q3)
      clear q3 P2 HZ3 HZc
      go_wp2_with fail
      refine (HYc.out w3 P3.out).mono ?_
      rintro e w4 ⟨rfl, q4⟩
      have HY := Lib.hid (HZ4.out.keep q4)
      have HX := Lib.hid (HX.out.keep (P3.out.trans q4))
      have HK5 := Lib.hid (HK5.out.trans (P3.out.trans q4))
      have HFr := Lib.hid (And.intro HFx.out (And.intro HF3.out HAp3.out))
      have HCo := Lib.hid (show x2.core = y2.core.core from HD2.out.1)
      have HDd := Lib.hid (show (∀ e, x2.d e ≤ k + 1) ∧ ∀ e, y2.core.d e ≤ k + 1 from ⟨HD2.out.2.1, fun e => Nat.zero_le _⟩)
      clear q4 P3 HZ4 HYc HY5 HFx HF3 HAp3 HD2
      obtain ⟨e1, e2, e3, e4, _⟩ := core_data HCo.out
      have HD1 := Lib.hid (fun v' (q : Keep w4 v') => zdata (HX.out.keep q))
      have HD2 := Lib.hid (fun v' (q : Keep w4 v') => zdata (HY.out.keep q))
      have HA1 := Lib.hid (fun v' (q : Keep w4 v') => zack (HX.out.keep q))
      have HA2 := Lib.hid (fun v' (q : Keep w4 v') => zack (HY.out.keep q))
      have HC1 := Lib.hid (fun v' (q : Keep w4 v') => zcursor (HX.out.keep q))
      have HC2 := Lib.hid (fun v' (q : Keep w4 v') => zcursor (HY.out.keep q))
      have HT1 := Lib.hid (fun v' (q : Keep w4 v') => zthere (HX.out.keep q))
      have HT2 := Lib.hid (fun v' (q : Keep w4 v') => zthere (HY.out.keep q))
      have HN1 := Lib.hid (fun v' c (m : Go.Proofs.YtifcibmpeolmdaaDoor.M v' c x2.l) => count_at c x2.l v' m)
      rw [← e1, ← e2] at HD2
      rw [← e3] at HA2
      rw [← core_cursor HCo.out] at HC2
      rw [← e4] at HT2
      have hE := same_fc x2.ack
      have HRel := Lib.hid (fun v' (q : Keep w4 v') => (show RsRel w b M (.pointer (some ⟨b3, 0, none⟩)) (.int .i64 ((k + 1 : Nat) : Int)) v' from ⟨k + 1, b3, x2, y2.core, _, _, rfl, rfl, by omega, HX.out.keep q, HY.out.keep q, HFr.out.1, HFr.out.2.1, HFr.out.2.2, HK5.out.trans q, HCo.out, HDd.out.1, HDd.out.2⟩))
      clear e1 e2 e3 e4
      generalize x2.data = dx at *
      generalize x2.dataE = ex at *
      generalize fc x2.ack = CA at *
      generalize x2.cursor = cx at *
      generalize cntN x2.l = cn at *
      go_wp2_with fail
      refine (HD1.out w4 (Keep.refl _)).mono ?_
      rintro e u1 ⟨rfl, q1⟩
      have Q1 := Lib.hid q1
      clear q1 HD1
      go_wp2_with fail
      refine (HD2.out u1 Q1.out).mono ?_
      rintro e u2 ⟨rfl, q2⟩
      have Q2 := Lib.hid (Q1.out.trans q2)
      clear q2 HD2 Q1
      go_wp2_with fail
      refine (HA1.out u2 Q2.out).mono ?_
      rintro e u3 ⟨rfl, q3⟩
      have Q3 := Lib.hid (Q2.out.trans q3)
      clear q3 HA1 Q2
      go_wp2_with fail
      refine (HA2.out u3 Q3.out).mono ?_
      rintro e u4 ⟨rfl, q4⟩
      have Q4 := Lib.hid (Q3.out.trans q4)
      clear q4 HA2 Q3
      go_wp2_with fail
      refine (HC1.out u4 Q4.out).mono ?_
      rintro e u5 ⟨rfl, q5⟩
      have Q5 := Lib.hid (Q4.out.trans q5)
      clear q5 HC1 Q4
      go_wp2_with fail
      refine (HC2.out u5 Q5.out).mono ?_
      rintro e u6 ⟨rfl, q6⟩
      have Q6 := Lib.hid (Q5.out.trans q6)
      clear q6 HC2 Q5
      go_wp2_with fail
      refine (HT1.out u6 Q6.out).mono ?_
      rintro e u7 ⟨c1, rfl, _, m7, q7⟩
      have Q7 := Lib.hid (Q6.out.trans q7)
      have HM7 := Lib.hid m7
      clear q7 HT1 Q6 m7
      go_wp2_with fail
      refine (HN1.out u7 c1 HM7.out).mono ?_
      rintro e u7 ⟨rfl, rfl⟩
      clear HM7
      go_wp2_with fail
      refine (HT2.out u7 Q7.out).mono ?_
      rintro e u8 ⟨c2, rfl, _, m8, q8⟩
      have Q8 := Lib.hid (Q7.out.trans q8)
      have HM8 := Lib.hid m8
      clear q8 HT2 Q7 m8
      go_wp2_with fail
      refine (HN1.out u8 c2 HM8.out).mono ?_
      rintro e u8 ⟨rfl, rfl⟩
      have HR9 := Lib.hid (HRel.out u8 Q8.out)
      clear HM8 HN1 HRel Q8
      go_wp2
      go_roundw
      case rel => exact HR9.out
      case measure => simp [intOf]; omega

open Go.ChangeShapes Go.WideShapes Go.ChangeAt
set_option maxRecDepth 100000 in
theorem lifted (os : Os) (started : os.Started) (H : Type) (enc : TypeId × Value → H) :
    ReturnsInHanded {} Tryd.checked os 4 .any (fun w args => (Rows.receiverResumesSpec.pre enc Tryd.prog Tryd.f4 [] false w args ∧ laidMetH Tryd.prog laid1 w) ∧ sizedMet enc Tryd.prog Tryd.f4 (OpenSpec.ofChange Rows.receiverResumesSpec) false w args)
      (Rows.receiverResumesSpec.post enc Tryd.prog Tryd.f4 false true false false) := by
  refine returnsInHanded_of_change_and (C := Tryd.checked) (X := fun w _ => laidMetH Tryd.prog laid1 w) (fun _ _ _ hh h => h.of_heap hh) own started (by kernel_rfl) Tryd.func4
    (ChangeSpec.witness_shaped (enc := enc) (C := Tryd.checked) (os := os) (X := fun w _ => laidMetH Tryd.prog laid1 w) false (World.doorLaid Tryd.prog 400 os) #[.int .i64 0, .slice none 0 0, .int .u64 0] 8 rfl (World.shaped_of_RefB (by kernel_rfl) (by kernel_rfl)) (by kernel_rfl) (by kernel_rfl) (by kernel_rfl) (door_met os _)) ?_
  intro W base args ds gs before hval0 hW _ _ hL _
  have hval : ∀ (j : Nat) t v, Tryd.f4.params[j]? = some t → args[j]? = some v → Value.okWide Tryd.prog W .any base t v := hval0
  have hW' := hW
  obtain ⟨p, q, hA0, hV, rfl, hfz, hnd⟩ := hW
  have hA : DataW.TrodAll enc Tryd.prog W 0 (fun _ => true) true Tryd.f4.params.toList args.toList ds p := hA0

  rw [Tryd.params4] at hA hval
  obtain ⟨v0, vs0, d0, ds0, p0, q0, hargs, rfl, rfl, h0, r0⟩ := trodAll_cons hA
  obtain ⟨v1, vs1, d1, ds1, p1, q1, rfl, rfl, rfl, h1, r1⟩ := trodAll_cons r0
  obtain ⟨v2, vs2, d2, ds2, p2, q2, rfl, rfl, rfl, h2, r2⟩ := trodAll_cons r1
  obtain ⟨rfl, rfl, rfl⟩ := trodAll_nil r2
  obtain rfl : args = #[v0, v1, v2] := by cases args; simp_all
  obtain ⟨rfl, rfl⟩ := trodVars_none hV
  have k0 := h0
  have lt0 : ∀ x ∈ p0, x.block < W.heap.size := by obtain ⟨m, hm⟩ := k0; exact DataW.trod_lt m _ _ _ hm
  have k1 := h1
  have lt1 : ∀ x ∈ p1, x.block < W.heap.size := by obtain ⟨m, hm⟩ := k1; exact DataW.trod_lt m _ _ _ hm
  have k2 := h2
  have lt2 : ∀ x ∈ p2, x.block < W.heap.size := by obtain ⟨m, hm⟩ := k2; exact DataW.trod_lt m _ _ _ hm
  obtain ⟨a0, rfl, _, _, w0⟩ := open_int Tryd.underlying3 (hval 0 3 v0 rfl rfl) h0
  obtain ⟨a1, cap1, l1, rfl, f1⟩ := open_frames (hval 1 22 v1 rfl rfl) h1
  obtain ⟨n2, rfl, g2⟩ := open_u64 (hval 2 52 v2 rfl rfl) h2
  clear hA0 hval0
  refine (walk a0 a1 cap1 l1 n2 W (bounds_i64 w0) f1 g2 (of_laid hL)).mono fun e W' ⟨he, bel0⟩ => ?_
  subst he
  have bel : Below W.heap.size W W' := bel0
  exact ⟨_, rfl, _, _, _, [], _, [], hW', trodAll_mk1 (shut_bool Tryd.underlying4 _), (trodAll_cons_mk (Below.trod laidOut (by kernel_rfl) (of_decide_eq_true (by kernel_rfl)) k0 bel lt0) (trodAll_cons_mk (Below.trod laidOut (by kernel_rfl) (of_decide_eq_true (by kernel_rfl)) k1 bel lt1) (trodAll_cons_mk (Below.trod laidOut (by kernel_rfl) (of_decide_eq_true (by kernel_rfl)) k2 bel lt2) trodAll_mk0))), rfl, bel.frame _, fun h => by cases h⟩

theorem over : Rows.receiverResumesRow.holds Tryd.pinned (OpenSpec.ofChange Rows.receiverResumesSpec) :=
  OpenClaim.holds_of_wide 4 Tryd.f4 rfl rfl rfl rfl rfl rfl rfl ⟨rfl, rfl, rfl, rfl, rfl⟩ rfl rfl rfl rfl rfl (by kernel_rfl) Tryd.func4 (by kernel_rfl)
    (of_decide_eq_true (by kernel_rfl)) (by unfold Func.isWrapper; first | (rw [if_pos (by decide +kernel)]; kernel_rfl) | (rw [if_neg (by decide +kernel)]; exact ⟨rfl, rfl⟩))
    (fun os started H enc _ => lifted os started H enc)
theorem card : Claim7.holds Tryd.pinned (.plain (OpenSpec.ofChange Rows.receiverResumesSpec)) Rows.receiverResumesCard :=
  Claim7.holds_tied_plain_at .later [] [.data] true (true, "9f1138924d784bfed17d71e72dd25563e285159175c97e71dd8c43ba71e9644f") false
    over (fun _ h => by cases h) (by kernel_rfl) (fun _ h => by cases h) receiverResumes_row_tie rfl ⟨rfl, rfl⟩ (by kernel_rfl) rfl
    (fun f fn hf hfn => by
      obtain rfl : f = 4 := Option.some.inj ((show Tryd.prog.funcNamed Rows.receiverResumesRow.func = some 4 by kernel_rfl).symm.trans hf) |>.symm
      obtain rfl : fn = Tryd.f4 := (Option.some.inj (Tryd.func4.symm.trans hfn)).symm
      exact ⟨by kernel_rfl, fun j t ht => by
        rw [Tryd.params4] at ht
        have hm : t ∈ [3, 22, 52] := by simpa using Array.mem_of_getElem? ht
        have hall : ([3, 22, 52].all fun u => !Tryd.prog.wantsStandIn u) = true := by kernel_rfl
        exact (show Tryd.prog.wantsStandIn t = false by simpa using List.all_eq_true.1 hall t hm)⟩)
    (by kernel_rfl)
end Go.Proofs.YtifcibmpeolmdaaDoor.LReceiverResumes

namespace Go.Proofs.YtifcibmpeolmdaaDoor
theorem receiverResumes_holds : Rows.ReceiverResumesCardSaid := LReceiverResumes.card
#print axioms receiverResumes_holds
end Go.Proofs.YtifcibmpeolmdaaDoor

