/- Proved: for every two lists of frames the law ReceiverOwn returns true (what a receiver tells is an answer that its sender takes; a cursor of it is no other one's), and its arguments read behind the call as they read before. Condition, by the row's own list: math/bits.deBruijn64tab starts as the program's text lays it (the card ties that). -/
import Derived.Test.YtifcibmpeolmdaaDoorFw
namespace Go.Proofs.YtifcibmpeolmdaaDoor.LReceiverOwn
open Go.RowKit

/-- A receiver of session 1, epoch 2, of six chunks, behind k frames. -/
structure Six (w0 wr : World) (K : List Nat) (b k : Nat) (r : Rv) : Prop where
  z : Z wr K b r
  ses : r.ses = 1
  ep : r.ep = 2
  six : r.c.length = 6
  d : ∀ e, r.d e ≤ k
  far : From w0.heap.size K
theorem Six.keep {w0 w w' : World} {K : List Nat} {b k : Nat} {r : Rv} (h : Six w0 w K b k r) (q : Keep w w') : Six w0 w' K b k r := ⟨h.z.keep q, h.ses, h.ep, h.six, h.d, h.far⟩
theorem Six.turn {w0 w w' : World} {K L : List Nat} {b k : Nat} {r : Rv} (h : Six w0 w K b k r) (q : Turn L w w') (h0 : 0 ∉ L) (ha : Apart K L) : Six w0 w' K b k r := ⟨h.z.turn q h0 ha, h.ses, h.ep, h.six, h.d, h.far⟩
theorem Six.take {w0 w w' : World} {K K' : List Nat} {b k : Nat} {r : Rv} (h : Six w0 w K b k r) (f : Fr) (hz : Z w' K' b (r.take f)) (hm : More w K K') (hs : w0.heap.size ≤ w.heap.size) : Six w0 w' K' b (k + 1) (r.take f) :=
  ⟨hz, (take_ses r f).1.trans h.ses, (take_ses r f).2.trans h.ep, (take_len r f).trans h.six, fun e => take_d r f e k (h.d e), h.far.more hm hs⟩
/-- Two of them. -/
def OwRel (w0 : World) (b b2 M : Nat) (iv : Value) (wr : World) : Prop :=
  ∃ (k k2 : Nat) (x y : Rv) (K L : List Nat), iv = .int .i64 k ∧ k ≤ M ∧ Six w0 wr K b k x ∧ Six w0 wr L b2 k2 y ∧ k2 = 0 ∧ Apart K L ∧ Keep w0 wr
def Ow2Rel (w0 : World) (b b2 M : Nat) (iv : Value) (wr : World) : Prop :=
  ∃ (k k2 : Nat) (x y : Rv) (K L : List Nat), iv = .int .i64 k ∧ k ≤ M ∧ Six w0 wr K b k2 x ∧ Six w0 wr L b2 k y ∧ Apart K L ∧ Keep w0 wr
/-- Its answer, field by field. -/
theorem six_ack {r : Rv} (h1 : r.ses = 1) (h2 : r.ep = 2) (h6 : r.c.length = 6) : fc r.ack = #[.int .i64 2, .int .i64 1, .int .i64 2, .int .i64 (baseN r.l : Nat), .int .i64 6, .string ⟨(behB r.l 16).toArray⟩] := by
  unfold Rv.ack
  rw [h1, h2, h6]
  rfl
set_option maxRecDepth 100000 in
set_option maxHeartbeats 4000000 in
theorem walk (a : Option Addr) (cap : Nat) (A : List Fq) (a1 : Option Addr) (cap1 : Nat) (B : List Fq) (w : World) (h : ArgL fq w a cap A) (h1 : ArgL fq w a1 cap1 B) (ht : Tab w) : Calls Tryd.prog 9 #[.slice a A.length cap, .slice a1 B.length cap1] w fun e w' => e = .returned (.bool true) ∧ Keep w w' := by
  have HA := Lib.hid h
  have HB := Lib.hid h1
  have HT := Lib.hid ht
  obtain ⟨M, hM⟩ : ∃ M, A.length = M := ⟨_, rfl⟩
  obtain ⟨M2, hM2⟩ : ∃ M, B.length = M := ⟨_, rfl⟩
  have HM := Lib.hid hM
  have HM2 := Lib.hid hM2
  have HSm := Lib.hid (show M ≤ 9223372036854775807 ∧ M2 ≤ 9223372036854775807 from ⟨by rw [← hM]; have := h.small; unfold maxLen at this; omega, by rw [← hM2]; have := h1.small; unfold maxLen at this; omega⟩)
  rw [hM, hM2]
  clear hM hM2 h h1 ht
  obtain ⟨zz, hzz⟩ : ∃ z, wrap64 ((M : Int) + M2) = z := ⟨_, rfl⟩
  by_cases hlong : zz > 100
  · go_enter Tryd.func9, Tryd.ntmps9
    go_wp2_with fail
    refine (awake_at w HT.out).mono ?_
    rintro e v1 ⟨rfl, k1⟩
    have HK := Lib.hid k1
    clear k1
    go_wp2_with fail
    refine (awake_at v1 (HT.out.keep HK.out)).mono ?_
    rintro e v2 ⟨rfl, k2⟩
    have HK2 := Lib.hid (HK.out.trans k2)
    clear k2
    go_wp2
    go_ret
    exact ⟨rfl, HK2.out⟩
  obtain ⟨n, hn⟩ : ∃ n, n = 6 := ⟨6, rfl⟩
  have hsz : ∀ w, (Go.sizeOf 32).run Tryd.prog w = .ok n w := fun w => by rw [hn]; exact Tryd.sizeOf32 w
  have hn0 : ¬ n = 0 := by omega
  obtain ⟨hz, _⟩ := zero_of_info infoF
  have HN := Lib.hid hn
  have HZS := Lib.hid (fun f : Fr => (show (fc f).size = n by rw [hn]; rfl))
  clear hn
  go_enter Tryd.func9, Tryd.ntmps9
  go_wp2_with fail
  refine (awake_at w HT.out).mono ?_
  rintro e v1 ⟨rfl, k1⟩
  have HK1 := Lib.hid k1
  clear k1
  go_wp2_with fail
  refine (znew 1 2 6 (by unfold mayR; omega) v1 (HT.out.keep HK1.out)).mono ?_
  rintro e v2 ⟨b, K0, rfl, z2, f2, k2⟩
  have HZ2 := Lib.hid z2
  have HF2 := Lib.hid (f2.mono HK1.out.size)
  have HK2 := Lib.hid (HK1.out.trans k2)
  clear z2 f2 k2 HK1
  clear hzz hlong
  go_wp2_with fail
  refine (znew 1 2 6 (by unfold mayR; omega) v2 (HT.out.keep HK2.out)).mono ?_
  rintro e v3 ⟨b2, L0, rfl, z3, f3, k3⟩
  have H0 := Lib.hid (show OwRel w b b2 M (.int .i64 ((0 : Nat) : Int)) v3 from ⟨0, 0, _, _, K0, L0, rfl, Nat.zero_le _, ⟨HZ2.out.keep k3, rfl, rfl, rfl, fun e => Nat.le_refl _, HF2.out⟩, ⟨z3, rfl, rfl, rfl, fun e => Nat.le_refl _, f3.mono HK2.out.size⟩, rfl, Apart.from HZ2.out.low f3, HK2.out.trans k3⟩)
  clear z3 f3 k3 HZ2 HF2 HK2
  go_wp2_with fail
  go_loopw [45] (fun iv wr => OwRel w b b2 M iv wr) (fun i _ => M - (intOf i).toNat)
  case atStart => exact H0.out
  case round =>
    obtain ⟨k, k2, x, y, K, L, rfl, hk, sx, sy, rfl, hap, hK⟩ := hrel
    have HX := Lib.hid sx
    have HY := Lib.hid sy
    have HAp := Lib.hid hap
    have HK := Lib.hid hK
    clear sx sy hap hK H0
    by_cases hlt : k < M
    · obtain ⟨q, hq⟩ : ∃ q, A[k]? = some q := ⟨_, List.getElem?_eq_getElem (by rw [HM.out]; exact hlt)⟩
      have hc := (HA.out.keep HK.out).cells (by intro e; rw [e] at hq; simp at hq)
      obtain ⟨g, o, c, hv, _, _, _⟩ := hc.ptr k (by rw [HM.out]; exact hlt)
      rw [HM.out] at hv
      injection hv with y1 y2 y3
      subst y1 y3
      have hl := whole_fq hc HN.out k q hq
      obtain ⟨hst, hfa, hkn⟩ := frame_new wr q.f
      have hl2 := hfa.whole HN.out
      have HX1 := Lib.hid (HX.out.keep hkn)
      have HY1 := Lib.hid (HY.out.keep hkn)
      have HK1 := Lib.hid (HK.out.trans hkn)
      have HTk := Lib.hid (ztake q.f q.q.toSqF HX1.out.z (by have := HX1.out.d (x.wrong q.f : Nat); have := HSm.out.1; omega))
      have hzs := HZS.out q.f
      have hwr : wrap64 ((k : Int) + 1) = ((k + 1 : Nat) : Int) := by rw [IntWalk.wrap64_in _ (by have := HSm.out.1; omega)]; rfl
      clear hc y2 hfa hkn hq HX HY HK
      generalize q.f = f at *
      generalize fc f = C at *
      generalize fc zeroF = C0 at *
      go_wp2_with fail
      generalize (wr.alloc (.cells C0 32)).setRow wr.heap.size C = v4 at *
      clear hst hl hl2
      refine HTk.out.mono ?_
      rintro e v5 ⟨rfl, K', z5, t5, m5⟩
      have HRel := Lib.hid (show OwRel w b b2 M (.int .i64 ((k + 1 : Nat) : Int)) v5 from ⟨k + 1, 0, x.take f, y, K', L, rfl, by omega, HX1.out.take f z5 m5 HK1.out.size, HY1.out.turn t5 HX1.out.z.zero HAp.out.symm, rfl, HAp.out.more m5 HY1.out.z.low, Turn.from HK1.out t5 HX1.out.far⟩)
      clear z5 t5 m5 HTk HX1 HY1 HK1
      go_wp2
      go_roundw
      case rel => rw [hwr]; exact HRel.out
      case measure => rw [hwr]; simp only [intOf]; omega
    · obtain rfl : k = M := by omega
      clear hk hlt
      have H0 := Lib.hid (show Ow2Rel w b b2 M2 (.int .i64 ((0 : Nat) : Int)) wr from ⟨0, k, x, y, K, L, rfl, Nat.zero_le _, HX.out, HY.out, HAp.out, HK.out⟩)
      clear HX HY HAp HK
      go_wp2_with fail
      generalize wr = wm at *
      go_loopw [55] (fun iv wr => Ow2Rel w b b2 M2 iv wr) (fun i _ => M2 - (intOf i).toNat)
      case atStart => exact H0.out
      case round =>
        obtain ⟨k, k2, x, y, K, L, rfl, hk, sx, sy, hap, hK⟩ := hrel
        have HX := Lib.hid sx
        have HY := Lib.hid sy
        have HAp := Lib.hid hap
        have HK := Lib.hid hK
        clear sx sy hap hK H0
        by_cases hlt : k < M2
        · obtain ⟨q, hq⟩ : ∃ q, B[k]? = some q := ⟨_, List.getElem?_eq_getElem (by rw [HM2.out]; exact hlt)⟩
          have hc := (HB.out.keep HK.out).cells (by intro e; rw [e] at hq; simp at hq)
          obtain ⟨g, o, c, hv, _, _, _⟩ := hc.ptr k (by rw [HM2.out]; exact hlt)
          rw [HM2.out] at hv
          injection hv with y1 y2 y3
          subst y1 y3
          have hl := whole_fq hc HN.out k q hq
          obtain ⟨hst, hfa, hkn⟩ := frame_new wr q.f
          have hl2 := hfa.whole HN.out
          have HX1 := Lib.hid (HX.out.keep hkn)
          have HY1 := Lib.hid (HY.out.keep hkn)
          have HK1 := Lib.hid (HK.out.trans hkn)
          have HTk := Lib.hid (ztake q.f q.q.toSqF HY1.out.z (by have := HY1.out.d (y.wrong q.f : Nat); have := HSm.out.2; omega))
          have hzs := HZS.out q.f
          have hwr : wrap64 ((k : Int) + 1) = ((k + 1 : Nat) : Int) := by rw [IntWalk.wrap64_in _ (by have := HSm.out.2; omega)]; rfl
          clear hc y2 hfa hkn hq HX HY HK
          generalize q.f = f at *
          generalize fc f = C at *
          generalize fc zeroF = C0 at *
          go_wp2_with fail
          generalize (wr.alloc (.cells C0 32)).setRow wr.heap.size C = v4 at *
          clear hst hl hl2
          refine HTk.out.mono ?_
          rintro e v5 ⟨rfl, K', z5, t5, m5⟩
          have HRel := Lib.hid (show Ow2Rel w b b2 M2 (.int .i64 ((k + 1 : Nat) : Int)) v5 from ⟨k + 1, k2, x, y.take f, K, K', rfl, by omega, HX1.out.turn t5 HY1.out.z.zero HAp.out, HY1.out.take f z5 m5 HK1.out.size, (HAp.out.symm.more m5 HX1.out.z.low).symm, Turn.from HK1.out t5 HY1.out.far⟩)
          clear z5 t5 m5 HTk HX1 HY1 HK1
          go_wp2
          go_roundw
          case rel => rw [hwr]; exact HRel.out
          case measure => rw [hwr]; simp only [intOf]; omega
        · obtain rfl : k = M2 := by omega
          clear hk hlt
          have hAx := six_ack HX.out.ses HX.out.ep HX.out.six
          have HDx := Lib.hid (zdata HX.out.z)
          have HDy := Lib.hid (fun v (q : Keep wr v) => zdata (HY.out.z.keep q))
          have HCx := Lib.hid (fun v (q : Keep wr v) => zcursor (HX.out.z.keep q))
          have HCy := Lib.hid (fun v (q : Keep wr v) => zcursor (HY.out.z.keep q))
          have HAx := Lib.hid (fun v (q : Keep wr v) => zack (HX.out.z.keep q))
          have HAy := Lib.hid (fun v (q : Keep wr v) => zack (HY.out.z.keep q))
          have hE := same_fc x.ack
          have hf0 := fun w => field_kind 2 1 2 (baseN x.l : Nat) 6 ⟨(behB x.l 16).toArray⟩ w
          have hf4 := fun w => field_total 2 1 2 (baseN x.l : Nat) 6 ⟨(behB x.l 16).toArray⟩ w
          rw [hAx] at HAx hE
          by_cases hc : x.cursor = y.cursor
          · obtain ⟨e1, e2, e3, _, _⟩ := core_data (cursor_inj HX.out.z.good HY.out.z.good hc)
            rw [← e1, ← e2] at HDy
            rw [← e3, hAx] at HAy
            rw [← hc] at HCy
            clear hc e1 e2 e3 hAx HX HY
            generalize x.cursor = cx at *
            generalize x.data = dx at *
            generalize x.dataE = ex at *
            generalize baseN x.l = bx at *
            generalize behB x.l 16 = hx at *
            go_wp2_with fail
            refine HDx.out.mono ?_
            rintro e u1 ⟨rfl, q1⟩
            have Q1 := Lib.hid q1
            clear q1 HDx
            go_wp2_with fail
            refine (HDy.out u1 Q1.out).mono ?_
            rintro e u2 ⟨rfl, q2⟩
            have Q2 := Lib.hid (Q1.out.trans q2)
            clear q2 HDy Q1
            go_wp2_with fail
            refine (HCx.out u2 Q2.out).mono ?_
            rintro e u3 ⟨rfl, q3⟩
            have Q3 := Lib.hid (Q2.out.trans q3)
            clear q3 HCx Q2
            go_wp2_with fail
            refine (HCy.out u3 Q3.out).mono ?_
            rintro e u4 ⟨rfl, q4⟩
            have Q4 := Lib.hid (Q3.out.trans q4)
            clear q4 HCy Q3
            go_wp2_with fail
            refine (HAx.out u4 Q4.out).mono ?_
            rintro e u5 ⟨rfl, q5⟩
            have Q5 := Lib.hid (Q4.out.trans q5)
            clear q5 Q4
            go_wp2_with fail
            refine (HAy.out u5 Q5.out).mono ?_
            rintro e u6 ⟨rfl, q6⟩
            have Q6 := Lib.hid (Q5.out.trans q6)
            clear q6 HAy Q5
            go_wp2_with fail
            refine (HAx.out u6 Q6.out).mono ?_
            rintro e u7 ⟨rfl, q7⟩
            have Q7 := Lib.hid (Q6.out.trans q7)
            clear q7 Q6
            go_wp2_with fail
            refine (HAx.out u7 Q7.out).mono ?_
            rintro e u8 ⟨rfl, q8⟩
            have Q8 := Lib.hid (Q7.out.trans q8)
            clear q8 Q7 HAx
            go_wp2
            go_ret
            exact ⟨rfl, HK.out.trans Q8.out⟩
          · have hcb : (x.cursor == y.cursor) = false := by simpa using hc
            clear hc hAx HX HY HAy
            generalize x.cursor = cx at *
            generalize y.cursor = cy at *
            generalize x.data = dx at *
            generalize x.dataE = ex at *
            generalize y.data = dy at *
            generalize y.dataE = ey at *
            generalize baseN x.l = bx at *
            generalize behB x.l 16 = hx at *
            go_wp2_with fail
            refine HDx.out.mono ?_
            rintro e u1 ⟨rfl, q1⟩
            have Q1 := Lib.hid q1
            clear q1 HDx
            go_wp2_with fail
            refine (HDy.out u1 Q1.out).mono ?_
            rintro e u2 ⟨rfl, q2⟩
            have Q2 := Lib.hid (Q1.out.trans q2)
            clear q2 HDy Q1
            go_wp2_with fail
            refine (HCx.out u2 Q2.out).mono ?_
            rintro e u3 ⟨rfl, q3⟩
            have Q3 := Lib.hid (Q2.out.trans q3)
            clear q3 HCx Q2
            go_wp2_with fail
            refine (HCy.out u3 Q3.out).mono ?_
            rintro e u4 ⟨rfl, q4⟩
            have Q4 := Lib.hid (Q3.out.trans q4)
            clear q4 HCy Q3
            go_wp2_with fail
            refine (HAx.out u4 Q4.out).mono ?_
            rintro e u7 ⟨rfl, q7⟩
            have Q7 := Lib.hid (Q4.out.trans q7)
            clear q7 Q4
            go_wp2_with fail
            refine (HAx.out u7 Q7.out).mono ?_
            rintro e u8 ⟨rfl, q8⟩
            have Q8 := Lib.hid (Q7.out.trans q8)
            clear q8 Q7 HAx
            go_wp2
            go_ret
            exact ⟨rfl, HK.out.trans Q8.out⟩

open Go.ChangeShapes Go.WideShapes Go.ChangeAt
set_option maxRecDepth 100000 in
theorem lifted (os : Os) (started : os.Started) (H : Type) (enc : TypeId × Value → H) :
    ReturnsInHanded {} Tryd.checked os 9 .any (fun w args => (Rows.receiverOwnSpec.pre enc Tryd.prog Tryd.f9 [] false w args ∧ laidMetH Tryd.prog laid1 w) ∧ sizedMet enc Tryd.prog Tryd.f9 (OpenSpec.ofChange Rows.receiverOwnSpec) false w args)
      (Rows.receiverOwnSpec.post enc Tryd.prog Tryd.f9 false true false false) := by
  refine returnsInHanded_of_change_and (C := Tryd.checked) (X := fun w _ => laidMetH Tryd.prog laid1 w) (fun _ _ _ hh h => h.of_heap hh) own started (by kernel_rfl) Tryd.func9
    (ChangeSpec.witness_shaped (enc := enc) (C := Tryd.checked) (os := os) (X := fun w _ => laidMetH Tryd.prog laid1 w) false (World.doorLaid Tryd.prog 400 os) #[.slice none 0 0, .slice none 0 0] 8 rfl (World.shaped_of_RefB (by kernel_rfl) (by kernel_rfl)) (by kernel_rfl) (by kernel_rfl) (by kernel_rfl) (door_met os _)) ?_
  intro W base args ds gs before hval0 hW _ _ hL _
  have hval : ∀ (j : Nat) t v, Tryd.f9.params[j]? = some t → args[j]? = some v → Value.okWide Tryd.prog W .any base t v := hval0
  have hW' := hW
  obtain ⟨p, q, hA0, hV, rfl, hfz, hnd⟩ := hW
  have hA : DataW.TrodAll enc Tryd.prog W 0 (fun _ => true) true Tryd.f9.params.toList args.toList ds p := hA0

  rw [Tryd.params9] at hA hval
  obtain ⟨v0, vs0, d0, ds0, p0, q0, hargs, rfl, rfl, h0, r0⟩ := trodAll_cons hA
  obtain ⟨v1, vs1, d1, ds1, p1, q1, rfl, rfl, rfl, h1, r1⟩ := trodAll_cons r0
  obtain ⟨rfl, rfl, rfl⟩ := trodAll_nil r1
  obtain rfl : args = #[v0, v1] := by cases args; simp_all
  obtain ⟨rfl, rfl⟩ := trodVars_none hV
  have k0 := h0
  have lt0 : ∀ x ∈ p0, x.block < W.heap.size := by obtain ⟨m, hm⟩ := k0; exact DataW.trod_lt m _ _ _ hm
  have k1 := h1
  have lt1 : ∀ x ∈ p1, x.block < W.heap.size := by obtain ⟨m, hm⟩ := k1; exact DataW.trod_lt m _ _ _ hm
  obtain ⟨a0, cap0, l0, rfl, f0⟩ := open_frames (hval 0 22 v0 rfl rfl) h0
  obtain ⟨a1, cap1, l1, rfl, f1⟩ := open_frames (hval 1 22 v1 rfl rfl) h1
  clear hA0 hval0
  refine (walk a0 cap0 l0 a1 cap1 l1 W f0 f1 (of_laid hL)).mono fun e W' ⟨he, bel0⟩ => ?_
  subst he
  have bel : Below W.heap.size W W' := bel0
  exact ⟨_, rfl, _, _, _, [], _, [], hW', trodAll_mk1 (shut_bool Tryd.underlying4 _), (trodAll_cons_mk (Below.trod laidOut (by kernel_rfl) (of_decide_eq_true (by kernel_rfl)) k0 bel lt0) (trodAll_cons_mk (Below.trod laidOut (by kernel_rfl) (of_decide_eq_true (by kernel_rfl)) k1 bel lt1) trodAll_mk0)), rfl, bel.frame _, fun h => by cases h⟩

theorem over : Rows.receiverOwnRow.holds Tryd.pinned (OpenSpec.ofChange Rows.receiverOwnSpec) :=
  OpenClaim.holds_of_wide 9 Tryd.f9 rfl rfl rfl rfl rfl rfl rfl ⟨rfl, rfl, rfl, rfl, rfl⟩ rfl rfl rfl rfl rfl (by kernel_rfl) Tryd.func9 (by kernel_rfl)
    (of_decide_eq_true (by kernel_rfl)) (by unfold Func.isWrapper; first | (rw [if_pos (by decide +kernel)]; kernel_rfl) | (rw [if_neg (by decide +kernel)]; exact ⟨rfl, rfl⟩))
    (fun os started H enc _ => lifted os started H enc)
theorem card : Claim7.holds Tryd.pinned (.plain (OpenSpec.ofChange Rows.receiverOwnSpec)) Rows.receiverOwnCard :=
  Claim7.holds_tied_plain_at .later [] [.data] true (true, "9f1138924d784bfed17d71e72dd25563e285159175c97e71dd8c43ba71e9644f") false
    over (fun _ h => by cases h) (by kernel_rfl) (fun _ h => by cases h) receiverOwn_row_tie rfl ⟨rfl, rfl⟩ (by kernel_rfl) rfl
    (fun f fn hf hfn => by
      obtain rfl : f = 9 := Option.some.inj ((show Tryd.prog.funcNamed Rows.receiverOwnRow.func = some 9 by kernel_rfl).symm.trans hf) |>.symm
      obtain rfl : fn = Tryd.f9 := (Option.some.inj (Tryd.func9.symm.trans hfn)).symm
      exact ⟨by kernel_rfl, fun j t ht => by
        rw [Tryd.params9] at ht
        have hm : t ∈ [22, 22] := by simpa using Array.mem_of_getElem? ht
        have hall : ([22, 22].all fun u => !Tryd.prog.wantsStandIn u) = true := by kernel_rfl
        exact (show Tryd.prog.wantsStandIn t = false by simpa using List.all_eq_true.1 hall t hm)⟩)
    (by kernel_rfl)
end Go.Proofs.YtifcibmpeolmdaaDoor.LReceiverOwn

namespace Go.Proofs.YtifcibmpeolmdaaDoor
theorem receiverOwn_holds : Rows.ReceiverOwnCardSaid := LReceiverOwn.card
#print axioms receiverOwn_holds
end Go.Proofs.YtifcibmpeolmdaaDoor

