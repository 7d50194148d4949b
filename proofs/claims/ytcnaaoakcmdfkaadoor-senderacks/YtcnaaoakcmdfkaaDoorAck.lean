/- Proved: for every list of texts and every list of frames the law SenderAcks returns true (what was told to be there stays there, and isn't sent again; an Ack that is refused changes nothing), and its arguments read behind the call as they read before. Condition, by the row's own list: math/bits.deBruijn64tab starts as the program's text lays it (the card ties that). -/
import Derived.Test.YtcnaaoakcmdfkaaDoorWk
namespace Go.Proofs.YtcnaaoakcmdfkaaDoor.LSenderAcks
open Go.RowKit

def AkRel (b bm bc : Nat) (n m : Nat) (W : World) (iv : Value) (wr : World) : Prop :=
  ∃ (k : Nat) (s : Sd), iv = .int .i64 k ∧ k ≤ m ∧ S wr b bm bc s ∧ s.ch.length = n ∧ s.now ≤ k ∧ Turn [b, bm, bc] W wr
def IxRel (m : Nat) (W : World) (iv : Value) (wr : World) : Prop := ∃ j : Nat, iv = .int .i64 j ∧ j ≤ m ∧ Keep W wr
set_option maxRecDepth 100000 in
set_option maxHeartbeats 1000000 in
theorem walk (a : Option Addr) (cap : Nat) (L : List (List UInt8)) (a1 : Option Addr) (cap1 : Nat) (A : List Fq) (w : World) (h : ArgN se w a cap L) (h1 : ArgL fq w a1 cap1 A) (ht : Tab w) : Calls Tryd.prog 7 #[.slice a L.length cap, .slice a1 A.length cap1] w fun e w' => e = .returned (.bool true) ∧ Keep w w' := by
  have HA := Lib.hid h
  have HA1 := Lib.hid h1
  obtain ⟨M, hM⟩ : ∃ M, A.length = M := ⟨_, rfl⟩
  have HMM := Lib.hid hM
  rw [hM]
  clear hM
  have HT := Lib.hid ht
  have HM := Lib.hid (fun v (k : Keep w v) => qmay 1 2 a cap L v (h.toArgL.keep k))
  by_cases hm : mayP 1 2 L
  rotate_left
  · rw [decide_eq_false hm] at HM
    clear hm h h1 ht
    generalize L.length = N at *
    go_enter Tryd.func7, Tryd.ntmps7
    go_wp2_with fail
    refine (awake w HT.out).mono ?_
    rintro e v1 ⟨rfl, k1⟩
    go_wp2_with fail
    refine (HM.out v1 k1).mono ?_
    rintro e v2 ⟨rfl, rfl⟩
    go_wp2_with fail
    refine (awake v2 (HT.out.keep k1)).mono ?_
    rintro e v3 ⟨rfl, k3⟩
    go_wp2
    go_ret
    exact ⟨rfl, k1.trans k3⟩
  · rw [decide_eq_true hm] at HM
    have HMay := Lib.hid hm
    obtain ⟨N, hN⟩ : ∃ N, L.length = N := ⟨_, rfl⟩
    have HN := Lib.hid hN
    have hn1 : 1 ≤ N := by rw [← hN]; exact hm.2.2.2.1
    have hn2 : N ≤ 256 := by rw [← hN]; exact hm.2.2.2.2
    rw [hN] at HM ⊢
    by_cases hlong : M ≤ 100
    rotate_left
    · have hgt : (M : Int) > 100 := by omega
      clear hm h h1 ht hN hlong
      go_enter Tryd.func7, Tryd.ntmps7
      go_wp2_with fail
      refine (awake w HT.out).mono ?_
      rintro e v1 ⟨rfl, k1⟩
      go_wp2_with fail
      refine (HM.out v1 k1).mono ?_
      rintro e v2 ⟨rfl, rfl⟩
      go_wp2_with fail
      refine (awake v2 (HT.out.keep k1)).mono ?_
      rintro e v3 ⟨rfl, k3⟩
      go_wp2
      go_ret
      exact ⟨rfl, k1.trans k3⟩
    have hgt : ¬ (M : Int) > 100 := by omega
    clear hm h h1 ht hN
    go_enter Tryd.func7, Tryd.ntmps7
    go_wp2_with fail
    refine (awake w HT.out).mono ?_
    rintro e v1 ⟨rfl, k1⟩
    go_wp2_with fail
    refine (HM.out v1 k1).mono ?_
    rintro e v2 ⟨rfl, rfl⟩
    have HK1 := Lib.hid k1
    clear k1 HM
    go_wp2_with (at_builtin; refine wp_appN elS rfl _ _ rfl v2.heap.size _ a N cap [] L rfl HN.out rfl (Own.made v2.heap.size v2 (Nat.le_refl _)) (HA.out.keep (HK1.out.trans ((Keep.refl v2).alloc _))) ?q1 ?q2 ?q3 ?_)
    case q1 => rw [HN.out]; simp; omega
    case q2 => rw [HN.out]; simp; omega
    case q3 => simp
    intro cv v3 hO hG
    have HO := Lib.hid hO
    have HK3 := Lib.hid (show Keep v2 v3 from (Own.made (t := 9) (k := 1) (enc := se) v2.heap.size v2 (Nat.le_refl _)).grown ((Keep.refl v2).alloc _) (Nat.le_refl _) hG)
    clear hO hG
    go_wp2_with fail
    refine (snew_at 1 2 cv L v3 ((HT.out.keep HK1.out).keep HK3.out) (OwnS.cells HO.out) (by rw [HN.out]; omega)).mono ?_
    rintro e v4 (⟨_, b, bm, bc, rfl, s0, g1, g2, g3, k4⟩ | ⟨h, _⟩)
    rotate_left
    · exact absurd HMay.out h
    have HS := Lib.hid s0
    have HK4 := Lib.hid ((HK1.out.trans HK3.out).trans k4)
    have hz := (HK1.out.trans HK3.out).size
    have HG := Lib.hid (show w.heap.size ≤ b ∧ w.heap.size ≤ bm ∧ w.heap.size ≤ bc from ⟨by omega, by omega, by omega⟩)
    clear s0 g1 g2 g3 k4 hz
    go_wp2_with fail
    have hch : (newS 1 2 L).ch.length = N := by rw [← HN.out]; simp [newS]
    obtain ⟨n, hn⟩ : ∃ n, n = 6 := ⟨6, rfl⟩
    have hsz : ∀ w, (Go.sizeOf 34).run Tryd.prog w = .ok n w := fun w => by rw [hn]; exact Tryd.sizeOf34 w
    have hn0 : ¬ n = 0 := by omega
    obtain ⟨hz, _⟩ := zero_of_info infoF
    have HN6 := Lib.hid hn
    clear hn
    go_loopw [41] (fun iv wr => AkRel b bm bc N M v4 iv wr) (fun i _ => 110 - (intOf i).toNat)
    case atStart => exact ⟨0, _, rfl, Nat.zero_le _, HS.out, hch, Nat.le_refl _, Turn.refl _ _⟩
    case round =>
      obtain ⟨k, s, rfl, hk, hS, hcl, hnow, hT⟩ := hrel
      have HS1 := Lib.hid hS
      have HCL := Lib.hid hcl
      have HNow := Lib.hid hnow
      have HT1 := Lib.hid hT
      have hsl := hS.good.len
      have HLN := Lib.hid (show s.l.length = N by rw [hsl, hcl])
      clear hS hcl hnow hT hch hsl
      by_cases hlt : k < M
      rotate_left
      · obtain rfl : k = M := by omega
        go_wp2
        go_ret
        have hg := HG.out
        exact ⟨rfl, Turn.made HK4.out HT1.out (by simp; omega)⟩
      obtain ⟨x, hx⟩ : ∃ x, A[k]? = some x := ⟨_, List.getElem?_eq_getElem (by rw [HMM.out]; exact hlt)⟩
      have hkw := Turn.made HK4.out HT1.out (by have hg := HG.out; simp; omega)
      have hc := HA1.out.cells (fun e => by have := HMM.out; rw [e] at this; simp at this; omega)
      obtain ⟨g, o, cap', hv, _, _, _⟩ := hc.ptr k (by rw [HMM.out]; exact hlt)
      injection hv with e1 e2 e3
      subst e1 e3
      have hl6 := whole_fq (hc.keep hkw) HN6.out k x hx
      have hq := x.q
      generalize x.f = f at *
      have hst := (FAt.new wr zeroF).store f
      have HF := Lib.hid ((FAt.new wr zeroF).put f)
      have hzs : (fc f).size = n := by rw [HN6.out]; rfl
      have HK3 := Lib.hid (((Keep.refl wr).alloc (.cells (fc zeroF) 34)).setRow wr.heap.size (fc f) (Nat.le_refl _))
      have c5 := HF.out.data
      have hlF := HF.out.whole HN6.out
      clear hc e2 hx hkw
      by_cases hd : f.data.length ≤ 100
      rotate_left
      · have hdg : (f.data.length : Int) > 100 := by omega
        clear hlF hd
        generalize fc f = C at *
        generalize fc zeroF = Z at *
        go_wp2
        go_ret
        have hg := HG.out
        exact ⟨rfl, (Turn.made HK4.out HT1.out (by simp; omega)).trans HK3.out⟩
      have hdg : ¬ (f.data.length : Int) > 100 := by omega
      have HAck := Lib.hid (fun v (q : Keep wr v) => ack_at f (HS1.out.keep q) hq.idx.1 hq.idx.2 (by omega))
      have HTh := Lib.hid (there_at (HS1.out.keep HK3.out))
      have HLF := Lib.hid (fun v (q : Keep ((wr.alloc (.cells (fc zeroF) 34)).setRow wr.heap.size (fc f)) v) => (HF.out.keep q).whole HN6.out)
      generalize fc f = C at *
      generalize hgz : fc zeroF = Z at *
      have HGZ := Lib.hid hgz
      clear hlF hd hgz
      go_wp2_with fail
      refine HTh.out.mono ?_
      rintro e v5 ⟨c1, rfl, hc1, m5, k5⟩
      have hlF := HLF.out v5 k5
      have HM5 := Lib.hid m5
      have HK5 := Lib.hid (HK3.out.trans k5)
      clear c5 hst hl6 m5 k5 HTh
      go_wp2_with fail
      refine (HAck.out v5 HK5.out).mono ?_
      rintro e v6 ⟨rfl, s6, t6⟩
      have hbm := HS1.out.map.lt
      have hbm0 := HS1.out.map.pos
      have hzz := HK3.out.size
      have HM6 := Lib.hid (HM5.out.turn t6 (by simp; omega) (by simp; omega))
      have HS6 := Lib.hid s6
      have HT6 := Lib.hid ((HT1.out.thenKeep HK5.out).trans (t6.mono (by simp) : Turn [b, bm, bc] v5 v6))
      have HTh := Lib.hid (there_at s6)
      clear s6 t6 hlF HAck HM5
      go_wp2_with fail
      refine HTh.out.mono ?_
      rintro e v7 ⟨c2, rfl, hc2, m7, k7⟩
      have HM7 := Lib.hid m7
      have HM17 := Lib.hid (HM6.out.keep k7)
      have HS7 := Lib.hid (HS6.out.keep k7)
      have HT7 := Lib.hid (HT6.out.thenKeep k7)
      have HX := Lib.hid (fun v (q : Keep v7 v) (i : Nat) => has_at c1 s.l i v (HM17.out.keep q))
      have HY := Lib.hid (fun v (q : Keep v7 v) (i : Nat) => has_at c2 (s.ack f).l i v (HM7.out.keep q))
      have HYI := Lib.hid (fun v (q : Keep v7 v) (i : Int) => has_at c2 (s.ack f).l i v (HM7.out.keep q))
      have HIN := Lib.hid (fun (i : Nat) (h : i < N) => ack_has f (s := s) (i := i) (by rw [HLN.out]; exact h))
      have HNO := Lib.hid (fun h => ack_no (s := s) (f := f) h)
      have HNow7 := Lib.hid (show (s.ack f).now ≤ k by rw [ack_now]; exact HNow.out)
      have HCL7 := Lib.hid (show (s.ack f).ch.length = N by rw [(ack_ses s f).2.2.1]; exact HCL.out)
      obtain ⟨E, hE⟩ : ∃ E, s.ackE f = E := ⟨_, rfl⟩
      have HE := Lib.hid hE
      rw [hE]
      have hb6 := HS6.out.lt
      have hb6c := HS6.out.ltc
      clear m7 k7 HTh HM6 HS6 HT6 hE
      generalize hs1 : s.ack f = s1 at *
      go_wp2_with fail
      generalize wr = wo at *
      go_loopw [58] (fun iv wr => IxRel N v7 iv wr) (fun i _ => 300 - (intOf i).toNat)
      case atStart => exact ⟨0, rfl, Nat.zero_le _, Keep.refl _⟩
      case round =>
        obtain ⟨i, rfl, hi, hK⟩ := hrel
        have HK := Lib.hid hK
        clear hK
        by_cases hiN : i < N
        · have hx := HX.out wr HK.out i
          have HIi := Lib.hid (HIN.out i hiN)
          by_cases hE0 : E = 0
          · have d1 : ((E : Int) != 0) = false := by rw [hE0]; rfl
            clear hE0
            cases hv : hasB s.l i
            · rw [hv] at hx
              have HXX := Lib.hid hx
              clear hv hx
              go_wp2_with fail
              refine HXX.out.mono ?_
              rintro e u1 ⟨rfl, q1⟩
              have HK2 := Lib.hid (HK.out.trans q1)
              clear q1 HXX
              go_wp2
              go_roundw
              case rel => exact ⟨i + 1, by go_num, by omega, HK2.out⟩
              case measure => simp [intOf]; omega
            · rw [hv] at hx
              have HXX := Lib.hid hx
              have hy := fun v q => HY.out v q i
              rw [HIi.out hv] at hy
              have HYY := Lib.hid hy
              clear hv hx hy
              go_wp2_with fail
              refine HXX.out.mono ?_
              rintro e u1 ⟨rfl, q1⟩
              go_wp2_with fail
              refine (HYY.out u1 (HK.out.trans q1)).mono ?_
              rintro e u2 ⟨rfl, q2⟩
              have HK2 := Lib.hid ((HK.out.trans q1).trans q2)
              clear q1 q2 HXX HYY
              go_wp2
              go_roundw
              case rel => exact ⟨i + 1, by go_num, by omega, HK2.out⟩
              case measure => simp [intOf]; omega
          · have d1 : ((E : Int) != 0) = true := by simpa using hE0
            have hsame : hasB s1.l i = hasB s.l i := by rw [HNO.out (by rw [HE.out]; exact hE0)]
            have hy := fun v q => HY.out v q i
            have hx' := fun v q => HX.out v q i
            rw [hsame] at hy
            clear hE0 hsame
            cases hv : hasB s.l i
            · rw [hv] at hx' hy
              have HXX := Lib.hid hx'
              have HYY := Lib.hid hy
              clear hv hx hy hx'
              go_wp2_with fail
              refine (HXX.out wr HK.out).mono ?_
              rintro e u1 ⟨rfl, q1⟩
              go_wp2_with fail
              refine (HYY.out u1 (HK.out.trans q1)).mono ?_
              rintro e u2 ⟨rfl, q2⟩
              go_wp2_with fail
              refine (HXX.out u2 ((HK.out.trans q1).trans q2)).mono ?_
              rintro e u3 ⟨rfl, q3⟩
              have HK2 := Lib.hid (((HK.out.trans q1).trans q2).trans q3)
              clear q1 q2 q3 HXX HYY
              go_wp2
              go_roundw
              case rel => exact ⟨i + 1, by go_num, by omega, HK2.out⟩
              case measure => simp [intOf]; omega
            · rw [hv] at hx' hy
              have HXX := Lib.hid hx'
              have HYY := Lib.hid hy
              clear hv hx hy hx'
              go_wp2_with fail
              refine (HXX.out wr HK.out).mono ?_
              rintro e u1 ⟨rfl, q1⟩
              go_wp2_with fail
              refine (HYY.out u1 (HK.out.trans q1)).mono ?_
              rintro e u2 ⟨rfl, q2⟩
              go_wp2_with fail
              refine (HYY.out u2 ((HK.out.trans q1).trans q2)).mono ?_
              rintro e u3 ⟨rfl, q3⟩
              go_wp2_with fail
              refine (HXX.out u3 (((HK.out.trans q1).trans q2).trans q3)).mono ?_
              rintro e u4 ⟨rfl, q4⟩
              have HK2 := Lib.hid ((((HK.out.trans q1).trans q2).trans q3).trans q4)
              clear q1 q2 q3 q4 HXX HYY
              go_wp2
              go_roundw
              case rel => exact ⟨i + 1, by go_num, by omega, HK2.out⟩
              case measure => simp [intOf]; omega
        · obtain rfl : i = N := by omega
          have HTick := Lib.hid (tick_at (HS7.out.keep HK.out) (by have := HNow7.out; omega))
          have HNow8 := Lib.hid (show s1.tick.now ≤ k + 1 by have := tick_now s1; have := HNow7.out; omega)
          have HCL8 := Lib.hid (show s1.tick.ch.length = i by rw [(tick_ses s1).2.2.2]; exact HCL7.out)
          go_wp2_with fail
          refine HTick.out.mono ?_
          rintro e v8 ⟨lv, rfl, o8, s8, t8⟩
          have hoc := o8.cells
          obtain ⟨la, lcap, rfl, _, _⟩ := hoc.form
          have hb0 := HS7.out.lt
          have hb1 := HS7.out.ltc
          have hb2 := HS7.out.pos
          have hb3 := HS7.out.posc
          have hz7 := HK.out.size
          have HM8 := Lib.hid ((HM7.out.keep HK.out).turn t8 (by simp; omega) (by simp; omega))
          have HS8 := Lib.hid s8
          have HT8 := Lib.hid ((HT7.out.thenKeep HK.out).trans (t8.mono (by simp) : Turn [b, bm, bc] wr v8))
          have HOC := Lib.hid hoc
          have hfl := tickF_len s1
          have HSN := Lib.hid (fun j x h => sent_not (s := s1) j x h)
          have HLT := Lib.hid (show s1.tickF.length ≤ 256 from Nat.le_trans hfl HS7.out.map.few)
          obtain ⟨m, hm⟩ : ∃ m, s1.tickF.length = m := ⟨_, rfl⟩
          have HML := Lib.hid hm
          rw [hm]
          have hm2 : m ≤ 256 := by rw [← hm]; exact HLT.out
          clear o8 s8 t8 hoc hfl hm HTick
          go_wp2_with fail
          generalize wr = wi at *
          go_loopw [91] (fun iv wr => IxRel m v8 iv wr) (fun i _ => 300 - (intOf i).toNat)
          case atStart => exact ⟨0, rfl, Nat.zero_le _, Keep.refl _⟩
          case round =>
            obtain ⟨j, rfl, hj, hK⟩ := hrel
            have HKj := Lib.hid hK
            clear hK
            by_cases hjm : j < m
            · obtain ⟨x2, hx2⟩ : ∃ x, s1.tickF[j]? = some x := ⟨_, List.getElem?_eq_getElem (by rw [HML.out]; exact hjm)⟩
              have hc8 := HOC.out.keep HKj.out
              obtain ⟨g2, o2, cap2, hv2, _, _, _⟩ := hc8.ptr j (by rw [HML.out]; exact hjm)
              injection hv2 with z1 z2 z3
              subst z1 z3
              have hl9 := CelF.whole hc8 HN6.out j x2 hx2
              have hst2 := (FAt.new wr zeroF).store x2
              have hput := (FAt.new wr zeroF).put x2
              have c9 := hput.idx
              have hzs2 : (fc x2).size = n := by rw [HN6.out]; rfl
              have hK9 : Keep wr ((wr.alloc (.cells (fc zeroF) 34)).setRow wr.heap.size (fc x2)) := ((Keep.refl wr).alloc _).setRow _ _ (Nat.le_refl _)
              have hno := has_at c2 s1.l x2.idx _ (HM8.out.keep (HKj.out.trans hK9))
              rw [HSN.out j x2 hx2] at hno
              rw [HGZ.out] at hst2 c9 hK9 hno
              have HNo := Lib.hid hno
              have HK9 := Lib.hid (HKj.out.trans hK9)
              clear hc8 z2 hx2 hput hK9 hno
              generalize fc x2 = C2 at *
              go_wp2_with fail
              refine HNo.out.mono ?_
              rintro e v10 ⟨rfl, k10⟩
              have HK10 := Lib.hid (HK9.out.trans k10)
              clear c9 k10 hl9 hst2 HNo
              go_wp2
              go_roundw
              case rel => exact ⟨j + 1, by go_num, by omega, HK10.out⟩
              case measure => simp [intOf]; omega
            · obtain rfl : j = m := by omega
              go_wp2
              go_roundw
              case rel => exact ⟨k + 1, _, by go_num, by omega, HS8.out.keep HKj.out, HCL8.out, HNow8.out, HT8.out.thenKeep HKj.out⟩
              case measure => simp [intOf]; omega

open Go.ChangeShapes Go.WideShapes Go.ChangeAt
set_option maxRecDepth 100000 in
theorem lifted (os : Os) (started : os.Started) (H : Type) (enc : TypeId × Value → H) :
    ReturnsInHanded {} Tryd.checked os 7 .any (fun w args => (Rows.senderAcksSpec.pre enc Tryd.prog Tryd.f7 [] false w args ∧ laidMetH Tryd.prog laid1 w) ∧ sizedMet enc Tryd.prog Tryd.f7 (OpenSpec.ofChange Rows.senderAcksSpec) false w args)
      (Rows.senderAcksSpec.post enc Tryd.prog Tryd.f7 false true false false) := by
  refine returnsInHanded_of_change_and (C := Tryd.checked) (X := fun w _ => laidMetH Tryd.prog laid1 w) (fun _ _ _ hh h => h.of_heap hh) own started (by kernel_rfl) Tryd.func7
    (ChangeSpec.witness_shaped (enc := enc) (C := Tryd.checked) (os := os) (X := fun w _ => laidMetH Tryd.prog laid1 w) false (World.doorLaid Tryd.prog 400 os) #[.slice none 0 0, .slice none 0 0] 8 rfl (World.shaped_of_RefB (by kernel_rfl) (by kernel_rfl)) (by kernel_rfl) (by kernel_rfl) (by kernel_rfl) (door_met os _)) ?_
  intro W base args ds gs before hval0 hW _ _ hL _
  have hval : ∀ (j : Nat) t v, Tryd.f7.params[j]? = some t → args[j]? = some v → Value.okWide Tryd.prog W .any base t v := hval0
  have hW' := hW
  obtain ⟨p, q, hA0, hV, rfl, hfz, hnd⟩ := hW
  have hA : DataW.TrodAll enc Tryd.prog W 0 (fun _ => true) true Tryd.f7.params.toList args.toList ds p := hA0

  rw [Tryd.params7] at hA hval
  obtain ⟨v0, vs0, d0, ds0, p0, q0, hargs, rfl, rfl, h0, r0⟩ := trodAll_cons hA
  obtain ⟨v1, vs1, d1, ds1, p1, q1, rfl, rfl, rfl, h1, r1⟩ := trodAll_cons r0
  obtain ⟨rfl, rfl, rfl⟩ := trodAll_nil r1
  obtain rfl : args = #[v0, v1] := by cases args; simp_all
  obtain ⟨rfl, rfl⟩ := trodVars_none hV
  have k0 := h0
  have lt0 : ∀ x ∈ p0, x.block < W.heap.size := by obtain ⟨m, hm⟩ := k0; exact DataW.trod_lt m _ _ _ hm
  have k1 := h1
  have lt1 : ∀ x ∈ p1, x.block < W.heap.size := by obtain ⟨m, hm⟩ := k1; exact DataW.trod_lt m _ _ _ hm
  obtain ⟨a0, cap0, l0, rfl, f0⟩ := open_texts (hval 0 22 v0 rfl rfl) h0
  obtain ⟨a1, cap1, l1, rfl, f1⟩ := open_frames (hval 1 37 v1 rfl rfl) h1
  clear hA0 hval0
  refine (walk a0 cap0 l0 a1 cap1 l1 W f0 f1 (of_laid hL)).mono fun e W' ⟨he, bel0⟩ => ?_
  subst he
  have bel : Below W.heap.size W W' := bel0
  exact ⟨_, rfl, _, _, _, [], _, [], hW', trodAll_mk1 (shut_bool Tryd.underlying4 _), (trodAll_cons_mk (Below.trod laidOut (by kernel_rfl) (of_decide_eq_true (by kernel_rfl)) k0 bel lt0) (trodAll_cons_mk (Below.trod laidOut (by kernel_rfl) (of_decide_eq_true (by kernel_rfl)) k1 bel lt1) trodAll_mk0)), rfl, bel.frame _, fun h => by cases h⟩

theorem over : Rows.senderAcksRow.holds Tryd.pinned (OpenSpec.ofChange Rows.senderAcksSpec) :=
  OpenClaim.holds_of_wide 7 Tryd.f7 rfl rfl rfl rfl rfl rfl rfl ⟨rfl, rfl, rfl, rfl, rfl⟩ rfl rfl rfl rfl rfl (by kernel_rfl) Tryd.func7 (by kernel_rfl)
    (of_decide_eq_true (by kernel_rfl)) (by unfold Func.isWrapper; first | (rw [if_pos (by decide +kernel)]; kernel_rfl) | (rw [if_neg (by decide +kernel)]; exact ⟨rfl, rfl⟩))
    (fun os started H enc _ => lifted os started H enc)
theorem card : Claim7.holds Tryd.pinned (.plain (OpenSpec.ofChange Rows.senderAcksSpec)) Rows.senderAcksCard :=
  Claim7.holds_tied_plain_at .later [] [.data] true (true, "554ae483f9e9f502615417fb0d3524028c2a08dd4716909f5bdc5e82ac887e20") false
    over (fun _ h => by cases h) (by kernel_rfl) (fun _ h => by cases h) senderAcks_row_tie rfl ⟨rfl, rfl⟩ (by kernel_rfl) rfl
    (fun f fn hf hfn => by
      obtain rfl : f = 7 := Option.some.inj ((show Tryd.prog.funcNamed Rows.senderAcksRow.func = some 7 by kernel_rfl).symm.trans hf) |>.symm
      obtain rfl : fn = Tryd.f7 := (Option.some.inj (Tryd.func7.symm.trans hfn)).symm
      exact ⟨by kernel_rfl, fun j t ht => by
        rw [Tryd.params7] at ht
        have hm : t ∈ [22, 37] := by simpa using Array.mem_of_getElem? ht
        have hall : ([22, 37].all fun u => !Tryd.prog.wantsStandIn u) = true := by kernel_rfl
        exact (show Tryd.prog.wantsStandIn t = false by simpa using List.all_eq_true.1 hall t hm)⟩)
    (by kernel_rfl)
end Go.Proofs.YtcnaaoakcmdfkaaDoor.LSenderAcks

namespace Go.Proofs.YtcnaaoakcmdfkaaDoor
theorem senderAcks_holds : Rows.SenderAcksCardSaid := LSenderAcks.card
#print axioms senderAcks_holds
end Go.Proofs.YtcnaaoakcmdfkaaDoor

