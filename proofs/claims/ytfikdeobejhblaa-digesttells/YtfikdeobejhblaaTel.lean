/- Proved: DigestTells: of any table the digests, the ranges, and their routes, are the document's; so is what is replaced. Condition: none of our own. -/
import Derived.Test.YtfikdeobejhblaaOi
import Derived.Test.YtfikdeobejhblaaDl
import Derived.Test.YtfikdeobejhblaaDm
import Derived.Test.YtfikdeobejhblaaPb
import Derived.SizedLaws
namespace Go.Proofs.Ytfikdeobejhblaa.LDigestTells
open Go.RowKit

def TlRel (W : World) (N : Nat) (i : Value) (wr : World) : Prop := ∃ k : Nat, i = .int .i64 k ∧ k ≤ N ∧ Keep W wr

set_option maxRecDepth 100000 in
set_option maxHeartbeats 8000000 in
theorem walk (a : Option Addr) (acap : Nat) (la : List Rt) (q : Int) (b : Option Addr) (bcap : Nat) (lb : List Rt) (w : World) (hA : ArgN rl w a acap la) (_ha : ∀ x ∈ la, Sq x) (_hq : (Lit.int .i64 q).wf = true) (hB : ArgN rl w b bcap lb) (_hb : ∀ x ∈ lb, Sq x) :
    Calls Try.prog 3 #[.slice a la.length acap, .int .i64 q, .slice b lb.length bcap] w fun e w' => e = .returned (.bool true) ∧ Keep w w' := by
  have HAw := Lib.hid awake
  have hs2 := hA.small
  have hs3 := hB.small
  have HA := Lib.hid hA
  have HB := Lib.hid hB
  obtain ⟨NA, hNA⟩ : ∃ N, la.length = N := ⟨_, rfl⟩
  have HNA := Lib.hid hNA
  rw [hNA] at hs2
  rw [hNA]
  obtain ⟨NB, hNB⟩ : ∃ N, lb.length = N := ⟨_, rfl⟩
  have HNB := Lib.hid hNB
  rw [hNB] at hs3
  rw [hNB]
  clear hA hNA hB hNB
  unfold maxLen at hs2 hs3
  by_cases gNA : NA > 300
  · have gNAi : (NA : Int) > 300 := by omega
    go_enter Try.func3, Try.ntmps3
    go_wp2_with fail
    refine (HAw.out _).mono ?_
    rintro e w1 ⟨rfl, k1⟩
    have HK1 := Lib.hid k1
    clear k1
    go_wp2_with fail
    refine (HAw.out _).mono ?_
    rintro e w2 ⟨rfl, k2⟩
    go_wp2
    go_ret
    exact ⟨rfl, HK1.out.trans k2⟩
  have gNAi : ¬ (NA : Int) > 300 := by omega
  by_cases gNB : NB > 300
  · have gNBi : (NB : Int) > 300 := by omega
    go_enter Try.func3, Try.ntmps3
    go_wp2_with fail
    refine (HAw.out _).mono ?_
    rintro e w1 ⟨rfl, k1⟩
    have HK1 := Lib.hid k1
    clear k1
    go_wp2_with fail
    refine (HAw.out _).mono ?_
    rintro e w2 ⟨rfl, k2⟩
    go_wp2
    go_ret
    exact ⟨rfl, HK1.out.trans k2⟩
  have gNBi : ¬ (NB : Int) > 300 := by omega
  have HSL := Lib.hid slice_no
  obtain ⟨n, hn⟩ : ∃ n, n = 20 := ⟨20, rfl⟩
  have hsz : ∀ w, (Go.sizeOf 37).run Try.prog w = .ok n w := fun w => by rw [hn]; exact Try.sizeOf37 w
  have hn0 : ¬ n = 0 := by omega
  obtain ⟨n2, hn2⟩ : ∃ n, n = 18 := ⟨18, rfl⟩
  have hsz2 : ∀ w, (Go.sizeOf 34).run Try.prog w = .ok n2 w := fun w => by rw [hn2]; exact Try.sizeOf34 w
  have hn20 : ¬ n2 = 0 := by omega
  obtain ⟨hz, hi⟩ := zero_of_info info34b
  have hzs : (rc zeroR).size = n := by rw [hn]; exact rc_size _
  have HN := Lib.hid hn
  have HN2 := Lib.hid hn2
  clear hn hn2 hi
  go_enter Try.func3, Try.ntmps3
  go_wp2_with fail
  refine (HAw.out _).mono ?_
  rintro e w1 ⟨rfl, k1⟩
  have HK1 := Lib.hid k1
  have HA1 := Lib.hid ((HA.out.keep k1).keep ((Keep.refl w1).alloc (.cells #[] 37)))
  have HO1 := Lib.hid (Own.made (t := 37) (k := 20) (enc := rl) w1.heap.size w1 (Nat.le_refl _))
  clear k1
  go_wp2_with (first | ((with_reducible refine at_slice [] ?_ (.slice (some ⟨w1.heap.size, 0, none⟩) 0 0) (HSL.out w1) ?_); rfl) | (at_builtin; refine wp_appN elR rfl _ _ rfl w1.heap.size _ a NA acap [] la rfl HNA.out rfl HO1.out HA1.out ?q1 ?q2 ?q3 ?_))
  case q1 => rw [HNA.out]; simp; omega
  case q2 => rw [HNA.out]; simp; omega
  case q3 => simp
  intro v2 w2 o2 g2
  have HK2 := Lib.hid (HK1.out.trans (HO1.out.grown ((Keep.refl w1).alloc _) (Nat.le_refl _) g2))
  have HNw := Lib.hid (new v2 la w2 (o2.row elR).cells (by rw [HNA.out]; omega))
  clear o2 g2 HA1 HO1 HK1
  go_wp2_with fail
  refine HNw.out.mono ?_
  rintro e w3 ⟨p, rfl, k3, hx⟩
  have HK3 := Lib.hid (HK2.out.trans k3)
  rcases hx with ⟨e0, rfl⟩ | ⟨e0, bx, lx, rfl, hbx, px, tx⟩
  · have h0b : (newE la != 0) = true := by simpa using e0
    clear e0
    go_wp2
    go_ret
    exact ⟨rfl, HK3.out⟩
  rw [e0]
  have HX := Lib.hid tx
  have hlx := tx.few
  clear px tx e0 k3 HK2 HNw hbx
  have HTp := Lib.hid (fun (w' : World) (k : Keep w3 w') => (show Tp w' (.pointer (some ⟨bx, 0, none⟩)) lx from .inr ⟨bx, rfl, HX.out.keep k⟩))
  have HAl := Lib.hid (fun (w' : World) (k : Keep w3 w') => all (.pointer (some ⟨bx, 0, none⟩)) lx w' (HTp.out w' k))
  have HAl3 := Lib.hid (HAl.out w3 (Keep.refl _))
  go_wp2_with fail
  refine HAl3.out.mono ?_
  rintro e w4 ⟨v4, rfl, o4, k4⟩
  have HV4 := Lib.hid (o4.row elR).cells
  have HQ4 := Lib.hid k4
  have HB4 := Lib.hid ((HB.out.keep (HK3.out.trans k4)).keep ((Keep.refl w4).alloc (.cells #[] 37)))
  have HO4 := Lib.hid (Own.made (t := 37) (k := 20) (enc := rl) w4.heap.size w4 (Nat.le_refl _))
  clear o4 k4 HAl3
  go_wp2_with (first | ((with_reducible refine at_slice [] ?_ (.slice (some ⟨w4.heap.size, 0, none⟩) 0 0) (HSL.out w4) ?_); rfl) | (at_builtin; refine wp_appN elR rfl _ _ rfl w4.heap.size _ b NB bcap [] lb rfl HNB.out rfl HO4.out HB4.out ?q1 ?q2 ?q3 ?_))
  case q1 => rw [HNB.out]; simp; omega
  case q2 => rw [HNB.out]; simp; omega
  case q3 => simp
  intro v5 w5 o5 g5
  have hk5 := HO4.out.grown ((Keep.refl w4).alloc _) (Nat.le_refl _) g5
  have HQ5 := Lib.hid (HQ4.out.trans hk5)
  have HV5 := Lib.hid (HV4.out.keep hk5)
  have HRp := Lib.hid (drepl bx lx q v5 lb w5 (HX.out.keep HQ5.out) (o5.row elR).cells (by rw [HNB.out]; omega))
  clear o5 g5 hk5 HB4 HO4 HQ4 HV4
  go_wp2_with fail
  refine HRp.out.mono ?_
  rintro e w6 ⟨p6, rfl, k6, c6⟩
  have HQ6 := Lib.hid (HQ5.out.trans k6)
  have HV6 := Lib.hid (HV5.out.keep k6)
  have HB6 := Lib.hid (HB.out.keep (HK3.out.trans HQ6.out))
  have HQr := Lib.hid (qrepl v4 lx q b bcap lb w6 HV6.out hlx HB6.out (by rw [HNB.out]; omega))
  rw [HNB.out] at HQr
  have HC6 := Lib.hid c6
  clear k6 c6 HRp HV5 HQ5
  go_wp2_with fail
  refine HQr.out.mono ?_
  rintro e w7 ⟨v7, rfl, k7, c7⟩
  have HQ7 := Lib.hid (HQ6.out.trans k7)
  have HV7 := Lib.hid (HV6.out.keep k7)
  have HP7 := Lib.hid (show (replE newE lx q lb ≠ 0 ∧ p6 = .pointer none) ∨ (replE newE lx q lb = 0 ∧ ∃ b l', p6 = .pointer (some ⟨b, 0, none⟩) ∧ Tb w7 b l' ∧ Cells rl w7 v7 l') from by
    rcases HC6.out with h | ⟨h, b', l', e1, _, e2, e3⟩
    · exact .inl h
    · refine .inr ⟨h, b', l', e1, e3.keep k7, ?_⟩
      obtain ⟨l2, r2, s2, p2⟩ := c7 h
      rw [sorted_unique e3.sorted s2 (e2.trans p2.symm)]
      exact r2.cells)
  have HA7 := Lib.hid (HA.out.keep (HK3.out.trans HQ7.out))
  clear k7 c7 HC6 HQr HV6 HQ6 HA HB HB6
  obtain ⟨E, hE⟩ : ∃ E, replE newE lx q lb = E := ⟨_, rfl⟩
  rw [hE] at HP7 ⊢
  clear hE
  go_wp2
  go_loopw [58] (fun i wr => TlRel w7 NA i wr) (fun i _ => NA - (intOf i).toNat)
  case atStart => exact ⟨0, rfl, Nat.zero_le _, Keep.refl _⟩
  case round =>
    obtain ⟨k, rfl, hk, hq⟩ := hrel
    have HQ := Lib.hid hq
    clear hq
    by_cases hkl : k < NA
    · have hca : Cells rl w7 (.slice a la.length acap) la := HA7.out.cells (fun e => by have := HNA.out; rw [e] at this; simp at this; omega)
      obtain ⟨g1, o1, c1, e1, _, _, _⟩ := hca.ptr k (by rw [HNA.out]; exact hkl)
      simp at e1
      obtain ⟨rfl, rfl⟩ := e1
      obtain ⟨x, hx⟩ : ∃ x, la[k]? = some x := ⟨_, List.getElem?_eq_getElem (by rw [HNA.out]; exact hkl)⟩
      have d1 := (hca.keep HQ.out).rt HN.out k x hx
      have hAt := RAt.new wr zeroR
      have hst := hAt.store x
      have hzx : (rc x).size = n := by rw [HN.out]; exact rc_size _
      have HR3 := Lib.hid (hAt.put x)
      have HK6 := Lib.hid (show Keep wr ((wr.alloc (.cells (rc zeroR) 37)).setRow wr.heap.size (rc x)) from ((Keep.refl wr).alloc _).setRow _ _ (Nat.le_refl _))
      have HB1 := Lib.hid (dbucket x.to x.ok).keep
      have HB2 := Lib.hid (qbucket x.to x.ok).keep
      have HM1 := Lib.hid (dmark x)
      have HM2 := Lib.hid (qmark x)
      have HSk := Lib.hid (fun (w' : World) (h : RAt w' wr.heap.size x) => (show (loadCellsFrom ⟨wr.heap.size, 0, none⟩ 0 n #[]).run Try.prog w' = .ok (rc x) w' ∧ (loadCellsFrom ⟨wr.heap.size, 0, none⟩ 0 n2 #[]).run Try.prog w' = .ok (pc x.to) w' from ⟨h.whole HN.out, h.to HN2.out⟩))
      have hmm : (markOf x != markOf x) = false := by simp
      have hbb : ((bkt x.to : Int) != (bkt x.to : Int)) = false := by simp
      clear hca hAt hx
      generalize markOf x = m at *
      generalize bkt x.to = bb at *
      generalize pc x.to = PX at *
      generalize rc x = X at *
      generalize (wr.alloc (.cells (rc zeroR) 37)).setRow wr.heap.size X = w8 at *
      go_wp2_with fail
      have hk8 : Keep w8 w8.drew := (Keep.refl w8).drew
      go_region_held_law (fun w' => (loadCellsFrom ⟨wr.heap.size, 0, none⟩ 0 n #[]).run Try.prog w' = .ok X w' ∧ (loadCellsFrom ⟨wr.heap.size, 0, none⟩ 0 n2 #[]).run Try.prog w' = .ok PX w') (exact HSk.out _ (HR3.out.keep hk8)) (first | (go_at_call 15; refine (HM1.out _).mono ?_; rintro e w9 ⟨rfl, b9⟩; replace hk8 := hk8.trans b9; clear b9) | (go_at_call 16; refine (HM2.out _).mono ?_; rintro e w9 ⟨rfl, b9⟩; replace hk8 := hk8.trans b9; clear b9) | (go_at_call 17; refine (HB1.out _).mono ?_; rintro e w9 ⟨rfl, b9⟩; replace hk8 := hk8.trans b9; clear b9) | (go_at_call 18; refine (HB2.out _).mono ?_; rintro e w9 ⟨rfl, b9⟩; replace hk8 := hk8.trans b9; clear b9))
      all_goals
        have HQ9 := Lib.hid (HQ.out.trans (HK6.out.trans hk8))
        clear hk8
        go_wp2
        go_roundw
        case rel => exact ⟨k + 1, by go_num, by omega, HQ9.out⟩
        case measure => simp [intOf]; omega
    · have HD1 := Lib.hid (dall (.pointer (some ⟨bx, 0, none⟩)) lx wr (HTp.out wr (HQ7.out.trans HQ.out)))
      have HVr := Lib.hid (HV7.out.keep HQ.out)
      have HPr := Lib.hid (show (E ≠ 0 ∧ p6 = .pointer none) ∨ (E = 0 ∧ ∃ b l', p6 = .pointer (some ⟨b, 0, none⟩) ∧ Tb wr b l' ∧ Cells rl wr v7 l') from by
        rcases HP7.out with h | ⟨h, b', l', e1, e2, e3⟩
        · exact .inl h
        · exact .inr ⟨h, b', l', e1, e2.keep HQ.out, e3.keep HQ.out⟩)
      have HTr := Lib.hid (show Tp wr (.pointer (some ⟨bx, 0, none⟩)) lx from HTp.out wr (HQ7.out.trans HQ.out))
      have HKr := Lib.hid (HK3.out.trans (HQ7.out.trans HQ.out))
      clear HP7 HQ HQ7 HV7 HTp HX HA7 HAl
      go_wp2_with fail
      refine HD1.out.mono ?_
      rintro e wa ⟨ga, rfl, oa, ka⟩
      have HQa := Lib.hid (qall v4 lx wa (HVr.out.keep ka) (by omega))
      have HDa := Lib.hid (oa.row elD).cells
      have HKa := Lib.hid ka
      clear oa ka HD1
      go_wp2_with fail
      refine HQa.out.mono ?_
      rintro e wb ⟨gb, rfl, ob, kb⟩
      have HS9 := Lib.hid (same9 _ _ (allD lx) (allD lx) wb (Lg.of (HDa.out.keep kb)) (Lg.of (ob.row elQ).cells) (by rw [allD_len]; omega) (by rw [allD_len]; omega))
      rw [show decide (allD lx = allD lx) = true from decide_eq_true rfl] at HS9
      have HKb := Lib.hid (HKa.out.trans kb)
      clear ob kb HQa HDa HKa
      go_wp2_with fail
      refine HS9.out.mono ?_
      rintro e wc ⟨rfl, kc⟩
      have HKc := Lib.hid (HKb.out.trans kc)
      have HDp := Lib.hid (dpart (.pointer (some ⟨bx, 0, none⟩)) lx q wc (HTr.out.keep HKc.out))
      clear kc HS9 HKb
      go_wp2_with fail
      refine HDp.out.mono ?_
      rintro e wd ⟨vd, rfl, rd, kd⟩
      have HVd := Lib.hid rd.cells
      have HKd := Lib.hid (HKc.out.trans kd)
      have HQp := Lib.hid (qpart v4 lx q wd (HVr.out.keep HKd.out) (by omega))
      clear rd kd HDp HKc
      go_wp2_with fail
      refine HQp.out.mono ?_
      rintro e we ⟨ve, rfl, oe, ke⟩
      have HPl := part_len lx q
      have HQs := Lib.hid (qsame vd ve (partB lx q) (partB lx q) we (HVd.out.keep ke) (oe.row elR).cells (by omega) (by omega))
      rw [show decide (partB lx q = partB lx q) = true from decide_eq_true rfl] at HQs
      have HKe := Lib.hid (HKd.out.trans ke)
      clear oe ke HQp HKd HVd HPl
      go_wp2_with fail
      refine HQs.out.mono ?_
      rintro e wf ⟨rfl, kf⟩
      have HKf := Lib.hid (HKe.out.trans kf)
      have HTf := Lib.hid (HTr.out.keep HKf.out)
      have HVf := Lib.hid (HVr.out.keep HKf.out)
      clear kf HQs HKe
      have hEE : (E == E) = true := by simp
      rcases HPr.out with ⟨hE, rfl⟩ | ⟨rfl, c, l', rfl, tc, c7⟩
      · have hE0 : (E == 0) = false := by simpa using hE
        have HAf := Lib.hid (all (.pointer (some ⟨bx, 0, none⟩)) lx wf HTf.out)
        clear hE HPr HTr HVr
        go_wp2_with fail
        refine HAf.out.mono ?_
        rintro e wg ⟨vg, rfl, og, kg⟩
        have HQg := Lib.hid (qsame vg v4 lx lx wg (og.row elR).cells (HVf.out.keep kg) (by omega) (by omega))
        rw [show decide (lx = lx) = true from decide_eq_true rfl] at HQg
        have HKg := Lib.hid (HKr.out.trans (HKf.out.trans kg))
        clear og kg HAf
        go_wp2_with fail
        refine HQg.out.mono ?_
        rintro e wh ⟨rfl, kh⟩
        have HKh := Lib.hid (HKg.out.trans kh)
        clear kh
        go_wp2
        go_ret
        exact ⟨rfl, HKh.out⟩
      · have HAc := Lib.hid (all (.pointer (some ⟨c, 0, none⟩)) l' wf (.inr ⟨c, rfl, tc.keep HKf.out⟩))
        have HV7f := Lib.hid (c7.keep HKf.out)
        have hll := tc.few
        have HAf := Lib.hid (fun w' (k : Keep wf w') => all (.pointer (some ⟨bx, 0, none⟩)) lx w' (HTf.out.keep k))
        clear tc c7 HPr HTr HVr hEE
        go_wp2_with fail
        refine HAc.out.mono ?_
        rintro e wg ⟨vg, rfl, og, kg⟩
        have HQg := Lib.hid (qsame vg v7 l' l' wg (og.row elR).cells (HV7f.out.keep kg) (by omega) (by omega))
        rw [show decide (l' = l') = true from decide_eq_true rfl] at HQg
        have HKg := Lib.hid kg
        clear og kg HAc HV7f
        go_wp2_with fail
        refine HQg.out.mono ?_
        rintro e wh ⟨rfl, kh⟩
        have HKh := Lib.hid (HKg.out.trans kh)
        have HAh := Lib.hid (HAf.out wh HKh.out)
        clear kh HKg HQg
        go_wp2_with fail
        refine HAh.out.mono ?_
        rintro e wi ⟨vi, rfl, oi, ki⟩
        have HQi := Lib.hid (qsame vi v4 lx lx wi (oi.row elR).cells (HVf.out.keep (HKh.out.trans ki)) (by omega) (by omega))
        rw [show decide (lx = lx) = true from decide_eq_true rfl] at HQi
        have HKi := Lib.hid (HKr.out.trans (HKf.out.trans (HKh.out.trans ki)))
        clear oi ki HAh
        go_wp2_with fail
        refine HQi.out.mono ?_
        rintro e wj ⟨rfl, kj⟩
        have HKj := Lib.hid (HKi.out.trans kj)
        clear kj
        go_wp2
        go_ret
        exact ⟨rfl, HKj.out⟩

open Go.ChangeShapes Go.WideShapes Go.ChangeAt
theorem own : ownKnob Try.prog.godebug = none := by kernel_rfl
theorem laidOut : laidOutB Try.prog = true := by kernel_rfl

set_option maxRecDepth 100000 in
theorem lifted (os : Os) (started : os.Started) (H : Type) (enc : TypeId × Value → H) :
    ReturnsInHanded {} Try.checked os 3 .any (Rows.digestTellsSpec.pre6 enc Try.prog Try.f3 Rows.digestTellsRow.domain false) (Rows.digestTellsSpec.post enc Try.prog Try.f3 false true false false) := by
  refine returnsInHanded_of_change (C := Try.checked) own started (by kernel_rfl) Try.func3
    (ChangeSpec.witness6 (enc := enc) (C := Try.checked) false ⟨#[], #[.slice none 0 0, .int .i64 0, .slice none 0 0], []⟩ 8 (by kernel_rfl) (by kernel_rfl) (by kernel_rfl) (by kernel_rfl)) ?_
  intro W base args ds gs before hval0 hW hcnd _
  have hval : ∀ (j : Nat) t v, Try.f3.params[j]? = some t → args[j]? = some v → Value.okWide Try.prog W .any base t v := hval0
  have hW' := hW
  obtain ⟨p, q, hA0, hV, rfl, hfz, hnd⟩ := hW
  have hA : DataW.TrodAll enc Try.prog W 0 (fun _ => true) true Try.f3.params.toList args.toList ds p := hA0

  rw [Try.params3] at hA hval
  obtain ⟨v0, vs0, d0, ds0, p0, q0, hargs, rfl, rfl, h0, r0⟩ := trodAll_cons hA
  obtain ⟨v1, vs1, d1, ds1, p1, q1, rfl, rfl, rfl, h1, r1⟩ := trodAll_cons r0
  obtain ⟨v2, vs2, d2, ds2, p2, q2, rfl, rfl, rfl, h2, r2⟩ := trodAll_cons r1
  obtain ⟨rfl, rfl, rfl⟩ := trodAll_nil r2
  obtain rfl : args = #[v0, v1, v2] := by cases args; simp_all
  obtain ⟨rfl, rfl⟩ := trodVars_none hV
  have k0 := h0
  have lt0 : ∀ x ∈ p0, x.block < W.heap.size := by obtain ⟨m, hm⟩ := k0; exact DataW.trod_lt m _ _ _ hm
  have k1 := h1
  have lt1 : ∀ x ∈ p1, x.block < W.heap.size := by obtain ⟨m, hm⟩ := k1; exact DataW.trod_lt m _ _ _ hm
  have k2 := h2
  have lt2 : ∀ x ∈ p2, x.block < W.heap.size := by obtain ⟨m, hm⟩ := k2; exact DataW.trod_lt m _ _ _ hm
  obtain ⟨a0, cap0, l0, rfl, f0, sq0⟩ := open_routesN (hval 0 22 v0 rfl rfl) h0
  obtain ⟨a1, rfl, _, _, w1⟩ := open_int Try.underlying3 (hval 1 3 v1 rfl rfl) h1
  obtain ⟨a2, cap2, l2, rfl, f2, sq2⟩ := open_routesN (hval 2 22 v2 rfl rfl) h2
  clear hA0 hval0
  refine (walk a0 cap0 l0 a1 a2 cap2 l2 W f0 sq0 w1 f2 sq2).mono fun e W' ⟨he, bel⟩ => ?_
  subst he
  exact ⟨_, rfl, _, _, _, [], _, [], hW', trodAll_mk1 (shut_bool Try.underlying4 _), (trodAll_cons_mk (Below.trod laidOut (by kernel_rfl) (of_decide_eq_true (by kernel_rfl)) k0 bel lt0) (trodAll_cons_mk (Below.trod laidOut (by kernel_rfl) (of_decide_eq_true (by kernel_rfl)) k1 bel lt1) (trodAll_cons_mk (Below.trod laidOut (by kernel_rfl) (of_decide_eq_true (by kernel_rfl)) k2 bel lt2) trodAll_mk0))), rfl, bel.frame _, fun h => by cases h⟩

theorem over : Rows.digestTellsRow.holds Try.pinned (OpenSpec.ofChange Rows.digestTellsSpec) :=
  OpenClaim.holds_of_wide 3 Try.f3 rfl rfl rfl rfl rfl rfl rfl ⟨rfl, rfl, rfl, rfl, rfl⟩ rfl rfl rfl rfl rfl (by kernel_rfl) Try.func3 (by kernel_rfl)
    (of_decide_eq_true (by kernel_rfl)) (by unfold Func.isWrapper; first | (rw [if_pos (by decide +kernel)]; kernel_rfl) | (rw [if_neg (by decide +kernel)]; exact ⟨rfl, rfl⟩))
    (fun os started H enc _ => lifted os started H enc)
end Go.Proofs.Ytfikdeobejhblaa.LDigestTells

namespace Go.Proofs.Ytfikdeobejhblaa
theorem digestTells_holds : Rows.DigestTellsSaid := LDigestTells.over
#print axioms digestTells_holds
end Go.Proofs.Ytfikdeobejhblaa

