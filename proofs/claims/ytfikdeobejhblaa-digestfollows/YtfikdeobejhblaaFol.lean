/- Proved: DigestFollows: behind any change that a table does its digests are those that More tells. Condition: none of our own. -/
import Derived.Test.YtfikdeobejhblaaCm
import Derived.Test.YtfikdeobejhblaaDm
import Derived.Test.YtfikdeobejhblaaPb
import Derived.SizedLaws
namespace Go.Proofs.Ytfikdeobejhblaa.LDigestFollows
open Go.RowKit

def FlRel (w : World) (b N : Nat) (d i : Value) (wr : World) : Prop := ∃ (k : Nat) (t : List Rt), i = .int .i64 k ∧ k ≤ N ∧ Tb wr b t ∧ (∃ g cap, d = .slice (some ⟨g, 0, none⟩) 17 cap ∧ b < g ∧ Cells dl wr d (allD t)) ∧ Keep w wr

set_option maxRecDepth 100000 in
set_option maxHeartbeats 4000000 in
theorem walk (a : Option Addr) (acap : Nat) (la : List Rt) (b : Option Addr) (bcap : Nat) (lb : List Ic) (w : World) (hA : ArgN rl w a acap la) (_ha : ∀ x ∈ la, Sq x) (hB : ArgN il w b bcap lb) (_hb : ∀ x ∈ lb, SqI x) :
    Calls Try.prog 4 #[.slice a la.length acap, .slice b lb.length bcap] w fun e w' => e = .returned (.bool true) ∧ Keep w w' := by
  have HAw := Lib.hid awake
  have hs2 := hA.small
  have hs3 := hB.small
  have HA := Lib.hid hA
  have HB := Lib.hid hB
  obtain ⟨NA, hNA⟩ : ∃ N, la.length = N := ⟨_, rfl⟩
  have HNA := Lib.hid hNA
  rw [hNA] at hs2
  rw [hNA]
  obtain ⟨NB, hNB⟩ : ∃ N, lb.length = N := ⟨_, rfl⟩
  have HNB := Lib.hid hNB
  rw [hNB] at hs3
  rw [hNB]
  clear hA hNA hB hNB
  unfold maxLen at hs2 hs3
  by_cases h1 : NA > 300
  · have h1i : (NA : Int) > 300 := by omega
    go_enter Try.func4, Try.ntmps4
    go_wp2_with fail
    refine (HAw.out _).mono ?_
    rintro e w1 ⟨rfl, k1⟩
    have HK1 := Lib.hid k1
    clear k1
    go_wp2_with fail
    refine (HAw.out _).mono ?_
    rintro e w2 ⟨rfl, k2⟩
    go_wp2
    go_ret
    exact ⟨rfl, HK1.out.trans k2⟩
  have h1i : ¬ (NA : Int) > 300 := by omega
  by_cases h2 : NB > 100
  · have h2i : (NB : Int) > 100 := by omega
    go_enter Try.func4, Try.ntmps4
    go_wp2_with fail
    refine (HAw.out _).mono ?_
    rintro e w1 ⟨rfl, k1⟩
    have HK1 := Lib.hid k1
    clear k1
    go_wp2_with fail
    refine (HAw.out _).mono ?_
    rintro e w2 ⟨rfl, k2⟩
    go_wp2
    go_ret
    exact ⟨rfl, HK1.out.trans k2⟩
  have h2i : ¬ (NB : Int) > 100 := by omega
  have HSL := Lib.hid slice_no
  obtain ⟨n, hn⟩ : ∃ n, n = 20 := ⟨20, rfl⟩
  have hsz : ∀ w, (Go.sizeOf 37).run Try.prog w = .ok n w := fun w => by rw [hn]; exact Try.sizeOf37 w
  have hn0 : ¬ n = 0 := by omega
  obtain ⟨n2, hn2⟩ : ∃ n, n = 18 := ⟨18, rfl⟩
  have hsz2 : ∀ w, (Go.sizeOf 34).run Try.prog w = .ok n2 w := fun w => by rw [hn2]; exact Try.sizeOf34 w
  have hn20 : ¬ n2 = 0 := by omega
  obtain ⟨n3, hn3⟩ : ∃ n, n = 21 := ⟨21, rfl⟩
  have hsz3 : ∀ w, (Go.sizeOf 52).run Try.prog w = .ok n3 w := fun w => by rw [hn3]; exact Try.sizeOf52 w
  have hn30 : ¬ n3 = 0 := by omega
  obtain ⟨hz, hi⟩ := zero_of_info info34b
  obtain ⟨hz3, hi3⟩ := zero_of_info info43b
  have hzs : (rc zeroR).size = n := by rw [hn]; exact rc_size _
  have hzs3 : (ic zeroI).size = n3 := by rw [hn3]; exact ic_size _
  have HN := Lib.hid hn
  have HN2 := Lib.hid hn2
  have HN3 := Lib.hid hn3
  clear hn hn2 hn3 hi hi3
  go_enter Try.func4, Try.ntmps4
  go_wp2_with fail
  refine (HAw.out _).mono ?_
  rintro e w1 ⟨rfl, k1⟩
  have HK1 := Lib.hid k1
  have HA1 := Lib.hid ((HA.out.keep k1).keep ((Keep.refl w1).alloc (.cells #[] 37)))
  have HO1 := Lib.hid (Own.made (t := 37) (k := 20) (enc := rl) w1.heap.size w1 (Nat.le_refl _))
  clear k1
  go_wp2_with (first | ((with_reducible refine at_slice [] ?_ (.slice (some ⟨w1.heap.size, 0, none⟩) 0 0) (HSL.out w1) ?_); rfl) | (at_builtin; refine wp_appN elR rfl _ _ rfl w1.heap.size _ a NA acap [] la rfl HNA.out rfl HO1.out HA1.out ?q1 ?q2 ?q3 ?_))
  case q1 => rw [HNA.out]; simp; omega
  case q2 => rw [HNA.out]; simp; omega
  case q3 => simp
  intro v2 w2 o2 g2
  have HK2 := Lib.hid (HK1.out.trans (HO1.out.grown ((Keep.refl w1).alloc _) (Nat.le_refl _) g2))
  have HNw := Lib.hid (new v2 la w2 (o2.row elR).cells (by rw [HNA.out]; omega))
  clear o2 g2 HA1 HO1 HK1
  go_wp2_with fail
  refine HNw.out.mono ?_
  rintro e w3 ⟨p, rfl, k3, hx⟩
  have HK3 := Lib.hid (HK2.out.trans k3)
  rcases hx with ⟨e0, rfl⟩ | ⟨e0, bx, lx, rfl, hbx, px, tx⟩
  · have h0b : (newE la != 0) = true := by simpa using e0
    clear e0
    go_wp2
    go_ret
    exact ⟨rfl, HK3.out⟩
  rw [e0]
  have HBX := Lib.hid (show w.heap.size ≤ bx from Nat.le_trans HK2.out.size hbx)
  have HX := Lib.hid tx
  have HTp := Lib.hid (show Tp w3 (.pointer (some ⟨bx, 0, none⟩)) lx from .inr ⟨bx, rfl, tx⟩)
  have HAll := Lib.hid (dall (.pointer (some ⟨bx, 0, none⟩)) lx w3 HTp.out)
  clear px tx e0 HA k3 HK2 HNw hbx
  go_wp2_with fail
  refine HAll.out.mono ?_
  rintro e w4 ⟨g, rfl, o4, k4⟩
  have HX4 := Lib.hid (HX.out.keep k4)
  have HO4 := Lib.hid (show ∃ g' cap, Value.slice (some ⟨g, 0, none⟩) 17 17 = .slice (some ⟨g', 0, none⟩) 17 cap ∧ bx < g' ∧ Cells dl w4 (.slice (some ⟨g, 0, none⟩) 17 17) (allD lx) from by
    refine ⟨g, 17, rfl, ?_, (o4.row elD).cells⟩
    rcases o4.2 with ⟨_, h0⟩ | ⟨g', c1, cur, e1, hBg, _⟩
    · exfalso; have := allD_len lx; omega
    · simp at e1
      obtain ⟨⟨rfl, -⟩, -⟩ := e1
      exact Nat.lt_of_lt_of_le (block_lt HX.out.lies.choose_spec.1) hBg)
  have HK4 := Lib.hid (HK3.out.trans k4)
  clear o4 k4 HAll HX HTp
  go_wp2
  go_loopw [7, 38] (fun d i wr => FlRel w bx NB d i wr) (fun _ i _ => NB - (intOf i).toNat)
  case atStart => exact ⟨0, lx, rfl, Nat.zero_le _, HX4.out, HO4.out, HK4.out⟩
  case round =>
    obtain ⟨k, t, rfl, hk, ht, ⟨g', cap', rfl, hgb, hd⟩, hq⟩ := hrel
    have HQ := Lib.hid hq
    have HT := Lib.hid ht
    have HD := Lib.hid hd
    have HGB := Lib.hid hgb
    clear hq ht hd hgb HX4 HO4 HK4
    by_cases hkl : k < NB
    · have hcb : Cells il w (.slice b lb.length bcap) lb := HB.out.cells (fun e => by have := HNB.out; rw [e] at this; simp at this; omega)
      obtain ⟨g1, o1, c1, e1, _, _, _⟩ := hcb.ptr k (by rw [HNB.out]; exact hkl)
      simp at e1
      obtain ⟨rfl, rfl⟩ := e1
      obtain ⟨x, hx⟩ : ∃ x, lb[k]? = some x := ⟨_, List.getElem?_eq_getElem (by rw [HNB.out]; exact hkl)⟩
      have dx := (hcb.keep HQ.out).ic HN3.out k x hx
      have HI := Lib.hid (IAt.new wr zeroI)
      have hst := HI.out.store x
      have HP := Lib.hid (HI.out.put x)
      have hrn : (ic x).size = n3 := by rw [HN3.out]; exact ic_size x
      have hto := HP.out.to HN2.out
      have HKA := Lib.hid (((Keep.refl wr).alloc (.cells (ic zeroI) 52)).setRow wr.heap.size (ic x) (Nat.le_refl _))
      have HT5 := Lib.hid (HT.out.keep HKA.out)
      have HGt := Lib.hid (get (.pointer (some ⟨bx, 0, none⟩)) t x.route.to x.route.ok _ (.inr ⟨bx, rfl, HT5.out⟩))
      have HD5 := Lib.hid (HD.out.keep HKA.out)
      have HQ5 := Lib.hid (HQ.out.trans HKA.out)
      have HIw := Lib.hid (fun (w' : World) (h : IAt w' wr.heap.size x) => h.whole HN3.out)
      have HBL := Lib.hid (show bx < wr.heap.size from by obtain ⟨v0, h0, _⟩ := HT.out.lies; exact block_lt h0)
      have HMD := Lib.hid (fun h => more_do (k := x.kind) (r := x.route) HT.out.sorted HT.out.few h)
      have HNO := Lib.hid (fun h => do_no (t := t) (k := x.kind) (r := x.route) h)
      clear hcb hx HI HKA HT HD HQ
      generalize hTO : x.route.to = px at *
      have HTO := Lib.hid hTO
      clear hTO
      generalize hIX : ic x = X at *
      have HIX := Lib.hid hIX
      clear hIX
      generalize (wr.alloc (.cells (ic zeroI) 52)).setRow wr.heap.size X = w5 at *
      go_wp2_with fail
      refine HGt.out.mono ?_
      rintro e w6 ⟨rfl, k6⟩
      have HI6 := Lib.hid (show IAt w6 wr.heap.size x from HP.out.keep k6)
      have HT6 := Lib.hid (HT5.out.keep k6)
      have HD6 := Lib.hid (HD5.out.keep k6)
      have HQ6 := Lib.hid (HQ5.out.trans k6)
      have HWL := Lib.hid (show wr.heap.size < w6.heap.size from block_lt HI6.out)
      clear k6 HGt HP HT5 HD5 HQ5
      obtain ⟨was, hwas⟩ : ∃ r, getS t px = r := ⟨_, rfl⟩
      rw [hwas] at HMD ⊢
      clear hwas
      generalize hasP t px = hpx at *
      have hAt := RAt.new w6 zeroR
      have hst7 := hAt.store was
      have hzw : (rc was).size = n := by rw [HN.out]; exact rc_size _
      have HR7 := Lib.hid (hAt.put was)
      have HK7 := Lib.hid (show Keep w6 ((w6.alloc (.cells (rc zeroR) 37)).setRow w6.heap.size (rc was)) from ((Keep.refl w6).alloc _).setRow _ _ (Nat.le_refl _))
      clear hAt
      obtain ⟨WS, hWS⟩ : ∃ X, rc was = X := ⟨_, rfl⟩
      have HWS := Lib.hid hWS
      rw [hWS] at hst7 hzw HR7 HK7
      rw [hWS]
      clear hWS
      generalize (w6.alloc (.cells (rc zeroR) 37)).setRow w6.heap.size WS = w7 at *
      have HI7 := Lib.hid (HI6.out.keep HK7.out)
      have HT7 := Lib.hid (HT6.out.keep HK7.out)
      have HD7 := Lib.hid (HD6.out.keep HK7.out)
      have HQ7 := Lib.hid (HQ6.out.trans HK7.out)
      have l7 := HIw.out w7 HI7.out
      have HDo := Lib.hid (do_at bx t x w7 HT7.out)
      rw [HIX.out] at HDo
      have hto2 := hto
      clear hto hto2 HI6 HT6 HD6 HQ6 HK7
      by_cases hd : (doS t x.kind x.route).2 = 0
      · have HMo := Lib.hid (fun (w' : World) (h : Cells dl w' (.slice (some ⟨g', 0, none⟩) 17 cap') (allD t)) => dmore (.slice (some ⟨g', 0, none⟩) 17 cap') (allD t) x was w' (Lg.of h) (by rw [allD_len]; omega))
        rw [HTO.out, HMD.out hd, HIX.out, HWS.out] at HMo
        clear HMD HNO
        generalize doS t x.kind x.route = Y at *
        obtain ⟨t', e'⟩ := Y
        simp only at hd HMo HDo
        subst hd
        go_wp2_with fail
        refine HDo.out.mono ?_
        rintro e w8 ⟨rfl, t8, on8⟩
        have HI8 := Lib.hid (show IAt w8 wr.heap.size x from on8.obj HI7.out (by have := HBL.out; omega))
        have HR8 := Lib.hid (show RAt w8 w6.heap.size was from on8.obj HR7.out (by have := HBL.out; have := HWL.out; omega))
        have HD8 := Lib.hid (HD7.out.only on8 (by simp [Value.ownBlock]; have := HGB.out; omega))
        have HQ8 := Lib.hid (Only.made HQ7.out on8 HBX.out)
        have HT8 := Lib.hid t8
        have l8 := HIw.out w8 HI8.out
        have l9 := HR8.out.whole HN.out
        rw [HWS.out] at l9
        clear t8 on8 HDo HI7 HR7 HD7 HT7 l7 hst hst7 dx
        go_wp2_with fail
        refine (HMo.out w8 HD8.out).mono ?_
        rintro e w9 ⟨v9, rfl, k9, h9⟩
        have HV9 := Lib.hid (show ∃ g cap, v9 = .slice (some ⟨g, 0, none⟩) 17 cap ∧ bx < g ∧ Cells dl w9 v9 (allD t') from by
          rcases h9 with ⟨rfl, e2⟩ | ⟨g2, cap2, rfl, og⟩
          · rw [e2]
            exact ⟨g', cap', rfl, HGB.out, HD8.out.keep k9⟩
          · rw [allD_len] at og ⊢
            refine ⟨g2, cap2, rfl, ?_, (og.row elD).cells⟩
            rcases og.2 with ⟨_, h0⟩ | ⟨g3, c1, cur, e1, hBg, _⟩
            · exfalso; have := allD_len t'; omega
            · simp at e1
              obtain ⟨⟨rfl, -⟩, -⟩ := e1
              obtain ⟨v0, h0, _⟩ := HT8.out.lies
              exact Nat.lt_of_lt_of_le (block_lt h0) hBg)
        have HT9 := Lib.hid (HT8.out.keep k9)
        have HQ9 := Lib.hid (HQ8.out.trans k9)
        have HAl := Lib.hid (all (.pointer (some ⟨bx, 0, none⟩)) t' w9 (.inr ⟨bx, rfl, HT9.out⟩))
        have hft := HT9.out.few
        clear h9 k9 HMo HT8 HQ8 HD8 HI8 HR8 l8 l9
        go_wp2_with fail
        refine HAl.out.mono ?_
        rintro e wa ⟨va, rfl, oa, ka⟩
        have HQa := Lib.hid (qall va t' wa (oa.row elR).cells (by omega))
        have HKa := Lib.hid ka
        clear oa ka HAl
        go_wp2_with fail
        refine HQa.out.mono ?_
        rintro e wb ⟨gb, rfl, ob, kb⟩
        have HKb := Lib.hid (HKa.out.trans kb)
        have HS9 := Lib.hid (same9 _ _ (allD t') (allD t') wb (Lg.of (HV9.out.choose_spec.choose_spec.2.2.keep HKb.out)) (Lg.of (ob.row elQ).cells) (by rw [allD_len]; omega) (by rw [allD_len]; omega))
        rw [show decide (allD t' = allD t') = true from decide_eq_true rfl] at HS9
        clear ob kb HKa HQa
        go_wp2_with fail
        refine HS9.out.mono ?_
        rintro e wc ⟨rfl, kc⟩
        have HKc := Lib.hid (HKb.out.trans kc)
        have HRL := Lib.hid (show FlRel w bx NB v9 (.int .i64 ((k : Int) + 1)) wc from ⟨k + 1, t', by go_num, by omega, HT9.out.keep HKc.out, by
          obtain ⟨g2, cap2, e1, e2, e3⟩ := HV9.out
          exact ⟨g2, cap2, e1, e2, e3.keep HKc.out⟩, HQ9.out.trans HKc.out⟩)
        clear kc HS9 HKb
        go_wp2
        go_roundw
        case rel => exact HRL.out
        case measure => simp [intOf]; omega
      · have HNt := Lib.hid (HNO.out hd)
        clear HMD HNO
        generalize doS t x.kind x.route = Y at *
        obtain ⟨t', e'⟩ := Y
        simp only at hd HNt HDo
        have hdb : (e' != 0) = true := by simpa using hd
        clear hd
        go_wp2_with fail
        refine HDo.out.mono ?_
        rintro e w8 ⟨rfl, t8, on8⟩
        have HRL := Lib.hid (show FlRel w bx NB (.slice (some ⟨g', 0, none⟩) 17 cap') (.int .i64 ((k : Int) + 1)) w8 from ⟨k + 1, t, by go_num, by omega, by rw [← HNt.out]; exact t8, ⟨g', cap', rfl, HGB.out, HD7.out.only on8 (by simp [Value.ownBlock]; have := HGB.out; omega)⟩, Only.made HQ7.out on8 HBX.out⟩)
        clear t8 on8 HDo
        go_wp2
        go_roundw
        case rel => exact HRL.out
        case measure => simp [intOf]; omega
    · go_wp2
      go_ret
      exact ⟨rfl, HQ.out⟩

open Go.ChangeShapes Go.WideShapes Go.ChangeAt
theorem own : ownKnob Try.prog.godebug = none := by kernel_rfl
theorem laidOut : laidOutB Try.prog = true := by kernel_rfl

set_option maxRecDepth 100000 in
theorem lifted (os : Os) (started : os.Started) (H : Type) (enc : TypeId × Value → H) :
    ReturnsInHanded {} Try.checked os 4 .any (Rows.digestFollowsSpec.pre6 enc Try.prog Try.f4 Rows.digestFollowsRow.domain false) (Rows.digestFollowsSpec.post enc Try.prog Try.f4 false true false false) := by
  refine returnsInHanded_of_change (C := Try.checked) own started (by kernel_rfl) Try.func4
    (ChangeSpec.witness6 (enc := enc) (C := Try.checked) false ⟨#[], #[.slice none 0 0, .slice none 0 0], []⟩ 8 (by kernel_rfl) (by kernel_rfl) (by kernel_rfl) (by kernel_rfl)) ?_
  intro W base args ds gs before hval0 hW hcnd _
  have hval : ∀ (j : Nat) t v, Try.f4.params[j]? = some t → args[j]? = some v → Value.okWide Try.prog W .any base t v := hval0
  have hW' := hW
  obtain ⟨p, q, hA0, hV, rfl, hfz, hnd⟩ := hW
  have hA : DataW.TrodAll enc Try.prog W 0 (fun _ => true) true Try.f4.params.toList args.toList ds p := hA0

  rw [Try.params4] at hA hval
  obtain ⟨v0, vs0, d0, ds0, p0, q0, hargs, rfl, rfl, h0, r0⟩ := trodAll_cons hA
  obtain ⟨v1, vs1, d1, ds1, p1, q1, rfl, rfl, rfl, h1, r1⟩ := trodAll_cons r0
  obtain ⟨rfl, rfl, rfl⟩ := trodAll_nil r1
  obtain rfl : args = #[v0, v1] := by cases args; simp_all
  obtain ⟨rfl, rfl⟩ := trodVars_none hV
  have k0 := h0
  have lt0 : ∀ x ∈ p0, x.block < W.heap.size := by obtain ⟨m, hm⟩ := k0; exact DataW.trod_lt m _ _ _ hm
  have k1 := h1
  have lt1 : ∀ x ∈ p1, x.block < W.heap.size := by obtain ⟨m, hm⟩ := k1; exact DataW.trod_lt m _ _ _ hm
  obtain ⟨a0, cap0, l0, rfl, f0, sq0⟩ := open_routesN (hval 0 22 v0 rfl rfl) h0
  obtain ⟨a1, cap1, l1, rfl, f1, sq1⟩ := open_incsN (hval 1 50 v1 rfl rfl) h1
  clear hA0 hval0
  refine (walk a0 cap0 l0 a1 cap1 l1 W f0 sq0 f1 sq1).mono fun e W' ⟨he, bel⟩ => ?_
  subst he
  exact ⟨_, rfl, _, _, _, [], _, [], hW', trodAll_mk1 (shut_bool Try.underlying4 _), (trodAll_cons_mk (Below.trod laidOut (by kernel_rfl) (of_decide_eq_true (by kernel_rfl)) k0 bel lt0) (trodAll_cons_mk (Below.trod laidOut (by kernel_rfl) (of_decide_eq_true (by kernel_rfl)) k1 bel lt1) trodAll_mk0)), rfl, bel.frame _, fun h => by cases h⟩

theorem over : Rows.digestFollowsRow.holds Try.pinned (OpenSpec.ofChange Rows.digestFollowsSpec) :=
  OpenClaim.holds_of_wide 4 Try.f4 rfl rfl rfl rfl rfl rfl rfl ⟨rfl, rfl, rfl, rfl, rfl⟩ rfl rfl rfl rfl rfl (by kernel_rfl) Try.func4 (by kernel_rfl)
    (of_decide_eq_true (by kernel_rfl)) (by unfold Func.isWrapper; first | (rw [if_pos (by decide +kernel)]; kernel_rfl) | (rw [if_neg (by decide +kernel)]; exact ⟨rfl, rfl⟩))
    (fun os started H enc _ => lifted os started H enc)
end Go.Proofs.Ytfikdeobejhblaa.LDigestFollows

namespace Go.Proofs.Ytfikdeobejhblaa
theorem digestFollows_holds : Rows.DigestFollowsSaid := LDigestFollows.over
#print axioms digestFollows_holds
end Go.Proofs.Ytfikdeobejhblaa

