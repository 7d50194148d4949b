/- Proved: DigestMends: with the routes of all ranges that differ replaced by another table's, a table is that one, unless the digests of unlike ranges are alike. Condition: none of our own. -/
import Derived.Test.YtfikdeobejhblaaOi
import Derived.Test.YtfikdeobejhblaaDi
import Derived.Test.YtfikdeobejhblaaSm
import Derived.Test.YtfikdeobejhblaaPb
import Derived.Test.YtfikdeobejhblaaPm
import Derived.Test.YtfikdeobejhblaaMk
import Derived.SizedLaws
namespace Go.Proofs.Ytfikdeobejhblaa.LDigestMends
open Go.RowKit

def MpRel (W : World) (b N : Nat) (D : List Nat) (i : Value) (wr : World) : Prop := ∃ (k : Nat) (S : List Int), i = .int .i64 k ∧ k ≤ N ∧ MapB wr b S ∧ (∀ q : Int, q ∈ S ↔ ∃ n ∈ D.take k, (n : Int) = q) ∧ Keep W wr
def AlRel (W : World) (x y : List Rt) (D : List Nat) (i : Value) (wr : World) : Prop := ∃ k : Nat, i = .int .i64 k ∧ k ≤ 17 ∧ (∀ j, j < k → j ∉ D → partB x (j : Nat) = partB y (j : Nat)) ∧ Keep W wr
def ReRel (W : World) (x y : List Rt) (D : List Nat) (xv i : Value) (wr : World) : Prop := ∃ (k c : Nat) (z : List Rt), i = .int .i64 k ∧ xv = .pointer (some ⟨c, 0, none⟩) ∧ k ≤ D.length ∧ Tb wr c z ∧ Mid x y (D.take k) z ∧ Keep W wr

set_option maxRecDepth 100000 in
set_option maxHeartbeats 8000000 in
theorem walk (a : Option Addr) (acap : Nat) (la : List Rt) (b : Option Addr) (bcap : Nat) (lb : List Rt) (w : World) (hA : ArgN rl w a acap la) (_ha : ∀ x ∈ la, Sq x) (hB : ArgN rl w b bcap lb) (_hb : ∀ x ∈ lb, Sq x) :
    Calls Try.prog 5 #[.slice a la.length acap, .slice b lb.length bcap] w fun e w' => e = .returned (.bool true) ∧ Keep w w' := by
  have HAw := Lib.hid awake
  have hs2 := hA.small
  have hs3 := hB.small
  have HA := Lib.hid hA
  have HB := Lib.hid hB
  obtain ⟨NA, hNA⟩ : ∃ N, la.length = N := ⟨_, rfl⟩
  have HNA := Lib.hid hNA
  rw [hNA] at hs2
  rw [hNA]
  obtain ⟨NB, hNB⟩ : ∃ N, lb.length = N := ⟨_, rfl⟩
  have HNB := Lib.hid hNB
  rw [hNB] at hs3
  rw [hNB]
  clear hA hNA hB hNB
  unfold maxLen at hs2 hs3
  by_cases gNA : NA > 150
  · have gNAi : (NA : Int) > 150 := by omega
    go_enter Try.func5, Try.ntmps5
    go_wp2_with fail
    refine (HAw.out _).mono ?_
    rintro e w1 ⟨rfl, k1⟩
    have HK1 := Lib.hid k1
    clear k1
    go_wp2_with fail
    refine (HAw.out _).mono ?_
    rintro e w2 ⟨rfl, k2⟩
    go_wp2
    go_ret
    exact ⟨rfl, HK1.out.trans k2⟩
  have gNAi : ¬ (NA : Int) > 150 := by omega
  by_cases gNB : NB > 150
  · have gNBi : (NB : Int) > 150 := by omega
    go_enter Try.func5, Try.ntmps5
    go_wp2_with fail
    refine (HAw.out _).mono ?_
    rintro e w1 ⟨rfl, k1⟩
    have HK1 := Lib.hid k1
    clear k1
    go_wp2_with fail
    refine (HAw.out _).mono ?_
    rintro e w2 ⟨rfl, k2⟩
    go_wp2
    go_ret
    exact ⟨rfl, HK1.out.trans k2⟩
  have gNBi : ¬ (NB : Int) > 150 := by omega
  have HSL := Lib.hid slice_no
  have hmm := @run_makeMap Try.prog
  go_enter Try.func5, Try.ntmps5
  go_wp2_with fail
  refine (HAw.out _).mono ?_
  rintro e w1 ⟨rfl, k1⟩
  have HK1 := Lib.hid k1
  have HA1 := Lib.hid ((HA.out.keep k1).keep ((Keep.refl w1).alloc (.cells #[] 37)))
  have HO1 := Lib.hid (Own.made (t := 37) (k := 20) (enc := rl) w1.heap.size w1 (Nat.le_refl _))
  clear k1
  go_wp2_with (first | ((with_reducible refine at_slice [] ?_ (.slice (some ⟨w1.heap.size, 0, none⟩) 0 0) (HSL.out w1) ?_); rfl) | (at_builtin; refine wp_appN elR rfl _ _ rfl w1.heap.size _ a NA acap [] la rfl HNA.out rfl HO1.out HA1.out ?q1 ?q2 ?q3 ?_))
  case q1 => rw [HNA.out]; simp; omega
  case q2 => rw [HNA.out]; simp; omega
  case q3 => simp
  intro v2 w2 o2 g2
  have HK2 := Lib.hid (HK1.out.trans (HO1.out.grown ((Keep.refl w1).alloc _) (Nat.le_refl _) g2))
  have HNw := Lib.hid (new v2 la w2 (o2.row elR).cells (by rw [HNA.out]; omega))
  clear o2 g2 HA1 HO1 HK1
  go_wp2_with fail
  refine HNw.out.mono ?_
  rintro e w3 ⟨p, rfl, k3, hx⟩
  have HK3 := Lib.hid (HK2.out.trans k3)
  have HX := Lib.hid (show (newE la ≠ 0 ∧ p = .pointer none) ∨ (newE la = 0 ∧ ∃ c l', p = .pointer (some ⟨c, 0, none⟩) ∧ l'.Perm la ∧ Tb w3 c l') from by
    rcases hx with h | ⟨h, c, l', h1, _, h2, h3⟩
    · exact .inl h
    · exact .inr ⟨h, c, l', h1, h2, h3⟩)
  have HB3 := Lib.hid ((HB.out.keep HK3.out).keep ((Keep.refl w3).alloc (.cells #[] 37)))
  have HO3 := Lib.hid (Own.made (t := 37) (k := 20) (enc := rl) w3.heap.size w3 (Nat.le_refl _))
  clear hx k3 HNw HK2
  have HRA := Lib.hid (fun h m hp => new_right (l := la) (m := m) h hp)
  generalize newE la = EA at *
  go_wp2_with (first | ((with_reducible refine at_slice [] ?_ (.slice (some ⟨w3.heap.size, 0, none⟩) 0 0) (HSL.out w3) ?_); rfl) | (at_builtin; refine wp_appN elR rfl _ _ rfl w3.heap.size _ b NB bcap [] lb rfl HNB.out rfl HO3.out HB3.out ?q1 ?q2 ?q3 ?_))
  case q1 => rw [HNB.out]; simp; omega
  case q2 => rw [HNB.out]; simp; omega
  case q3 => simp
  intro v4 w4 o4 g4
  have hk4 := HO3.out.grown ((Keep.refl w3).alloc _) (Nat.le_refl _) g4
  have HQ4 := Lib.hid hk4
  have HNw := Lib.hid (new v4 lb w4 (o4.row elR).cells (by rw [HNB.out]; omega))
  clear o4 g4 hk4 HB3 HO3
  go_wp2_with fail
  refine HNw.out.mono ?_
  rintro e w5 ⟨p5, rfl, k5, hy⟩
  have HQ5 := Lib.hid (HQ4.out.trans k5)
  have HK5 := Lib.hid (HK3.out.trans HQ5.out)
  clear k5 HNw HQ4
  have HRB := Lib.hid (fun h m hp => new_right (l := lb) (m := m) h hp)
  generalize newE lb = EB at *
  rcases HX.out with ⟨e0, rfl⟩ | ⟨rfl, bx, lx, rfl, px, tx⟩
  · have h0b : (EA != 0) = true := by simpa using e0
    clear e0 HX hy
    go_wp2
    go_ret
    exact ⟨rfl, HK5.out⟩
  rcases hy with ⟨e0, rfl⟩ | ⟨rfl, b_y, ly, rfl, _, py, ty⟩
  · have h0b : (EB != 0) = true := by simpa using e0
    clear e0 HX
    go_wp2
    go_ret
    exact ⟨rfl, HK5.out⟩
  have HXT := Lib.hid (tx.keep HQ5.out)
  have HYT := Lib.hid ty
  have HRX := Lib.hid (HRA.out rfl lx px)
  have HRY := Lib.hid (HRB.out rfl ly py)
  have HLL := Lib.hid (show lx.length + ly.length ≤ 300 from by rw [HRX.out.2, HRY.out.2, HNA.out, HNB.out]; omega)
  clear HX px py tx ty HRA HRB HK3 HA HB HQ5
  have HTX := Lib.hid (fun (w' : World) (k : Keep w5 w') => (show Tp w' (.pointer (some ⟨bx, 0, none⟩)) lx from .inr ⟨bx, rfl, HXT.out.keep k⟩))
  have HTY := Lib.hid (fun (w' : World) (k : Keep w5 w') => (show Tp w' (.pointer (some ⟨b_y, 0, none⟩)) ly from .inr ⟨b_y, rfl, HYT.out.keep k⟩))
  have HD1 := Lib.hid (dall (.pointer (some ⟨bx, 0, none⟩)) lx w5 (HTX.out w5 (Keep.refl _)))
  go_wp2_with fail
  refine HD1.out.mono ?_
  rintro e w6 ⟨g6, rfl, o6, k6⟩
  have HQ6 := Lib.hid k6
  have HC6 := Lib.hid (o6.row elD).cells
  have HD2 := Lib.hid (dall (.pointer (some ⟨b_y, 0, none⟩)) ly w6 (HTY.out w6 k6))
  clear o6 k6 HD1
  go_wp2_with fail
  refine HD2.out.mono ?_
  rintro e w7 ⟨g7, rfl, o7, k7⟩
  have HQ7 := Lib.hid (HQ6.out.trans k7)
  have HDf := Lib.hid (ddiffer (.slice (some ⟨g6, 0, none⟩) 17 17) (.slice (some ⟨g7, 0, none⟩) 17 17) (allD lx) (allD ly) w7 (Lg.of (HC6.out.keep k7)) (Lg.of (o7.row elD).cells) (by rw [allD_len]; omega) (by rw [allD_len]; omega))
  have HAN := Lib.hid (fun k (h : partB lx (k : Nat) = partB ly (k : Nat)) => alike_no h)
  have HDL := Lib.hid (fun k n (h : (diffD (allD lx) (allD ly))[k]? = some n) => diff_lt h)
  have hdl := range_len (allD lx) (allD ly) 17
  change (diffD (allD lx) (allD ly)).length ≤ 17 at hdl
  clear o7 k7 HD2 HC6 HQ6
  generalize diffD (allD lx) (allD ly) = D at *
  go_wp2_with fail
  refine HDf.out.mono ?_
  rintro e w8 ⟨v8, rfl, o8, k8⟩
  obtain ⟨a8, c8, e8, _, _⟩ := (o8.row elN).cells.form
  subst e8
  have HV8 := Lib.hid (o8.row elN).cells
  have HQ8 := Lib.hid (HQ7.out.trans k8)
  clear o8 k8 HDf HQ7
  obtain ⟨ND, hND⟩ : ∃ N, D.length = N := ⟨_, rfl⟩
  have HND := Lib.hid hND
  rw [hND] at HV8 hdl ⊢
  clear hND
  have HM8 := Lib.hid (MapB.made w8)
  have HKM := Lib.hid ((Keep.refl w8).alloc (.map #[] 0))
  go_wp2
  go_loopw [60] (fun i wr => MpRel w8 w8.heap.size ND D i wr) (fun i _ => ND - (intOf i).toNat)
  case atStart => exact ⟨0, [], rfl, Nat.zero_le _, HM8.out, fun q => by simp, HKM.out⟩
  case round =>
    obtain ⟨k, S, rfl, hk, hm, hS, hq⟩ := hrel
    have HM := Lib.hid hm
    have HS := Lib.hid hS
    have HQ := Lib.hid hq
    clear hm hS hq HM8 HKM
    by_cases hkl : k < ND
    · obtain ⟨gp, op, capp, ep, _, _, _⟩ := (show Cells nl w8 (.slice a8 D.length c8) D from by rw [HND.out]; exact HV8.out).ptr k (by rw [HND.out]; exact hkl)
      simp at ep
      obtain ⟨rfl, rfl⟩ := ep
      obtain ⟨x, hx⟩ : ∃ x, D[k]? = some x := ⟨_, List.getElem?_eq_getElem (by rw [HND.out]; exact hkl)⟩
      have d1 := (show Cells nl wr (.slice (some ⟨gp, op, none⟩) D.length c8) D from by rw [HND.out]; exact HV8.out.keep HQ.out).num k x hx
      obtain ⟨w9, hup, hm9, on9⟩ := HM.out.upd (x : Int)
      have HTK := Lib.hid (take_len hx)
      have HRL := Lib.hid (show MpRel w8 w8.heap.size ND D (.int .i64 ((k : Int) + 1)) w9 from ⟨k + 1, _, by go_num, by omega, hm9, fun q => by
        rw [HTK.out, List.mem_cons, HS.out q]
        constructor
        · rintro (rfl | ⟨n, h1, h2⟩)
          · exact ⟨x, by simp, rfl⟩
          · exact ⟨n, by simp [h1], h2⟩
        · rintro ⟨n, h1, h2⟩
          rcases List.mem_append.1 h1 with h1 | h1
          · exact .inr ⟨n, h1, h2⟩
          · simp at h1
            subst h1
            exact .inl h2.symm, Only.made HQ.out on9 (Nat.le_refl _)⟩)
      clear hx hm9 on9
      go_wp2
      go_roundw
      case rel => exact HRL.out
      case measure => simp [intOf]; omega
    · obtain rfl : ND = k := by omega
      have HMP := Lib.hid (fun (w' : World) (kk : Keep wr w') (j : Nat) => (show (Instr.lookup 60 (.map (some w8.heap.size)) (.int .i64 (j : Nat)) false).run Try.prog w' = .ok (.bool (decide (j ∈ D))) w' from by
        have h1 := (HM.out.keep kk).look (j : Nat)
        rw [h1]
        congr 3
        have h2 := HS.out (j : Nat)
        rw [List.take_of_length_le (by rw [HND.out]; exact Nat.le_refl _)] at h2
        apply propext
        rw [h2]
        constructor
        · rintro ⟨n, h3, h4⟩
          have : n = j := by omega
          subst this
          exact h3
        · intro h3
          exact ⟨j, h3, rfl⟩))
      have HQr := Lib.hid (HQ8.out.trans HQ.out)
      have HVr := Lib.hid (HV8.out.keep HQ.out)
      clear HM HS HQ HQ8 HV8
      generalize w8.heap.size = mb at *
      generalize wr = wm at *
      go_wp2
      go_loopw [67] (fun i wr' => AlRel wm lx ly D i wr') (fun i _ => 17 - (intOf i).toNat)
      case atStart => exact ⟨0, rfl, by omega, fun j hj => by omega, Keep.refl _⟩
      case round =>
        obtain ⟨k, rfl, hk, hal, hq⟩ := hrel
        have HAL := Lib.hid hal
        have HQ := Lib.hid hq
        clear hal hq
        by_cases hk17 : k < 17
        · have HP1 := Lib.hid (dpart (.pointer (some ⟨bx, 0, none⟩)) lx k wr (HTX.out wr (HQr.out.trans HQ.out)))
          go_wp2_with fail
          refine HP1.out.mono ?_
          rintro e wa ⟨va, rfl, ra, ka⟩
          have HQa := Lib.hid (HQ.out.trans ka)
          have HCa := Lib.hid ra.cells
          have HP2 := Lib.hid (dpart (.pointer (some ⟨b_y, 0, none⟩)) ly k wa (HTY.out wa (HQr.out.trans HQa.out)))
          clear ra ka HP1 HQ
          go_wp2_with fail
          refine HP2.out.mono ?_
          rintro e wb ⟨vb, rfl, rb, kb⟩
          have HQb := Lib.hid (HQa.out.trans kb)
          have hl1 := part_len lx k
          have hl2 := part_len ly k
          have HQs := Lib.hid (qsame va vb (partB lx (k : Nat)) (partB ly (k : Nat)) wb (HCa.out.keep kb) rb.cells (by have := HLL.out; omega) (by have := HLL.out; omega))
          clear rb kb HP2 HQa HCa hl1 hl2
          by_cases hal : partB lx (k : Nat) = partB ly (k : Nat)
          · rw [decide_eq_true hal] at HQs
            have HAk := Lib.hid (show ∀ j, j < k + 1 → j ∉ D → partB lx (j : Nat) = partB ly (j : Nat) from fun j hj hD => by
              by_cases e : j = k
              · rw [e]; exact hal
              · exact HAL.out j (by omega) hD)
            have HNK := Lib.hid (HAN.out k hal)
            clear hal HAL
            go_wp2_with fail
            refine HQs.out.mono ?_
            rintro e wc ⟨rfl, kc⟩
            have HQc := Lib.hid (HQb.out.trans kc)
            have hlk := HMP.out wc HQc.out k
            rw [decide_eq_false HNK.out] at hlk
            have HRL := Lib.hid (show AlRel wm lx ly D (.int .i64 ((k : Int) + 1)) wc from ⟨k + 1, by go_num, by omega, HAk.out, HQc.out⟩)
            clear kc HQs HQb HAk
            go_wp2
            go_roundw
            case rel => exact HRL.out
            case measure => simp [intOf]; omega
          · rw [decide_eq_false hal] at HQs
            by_cases hD : k ∈ D
            · have HAk := Lib.hid (show ∀ j, j < k + 1 → j ∉ D → partB lx (j : Nat) = partB ly (j : Nat) from fun j hj hD' => by
                by_cases e : j = k
                · rw [e] at hD'; exact absurd hD hD'
                · exact HAL.out j (by omega) hD')
              have HNK := Lib.hid hD
              clear hal HAL hD
              go_wp2_with fail
              refine HQs.out.mono ?_
              rintro e wc ⟨rfl, kc⟩
              have HQc := Lib.hid (HQb.out.trans kc)
              have hlk := HMP.out wc HQc.out k
              rw [decide_eq_true HNK.out] at hlk
              have HRL := Lib.hid (show AlRel wm lx ly D (.int .i64 ((k : Int) + 1)) wc from ⟨k + 1, by go_num, by omega, HAk.out, HQc.out⟩)
              clear kc HQs HQb HAk
              go_wp2
              go_roundw
              case rel => exact HRL.out
              case measure => simp [intOf]; omega
            · have HNK := Lib.hid hD
              clear hal HAL hD
              go_wp2_with fail
              refine HQs.out.mono ?_
              rintro e wc ⟨rfl, kc⟩
              have HQc := Lib.hid (HQb.out.trans kc)
              have hlk := HMP.out wc HQc.out k
              rw [decide_eq_false HNK.out] at hlk
              have HKc := Lib.hid (HK5.out.trans (HQr.out.trans HQc.out))
              clear kc HQs HQb
              go_wp2
              go_ret
              exact ⟨rfl, HKc.out⟩
        · obtain rfl : k = 17 := by omega
          have HQ2 := Lib.hid (HQr.out.trans HQ.out)
          have HV2 := Lib.hid (HVr.out.keep HQ.out)
          have HX2 := Lib.hid (HXT.out.keep HQ2.out)
          clear HQ HQr HVr HMP HTX
          generalize wr = wn at *
          go_wp2
          go_loopw [5, 94] (fun xv i wr' => ReRel wn lx ly D xv i wr') (fun _ i _ => ND - (intOf i).toNat)
          case atStart => exact ⟨0, bx, lx, rfl, rfl, Nat.zero_le _, HX2.out, Mid.start lx ly, Keep.refl _⟩
          case round =>
            obtain ⟨k, c, z, rfl, rfl, hk, tz, hmd, hq⟩ := hrel
            rw [HND.out] at hk
            have HQ := Lib.hid hq
            have HZ := Lib.hid tz
            have HMD := Lib.hid hmd
            clear tz hmd hq
            by_cases hkl : k < ND
            · obtain ⟨gp, op, capp, ep, _, _, _⟩ := (show Cells nl wn (.slice a8 D.length c8) D from by rw [HND.out]; exact HV2.out).ptr k (by rw [HND.out]; exact hkl)
              simp at ep
              obtain ⟨rfl, rfl⟩ := ep
              obtain ⟨x, hx⟩ : ∃ x, D[k]? = some x := ⟨_, List.getElem?_eq_getElem (by rw [HND.out]; exact hkl)⟩
              have d1 := (show Cells nl wr (.slice (some ⟨gp, op, none⟩) D.length c8) D from by rw [HND.out]; exact HV2.out.keep HQ.out).num k x hx
              have HP1 := Lib.hid (dpart (.pointer (some ⟨b_y, 0, none⟩)) ly x wr (HTY.out wr (HQ2.out.trans HQ.out)))
              have HTK := Lib.hid (take_len hx)
              have HRE := Lib.hid (HMD.out.repl HZ.out.sorted HYT.out.sorted HRX.out.1 HRY.out.1 HLL.out x (HDL.out k x hx))
              have hl2 := part_len ly x
              clear hx
              go_wp2_with fail
              refine HP1.out.mono ?_
              rintro e wa ⟨va, rfl, ra, ka⟩
              have HQa := Lib.hid (HQ.out.trans ka)
              have HRp := Lib.hid (drepl c z x va (partB ly (x : Nat)) wa (HZ.out.keep ka) ra.cells (by have := HLL.out; omega))
              clear ra ka HP1 HQ hl2
              go_wp2_with fail
              refine HRp.out.mono ?_
              rintro e wb ⟨pb, rfl, kb, hb⟩
              rcases hb with ⟨h0, _⟩ | ⟨_, c', z', rfl, _, pz, tz'⟩
              · exact absurd HRE.out h0
              rw [HRE.out]
              have HRL := Lib.hid (show ReRel wn lx ly D (.pointer (some ⟨c', 0, none⟩)) (.int .i64 ((k : Int) + 1)) wb from ⟨k + 1, c', z', by go_num, rfl, by rw [HND.out]; omega, tz', by
                rw [HTK.out]
                exact HMD.out.step HZ.out.sorted HYT.out.sorted x tz'.sorted pz, HQa.out.trans kb⟩)
              clear pz tz' kb HRp
              go_wp2
              go_roundw
              case rel => exact ⟨_, _, _, _, _, _, _, _, _, _, _, _, _, _, _, _, _, _, _, _, _, _, HRL.out, rfl⟩
              case measure => simp [intOf]; omega
            · have hzy : z = ly := by
                have h1 := HMD.out
                rw [List.take_of_length_le (by rw [HND.out]; omega)] at h1
                exact h1.done HZ.out.sorted HYT.out.sorted HAL.out
              subst hzy
              have HSm := Lib.hid (same (.pointer (some ⟨c, 0, none⟩)) (.pointer (some ⟨b_y, 0, none⟩)) z z wr (.inr ⟨c, rfl, HZ.out⟩) (HTY.out wr (HQ2.out.trans HQ.out)))
              rw [show decide (z = z) = true from decide_eq_true rfl] at HSm
              have HKf := Lib.hid (HK5.out.trans (HQ2.out.trans HQ.out))
              clear HQ
              go_wp2_with fail
              refine HSm.out.mono ?_
              rintro e wa ⟨rfl, ka⟩
              have HKa := Lib.hid (HKf.out.trans ka)
              clear ka
              go_wp2
              go_ret
              exact ⟨rfl, HKa.out⟩

open Go.ChangeShapes Go.WideShapes Go.ChangeAt
theorem own : ownKnob Try.prog.godebug = none := by kernel_rfl
theorem laidOut : laidOutB Try.prog = true := by kernel_rfl

set_option maxRecDepth 100000 in
theorem lifted (os : Os) (started : os.Started) (H : Type) (enc : TypeId × Value → H) :
    ReturnsInHanded {} Try.checked os 5 .any (Rows.digestMendsSpec.pre6 enc Try.prog Try.f5 Rows.digestMendsRow.domain false) (Rows.digestMendsSpec.post enc Try.prog Try.f5 false true false false) := by
  refine returnsInHanded_of_change (C := Try.checked) own started (by kernel_rfl) Try.func5
    (ChangeSpec.witness6 (enc := enc) (C := Try.checked) false ⟨#[], #[.slice none 0 0, .slice none 0 0], []⟩ 8 (by kernel_rfl) (by kernel_rfl) (by kernel_rfl) (by kernel_rfl)) ?_
  intro W base args ds gs before hval0 hW hcnd _
  have hval : ∀ (j : Nat) t v, Try.f5.params[j]? = some t → args[j]? = some v → Value.okWide Try.prog W .any base t v := hval0
  have hW' := hW
  obtain ⟨p, q, hA0, hV, rfl, hfz, hnd⟩ := hW
  have hA : DataW.TrodAll enc Try.prog W 0 (fun _ => true) true Try.f5.params.toList args.toList ds p := hA0

  rw [Try.params5] at hA hval
  obtain ⟨v0, vs0, d0, ds0, p0, q0, hargs, rfl, rfl, h0, r0⟩ := trodAll_cons hA
  obtain ⟨v1, vs1, d1, ds1, p1, q1, rfl, rfl, rfl, h1, r1⟩ := trodAll_cons r0
  obtain ⟨rfl, rfl, rfl⟩ := trodAll_nil r1
  obtain rfl : args = #[v0, v1] := by cases args; simp_all
  obtain ⟨rfl, rfl⟩ := trodVars_none hV
  have k0 := h0
  have lt0 : ∀ x ∈ p0, x.block < W.heap.size := by obtain ⟨m, hm⟩ := k0; exact DataW.trod_lt m _ _ _ hm
  have k1 := h1
  have lt1 : ∀ x ∈ p1, x.block < W.heap.size := by obtain ⟨m, hm⟩ := k1; exact DataW.trod_lt m _ _ _ hm
  obtain ⟨a0, cap0, l0, rfl, f0, sq0⟩ := open_routesN (hval 0 22 v0 rfl rfl) h0
  obtain ⟨a1, cap1, l1, rfl, f1, sq1⟩ := open_routesN (hval 1 22 v1 rfl rfl) h1
  clear hA0 hval0
  refine (walk a0 cap0 l0 a1 cap1 l1 W f0 sq0 f1 sq1).mono fun e W' ⟨he, bel⟩ => ?_
  subst he
  exact ⟨_, rfl, _, _, _, [], _, [], hW', trodAll_mk1 (shut_bool Try.underlying4 _), (trodAll_cons_mk (Below.trod laidOut (by kernel_rfl) (of_decide_eq_true (by kernel_rfl)) k0 bel lt0) (trodAll_cons_mk (Below.trod laidOut (by kernel_rfl) (of_decide_eq_true (by kernel_rfl)) k1 bel lt1) trodAll_mk0)), rfl, bel.frame _, fun h => by cases h⟩

theorem over : Rows.digestMendsRow.holds Try.pinned (OpenSpec.ofChange Rows.digestMendsSpec) :=
  OpenClaim.holds_of_wide 5 Try.f5 rfl rfl rfl rfl rfl rfl rfl ⟨rfl, rfl, rfl, rfl, rfl⟩ rfl rfl rfl rfl rfl (by kernel_rfl) Try.func5 (by kernel_rfl)
    (of_decide_eq_true (by kernel_rfl)) (by unfold Func.isWrapper; first | (rw [if_pos (by decide +kernel)]; kernel_rfl) | (rw [if_neg (by decide +kernel)]; exact ⟨rfl, rfl⟩))
    (fun os started H enc _ => lifted os started H enc)
end Go.Proofs.Ytfikdeobejhblaa.LDigestMends

namespace Go.Proofs.Ytfikdeobejhblaa
theorem digestMends_holds : Rows.DigestMendsSaid := LDigestMends.over
#print axioms digestMends_holds
end Go.Proofs.Ytfikdeobejhblaa

