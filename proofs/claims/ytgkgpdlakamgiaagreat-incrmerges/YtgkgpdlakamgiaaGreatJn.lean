/- Proved: what the document's Merge of layer 8 answers. Condition: both lists came in, and have at most 190 changes together. -/
import Derived.Test.YtgkgpdlakamgiaaGreatJm
namespace Go.Proofs.YtgkgpdlakamgiaaGreat
open Go.RowKit

theorem stor_right : ∀ (l : List Ic) (W W' : List Sy), Keys W → (∀ s ∈ W, rightI s.last) → (∀ i ∈ l, rightI i) → storS W l = some W' → ∀ s ∈ W', rightI s.last
  | [], W, W', _, hW, _, h => by
    simp only [storS, Option.some.injEq] at h
    subst h
    exact hW
  | i :: l, W, W', hk, hW, hl, h => by
    rw [storS] at h
    cases hs : stepS W i with
    | none => rw [hs] at h; simp at h
    | some V =>
      rw [hs] at h
      refine stor_right l V W' (stepS_keys hk hs).1 ?_ (fun x hx => hl x (by simp [hx])) h
      unfold stepS at hs
      split at hs
      · simp only [Option.some.injEq] at hs
        subst hs
        intro s hsm
        rcases (setS_mem hk _ s).1 hsm with e | ⟨e, _⟩
        · rw [e]; exact hl i (by simp)
        · exact hW s e
      · split at hs
        · simp only [Option.some.injEq] at hs
          subst hs
          intro s hsm
          rcases (setS_mem hk _ s).1 hsm with e | ⟨e, _⟩
          · rw [e]; exact hl i (by simp)
          · exact hW s e
        · simp at hs
def QmRel (w : World) (l : List Ic) (R : Option (List Sy)) (wv iv kv : Value) (wr : World) : Prop :=
  ∃ (k : Nat) (W : List Sy) (was is : List Rt), kv = .int .i64 k ∧ k ≤ l.length ∧ R = storS W (l.drop k) ∧ Q2 l k W was is ∧ W.length ≤ k ∧ Row rl 57 wr wv was ∧ Row rl 57 wr iv is ∧ Keep w wr
def QaRel (w : World) (was is : List Rt) (av kv : Value) (wr : World) : Prop :=
  ∃ (k : Nat) (A : List Rt), kv = .int .i64 k ∧ k ≤ was.length ∧ Q3 was is A k ∧ Row rl 57 wr av A ∧ Keep w wr
def QoRel (w : World) (was is A : List Rt) (ov kv : Value) (wr : World) : Prop :=
  ∃ k : Nat, kv = .int .i64 k ∧ k ≤ A.length ∧ Own 59 21 il w.heap.size wr ov ((A.take k).map (gC was is)) ∧ Keep w wr
def QmPost (w : World) (R : Option (List Sy)) (e : Ending) (w' : World) : Prop := Keep w w' ∧ match R with
  | none => e = .returned (.tuple #[.slice none 0 0, .bool false])
  | some W => ∃ v m, e = .returned (.tuple #[v, .bool true]) ∧ Row il 59 w' v m ∧ SortedI m ∧ ∀ i, i ∈ m ↔ ∃ s ∈ W, effS s = some i
theorem Cells.icr {w : World} {g o cap n k : Nat} {l : List Ic} (h : Cells il w (.slice (some ⟨g, o, none⟩) l.length cap) l) (hn : n = 20) (hk : k = 21) (j : Nat) (x : Ic) (hx : l[j]? = some x) : (loadCellsFrom ⟨g, o + j * k + 1, none⟩ 0 n #[]).run Tryz.prog w = .ok (rc x.route) w := by
  have e : rl x.route = ((il x).drop 1).take 20 := by
    show rl x.route = (rl x.route).take 20
    rw [List.take_of_length_le (by rw [rl_len]; exact Nat.le_refl _)]
  have := h.load (P := Tryz.prog) (n := n) il_len j x hx 1 20 (rl x.route) e (by omega) hn
  rw [← hk] at this
  exact this
theorem drop_len {is : List Rt} (p : Px) : (dropS is p).1.length ≤ is.length := by
  unfold dropS
  split
  · show (cutP is p).length ≤ is.length
    unfold cutP
    simp
    omega
  · exact Nat.le_refl _
theorem Cells.ick {w : World} {g o cap k : Nat} {l : List Ic} (h : Cells il w (.slice (some ⟨g, o, none⟩) l.length cap) l) (hk : k = 21) (j : Nat) (x : Ic) (hx : l[j]? = some x) : w.cell? ⟨g, o + j * k, none⟩ = some (.int .i64 x.kind) := by
  have := h.cell il_len j x hx 0 (by omega) _ rfl
  rw [hk]
  simpa using this

set_option maxRecDepth 100000 in
set_option maxHeartbeats 8000000 in
/-- Behind the first two loops' beginning: a list of changes that may be, looked through. -/
theorem qmerge8 (a : Option Addr) (acap NA : Nat) (la : List Ic) (b : Option Addr) (bcap NB : Nat) (lb : List Ic) (w : World) (hA : ArgN il w a acap la) (hB : ArgN il w b bcap lb) (hNA : la.length = NA) (hNB : lb.length = NB) (hl : NA + NB ≤ 190) :
    Calls Tryz.prog 19 #[.slice a NA acap, .slice b NB bcap] w (QmPost w (mg (la ++ lb))) := by
  obtain ⟨R, hR⟩ : ∃ R, mg (la ++ lb) = R := ⟨_, rfl⟩
  rw [hR]
  have HR := Lib.hid hR
  have HA := Lib.hid hA
  have HB := Lib.hid hB
  have HNA := Lib.hid hNA
  have HNB := Lib.hid hNB
  have HSI := Lib.hid slice_noI
  obtain ⟨hz, hi⟩ := zero_of_info info24b
  obtain ⟨n, hn⟩ : ∃ n, n = 21 := ⟨21, rfl⟩
  have hsz : ∀ w, (Go.sizeOf 59).run Tryz.prog w = .ok n w := fun w => by rw [hn]; exact Tryz.sizeOf59 w
  have hn0 : ¬ n = 0 := by omega
  obtain ⟨n2, hn2⟩ : ∃ n, n = 18 := ⟨18, rfl⟩
  have hsz2 : ∀ w, (Go.sizeOf 54).run Tryz.prog w = .ok n2 w := fun w => by rw [hn2]; exact Tryz.sizeOf54 w
  have hn20 : ¬ n2 = 0 := by omega
  obtain ⟨n3, hn3⟩ : ∃ n, n = 20 := ⟨20, rfl⟩
  have hsz3 : ∀ w, (Go.sizeOf 57).run Tryz.prog w = .ok n3 w := fun w => by rw [hn3]; exact Tryz.sizeOf57 w
  have hn30 : ¬ n3 = 0 := by omega
  have hpz : (pc zeroP).size = n2 := by rw [hn2]; exact pc_size zeroP rfl
  have HPN := Lib.hid (fun (p : Px) (hp : L16 p) => show (pc p).size = n2 from by rw [hn2]; exact pc_size p hp)
  have HN := Lib.hid hn
  have HN2 := Lib.hid hn2
  have HN3 := Lib.hid hn3
  clear hR hA hB hNA hNB hn hn2 hn3
  have HAa := Lib.hid (HA.out.keep ((Keep.refl w).alloc (.cells #[] 59)))
  have HOa := Lib.hid (Own.made (t := 59) (k := 21) (enc := il) w.heap.size w (Nat.le_refl _))
  go_enter Tryz.func19, Tryz.ntmps19
  go_wp2_with (first | ((with_reducible refine at_slice [] ?_ (.slice (some ⟨w.heap.size, 0, none⟩) 0 0) (HSI.out w) ?_); rfl) | (at_builtin; refine wp_appN elI rfl _ _ rfl w.heap.size _ a NA acap [] la rfl HNA.out rfl HOa.out HAa.out ?s1 ?s2 ?s3 ?_))
  case s1 => rw [HNA.out]; simp; omega
  case s2 => rw [HNA.out]; simp; omega
  case s3 => simp
  intro v1 w1 o1 g1
  have HO1 := Lib.hid (show Own 59 21 il w.heap.size w1 v1 la from by simpa using o1)
  have HK1 := Lib.hid (HOa.out.grown ((Keep.refl w).alloc _) (Nat.le_refl _) g1)
  have HB1 := Lib.hid (HB.out.keep HK1.out)
  have hsz1 : w.heap.size ≤ w1.heap.size := HK1.out.size
  clear o1 g1 HAa HOa
  go_wp2_with (at_builtin; refine wp_appN elI rfl _ _ rfl w.heap.size _ b NB bcap la lb rfl HNB.out rfl HO1.out HB1.out ?t1 ?t2 ?t3 ?_)
  case t1 => rw [HNB.out, HNA.out]; omega
  case t2 => rw [HNB.out, HNA.out]; omega
  case t3 => exact hsz1
  intro v2 w2 o2 g2
  have HK2 := Lib.hid (show Keep w w2 from HO1.out.grown HK1.out (Nat.le_refl _) g2)
  have hcl := (o2.row elI).cells
  have HLn := Lib.hid (show (la ++ lb).length = NA + NB from by rw [List.length_append, HNA.out, HNB.out])
  generalize la ++ lb = l at *
  obtain ⟨al, acp, ev, _, _⟩ := hcl.form
  obtain ⟨N, hN⟩ : ∃ N, l.length = N := ⟨_, rfl⟩
  have HLN := Lib.hid hN
  have hN190 : N ≤ 190 := by rw [← hN, HLn.out]; exact hl
  rw [hN] at ev
  have HC := Lib.hid hcl
  subst ev
  clear o2 g2 hsz1 HO1 HB1 HK1 hcl hN HLn hl
  go_wp2
  go_loopw [9] (fun i wr => ArRel w2 l i wr) (fun i _ => N - (intOf i).toNat)
  case atStart => exact ⟨0, rfl, Nat.zero_le _, by simp, Keep.refl _⟩
  case round =>
    obtain ⟨k, rfl, hk1, hk2, hk⟩ := hrel
    rw [HLN.out] at hk1
    have HK := Lib.hid hk
    have HT := Lib.hid hk2
    clear hk hk2
    by_cases hlt : k < N
    · obtain ⟨g, o, cap', e, _, _, _⟩ := HC.out.ptr k (by rw [HLN.out]; exact hlt)
      rw [HLN.out] at e
      simp at e
      obtain ⟨rfl, rfl⟩ := e
      obtain ⟨x, hx⟩ : ∃ x, l[k]? = some x := ⟨_, List.getElem?_eq_getElem (by rw [HLN.out]; exact hlt)⟩
      have dx := Cells.ic (show Cells il wr (.slice (some ⟨g, o, none⟩) l.length acp) l from by rw [HLN.out]; exact HC.out.keep HK.out) HN.out k x hx
      have HM := Lib.hid (qmay x)
      have HX := Lib.hid hx
      clear hx
      by_cases hxr : rightI x
      · rw [decide_eq_true hxr] at HM
        have HXR := Lib.hid hxr
        clear hxr
        go_wp2_with fail
        refine (HM.out _).mono ?_
        rintro e wa ⟨rfl, b1⟩
        have HK1 := Lib.hid (HK.out.trans b1)
        clear b1 dx
        go_wp2
        go_roundw
        case rel =>
          refine ⟨k + 1, by go_num, by rw [HLN.out]; omega, ?_, HK1.out⟩
          intro y hy
          rw [List.take_add_one, HX.out] at hy
          rcases List.mem_append.1 hy with hy | hy
          · exact HT.out y hy
          · simp at hy; rw [hy]; exact HXR.out
        case measure => simp [intOf]; omega
      · rw [decide_eq_false hxr] at HM
        have HRE := Lib.hid (show R = none from by rw [← HR.out]; unfold mg; rw [if_neg fun e => hxr (e x (List.mem_of_getElem? HX.out))])
        clear hxr
        go_wp2_with fail
        refine (HM.out _).mono ?_
        rintro e wa ⟨rfl, b1⟩
        have HK1 := Lib.hid ((HK2.out.trans HK.out).trans b1)
        clear b1 dx
        go_wp2
        go_ret2
        rw [HRE.out]
        exact ⟨HK1.out, rfl⟩
    · have hall : ∀ i ∈ l, rightI i := by
        have := HT.out
        rwa [List.take_of_length_le (by rw [HLN.out]; omega)] at this
      have HAl := Lib.hid hall
      have HST := Lib.hid (show storS [] l = R from by rw [← HR.out]; unfold mg; rw [if_pos hall])
      have HC3 := Lib.hid (HC.out.keep HK.out)
      have HK3 := Lib.hid (HK2.out.trans HK.out)
      clear hall HT HR HC HK HK2
      go_wp2
      obtain ⟨w5, hw5⟩ : ∃ w5, w5 = wr := ⟨_, rfl⟩
      subst hw5
      go_loopw [7, 8, 10] (fun wv iv kv wq => QmRel w5 l R wv iv kv wq) (fun _ _ kv _ => N - (intOf kv).toNat)
      case atStart => exact ⟨0, [], [], [], rfl, Nat.zero_le _, HST.out.symm, Q2.start l, by simp, Row.nil _ _, Row.nil _ _, Keep.refl _⟩
      case round =>
        obtain ⟨k, W, was, is, rfl, hk1, hRe, hq, hWk, hrw, hri, hkp⟩ := hrel
        rw [HLN.out] at hk1
        by_cases hlt : k < N
        · obtain ⟨g, o, cap', e, _, _, _⟩ := HC3.out.ptr k (by rw [HLN.out]; exact hlt)
          rw [HLN.out] at e
          simp at e
          obtain ⟨rfl, rfl⟩ := e
          obtain ⟨x, hx⟩ : ∃ x, l[k]? = some x := ⟨_, List.getElem?_eq_getElem (by rw [HLN.out]; exact hlt)⟩
          have hLs := qlast _ l k x wr (HC3.out.keep hkp) (by rw [HLN.out]; omega) hx
          rw [drop_cons' hx, storS] at hRe
          have HX := Lib.hid hx
          have HRe := Lib.hid hRe
          have HQ := Lib.hid hq
          have HRw := Lib.hid hrw
          have HRi := Lib.hid hri
          have HKp := Lib.hid hkp
          have HLs := Lib.hid hLs
          obtain ⟨kd, hkd⟩ : ∃ kd, x.kind = kd := ⟨_, rfl⟩
          have HKD := Lib.hid hkd
          clear hx hRe hq hrw hri hkp hLs hkd
          go_wp2_with fail
          refine HLs.out.mono ?_
          rintro e wa ⟨z, rfl, hz, ka⟩
          have HRwa := Lib.hid (HRw.out.keep ka)
          have HRia := Lib.hid (HRi.out.keep ka)
          have HKa := Lib.hid (HKp.out.trans ka)
          have HCa := Lib.hid (show Cells il wa (.slice (some ⟨g, o, none⟩) l.length acp) l from by rw [HLN.out]; exact HC3.out.keep HKa.out)
          have hfnd := HQ.out.find hz
          clear hz ka HRw HRi HKp HLs
          rcases hfnd with ⟨rfl, hf⟩ | ⟨j, s, rfl, hj, hjl, hf⟩
          · have HWno := Lib.hid (was_no HQ.out hf)
            obtain ⟨W', hW'⟩ : ∃ W', stepS W x = some W' := by unfold stepS; rw [hf]; exact ⟨_, rfl⟩
            have HR2 := Lib.hid (show R = storS W' (l.drop (k + 1)) from by rw [HRe.out, hW'])
            have HQ2 := Lib.hid (HQ.out.step HX.out hW')
            have hWl : W'.length ≤ k + 1 := by have := (stepS_keys HQ.out.keys hW').2; omega
            go_wp2_with fail
            refine wp_region_keep (Keep.refl _) (by kernel_rfl) (by kernel_rfl) ?_
            repeat (first | go_big_quiet_step (fail) | quiet_step (fail))
            refine wpQuiet_nil ?_
            rintro w6 ⟨⟨w7, b7⟩, hw6⟩
            obtain rfl : w7 = w6 := hw6.symm
            clear hw6
            have HRw4 := Lib.hid (HRwa.out.keep b7)
            have HRi4 := Lib.hid (HRia.out.keep b7)
            have HK4 := Lib.hid (HKa.out.trans b7)
            clear b7 HRwa HRia HKa
            by_cases e1 : kd = 1
            · have h1b : (kd != 1) = false := by simpa using e1
              have h3b : (kd != 3) = true := by simp; omega
              have HWN := Lib.hid (show wasN W was x = was from by unfold wasN; rw [if_neg (fun e => e.2 (by rw [HKD.out, e1]))])
              have HIN := Lib.hid (show isN is x = putL (dropS is x.route.to).1 x.route from by unfold isN; rw [if_neg (by rw [HKD.out]; omega)])
              clear hf hW' e1
              have HC4 := Lib.hid (show Cells il w7 (.slice (some ⟨g, o, none⟩) l.length acp) l from by rw [HLN.out]; exact HC3.out.keep HK4.out)
              have dto := HC4.out.icto HN2.out HN.out k x HX.out
              obtain ⟨hB, hSB⟩ := one_at w7 zeroP zeroP_len
              have hst := hB.store x.route.to x.route.ok
              have hpp := HPN.out x.route.to x.route.ok
              obtain ⟨wc, hwc⟩ : ∃ wc, (w7.alloc (.cells (pc zeroP) 54)).setRow w7.heap.size (pc x.route.to) = wc := ⟨_, rfl⟩
              have HBc := Lib.hid (show At wc w7.heap.size x.route.to from by rw [← hwc]; exact hB.put x.route.to x.route.ok)
              have hKc : Keep w7 wc := by rw [← hwc]; exact hSB.keep.setRow _ _ (Nat.le_refl _)
              rw [hwc] at hst
              have HCc := Lib.hid (HC4.out.keep hKc)
              have HRwc := Lib.hid (HRw4.out.keep hKc)
              have HRic := Lib.hid (HRi4.out.keep hKc)
              have HKc := Lib.hid (HK4.out.trans hKc)
              have ckc := HCc.out.ick HN.out k x HX.out
              have ldc := HBc.out.whole HN2.out
              rw [HKD.out] at ckc
              have hsx := hwc
              clear hB hSB hwc hKc HRw4 HRi4 HC4

              have HDp := Lib.hid (qdrop8 _ is x.route.to x.route.ok wc HRic.out HQ.out.sis (by have := HQ.out.fewI; omega))
              go_wp2_with fail
              refine HDp.out.mono ?_

              rintro e wf ⟨vi, rfl, ri', kf⟩
              have HRwf := Lib.hid (HRwc.out.keep kf)
              have HRif := Lib.hid ri'
              have HCf := Lib.hid (HCc.out.keep kf)
              have HKf := Lib.hid (HKc.out.trans kf)
              have ckf := HCf.out.ick HN.out k x HX.out
              rw [HKD.out] at ckf
              have drt := HCf.out.icr HN3.out HN.out k x HX.out

              have HPi := Lib.hid (qput8 _ _ x.route wf HRif.out (drop_sorted HQ.out.sis _) (by have := HQ.out.fewI; have := drop_len (is := is) x.route.to; omega) (drop_has HQ.out.sis _))
              clear ri' kf
              go_wp2_with fail
              refine HPi.out.mono ?_
              rintro e wg ⟨vj, rfl, rj, kg⟩
              have HRwg := Lib.hid (HRwf.out.keep kg)
              have HRig := Lib.hid rj
              have HKg := Lib.hid (HKf.out.trans kg)
              clear rj kg ckf drt HRwf HRif HCf HKf

              go_wp2
              go_roundw
              case rel => exact ⟨k + 1, W', _, _, by go_num, by rw [HLN.out]; omega, HR2.out, HQ2.out, by omega, by rw [HWN.out]; exact HRwg.out, by rw [HIN.out]; exact HRig.out, HKg.out⟩
              case measure => simp [intOf]; omega
            · have h1b : (kd != 1) = true := by simpa using e1
              have HWN := Lib.hid (show wasN W was x = putL was (Go.Proofs.YtgkgpdlakamgiaaGreat.wd x.route) from by unfold wasN; rw [if_pos ⟨hf, by rw [HKD.out]; exact e1⟩])
              by_cases e3 : kd = 3
              · have h3b : (kd != 3) = false := by simpa using e3
                have HIN := Lib.hid (show isN is x = (dropS is x.route.to).1 from by unfold isN; rw [if_pos (by rw [HKD.out]; exact e3)])
                clear hf hW' e1 e3
                have HC4 := Lib.hid (show Cells il w7 (.slice (some ⟨g, o, none⟩) l.length acp) l from by rw [HLN.out]; exact HC3.out.keep HK4.out)
                have dto := HC4.out.icto HN2.out HN.out k x HX.out
                obtain ⟨hB, hSB⟩ := one_at w7 zeroP zeroP_len
                have hst := hB.store x.route.to x.route.ok
                have hpp := HPN.out x.route.to x.route.ok
                obtain ⟨wc, hwc⟩ : ∃ wc, (w7.alloc (.cells (pc zeroP) 54)).setRow w7.heap.size (pc x.route.to) = wc := ⟨_, rfl⟩
                have HBc := Lib.hid (show At wc w7.heap.size x.route.to from by rw [← hwc]; exact hB.put x.route.to x.route.ok)
                have hKc : Keep w7 wc := by rw [← hwc]; exact hSB.keep.setRow _ _ (Nat.le_refl _)
                rw [hwc] at hst
                have HCc := Lib.hid (HC4.out.keep hKc)
                have HRwc := Lib.hid (HRw4.out.keep hKc)
                have HRic := Lib.hid (HRi4.out.keep hKc)
                have HKc := Lib.hid (HK4.out.trans hKc)
                have ckc := HCc.out.ick HN.out k x HX.out
                have ldc := HBc.out.whole HN2.out
                rw [HKD.out] at ckc
                have hsx := hwc
                clear hB hSB hwc hKc HRw4 HRi4 HC4

                have HBT := Lib.hid (fun w => build_to x.route.to x.route.ok w)
                rw [show (⟨x.route.to, 0, 0, x.route.ok⟩ : Rt) = Go.Proofs.YtgkgpdlakamgiaaGreat.wd x.route from rfl] at HBT
                have HPw := Lib.hid (qput8 _ was (Go.Proofs.YtgkgpdlakamgiaaGreat.wd x.route) wc HRwc.out HQ.out.swas (by have := HQ.out.fewW; omega) HWno.out)
                generalize pc x.route.to = T at *
                generalize rc (Go.Proofs.YtgkgpdlakamgiaaGreat.wd x.route) = RW at *
                go_wp2_with ((with_reducible refine at_build (t := 57) [(0, .agg T)] ?_ (.agg RW) ?_ ?_); rfl; exact HBT.out _)
                refine HPw.out.mono ?_
                rintro e we ⟨vw, rfl, rw', ke⟩
                have HRwe := Lib.hid rw'
                have HRie := Lib.hid (HRic.out.keep ke)
                have HCe := Lib.hid (HCc.out.keep ke)
                have HBe := Lib.hid (show At we w7.heap.size x.route.to from ⟨ke.obj HBc.out.block, x.route.ok⟩)
                have HKe := Lib.hid (HKc.out.trans ke)
                have lde := HBe.out.whole HN2.out
                have HDp := Lib.hid (qdrop8 _ is x.route.to x.route.ok we HRie.out HQ.out.sis (by have := HQ.out.fewI; omega))
                clear rw' ke HRwc HRic HCc HBc HKc ckc ldc hst dto hsx HPw HBT
                go_wp2_with fail
                refine HDp.out.mono ?_

                rintro e wf ⟨vi, rfl, ri', kf⟩
                have HRwf := Lib.hid (HRwe.out.keep kf)
                have HRif := Lib.hid ri'
                have HCf := Lib.hid (HCe.out.keep kf)
                have HKf := Lib.hid (HKe.out.trans kf)
                have ckf := HCf.out.ick HN.out k x HX.out
                rw [HKD.out] at ckf
                have drt := HCf.out.icr HN3.out HN.out k x HX.out

                clear ri' kf drt

                go_wp2
                go_roundw
                case rel => exact ⟨k + 1, W', _, _, by go_num, by rw [HLN.out]; omega, HR2.out, HQ2.out, by omega, by rw [HWN.out]; exact HRwf.out, by rw [HIN.out]; exact HRif.out, HKf.out⟩
                case measure => simp [intOf]; omega
              · have h3b : (kd != 3) = true := by simpa using e3
                have HIN := Lib.hid (show isN is x = putL (dropS is x.route.to).1 x.route from by unfold isN; rw [if_neg (by rw [HKD.out]; exact e3)])
                clear hf hW' e1 e3
                have HC4 := Lib.hid (show Cells il w7 (.slice (some ⟨g, o, none⟩) l.length acp) l from by rw [HLN.out]; exact HC3.out.keep HK4.out)
                have dto := HC4.out.icto HN2.out HN.out k x HX.out
                obtain ⟨hB, hSB⟩ := one_at w7 zeroP zeroP_len
                have hst := hB.store x.route.to x.route.ok
                have hpp := HPN.out x.route.to x.route.ok
                obtain ⟨wc, hwc⟩ : ∃ wc, (w7.alloc (.cells (pc zeroP) 54)).setRow w7.heap.size (pc x.route.to) = wc := ⟨_, rfl⟩
                have HBc := Lib.hid (show At wc w7.heap.size x.route.to from by rw [← hwc]; exact hB.put x.route.to x.route.ok)
                have hKc : Keep w7 wc := by rw [← hwc]; exact hSB.keep.setRow _ _ (Nat.le_refl _)
                rw [hwc] at hst
                have HCc := Lib.hid (HC4.out.keep hKc)
                have HRwc := Lib.hid (HRw4.out.keep hKc)
                have HRic := Lib.hid (HRi4.out.keep hKc)
                have HKc := Lib.hid (HK4.out.trans hKc)
                have ckc := HCc.out.ick HN.out k x HX.out
                have ldc := HBc.out.whole HN2.out
                rw [HKD.out] at ckc
                have hsx := hwc
                clear hB hSB hwc hKc HRw4 HRi4 HC4

                have HBT := Lib.hid (fun w => build_to x.route.to x.route.ok w)
                rw [show (⟨x.route.to, 0, 0, x.route.ok⟩ : Rt) = Go.Proofs.YtgkgpdlakamgiaaGreat.wd x.route from rfl] at HBT
                have HPw := Lib.hid (qput8 _ was (Go.Proofs.YtgkgpdlakamgiaaGreat.wd x.route) wc HRwc.out HQ.out.swas (by have := HQ.out.fewW; omega) HWno.out)
                generalize pc x.route.to = T at *
                generalize rc (Go.Proofs.YtgkgpdlakamgiaaGreat.wd x.route) = RW at *
                go_wp2_with ((with_reducible refine at_build (t := 57) [(0, .agg T)] ?_ (.agg RW) ?_ ?_); rfl; exact HBT.out _)
                refine HPw.out.mono ?_
                rintro e we ⟨vw, rfl, rw', ke⟩
                have HRwe := Lib.hid rw'
                have HRie := Lib.hid (HRic.out.keep ke)
                have HCe := Lib.hid (HCc.out.keep ke)
                have HBe := Lib.hid (show At we w7.heap.size x.route.to from ⟨ke.obj HBc.out.block, x.route.ok⟩)
                have HKe := Lib.hid (HKc.out.trans ke)
                have lde := HBe.out.whole HN2.out
                have HDp := Lib.hid (qdrop8 _ is x.route.to x.route.ok we HRie.out HQ.out.sis (by have := HQ.out.fewI; omega))
                clear rw' ke HRwc HRic HCc HBc HKc ckc ldc hst dto hsx HPw HBT
                go_wp2_with fail
                refine HDp.out.mono ?_

                rintro e wf ⟨vi, rfl, ri', kf⟩
                have HRwf := Lib.hid (HRwe.out.keep kf)
                have HRif := Lib.hid ri'
                have HCf := Lib.hid (HCe.out.keep kf)
                have HKf := Lib.hid (HKe.out.trans kf)
                have ckf := HCf.out.ick HN.out k x HX.out
                rw [HKD.out] at ckf
                have drt := HCf.out.icr HN3.out HN.out k x HX.out

                have HPi := Lib.hid (qput8 _ _ x.route wf HRif.out (drop_sorted HQ.out.sis _) (by have := HQ.out.fewI; have := drop_len (is := is) x.route.to; omega) (drop_has HQ.out.sis _))
                clear ri' kf
                go_wp2_with fail
                refine HPi.out.mono ?_
                rintro e wg ⟨vj, rfl, rj, kg⟩
                have HRwg := Lib.hid (HRwf.out.keep kg)
                have HRig := Lib.hid rj
                have HKg := Lib.hid (HKf.out.trans kg)
                clear rj kg ckf drt HRwf HRif HCf HKf

                go_wp2
                go_roundw
                case rel => exact ⟨k + 1, W', _, _, by go_num, by rw [HLN.out]; omega, HR2.out, HQ2.out, by omega, by rw [HWN.out]; exact HRwg.out, by rw [HIN.out]; exact HRig.out, HKg.out⟩
                case measure => simp [intOf]; omega
          · have hjN : j < N := by omega
            have hjp : (j : Int) ≥ 0 := by omega
            have hjn : ¬ ((j : Int) < 0) := by omega
            obtain ⟨ks, hks⟩ : ∃ ks, s.last.kind = ks := ⟨_, rfl⟩
            have HKS := Lib.hid hks
            have c1 : ∀ u : KW wa, u.1.cell? ⟨g, o + j * n, none⟩ = some (.int .i64 ks) := fun u => by rw [← HKS.out]; exact (HCa.out.keep u.2).ick HN.out j s.last hjl
            have c2 : ∀ u : KW wa, u.1.cell? ⟨g, o + k * n, none⟩ = some (.int .i64 kd) := fun u => by rw [← HKD.out]; exact (HCa.out.keep u.2).ick HN.out k x HX.out
            have HWN := Lib.hid (show wasN W was x = was from by unfold wasN; rw [if_neg (fun e => by rw [hf] at e; simp at e)])
            have hiff : s.is = decide (x.kind ≠ 1) ↔ (ks == 3) = (kd == 1) := by
              unfold Sy.is
              rw [hks, HKD.out]
              by_cases q1 : ks = 3 <;> by_cases q2 : kd = 1 <;> simp [q1, q2]
              rw [beq_eq_false_iff_ne.2 q1, beq_eq_false_iff_ne.2 q2]
            by_cases hfol : (ks == 3) = (kd == 1)
            · have hcm : (!((ks == 3) == (kd == 1))) = false := by simp [hfol]
              obtain ⟨W', hW'⟩ : ∃ W', stepS W x = some W' := by unfold stepS; rw [hf]; simp only; rw [if_pos (hiff.2 hfol)]; exact ⟨_, rfl⟩
              have HR2 := Lib.hid (show R = storS W' (l.drop (k + 1)) from by rw [HRe.out, hW'])
              have HQ2 := Lib.hid (HQ.out.step HX.out hW')
              have hWl : W'.length ≤ k + 1 := by have := (stepS_keys HQ.out.keys hW').2; omega
              clear hiff hfol hf hjl hks hW'
              go_wp2_with fail
              refine wp_region_keep (Keep.refl _) (by kernel_rfl) (by kernel_rfl) ?_
              repeat (first | go_big_quiet_step (fail) | quiet_step (fail))
              refine wpQuiet_nil ?_
              rintro w6 ⟨⟨w7, b7⟩, hw6⟩
              obtain rfl : w7 = w6 := hw6.symm
              clear hw6
              have HRw4 := Lib.hid (HRwa.out.keep b7)
              have HRi4 := Lib.hid (HRia.out.keep b7)
              have HK4 := Lib.hid (HKa.out.trans b7)
              clear b7 HRwa HRia HKa
              clear c1 c2 hcm
              by_cases e3 : kd = 3
              · have h3b : (kd != 3) = false := by simpa using e3
                have HIN := Lib.hid (show isN is x = (dropS is x.route.to).1 from by unfold isN; rw [if_pos (by rw [HKD.out]; exact e3)])
                clear e3
                have HC4 := Lib.hid (show Cells il w7 (.slice (some ⟨g, o, none⟩) l.length acp) l from by rw [HLN.out]; exact HC3.out.keep HK4.out)
                have dto := HC4.out.icto HN2.out HN.out k x HX.out
                obtain ⟨hB, hSB⟩ := one_at w7 zeroP zeroP_len
                have hst := hB.store x.route.to x.route.ok
                have hpp := HPN.out x.route.to x.route.ok
                obtain ⟨wc, hwc⟩ : ∃ wc, (w7.alloc (.cells (pc zeroP) 54)).setRow w7.heap.size (pc x.route.to) = wc := ⟨_, rfl⟩
                have HBc := Lib.hid (show At wc w7.heap.size x.route.to from by rw [← hwc]; exact hB.put x.route.to x.route.ok)
                have hKc : Keep w7 wc := by rw [← hwc]; exact hSB.keep.setRow _ _ (Nat.le_refl _)
                rw [hwc] at hst
                have HCc := Lib.hid (HC4.out.keep hKc)
                have HRwc := Lib.hid (HRw4.out.keep hKc)
                have HRic := Lib.hid (HRi4.out.keep hKc)
                have HKc := Lib.hid (HK4.out.trans hKc)
                have ckc := HCc.out.ick HN.out k x HX.out
                have ldc := HBc.out.whole HN2.out
                rw [HKD.out] at ckc
                have hsx := hwc
                clear hB hSB hwc hKc HRw4 HRi4 HC4

                have HDp := Lib.hid (qdrop8 _ is x.route.to x.route.ok wc HRic.out HQ.out.sis (by have := HQ.out.fewI; omega))
                go_wp2_with fail
                refine HDp.out.mono ?_

                rintro e wf ⟨vi, rfl, ri', kf⟩
                have HRwf := Lib.hid (HRwc.out.keep kf)
                have HRif := Lib.hid ri'
                have HCf := Lib.hid (HCc.out.keep kf)
                have HKf := Lib.hid (HKc.out.trans kf)
                have ckf := HCf.out.ick HN.out k x HX.out
                rw [HKD.out] at ckf
                have drt := HCf.out.icr HN3.out HN.out k x HX.out

                clear ri' kf drt

                go_wp2
                go_roundw
                case rel => exact ⟨k + 1, W', _, _, by go_num, by rw [HLN.out]; omega, HR2.out, HQ2.out, by omega, by rw [HWN.out]; exact HRwf.out, by rw [HIN.out]; exact HRif.out, HKf.out⟩
                case measure => simp [intOf]; omega
              · have h3b : (kd != 3) = true := by simpa using e3
                have HIN := Lib.hid (show isN is x = putL (dropS is x.route.to).1 x.route from by unfold isN; rw [if_neg (by rw [HKD.out]; exact e3)])
                clear e3
                have HC4 := Lib.hid (show Cells il w7 (.slice (some ⟨g, o, none⟩) l.length acp) l from by rw [HLN.out]; exact HC3.out.keep HK4.out)
                have dto := HC4.out.icto HN2.out HN.out k x HX.out
                obtain ⟨hB, hSB⟩ := one_at w7 zeroP zeroP_len
                have hst := hB.store x.route.to x.route.ok
                have hpp := HPN.out x.route.to x.route.ok
                obtain ⟨wc, hwc⟩ : ∃ wc, (w7.alloc (.cells (pc zeroP) 54)).setRow w7.heap.size (pc x.route.to) = wc := ⟨_, rfl⟩
                have HBc := Lib.hid (show At wc w7.heap.size x.route.to from by rw [← hwc]; exact hB.put x.route.to x.route.ok)
                have hKc : Keep w7 wc := by rw [← hwc]; exact hSB.keep.setRow _ _ (Nat.le_refl _)
                rw [hwc] at hst
                have HCc := Lib.hid (HC4.out.keep hKc)
                have HRwc := Lib.hid (HRw4.out.keep hKc)
                have HRic := Lib.hid (HRi4.out.keep hKc)
                have HKc := Lib.hid (HK4.out.trans hKc)
                have ckc := HCc.out.ick HN.out k x HX.out
                have ldc := HBc.out.whole HN2.out
                rw [HKD.out] at ckc
                have hsx := hwc
                clear hB hSB hwc hKc HRw4 HRi4 HC4

                have HDp := Lib.hid (qdrop8 _ is x.route.to x.route.ok wc HRic.out HQ.out.sis (by have := HQ.out.fewI; omega))
                go_wp2_with fail
                refine HDp.out.mono ?_

                rintro e wf ⟨vi, rfl, ri', kf⟩
                have HRwf := Lib.hid (HRwc.out.keep kf)
                have HRif := Lib.hid ri'
                have HCf := Lib.hid (HCc.out.keep kf)
                have HKf := Lib.hid (HKc.out.trans kf)
                have ckf := HCf.out.ick HN.out k x HX.out
                rw [HKD.out] at ckf
                have drt := HCf.out.icr HN3.out HN.out k x HX.out

                have HPi := Lib.hid (qput8 _ _ x.route wf HRif.out (drop_sorted HQ.out.sis _) (by have := HQ.out.fewI; have := drop_len (is := is) x.route.to; omega) (drop_has HQ.out.sis _))
                clear ri' kf
                go_wp2_with fail
                refine HPi.out.mono ?_
                rintro e wg ⟨vj, rfl, rj, kg⟩
                have HRwg := Lib.hid (HRwf.out.keep kg)
                have HRig := Lib.hid rj
                have HKg := Lib.hid (HKf.out.trans kg)
                clear rj kg ckf drt HRwf HRif HCf HKf

                go_wp2
                go_roundw
                case rel => exact ⟨k + 1, W', _, _, by go_num, by rw [HLN.out]; omega, HR2.out, HQ2.out, by omega, by rw [HWN.out]; exact HRwg.out, by rw [HIN.out]; exact HRig.out, HKg.out⟩
                case measure => simp [intOf]; omega
            · have hcm : (!((ks == 3) == (kd == 1))) = true := by simpa using hfol
              have HRE := Lib.hid (show R = none from by rw [HRe.out]; unfold stepS; rw [hf]; simp only; rw [if_neg (fun e => hfol (hiff.1 e))])
              clear hiff hfol hf hjl hks
              go_wp2_with fail
              refine wp_region_keep (Keep.refl _) (by kernel_rfl) (by kernel_rfl) ?_
              repeat (first | go_big_quiet_step (fail) | quiet_step (fail))
              refine wpQuiet_nil ?_
              rintro w6 ⟨⟨w7, b7⟩, hw6⟩
              obtain rfl : w7 = w6 := hw6.symm
              clear hw6
              have HRw4 := Lib.hid (HRwa.out.keep b7)
              have HRi4 := Lib.hid (HRia.out.keep b7)
              have HK4 := Lib.hid (HKa.out.trans b7)
              clear b7 HRwa HRia HKa
              go_wp2
              go_ret2
              rw [HRE.out]
              exact ⟨HK3.out.trans HK4.out, rfl⟩
        · have hsome : R = some W := by rw [hRe, List.drop_of_length_le (by rw [HLN.out]; omega)]; rfl
          have HRS := Lib.hid hsome
          have HRT := Lib.hid (stor_right l [] W List.Pairwise.nil (by simp) HAl.out (by rw [HST.out, hsome]))
          have hW : W.length ≤ 190 := by omega
          obtain ⟨NW, hNW⟩ : ∃ NW, was.length = NW := ⟨_, rfl⟩
          obtain ⟨NI, hNI⟩ : ∃ NI, is.length = NI := ⟨_, rfl⟩
          have hNWl : NW ≤ 190 := by have := hq.fewW; omega
          have hNIl : NI ≤ 190 := by have := hq.fewI; omega
          obtain ⟨wad, wcp, ew, _, _⟩ := hrw.cells.form
          obtain ⟨iad, icp, ei, _, _⟩ := hri.cells.form
          rw [hNW] at ew
          rw [hNI] at ei
          subst ew
          subst ei
          have HQ := Lib.hid hq
          have HNW := Lib.hid hNW
          have HNI := Lib.hid hNI
          have HRw := Lib.hid hrw
          have HRi := Lib.hid hri
          have HKp := Lib.hid (HK3.out.trans hkp)
          have HRia := Lib.hid (hri.keep ((Keep.refl wr).alloc (.cells #[] 57)))
          have HOa := Lib.hid (Own.made (t := 57) (k := 20) (enc := rl) wr.heap.size wr (Nat.le_refl _))
          have HSN := Lib.hid slice_no
          clear hRe hq hrw hri hkp hsome hNW hNI HAl HST HC3 HK3
          go_wp2_with (first | ((with_reducible refine at_slice [] ?_ (.slice (some ⟨wr.heap.size, 0, none⟩) 0 0) (HSN.out wr) ?_); rfl) | (at_builtin; refine wp_app elR rfl _ _ rfl wr.heap.size _ _ [] is rfl rfl HOa.out HRia.out.cells ?s1 ?s2 ?s3 ?_))
          case s1 => rw [HNI.out]; simp; omega
          case s2 => rw [HNI.out]; simp; omega
          case s3 => simp
          intro v3 w3 o3 g3
          have HRa := Lib.hid (Own.row elR (show Own 57 20 rl wr.heap.size w3 v3 is from by simpa using o3))
          have hk3 := HOa.out.grown ((Keep.refl wr).alloc _) (Nat.le_refl _) g3
          have HK3 := Lib.hid (HKp.out.trans hk3)
          have HRw3 := Lib.hid (HRw.out.keep hk3)
          have HRi3 := Lib.hid (HRi.out.keep hk3)
          clear o3 g3 hk3 HOa HRia HRw HRi HKp
          go_wp2
          go_loopw [14, 15] (fun av kv wq => QaRel w3 was is av kv wq) (fun _ kv _ => NW - (intOf kv).toNat)
          case atStart => exact ⟨0, is, rfl, Nat.zero_le _, Q3.start HQ.out.sis, HRa.out, Keep.refl _⟩
          case round =>
            obtain ⟨i, A, rfl, hi1, q3, hra, hkq⟩ := hrel
            rw [HNW.out] at hi1
            have hA := Q3.few HQ.out q3
            have HQ3 := Lib.hid q3
            have HRA := Lib.hid hra
            have HKq := Lib.hid hkq
            clear q3 hra hkq
            by_cases hlt3 : i < NW
            · obtain ⟨g, o, cap', e, _, _, _⟩ := HRw3.out.cells.ptr i (by rw [HNW.out]; exact hlt3)
              rw [HNW.out] at e
              simp at e
              obtain ⟨rfl, rfl⟩ := e
              obtain ⟨x, hx⟩ : ∃ x, was[i]? = some x := ⟨_, List.getElem?_eq_getElem (by rw [HNW.out]; exact hlt3)⟩
              have dto := (show Cells rl wr (.slice (some ⟨g, o, none⟩) was.length wcp) was from by rw [HNW.out]; exact (HRw3.out.keep HKq.out).cells).to HN2.out HN3.out i x hx
              have HF := Lib.hid (find _ A x.to x.ok wr HRA.out.cells (by omega))
              have HX := Lib.hid hx
              have HHas := Lib.hid (HQ3.out.has HQ.out.swas hx)
              clear hx
              obtain ⟨XT, hXT⟩ : ∃ XT, pc x.to = XT := ⟨_, rfl⟩
              rw [hXT] at dto HF
              clear hXT
              go_wp2_with fail
              refine HF.out.mono ?_
              rintro e wa ⟨z, rfl, hf, b1⟩
              have HKa := Lib.hid (HKq.out.trans b1)
              have HRAa := Lib.hid (HRA.out.keep b1)
              clear b1 dto HF HRA HKq
              rcases hf with ⟨rfl, hh⟩ | ⟨j, y, rfl, hy, he⟩
              · have HP := Lib.hid (qput8 _ A x wa HRAa.out HQ3.out.sorted (by omega) hh)
                have HQn := Lib.hid (HQ3.out.no HQ.out.swas HX.out (by rw [← HHas.out]; exact hh))
                have drt := (show Cells rl wa (.slice (some ⟨g, o, none⟩) was.length wcp) was from by rw [HNW.out]; exact (HRw3.out.keep HKa.out).cells).rt HN3.out i x HX.out
                obtain ⟨RX, hRX⟩ : ∃ RX, rc x = RX := ⟨_, rfl⟩
                rw [hRX] at drt HP
                clear hRX hh
                go_wp2_with fail
                refine HP.out.mono ?_
                rintro e wb ⟨vb, rfl, rb, kb⟩
                have HRb := Lib.hid rb
                have HKb := Lib.hid (HKa.out.trans kb)
                clear rb kb drt
                go_wp2
                go_roundw
                case rel => exact ⟨i + 1, _, by go_num, by rw [HNW.out]; omega, HQn.out, HRb.out, HKb.out⟩
                case measure => simp [intOf]; omega
              · have hjn : ¬ ((j : Int) < 0) := by omega
                have HQn := Lib.hid (HQ3.out.yes HX.out (by rw [← HHas.out]; exact (find_rank HQ3.out.sorted x.ok hy he).1))
                clear hy he
                go_wp2
                go_roundw
                case rel => exact ⟨i + 1, _, by go_num, by rw [HNW.out]; omega, HQn.out, HRAa.out, HKa.out⟩
                case measure => simp [intOf]; omega
            · have hiw : i = was.length := by rw [HNW.out]; omega
              rw [hiw] at HQ3
              obtain ⟨NA', hNA'⟩ : ∃ n, A.length = n := ⟨_, rfl⟩
              have hNAl : NA' ≤ 190 := by omega
              obtain ⟨aad, acp', ea, _, _⟩ := HRA.out.cells.form
              rw [hNA'] at ea
              subst ea
              have HNA' := Lib.hid hNA'
              have HK8 := Lib.hid (HK3.out.trans HKq.out)
              have HRw8 := Lib.hid (HRw3.out.keep HKq.out)
              have HRi8 := Lib.hid (HRi3.out.keep HKq.out)
              clear hNA' hiw HK3 HRw3 HRi3 HKq HRa
              obtain ⟨w8, hw8⟩ : ∃ w8, w8 = wr := ⟨_, rfl⟩
              subst hw8
              go_wp2
              go_loopw [13, 16] (fun ov kv wq => QoRel w8 was is A ov kv wq) (fun _ kv _ => NA' - (intOf kv).toNat)
              case atStart => exact ⟨0, rfl, Nat.zero_le _, by rw [List.take_zero]; exact Own.nil _ _, Keep.refl _⟩
              case round =>
                obtain ⟨i4, rfl, hi4, ho, hkq⟩ := hrel
                rw [HNA'.out] at hi4
                by_cases hlt4 : i4 < NA'
                · have HO := Lib.hid ho
                  have HKq := Lib.hid hkq
                  clear ho hkq
                  obtain ⟨g, o, cap', e, _, _, _⟩ := HRA.out.cells.ptr i4 (by rw [HNA'.out]; exact hlt4)
                  rw [HNA'.out] at e
                  simp at e
                  obtain ⟨rfl, rfl⟩ := e
                  obtain ⟨x, hx⟩ : ∃ x, A[i4]? = some x := ⟨_, List.getElem?_eq_getElem (by rw [HNA'.out]; exact hlt4)⟩
                  have HX := Lib.hid hx
                  have dto := (show Cells rl wr (.slice (some ⟨g, o, none⟩) A.length acp') A from by rw [HNA'.out]; exact (HRA.out.keep HKq.out).cells).to HN2.out HN3.out i4 x hx
                  obtain ⟨hB, hSB⟩ := one_at wr zeroP zeroP_len
                  have hst := hB.store x.to x.ok
                  have hpp := HPN.out x.to x.ok
                  obtain ⟨wc, hwc⟩ : ∃ wc, (wr.alloc (.cells (pc zeroP) 54)).setRow wr.heap.size (pc x.to) = wc := ⟨_, rfl⟩
                  have HBc := Lib.hid (show At wc wr.heap.size x.to from by rw [← hwc]; exact hB.put x.to x.ok)
                  have hKc : Keep wr wc := by rw [← hwc]; exact hSB.keep.setRow _ _ (Nat.le_refl _)
                  rw [hwc] at hst
                  have HOc := Lib.hid (HO.out.keep hKc)
                  have HKc := Lib.hid (HKq.out.trans hKc)
                  have ldc := HBc.out.whole HN2.out
                  have HF := Lib.hid (find _ is x.to x.ok wc (HRi8.out.keep HKc.out).cells (by rw [HNI.out]; omega))
                  have hsx := hwc
                  clear hx hB hSB hwc hKc
                  obtain ⟨T, hT⟩ : ∃ T, pc x.to = T := ⟨_, rfl⟩
                  rw [hT] at dto hst hpp ldc HF hsx
                  have HT := Lib.hid hT
                  clear hT
                  go_wp2_with fail
                  refine HF.out.mono ?_
                  rintro e wa ⟨z, rfl, hf, b1⟩
                  have HOwa := Lib.hid (HOc.out.keep b1)
                  have HKwa := Lib.hid (HKc.out.trans b1)
                  have HBa := Lib.hid (show At wa wr.heap.size x.to from ⟨b1.obj HBc.out.block, x.ok⟩)
                  have lda := HBa.out.whole HN2.out
                  rw [HT.out] at lda
                  clear b1 dto hst ldc HF hsx HOc HKc HBc HO HKq
                  rcases hf with ⟨rfl, hh⟩ | ⟨j, y, rfl, hy, he⟩
                  · have HG := Lib.hid (show gC was is x = ⟨3, Go.Proofs.YtgkgpdlakamgiaaGreat.wd x⟩ from by unfold gC; rw [hh]; rfl)
                    have HBT := Lib.hid (fun w => build_to x.to x.ok w)
                    rw [show (⟨x.to, 0, 0, x.ok⟩ : Rt) = Go.Proofs.YtgkgpdlakamgiaaGreat.wd x from rfl] at HBT
                    have HBI := Lib.hid (fun w => build_inc 3 (Go.Proofs.YtgkgpdlakamgiaaGreat.wd x) w)
                    simp only [HT.out] at HBT
                    clear hh
                    have HS1 := Lib.hid (slice_inc ⟨3, Go.Proofs.YtgkgpdlakamgiaaGreat.wd x⟩)
                    have HR1 := Lib.hid (fun w => Row.inc w ⟨3, Go.Proofs.YtgkgpdlakamgiaaGreat.wd x⟩)
                    have HKX := Lib.hid (show Keep wa (wa.alloc (.cells (ic ⟨3, Go.Proofs.YtgkgpdlakamgiaaGreat.wd x⟩) 59)) from (Keep.refl _).alloc _)
                    have HOX := Lib.hid (HOwa.out.keep HKX.out)
                    have HKXW := Lib.hid (HKwa.out.trans HKX.out)
                    have hbx : w8.heap.size ≤ (wa.alloc (.cells (ic ⟨3, Go.Proofs.YtgkgpdlakamgiaaGreat.wd x⟩) 59)).heap.size := HKXW.out.size
                    obtain ⟨XX, hXX⟩ : ∃ X, ic ⟨3, Go.Proofs.YtgkgpdlakamgiaaGreat.wd x⟩ = X := ⟨_, rfl⟩
                    simp only [hXX] at HS1 HR1 HBI HKX HOX HKXW hbx
                    clear hXX

                    obtain ⟨RW, hRW⟩ : ∃ RW, rc (Go.Proofs.YtgkgpdlakamgiaaGreat.wd x) = RW := ⟨_, rfl⟩
                    simp only [hRW] at HBT HBI
                    clear hRW
                    go_wp2_with (first | ((with_reducible refine at_build (t := 57) [(0, .agg T)] ?_ (.agg RW) ?_ ?_); rfl; exact HBT.out _) | ((with_reducible refine at_build (t := 59) [(0, .int .i64 3), (1, .agg RW)] ?_ (.agg XX) ?_ ?_); rfl; exact HBI.out _) | ((with_reducible refine at_slice [(0, .agg XX)] ?_ _ (HS1.out _) ?_); rfl) | (at_builtin; refine wp_app elI rfl _ _ rfl w8.heap.size _ _ _ [⟨3, Go.Proofs.YtgkgpdlakamgiaaGreat.wd x⟩] rfl rfl HOX.out (HR1.out wa).cells ?u1 ?u2 ?u3 ?_))
                    case u1 => rw [List.length_map, List.length_take]; simp; omega
                    case u2 => rw [List.length_map, List.length_take]; simp; omega
                    case u3 => exact hbx
                    intro v9 w9 k1 k2
                    have HK9 := Lib.hid (HOX.out.grown HKXW.out (Nat.le_refl _) k2)
                    have HO9 := Lib.hid k1
                    clear k1 k2 hbx
                    go_wp2
                    go_roundw
                    case rel => exact ⟨i4 + 1, by go_num, by rw [HNA'.out]; omega, by rw [List.take_add_one, HX.out, Option.toList_some, List.map_append, List.map_singleton, HG.out, List.map_take]; exact HO9.out, HK9.out⟩
                    case measure => simp [intOf]; omega

                  · have hjn : ¬ ((j : Int) < 0) := by omega
                    obtain ⟨hhI, hrkI⟩ := find_rank HQ.out.sis x.ok hy he
                    have hxy : y = x := by
                      rcases (HQ3.out.mem x).1 (List.mem_of_getElem? HX.out) with e | ⟨_, e⟩
                      · obtain ⟨j2, hj2⟩ := List.mem_iff_getElem?.1 e
                        have := (find_rank HQ.out.sis x.ok hj2 rfl).2
                        rw [hrkI] at this
                        rw [← this, hy] at hj2
                        simpa using hj2
                      · rw [hhI] at e; cases e
                    subst hxy
                    have hjI : j < NI := by rw [← HNI.out]; exact (List.getElem?_eq_some_iff.1 hy).1
                    have HY := Lib.hid hy
                    have HHI := Lib.hid hhI
                    have HF2 := Lib.hid (find _ was y.to y.ok wa (HRw8.out.keep HKwa.out).cells (by rw [HNW.out]; omega))
                    rw [HT.out] at HF2
                    obtain ⟨gi, oi, capi, ei, _, _, _⟩ := HRi8.out.cells.ptr j (by rw [HNI.out]; exact hjI)
                    rw [HNI.out] at ei
                    simp at ei
                    obtain ⟨rfl, rfl⟩ := ei
                    clear hhI hrkI hy he
                    go_wp2_with fail
                    refine HF2.out.mono ?_
                    rintro e wb ⟨z, rfl, hf, b2⟩
                    have HOwb := Lib.hid (HOwa.out.keep b2)
                    have HKwb := Lib.hid (HKwa.out.trans b2)
                    have drt := (show Cells rl wb (.slice (some ⟨gi, oi, none⟩) is.length icp) is from by rw [HNI.out]; exact (HRi8.out.keep HKwb.out).cells).rt HN3.out j y HY.out
                    clear b2 lda HF2 HOwa HKwa
                    rcases hf with ⟨rfl, hh⟩ | ⟨j3, y3, rfl, hy3, he3⟩

                    · have hhw := hh
                      have HG := Lib.hid (show gC was is y = ⟨1, y⟩ from by unfold gC; rw [HHI.out, hhw]; rfl)
                      have HBI := Lib.hid (fun w => build_inc 1 y w)
                      clear hh hhw
                      have HS1 := Lib.hid (slice_inc ⟨1, y⟩)
                      have HR1 := Lib.hid (fun w => Row.inc w ⟨1, y⟩)
                      have HKX := Lib.hid (show Keep wb (wb.alloc (.cells (ic ⟨1, y⟩) 59)) from (Keep.refl _).alloc _)
                      have HOX := Lib.hid (HOwb.out.keep HKX.out)
                      have HKXW := Lib.hid (HKwb.out.trans HKX.out)
                      have hbx : w8.heap.size ≤ (wb.alloc (.cells (ic ⟨1, y⟩) 59)).heap.size := HKXW.out.size
                      obtain ⟨XX, hXX⟩ : ∃ X, ic ⟨1, y⟩ = X := ⟨_, rfl⟩
                      simp only [hXX] at HS1 HR1 HBI HKX HOX HKXW hbx
                      clear hXX

                      obtain ⟨RY, hRY⟩ : ∃ RY, rc y = RY := ⟨_, rfl⟩
                      simp only [hRY] at HBI drt
                      clear hRY
                      go_wp2_with (first | ((with_reducible refine at_build (t := 59) [(0, .int .i64 1), (1, .agg RY)] ?_ (.agg XX) ?_ ?_); rfl; exact HBI.out _) | ((with_reducible refine at_slice [(0, .agg XX)] ?_ _ (HS1.out _) ?_); rfl) | (at_builtin; refine wp_app elI rfl _ _ rfl w8.heap.size _ _ _ [⟨1, y⟩] rfl rfl HOX.out (HR1.out wb).cells ?u1 ?u2 ?u3 ?_))
                      case u1 => rw [List.length_map, List.length_take]; simp; omega
                      case u2 => rw [List.length_map, List.length_take]; simp; omega
                      case u3 => exact hbx
                      intro v9 w9 k1 k2
                      have HK9 := Lib.hid (HOX.out.grown HKXW.out (Nat.le_refl _) k2)
                      have HO9 := Lib.hid k1
                      clear k1 k2 hbx
                      go_wp2
                      go_roundw
                      case rel => exact ⟨i4 + 1, by go_num, by rw [HNA'.out]; omega, by rw [List.take_add_one, HX.out, Option.toList_some, List.map_append, List.map_singleton, HG.out, List.map_take]; exact HO9.out, HK9.out⟩
                      case measure => simp [intOf]; omega

                    · have hj3 : ((j3 : Int) ≥ 0) := by omega
                      have hhw := (find_rank HQ.out.swas y.ok hy3 he3).1
                      have HG := Lib.hid (show gC was is y = ⟨2, y⟩ from by unfold gC; rw [HHI.out, hhw]; rfl)
                      have HBI := Lib.hid (fun w => build_inc 2 y w)
                      clear hy3 he3 hhw
                      have HS1 := Lib.hid (slice_inc ⟨2, y⟩)
                      have HR1 := Lib.hid (fun w => Row.inc w ⟨2, y⟩)
                      have HKX := Lib.hid (show Keep wb (wb.alloc (.cells (ic ⟨2, y⟩) 59)) from (Keep.refl _).alloc _)
                      have HOX := Lib.hid (HOwb.out.keep HKX.out)
                      have HKXW := Lib.hid (HKwb.out.trans HKX.out)
                      have hbx : w8.heap.size ≤ (wb.alloc (.cells (ic ⟨2, y⟩) 59)).heap.size := HKXW.out.size
                      obtain ⟨XX, hXX⟩ : ∃ X, ic ⟨2, y⟩ = X := ⟨_, rfl⟩
                      simp only [hXX] at HS1 HR1 HBI HKX HOX HKXW hbx
                      clear hXX

                      obtain ⟨RY, hRY⟩ : ∃ RY, rc y = RY := ⟨_, rfl⟩
                      simp only [hRY] at HBI drt
                      clear hRY
                      go_wp2_with (first | ((with_reducible refine at_build (t := 59) [(0, .int .i64 2), (1, .agg RY)] ?_ (.agg XX) ?_ ?_); rfl; exact HBI.out _) | ((with_reducible refine at_slice [(0, .agg XX)] ?_ _ (HS1.out _) ?_); rfl) | (at_builtin; refine wp_app elI rfl _ _ rfl w8.heap.size _ _ _ [⟨2, y⟩] rfl rfl HOX.out (HR1.out wb).cells ?u1 ?u2 ?u3 ?_))
                      case u1 => rw [List.length_map, List.length_take]; simp; omega
                      case u2 => rw [List.length_map, List.length_take]; simp; omega
                      case u3 => exact hbx
                      intro v9 w9 k1 k2
                      have HK9 := Lib.hid (HOX.out.grown HKXW.out (Nat.le_refl _) k2)
                      have HO9 := Lib.hid k1
                      clear k1 k2 hbx
                      go_wp2
                      go_roundw
                      case rel => exact ⟨i4 + 1, by go_num, by rw [HNA'.out]; omega, by rw [List.take_add_one, HX.out, Option.toList_some, List.map_append, List.map_singleton, HG.out, List.map_take]; exact HO9.out, HK9.out⟩
                      case measure => simp [intOf]; omega

                · have hall : A.take i4 = A := List.take_of_length_le (by rw [HNA'.out]; omega)
                  rw [hall] at ho
                  have HO := Lib.hid (Own.row elI ho)
                  have HKz := Lib.hid (HK8.out.trans hkq)
                  clear ho hkq hall
                  go_wp2
                  go_ret2
                  rw [HRS.out]
                  exact ⟨HKz.out, _, _, rfl, HO.out, gC_sorted HQ3.out.sorted, gC_mem HQ.out HQ3.out HRT.out⟩
end Go.Proofs.YtgkgpdlakamgiaaGreat
