/- Proved: DigestBack: behind a change and the change back the digests are what they were. Condition: none of our own. -/
import Derived.Test.YtfikdeobejhblaaCm
import Derived.Test.YtfikdeobejhblaaPb
import Derived.Test.YtfikdeobejhblaaDi
import Derived.Deep.CutRange
import Derived.SizedLaws
namespace Go.Proofs.Ytfikdeobejhblaa.LDigestBack
open Go.RowKit

theorem yields_build {P : Program} {ev : Operand → Value} {o : Oper} {t : TypeId} {parts : Array (Nat × Operand)} (ho : o.op = .build t parts) {ys : Array (Nat × Value)} (hy : (parts.map fun p => (p.1, ev p.2)) = ys) {v : Value} {w : World} (h : (Instr.build t ys).run P w = .ok v w) : (execOp ev o).run P w = .ok (.value v) w := by
  unfold execOp
  subst hy
  simp only [ho, Sem.run_bind, h, Result.andThen_ok, Sem.run_pure]
theorem step_alloc {ops : Array Oper} {o : Oper} {a : Act} {K : Act → World → Prop} {Q : Exit → Act → World → Prop} {w : World} {X : Prop} (hgd : o.guard = none) (ho : o.op = .alloc 52)
    (h : K (a.put o.dst (.pointer (some ⟨w.heap.size, 0, none⟩))) (w.alloc (.cells (ic zeroI) 52))) : if Region.wanted o (yielded ops a.tmps) = true then Oper.wp Try.prog o a w K Q else X := by
  have hw : Region.wanted o (yielded ops a.tmps) = true := by simp [Region.wanted, hgd]
  rw [if_pos hw]
  obtain ⟨hz, hi⟩ := zero_of_info info43b
  have hsz : ∀ w, (Go.sizeOf 52).run Try.prog w = .ok 21 w := Try.sizeOf52
  have hs := ic_size zeroI
  unfold Oper.wp
  generalize ic zeroI = Z at *
  go_simp
  exact h
theorem step_store {ops : Array Oper} {o : Oper} {a : Act} {K : Act → World → Prop} {Q : Exit → Act → World → Prop} {w : World} {X : Prop} (hgd : o.guard = none) (x y : Operand) (ho : o.op = .store 52 x y) (b : Nat) (z i : Ic) (L : Array Value) (hL : ic i = L) (hx : a.eval x = .pointer (some ⟨b, 0, none⟩)) (hy : a.eval y = .agg L) (hb : IAt w b z)
    (h : IAt (w.setRow b L) b i → K (a.put o.dst undef) (w.setRow b L)) : if Region.wanted o (yielded ops a.tmps) = true then Oper.wp Try.prog o a w K Q else X := by
  have hw : Region.wanted o (yielded ops a.tmps) = true := by simp [Region.wanted, hgd]
  rw [if_pos hw]
  subst hL
  have hst := hb.store i
  have hsz : ∀ w, (Go.sizeOf 52).run Try.prog w = .ok 21 w := Try.sizeOf52
  have hs := ic_size i
  have h2 := h (hb.put i)
  unfold Oper.wp
  clear h hb
  generalize ic i = Z at *
  unfold execOp
  simp only [ho, hx, hy]
  go_simp
  exact h2
set_option maxRecDepth 100000 in
set_option maxHeartbeats 8000000 in
theorem walk (a : Option Addr) (acap : Nat) (la : List Rt) (r : Rt) (w : World) (hA : ArgN rl w a acap la) (_ha : ∀ x ∈ la, Sq x) (_hr : Sq r) :
    Calls Try.prog 9 #[.slice a la.length acap, .agg (rc r)] w fun e w' => e = .returned (.bool true) ∧ Keep w w' := by
  have HAw := Lib.hid awake
  have hs2 := hA.small
  have HA := Lib.hid hA
  obtain ⟨NA, hNA⟩ : ∃ N, la.length = N := ⟨_, rfl⟩
  have HNA := Lib.hid hNA
  rw [hNA] at hs2
  rw [hNA]
  clear hA hNA
  unfold maxLen at hs2
  have HR0 := Lib.hid (RAt.new w r)
  have HK0 := Lib.hid ((Keep.refl w).alloc (.cells (rc r) 37))
  obtain ⟨n, hn⟩ : ∃ n, n = 20 := ⟨20, rfl⟩
  have hsz : ∀ w, (Go.sizeOf 37).run Try.prog w = .ok n w := fun w => by rw [hn]; exact Try.sizeOf37 w
  have hn0 : ¬ n = 0 := by omega
  obtain ⟨n2, hn2⟩ : ∃ n, n = 18 := ⟨18, rfl⟩
  have hsz2 : ∀ w, (Go.sizeOf 34).run Try.prog w = .ok n2 w := fun w => by rw [hn2]; exact Try.sizeOf34 w
  have hn20 : ¬ n2 = 0 := by omega
  obtain ⟨n3, hn3⟩ : ∃ n, n = 21 := ⟨21, rfl⟩
  have hsz3 : ∀ w, (Go.sizeOf 52).run Try.prog w = .ok n3 w := fun w => by rw [hn3]; exact Try.sizeOf52 w
  have hn30 : ¬ n3 = 0 := by omega
  obtain ⟨hz, hi⟩ := zero_of_info info34b
  have hzs : (rc zeroR).size = n := by rw [hn]; exact rc_size _
  have HN := Lib.hid hn
  have HN2 := Lib.hid hn2
  have HN3 := Lib.hid hn3
  have HQR := Lib.hid (qrightT r).keep
  have HB1 := Lib.hid (fun w => build_inc 1 r w)
  have HBT := Lib.hid (fun w => build_to r.to r.ok w)
  have HB3 := Lib.hid (fun w => build_inc 3 (wd r) w)
  have HB2 := Lib.hid (fun (x : Rt) w => build_inc 2 x w)
  change Hid (∀ w, (Instr.build 37 #[(0, .agg (pc r.to))]).run Try.prog w = .ok (.agg (rc (wd r))) w) at HBT
  have HRt := Lib.hid (fun (w' : World) (h : RAt w' w.heap.size r) => (show (loadCellsFrom ⟨w.heap.size, 0, none⟩ 0 n #[]).run Try.prog w' = .ok (rc r) w' ∧ (loadCellsFrom ⟨w.heap.size, 0, none⟩ 0 n2 #[]).run Try.prog w' = .ok (pc r.to) w' from ⟨h.whole hn, h.to hn2⟩))
  have HIl := Lib.hid (fun (w' : World) (b : Nat) (i : Ic) (h : IAt w' b i) => (show (loadCellsFrom ⟨b, 0, none⟩ 0 n3 #[]).run Try.prog w' = .ok (ic i) w' from h.whole hn3))
  have hzr : (rc r).size = n := by rw [hn]; exact rc_size _
  clear hn hn2 hn3 hi
  obtain ⟨RO, hRO⟩ : ∃ X, rc r = X := ⟨_, rfl⟩
  obtain ⟨PT, hPT⟩ : ∃ X, pc r.to = X := ⟨_, rfl⟩
  have HRO := Lib.hid hRO
  have HPT := Lib.hid hPT
  simp only [hRO, hPT] at HQR HB1 HBT HRt HR0 HK0 hzr
  rw [hRO]
  clear hRO hPT
  generalize hw0 : w.alloc (.cells RO 37) = w0 at *
  have HW0 := Lib.hid hw0
  clear hw0
  by_cases gNA : NA > 200
  · have gNAi : (NA : Int) > 200 := by omega
    go_enter Try.func9, Try.ntmps9
    go_wp2_with fail
    rw [HW0.out]
    refine (HAw.out _).mono ?_
    rintro e w1 ⟨rfl, k1⟩
    have HK1 := Lib.hid (HK0.out.trans k1)
    clear k1
    go_wp2_with fail
    refine (HAw.out _).mono ?_
    rintro e w2 ⟨rfl, k2⟩
    have HK2 := Lib.hid (HK1.out.trans k2)
    clear k2
    go_wp2
    go_ret
    exact ⟨rfl, HK2.out⟩
  have gNAi : ¬ (NA : Int) > 200 := by omega
  by_cases hrr : rightR r
  case neg =>
    rw [decide_eq_false hrr] at HQR
    clear hrr
    go_enter Try.func9, Try.ntmps9
    go_wp2_with fail
    rw [HW0.out]
    refine (HAw.out _).mono ?_
    rintro e w1 ⟨rfl, k1⟩
    obtain ⟨l1, _⟩ := HRt.out w1 (HR0.out.keep k1)
    have HK1 := Lib.hid (HK0.out.trans k1)
    clear k1
    go_wp2_with fail
    refine (HQR.out _).mono ?_
    rintro e w2 ⟨rfl, k2⟩
    have HK2 := Lib.hid (HK1.out.trans k2)
    clear k2 l1
    go_wp2_with fail
    refine (HAw.out _).mono ?_
    rintro e w3 ⟨rfl, k3⟩
    have HK3 := Lib.hid (HK2.out.trans k3)
    clear k3
    go_wp2
    go_ret
    exact ⟨rfl, HK3.out⟩
  rw [decide_eq_true hrr] at HQR
  clear hrr
  have HSL := Lib.hid slice_no
  go_enter Try.func9, Try.ntmps9
  go_wp2_with fail
  rw [HW0.out]
  refine (HAw.out _).mono ?_
  rintro e w1 ⟨rfl, k1⟩
  have HR1 := Lib.hid (show RAt w1 w.heap.size r from HR0.out.keep k1)
  have HK1 := Lib.hid (HK0.out.trans k1)
  obtain ⟨l1, _⟩ := HRt.out w1 HR1.out
  clear k1 HR0 HK0 HW0
  go_wp2_with fail
  refine (HQR.out _).mono ?_
  rintro e w2 ⟨rfl, k2⟩
  have HR2 := Lib.hid (HR1.out.keep k2)
  have HK2 := Lib.hid (HK1.out.trans k2)
  have HA2 := Lib.hid ((HA.out.keep HK2.out).keep ((Keep.refl w2).alloc (.cells #[] 37)))
  have HO2 := Lib.hid (Own.made (t := 37) (k := 20) (enc := rl) w2.heap.size w2 (Nat.le_refl _))
  clear k2 HR1 HK1 l1 HQR
  go_wp2_with (first | ((with_reducible refine at_slice [] ?_ (.slice (some ⟨w2.heap.size, 0, none⟩) 0 0) (HSL.out w2) ?_); rfl) | (at_builtin; refine wp_appN elR rfl _ _ rfl w2.heap.size _ a NA acap [] la rfl HNA.out rfl HO2.out HA2.out ?q1 ?q2 ?q3 ?_))
  case q1 => rw [HNA.out]; simp; omega
  case q2 => rw [HNA.out]; simp; omega
  case q3 => simp
  intro v3 w3 o3 g3
  have hk3 := HO2.out.grown ((Keep.refl w2).alloc _) (Nat.le_refl _) g3
  have HK3 := Lib.hid (HK2.out.trans hk3)
  have HR3 := Lib.hid (HR2.out.keep hk3)
  have HNw := Lib.hid (new v3 la w3 (o3.row elR).cells (by rw [HNA.out]; omega))
  clear o3 g3 hk3 HA2 HO2 HK2 HR2 HA
  go_wp2_with fail
  refine HNw.out.mono ?_
  rintro e w4 ⟨p, rfl, k4, hx⟩
  have HK4 := Lib.hid (HK3.out.trans k4)
  have HR4 := Lib.hid (HR3.out.keep k4)
  clear k4 HNw HK3 HR3
  rcases hx with ⟨e0, rfl⟩ | ⟨e0, bx, lx, rfl, _, px, tx⟩
  · have h0b : (newE la != 0) = true := by simpa using e0
    clear e0
    go_wp2
    go_ret
    exact ⟨rfl, HK4.out⟩
  rw [e0]
  have HX := Lib.hid tx
  have HAll := Lib.hid (dall (.pointer (some ⟨bx, 0, none⟩)) lx w4 (.inr ⟨bx, rfl, tx⟩))
  have HLX := Lib.hid (And.intro tx.sorted tx.few)
  clear px tx e0
  go_wp2_with fail
  refine HAll.out.mono ?_
  rintro e w5 ⟨g, rfl, o5, k5⟩
  have HD5 := Lib.hid (o5.row elD).cells
  have HR5 := Lib.hid (HR4.out.keep k5)
  have HK5 := Lib.hid (HK4.out.trans k5)
  have HGt := Lib.hid (get (.pointer (some ⟨bx, 0, none⟩)) lx r.to r.ok w5 (.inr ⟨bx, rfl, HX.out.keep k5⟩))
  rw [HPT.out] at HGt
  have l5 := HRt.out w5 HR5.out
  obtain ⟨_, l5⟩ := l5
  clear o5 k5 HAll HX HK4 HR4
  go_wp2_with fail
  refine HGt.out.mono ?_
  rintro e w6 ⟨rfl, k6⟩
  have HD6 := Lib.hid (HD5.out.keep k6)
  have HR6 := Lib.hid (HR5.out.keep k6)
  have HK6 := Lib.hid (HK5.out.trans k6)
  have HOLD := Lib.hid (fun h => And.intro (get_to (p := r.to) HLX.out.1 h) (And.intro (back_old (r := r) HLX.out.1 HLX.out.2 h) (differ_old (r := r) HLX.out.1 HLX.out.2 h)))
  have HNEW := Lib.hid (fun mw m' => And.intro (back_new lx r mw m' HLX.out.2) (differ_new lx r mw HLX.out.2))
  clear k6 HGt HD5 HR5 HK5 l5
  obtain ⟨was, hwas⟩ : ∃ x, getS lx r.to = x := ⟨_, rfl⟩
  obtain ⟨ok, hok⟩ : ∃ x, hasP lx r.to = x := ⟨_, rfl⟩
  rw [hwas, hok] at HOLD ⊢
  clear hwas hok
  have hAt := RAt.new w6 zeroR
  have hst7 := hAt.store was
  have hzw : (rc was).size = n := by rw [HN.out]; exact rc_size _
  have HW7 := Lib.hid (hAt.put was)
  have HK7 := Lib.hid (show Keep w6 ((w6.alloc (.cells (rc zeroR) 37)).setRow w6.heap.size (rc was)) from ((Keep.refl w6).alloc _).setRow _ _ (Nat.le_refl _))
  have HWl := Lib.hid (fun (w' : World) (h : RAt w' w6.heap.size was) => (show (loadCellsFrom ⟨w6.heap.size, 0, none⟩ 0 n #[]).run Try.prog w' = .ok (rc was) w' from h.whole HN.out))
  clear hAt
  obtain ⟨WS, hWS⟩ : ∃ X, rc was = X := ⟨_, rfl⟩
  have HWS := Lib.hid hWS
  rw [hWS] at hst7 hzw HW7 HK7
  simp only [hWS] at HWl
  rw [hWS]
  clear hWS
  generalize (w6.alloc (.cells (rc zeroR) 37)).setRow w6.heap.size WS = w8 at *
  have HR8 := Lib.hid (HR6.out.keep HK7.out)
  have HD8 := Lib.hid (HD6.out.keep HK7.out)
  have HK8 := Lib.hid (HK6.out.trans HK7.out)
  have HB0 := Lib.hid (block_lt HR8.out)
  clear HR6 HD6 HK6 HK7
  obtain ⟨I1, hI1⟩ : ∃ X, ic ⟨1, r⟩ = X := ⟨_, rfl⟩
  obtain ⟨I3, hI3⟩ : ∃ X, ic ⟨3, wd r⟩ = X := ⟨_, rfl⟩
  obtain ⟨W0, hW0⟩ : ∃ X, rc (wd r) = X := ⟨_, rfl⟩
  have HI1 := Lib.hid hI1
  have HI3 := Lib.hid hI3
  rw [hI1] at HB1
  rw [hI3, hW0] at HB3
  rw [hW0] at HBT
  clear hI1 hI3 hW0
  go_upto_region 8 with fail
  go_cut [10, 11] from 45 to 50 (fun p q wx => ∃ bA bB, p = .pointer (some ⟨bA, 0, none⟩) ∧ q = .pointer (some ⟨bB, 0, none⟩) ∧ IAt wx bA ⟨1, r⟩ ∧ IAt wx bB ⟨3, wd r⟩ ∧ bA ≠ bB ∧ w8.heap.size ≤ bA ∧ w8.heap.size ≤ bB ∧ Keep w8 wx)
  case first =>
    refine wp_region_held_drew (S := fun w' => RAt w' w.heap.size r) (by kernel_rfl) (HR8.out.keep (Keep.refl w8).drew) (fun hS => ?_)
    have hk : Keep w8 w8.drew := (Keep.refl w8).drew
    generalize w8.drew = y0 at *
    refine wpAnyH_take (i := 0) (oi := ⟨some 45, _, _, _, _, _⟩) (v := .agg RO) rfl (by kernel_rfl) (by kernel_rfl) (by kernel_rfl) (fun _ _ _ h => h) (Or.inl ⟨by kernel_rfl, fun u hu => ?_⟩) (by assumption) ?_
    · have h1 := (HRt.out u hu).1; go_simp
    simp only [Act.put, List.setIfInBounds_toArray, List.set_cons_zero, List.set_cons_succ]
    refine wpAnyH_take (i := 1) (oi := ⟨some 46, _, _, _, _, _⟩) (v := .agg I1) rfl (by kernel_rfl) (by kernel_rfl) (by kernel_rfl) (fun _ _ _ h => h) (Or.inl ⟨by kernel_rfl, fun u hu => ?_⟩) (by assumption) ?_
    · exact yields_build rfl (by kernel_rfl) (HB1.out u)
    simp only [Act.put, List.setIfInBounds_toArray, List.set_cons_zero, List.set_cons_succ]
    refine wpAnyH_take (i := 2) (oi := ⟨some 47, _, _, _, _, _⟩) (v := .pointer (some ⟨w.heap.size, 0, none⟩)) rfl (by kernel_rfl) (by kernel_rfl) (by kernel_rfl) (fun _ _ _ h => h) (Or.inl ⟨by kernel_rfl, fun u hu => ?_⟩) (by assumption) ?_
    · go_simp
    simp only [Act.put, List.setIfInBounds_toArray, List.set_cons_zero, List.set_cons_succ]
    refine wpAnyH_take (i := 3) (oi := ⟨some 48, _, _, _, _, _⟩) (v := .agg PT) rfl (by kernel_rfl) (by kernel_rfl) (by kernel_rfl) (fun _ _ _ h => h) (Or.inl ⟨by kernel_rfl, fun u hu => ?_⟩) (by assumption) ?_
    · have h1 := (HRt.out u hu).2; go_simp
    simp only [Act.put, List.setIfInBounds_toArray, List.set_cons_zero, List.set_cons_succ]
    refine wpAnyH_take (i := 4) (oi := ⟨some 49, _, _, _, _, _⟩) (v := .agg W0) rfl (by kernel_rfl) (by kernel_rfl) (by kernel_rfl) (fun _ _ _ h => h) (Or.inl ⟨by kernel_rfl, fun u hu => ?_⟩) (by assumption) ?_
    · exact yields_build rfl (by kernel_rfl) (HBT.out u)
    simp only [Act.put, List.setIfInBounds_toArray, List.set_cons_zero, List.set_cons_succ]
    refine wpAnyH_take (i := 5) (oi := ⟨some 50, _, _, _, _, _⟩) (v := .agg I3) rfl (by kernel_rfl) (by kernel_rfl) (by kernel_rfl) (fun _ _ _ h => h) (Or.inl ⟨by kernel_rfl, fun u hu => ?_⟩) (by assumption) ?_
    · exact yields_build rfl (by kernel_rfl) (HB3.out u)
    simp only [Act.put, List.setIfInBounds_toArray, List.set_cons_zero, List.set_cons_succ]
    refine wpAnyH_ready (rs := [6, 7]) (by kernel_rfl) (by simp) ?_
    refine AllReadyH.cons (o := ⟨some 10, _, _, _, _, _⟩) rfl (fun K hK => ?_) ?_
    · refine step_alloc rfl rfl ?_
      refine hK.out _ _ (hS.keep ((Keep.refl _).alloc _)) (fun hS' => ?_)
      have iA := IAt.new y0 zeroI
      have lA : w8.heap.size ≤ y0.heap.size := hk.size
      replace hk := hk.alloc (.cells (ic zeroI) 52)
      clear hK K hS
      have hS := hS'
      clear hS'
      simp only [Act.put, List.setIfInBounds_toArray, List.set_cons_zero, List.set_cons_succ]
      generalize y0.heap.size = bA at *
      generalize y0.alloc (.cells (ic zeroI) 52) = y1 at *
      refine wpAnyH_ready (rs := [7]) (by kernel_rfl) (by simp) ?_
      refine AllReadyH.cons (o := ⟨some 11, _, _, _, _, _⟩) rfl (fun K hK => ?_) ?_
      · refine step_alloc rfl rfl ?_
        refine hK.out _ _ (hS.keep ((Keep.refl _).alloc _)) (fun hS' => ?_)
        have iB := IAt.new y1 zeroI
        have lB : w8.heap.size ≤ y1.heap.size := hk.size
        have hne : y1.heap.size ≠ bA := by have := block_lt iA; omega
        replace iA := iA.keep ((Keep.refl y1).alloc (.cells (ic zeroI) 52))
        replace hk := hk.alloc (.cells (ic zeroI) 52)
        clear hK K hS
        have hS := hS'
        clear hS'
        simp only [Act.put, List.setIfInBounds_toArray, List.set_cons_zero, List.set_cons_succ]
        generalize y1.heap.size = bB at *
        generalize y1.alloc (.cells (ic zeroI) 52) = y2 at *
        refine wpAnyH_ready (rs := [8]) (by kernel_rfl) (by simp) ?_
        refine AllReadyH.cons (o := ⟨none, _, _, _, _, _⟩) rfl (fun K hK => ?_) ?_
        · refine step_store rfl _ _ rfl bA zeroI ⟨1, r⟩ I1 HI1.out rfl rfl iA ?_
          intro jA
          refine hK.out _ _ (setRow_old hS _ _ (by have := HB0.out; omega)) (fun hS' => ?_)
          replace iB := setRow_old iB bA I1 (by omega)
          replace hk := hk.setRow bA I1 lA
          clear hK K hS iA
          have iA := jA
          have hS := hS'
          clear hS' jA
          simp only [Act.put, List.setIfInBounds_toArray, List.set_cons_zero, List.set_cons_succ]
          generalize y2.setRow bA I1 = y3 at *
          refine wpAnyH_ready (rs := [9]) (by kernel_rfl) (by simp) ?_
          refine AllReadyH.cons (o := ⟨none, _, _, _, _, _⟩) rfl (fun K hK => ?_) ?_
          · refine step_store rfl _ _ rfl bB zeroI ⟨3, wd r⟩ I3 HI3.out rfl rfl iB ?_
            intro jB
            refine hK.out _ _ (setRow_old hS _ _ (by have := HB0.out; omega)) (fun hS' => ?_)
            replace iA := setRow_old iA bB I3 (by omega)
            replace hk := hk.setRow bB I3 lB
            clear hK K hS iB
            have iB := jB
            have hS := hS'
            clear hS' jB
            simp only [Act.put, List.setIfInBounds_toArray, List.set_cons_zero, List.set_cons_succ]
            generalize y3.setRow bB I3 = y4 at *
            refine wpAnyH_done (by kernel_rfl) ?_ _
            go_wp2_with fail
            go_meet
            exact ⟨bA, bB, rfl, rfl, iA, iB, by omega, lA, lB, hk⟩
          exact AllReadyH.nil
        exact AllReadyH.nil
      exact AllReadyH.nil
    refine AllReadyH.cons (o := ⟨some 11, _, _, _, _, _⟩) rfl (fun K hK => ?_) ?_
    · refine step_alloc rfl rfl ?_
      refine hK.out _ _ (hS.keep ((Keep.refl _).alloc _)) (fun hS' => ?_)
      have iB := IAt.new y0 zeroI
      have lB : w8.heap.size ≤ y0.heap.size := hk.size
      replace hk := hk.alloc (.cells (ic zeroI) 52)
      clear hK K hS
      have hS := hS'
      clear hS'
      simp only [Act.put, List.setIfInBounds_toArray, List.set_cons_zero, List.set_cons_succ]
      generalize y0.heap.size = bB at *
      generalize y0.alloc (.cells (ic zeroI) 52) = y1 at *
      refine wpAnyH_ready (rs := [6]) (by kernel_rfl) (by simp) ?_
      refine AllReadyH.cons (o := ⟨some 10, _, _, _, _, _⟩) rfl (fun K hK => ?_) ?_
      · refine step_alloc rfl rfl ?_
        refine hK.out _ _ (hS.keep ((Keep.refl _).alloc _)) (fun hS' => ?_)
        have iA := IAt.new y1 zeroI
        have lA : w8.heap.size ≤ y1.heap.size := hk.size
        have hne : y1.heap.size ≠ bB := by have := block_lt iB; omega
        replace iB := iB.keep ((Keep.refl y1).alloc (.cells (ic zeroI) 52))
        replace hk := hk.alloc (.cells (ic zeroI) 52)
        clear hK K hS
        have hS := hS'
        clear hS'
        simp only [Act.put, List.setIfInBounds_toArray, List.set_cons_zero, List.set_cons_succ]
        generalize y1.heap.size = bA at *
        generalize y1.alloc (.cells (ic zeroI) 52) = y2 at *
        refine wpAnyH_ready (rs := [8]) (by kernel_rfl) (by simp) ?_
        refine AllReadyH.cons (o := ⟨none, _, _, _, _, _⟩) rfl (fun K hK => ?_) ?_
        · refine step_store rfl _ _ rfl bA zeroI ⟨1, r⟩ I1 HI1.out rfl rfl iA ?_
          intro jA
          refine hK.out _ _ (setRow_old hS _ _ (by have := HB0.out; omega)) (fun hS' => ?_)
          replace iB := setRow_old iB bA I1 (by omega)
          replace hk := hk.setRow bA I1 lA
          clear hK K hS iA
          have iA := jA
          have hS := hS'
          clear hS' jA
          simp only [Act.put, List.setIfInBounds_toArray, List.set_cons_zero, List.set_cons_succ]
          generalize y2.setRow bA I1 = y3 at *
          refine wpAnyH_ready (rs := [9]) (by kernel_rfl) (by simp) ?_
          refine AllReadyH.cons (o := ⟨none, _, _, _, _, _⟩) rfl (fun K hK => ?_) ?_
          · refine step_store rfl _ _ rfl bB zeroI ⟨3, wd r⟩ I3 HI3.out rfl rfl iB ?_
            intro jB
            refine hK.out _ _ (setRow_old hS _ _ (by have := HB0.out; omega)) (fun hS' => ?_)
            replace iA := setRow_old iA bB I3 (by omega)
            replace hk := hk.setRow bB I3 lB
            clear hK K hS iB
            have iB := jB
            have hS := hS'
            clear hS' jB
            simp only [Act.put, List.setIfInBounds_toArray, List.set_cons_zero, List.set_cons_succ]
            generalize y3.setRow bB I3 = y4 at *
            refine wpAnyH_done (by kernel_rfl) ?_ _
            go_wp2_with fail
            go_meet
            exact ⟨bA, bB, rfl, rfl, iA, iB, by omega, lA, lB, hk⟩
          exact AllReadyH.nil
        exact AllReadyH.nil
      exact AllReadyH.nil
    exact AllReadyH.nil
  case rest =>
    obtain ⟨bA, bB, rfl, rfl, iA, iB, hne, l1, l2, k8⟩ := hcut
    have HRt2 := Lib.hid (fun w' h => (HRt.out w' h).1)
    cases ok with
    | false =>
      clear HOLD
      have HKT := Lib.hid k8
      have HLA := Lib.hid (fun (w' : World) (k : Keep wc w') => HIl.out w' bA _ (iA.keep k))
      have HLB := Lib.hid (fun (w' : World) (k : Keep wc w') => HIl.out w' bB _ (iB.keep k))
      rw [HI1.out] at HLA
      rw [HI3.out] at HLB
      have HIA := Lib.hid HI1.out
      have HIB := Lib.hid HI3.out
      have HN0 := HNEW.out (markOf was) (markOf (wd r))
      have HBB := Lib.hid (show moreD (moreD (allD lx) 1 (bkt r.to) (markOf r) (markOf was)) 3 (bkt (wd r).to) (markOf (wd r)) (markOf r) = allD lx from HN0.1)
      have HDD := Lib.hid HN0.2
      obtain ⟨kA, hkA⟩ : ∃ k : Int, k = 1 := ⟨_, rfl⟩
      obtain ⟨kB, hkB⟩ : ∃ k : Int, k = 3 := ⟨_, rfl⟩
      rw [← hkA] at HIA HBB HDD
      rw [← hkB] at HIB HBB
      clear hkA hkB HN0 iA iB k8 hne l1 l2
      generalize wd r = rB at *
      generalize wc = wT at *
      have HRT := Lib.hid (HR8.out.keep HKT.out)
      have HWT := Lib.hid (HW7.out.keep HKT.out)
      have HDT := Lib.hid (HD8.out.keep HKT.out)
      have lw := HWl.out wT HWT.out
      have la2 := HLA.out wT (Keep.refl wT)
      have HX := Lib.hid (dmore (.slice (some ⟨g, 0, none⟩) 17 17) (allD lx) ⟨kA, r⟩ was wT (Lg.of HDT.out) (by rw [allD_len]; omega))
      rw [HIA.out, HWS.out] at HX
      go_wp2_with fail
      refine HX.out.mono ?_
      rintro e wU ⟨vx, rfl, kU, cU⟩
      have HVX := Lib.hid (show Cells dl wU vx (moreD (allD lx) kA (bkt r.to) (markOf r) (markOf was)) from by
        rcases cU with ⟨rfl, e2⟩ | ⟨g2, cap2, rfl, og⟩
        · rw [e2]
          exact HDT.out.keep kU
        · exact (og.row elD).cells)
      have HLX2 := Lib.hid (moreD_len (allD lx) kA (bkt r.to) (markOf r) (markOf was))
      rw [allD_len] at HLX2
      have HKU := Lib.hid kU
      clear cU kU HX la2 lw
      obtain ⟨X, hX⟩ : ∃ X, moreD (allD lx) kA (bkt r.to) (markOf r) (markOf was) = X := ⟨_, rfl⟩
      rw [hX] at HVX HLX2 HBB HDD
      clear hX
      have HRU := Lib.hid (HRT.out.keep HKU.out)
      have lr := (HRt.out wU HRU.out).1
      have lb2 := HLB.out wU HKU.out
      have HY := Lib.hid (dmore vx X ⟨kB, rB⟩ r wU (Lg.of HVX.out) (by rw [HLX2.out]; omega))
      rw [HIB.out, HRO.out] at HY
      simp only at HY
      rw [HBB.out] at HY
      go_wp2_with fail
      refine HY.out.mono ?_
      rintro e wV ⟨vy, rfl, kV, cV⟩
      have HVY := Lib.hid (show Cells dl wV vy (allD lx) from by
        rcases cV with ⟨rfl, e2⟩ | ⟨g2, cap2, rfl, og⟩
        · rw [e2]
          exact HVX.out.keep kV
        · exact (og.row elD).cells)
      have HKV := Lib.hid kV
      have HRV := Lib.hid (HRU.out.keep kV)
      have HWV := Lib.hid ((HWT.out.keep HKU.out).keep kV)
      have HDV := Lib.hid ((HDT.out.keep HKU.out).keep kV)
      have HXV := Lib.hid (HVX.out.keep kV)
      have HKW := Lib.hid (((HK8.out.trans HKT.out).trans HKU.out).trans kV)
      clear cV kV HY lr lb2 HRT HWT HDT HRU HVX HKU HKV
      have HLk := Lib.hid (fun (w' : World) (k : Keep wV w') => like9 (.slice (some ⟨g, 0, none⟩) 17 17) (allD lx) w' (Lg.of (HDV.out.keep k)) (by rw [allD_len]; omega))
      have HSm := Lib.hid (fun (v : Value) (w' : World) (k : Keep wV w') (c : Cells dl w' v (allD lx)) => same9 vy v (allD lx) (allD lx) w' (Lg.of (HVY.out.keep k)) (Lg.of c) (by rw [allD_len]; omega) (by rw [allD_len]; omega))
      rw [show decide (allD lx = allD lx) = true from decide_eq_true rfl] at HSm
      have HDf := Lib.hid (fun (w' : World) (k : Keep wV w') => ddiffer (.slice (some ⟨g, 0, none⟩) 17 17) vx (allD lx) X w' (Lg.of (HDV.out.keep k)) (Lg.of (HXV.out.keep k)) (by rw [allD_len]; omega) (by rw [HLX2.out]; omega))
      have hdd : (((diffD (allD lx) X).length : Int) == 0) = false := by
        have := HDD.out
        cases h : diffD (allD lx) X with
        | nil => exact absurd h this
        | cons _ _ => simp; omega
      obtain ⟨DD, hDD⟩ : ∃ x, diffD (allD lx) X = x := ⟨_, rfl⟩
      rw [hDD] at hdd
      simp only [hDD] at HDf
      clear hDD HDD
      go_wp2_with fail
      refine wp_region_held_drew (S := fun w' => (loadCellsFrom ⟨w.heap.size, 0, none⟩ 0 n #[]).run Try.prog w' = .ok RO w' ∧ (loadCellsFrom ⟨w6.heap.size, 0, none⟩ 0 n #[]).run Try.prog w' = .ok WS w') (by kernel_rfl) ⟨HRt2.out _ (HRV.out.keep (Keep.refl wV).drew), HWl.out _ (HWV.out.keep (Keep.refl wV).drew)⟩ (fun hS => ?_)
      have hk : Keep wV wV.drew := (Keep.refl wV).drew
      generalize wV.drew = y0 at *
      refine wpAnyH_take (i := 0) (oi := ⟨some 63, _, _, _, _, _⟩) (v := vy) rfl (by kernel_rfl) (by kernel_rfl) (by kernel_rfl) (fun _ _ _ h => h) (Or.inl ⟨by kernel_rfl, fun u hu => ?_⟩) (by assumption) ?_
      · go_simp
      simp only [Act.put, List.setIfInBounds_toArray, List.set_cons_zero, List.set_cons_succ]
      refine wpAnyH_take (i := 1) (oi := ⟨some 64, _, _, _, _, _⟩) (v := .slice (some ⟨g, 0, none⟩) 17 17) rfl (by kernel_rfl) (by kernel_rfl) (by kernel_rfl) (fun _ _ _ h => h) (Or.inl ⟨by kernel_rfl, fun u hu => ?_⟩) (by assumption) ?_
      · go_simp
      simp only [Act.put, List.setIfInBounds_toArray, List.set_cons_zero, List.set_cons_succ]
      refine wpAnyH_ready (rs := [2]) (by kernel_rfl) (by simp) ?_
      refine AllReadyH.cons (o := ⟨some 65, _, _, _, _, _⟩) rfl (fun K hK => ?_) AllReadyH.nil
      go_simp
      go_wp2_with (go_at_call 34; refine (HLk.out _ hk).mono ?_; rintro e y1 ⟨vL, rfl, oL, b9⟩; have cL := (oL.row elQ).cells; replace hk := hk.trans b9; clear oL b9)
      refine hK.out _ _ ⟨HRt2.out _ (HRV.out.keep hk), HWl.out _ (HWV.out.keep hk)⟩ (fun hS2 => ?_)
      clear hK K hS
      have hS := hS2
      clear hS2
      refine wpAnyH_ready (rs := [3]) (by kernel_rfl) (by simp) ?_
      refine AllReadyH.cons (o := ⟨some 66, _, _, _, _, _⟩) rfl (fun K hK => ?_) AllReadyH.nil
      go_simp
      go_wp2_with (go_at_call 19; refine (HSm.out vL _ hk cL).mono ?_; rintro e y2 ⟨rfl, b9⟩; replace hk := hk.trans b9; clear cL b9)
      refine hK.out _ _ ⟨HRt2.out _ (HRV.out.keep hk), HWl.out _ (HWV.out.keep hk)⟩ (fun hS2 => ?_)
      clear hK K hS
      have hS := hS2
      clear hS2
      refine wpAnyH_take (i := 4) (oi := ⟨some 67, _, _, _, _, _⟩) (v := .bool true) rfl (by kernel_rfl) (by kernel_rfl) (by kernel_rfl) (fun _ _ _ h => h) (Or.inl ⟨by kernel_rfl, fun u hu => ?_⟩) (by assumption) ?_
      · go_simp
      simp only [Act.put, List.setIfInBounds_toArray, List.set_cons_zero, List.set_cons_succ]
      refine wpAnyH_take (i := 5) (oi := ⟨some 68, _, _, _, _, _⟩) (v := .slice (some ⟨g, 0, none⟩) 17 17) rfl (by kernel_rfl) (by kernel_rfl) (by kernel_rfl) (fun _ _ _ h => h) (Or.inl ⟨by kernel_rfl, fun u hu => ?_⟩) (by assumption) ?_
      · go_simp
      simp only [Act.put, List.setIfInBounds_toArray, List.set_cons_zero, List.set_cons_succ]
      refine wpAnyH_take (i := 6) (oi := ⟨some 69, _, _, _, _, _⟩) (v := vx) rfl (by kernel_rfl) (by kernel_rfl) (by kernel_rfl) (fun _ _ _ h => h) (Or.inl ⟨by kernel_rfl, fun u hu => ?_⟩) (by assumption) ?_
      · go_simp
      simp only [Act.put, List.setIfInBounds_toArray, List.set_cons_zero, List.set_cons_succ]
      refine wpAnyH_take (i := 10) (oi := ⟨some 73, _, _, _, _, _⟩) (v := .bool false) rfl (by kernel_rfl) (by kernel_rfl) (by kernel_rfl) (fun _ _ _ h => h) (Or.inl ⟨by kernel_rfl, fun u hu => ?_⟩) (by assumption) ?_
      · go_simp
      simp only [Act.put, List.setIfInBounds_toArray, List.set_cons_zero, List.set_cons_succ]
      refine wpAnyH_ready (rs := [7]) (by kernel_rfl) (by simp) ?_
      refine AllReadyH.cons (o := ⟨some 70, _, _, _, _, _⟩) rfl (fun K hK => ?_) AllReadyH.nil
      go_simp
      go_wp2_with (go_at_call 28; refine (HDf.out _ hk).mono ?_; rintro e y3 ⟨vD, rfl, oD, b9⟩; obtain ⟨aD, cD, eD, _, _⟩ := (oD.row elN).cells.form; subst eD; replace hk := hk.trans b9; clear oD b9)
      refine hK.out _ _ ⟨HRt2.out _ (HRV.out.keep hk), HWl.out _ (HWV.out.keep hk)⟩ (fun hS2 => ?_)
      clear hK K hS
      have hS := hS2
      clear hS2
      refine wpAnyH_take (i := 8) (oi := ⟨some 71, _, _, _, _, _⟩) (v := .int .i64 (DD.length : Nat)) rfl (by kernel_rfl) (by kernel_rfl) (by kernel_rfl) (fun _ _ _ h => h) (Or.inl ⟨by kernel_rfl, fun u hu => ?_⟩) (by assumption) ?_
      · go_simp
      simp only [Act.put, List.setIfInBounds_toArray, List.set_cons_zero, List.set_cons_succ]
      refine wpAnyH_take (i := 9) (oi := ⟨some 72, _, _, _, _, _⟩) (v := .bool false) rfl (by kernel_rfl) (by kernel_rfl) (by kernel_rfl) (fun _ _ _ h => h) (Or.inl ⟨by kernel_rfl, fun u hu => ?_⟩) (by assumption) ?_
      · go_simp
      simp only [Act.put, List.setIfInBounds_toArray, List.set_cons_zero, List.set_cons_succ]
      refine wpAnyH_take (i := 11) (oi := ⟨some 74, _, _, _, _, _⟩) (v := .bool false) rfl (by kernel_rfl) (by kernel_rfl) (by kernel_rfl) (fun _ _ _ h => h) (Or.inl ⟨by kernel_rfl, fun u hu => ?_⟩) (by assumption) ?_
      · go_simp
      simp only [Act.put, List.setIfInBounds_toArray, List.set_cons_zero, List.set_cons_succ]
      refine wpAnyH_take (i := 12) (oi := ⟨some 75, _, _, _, _, _⟩) (v := _) rfl (by kernel_rfl) (by kernel_rfl) (by kernel_rfl) (fun _ _ _ h => h) (Or.inr ⟨by kernel_rfl, rfl⟩) (by assumption) ?_
      simp only [Act.put, List.setIfInBounds_toArray, List.set_cons_zero, List.set_cons_succ]
      refine wpAnyH_take (i := 13) (oi := ⟨some 76, _, _, _, _, _⟩) (v := _) rfl (by kernel_rfl) (by kernel_rfl) (by kernel_rfl) (fun _ _ _ h => h) (Or.inr ⟨by kernel_rfl, rfl⟩) (by assumption) ?_
      simp only [Act.put, List.setIfInBounds_toArray, List.set_cons_zero, List.set_cons_succ]
      refine wpAnyH_take (i := 14) (oi := ⟨some 77, _, _, _, _, _⟩) (v := _) rfl (by kernel_rfl) (by kernel_rfl) (by kernel_rfl) (fun _ _ _ h => h) (Or.inr ⟨by kernel_rfl, rfl⟩) (by assumption) ?_
      simp only [Act.put, List.setIfInBounds_toArray, List.set_cons_zero, List.set_cons_succ]
      refine wpAnyH_take (i := 15) (oi := ⟨some 78, _, _, _, _, _⟩) (v := _) rfl (by kernel_rfl) (by kernel_rfl) (by kernel_rfl) (fun _ _ _ h => h) (Or.inr ⟨by kernel_rfl, rfl⟩) (by assumption) ?_
      simp only [Act.put, List.setIfInBounds_toArray, List.set_cons_zero, List.set_cons_succ]
      refine wpAnyH_take (i := 16) (oi := ⟨some 79, _, _, _, _, _⟩) (v := _) rfl (by kernel_rfl) (by kernel_rfl) (by kernel_rfl) (fun _ _ _ h => h) (Or.inr ⟨by kernel_rfl, rfl⟩) (by assumption) ?_
      simp only [Act.put, List.setIfInBounds_toArray, List.set_cons_zero, List.set_cons_succ]
      refine wpAnyH_take (i := 17) (oi := ⟨some 80, _, _, _, _, _⟩) (v := .bool false) rfl (by kernel_rfl) (by kernel_rfl) (by kernel_rfl) (fun _ _ _ h => h) (Or.inl ⟨by kernel_rfl, fun u hu => ?_⟩) (by assumption) ?_
      · go_simp
      simp only [Act.put, List.setIfInBounds_toArray, List.set_cons_zero, List.set_cons_succ]
      refine wpAnyH_take (i := 18) (oi := ⟨some 81, _, _, _, _, _⟩) (v := .bool true) rfl (by kernel_rfl) (by kernel_rfl) (by kernel_rfl) (fun _ _ _ h => h) (Or.inl ⟨by kernel_rfl, fun u hu => ?_⟩) (by assumption) ?_
      · go_simp
      simp only [Act.put, List.setIfInBounds_toArray, List.set_cons_zero, List.set_cons_succ]
      refine wpAnyH_take (i := 19) (oi := ⟨some 82, _, _, _, _, _⟩) (v := .bool true) rfl (by kernel_rfl) (by kernel_rfl) (by kernel_rfl) (fun _ _ _ h => h) (Or.inl ⟨by kernel_rfl, fun u hu => ?_⟩) (by assumption) ?_
      · go_simp
      simp only [Act.put, List.setIfInBounds_toArray, List.set_cons_zero, List.set_cons_succ]
      refine wpAnyH_take (i := 20) (oi := ⟨some 4, _, _, _, _, _⟩) (v := .bool true) rfl (by kernel_rfl) (by kernel_rfl) (by kernel_rfl) (fun _ _ _ h => h) (Or.inl ⟨by kernel_rfl, fun u hu => ?_⟩) (by assumption) ?_
      · go_simp
      simp only [Act.put, List.setIfInBounds_toArray, List.set_cons_zero, List.set_cons_succ]
      refine wpAnyH_done (by kernel_rfl) ?_ _
      have HKf := Lib.hid (HKW.out.trans hk)
      clear hk
      go_wp2
      go_ret
      exact ⟨rfl, HKf.out⟩
    | true =>
      clear HNEW
      obtain ⟨ht0, hb0, hd0⟩ := HOLD.out rfl
      have hbt : bkt was.to = bkt r.to := by rw [ht0]
      have HBB := Lib.hid (show moreD (moreD (allD lx) 2 (bkt r.to) (markOf r) (markOf was)) 2 (bkt was.to) (markOf was) (markOf r) = allD lx from by rw [hbt]; exact hb0)
      have HDD := Lib.hid hd0
      clear ht0 hb0 hd0 hbt HOLD
      have hkd := iA.kind
      have hfr := iA.free 0
      have HW6 := Lib.hid (block_lt HW7.out)
      have i2 := iA.setKind 2
      have h10 := (Only.setCell bA 0 wc (.int .i64 2)).obj iB (Ne.symm hne)
      have k10 := k8.setCell bA 0 (.int .i64 2) l1
      have lw10 := HWl.out _ (HW7.out.keep k10)
      obtain ⟨IB2, hIB2⟩ : ∃ X, ic ⟨2, was⟩ = X := ⟨_, rfl⟩
      obtain ⟨IA2, hIA2⟩ : ∃ X, ic ⟨2, r⟩ = X := ⟨_, rfl⟩
      have HI2 := Lib.hid (fun w => (HB2.out was w))
      rw [HWS.out, hIB2] at HI2
      have hrn : IB2.size = n3 := by rw [← hIB2, HN3.out]; exact ic_size _
      have h10' : IAt (wc.setCell ⟨bA, 0, none⟩ (.int .i64 2)) bB ⟨3, wd r⟩ := h10
      have hst := h10'.store ⟨2, was⟩
      have iB2 := h10'.put ⟨2, was⟩
      have iA2 : IAt ((wc.setCell ⟨bA, 0, none⟩ (.int .i64 2)).setRow bB (ic ⟨2, was⟩)) bA ⟨2, r⟩ := setRow_old i2 _ _ hne
      have k11 := k10.setRow bB (ic ⟨2, was⟩) l2
      rw [hIB2] at hst iB2 iA2 k11
      have HIA := Lib.hid hIA2
      have HIB := Lib.hid hIB2
      clear h10 h10' hIB2 hIA2 i2 iA iB k8 k10
      generalize hw10 : wc.setCell ⟨bA, 0, none⟩ (.int .i64 2) = w10 at *
      generalize w10.setRow bB IB2 = wT at *
      have HKT := Lib.hid k11
      have HLA := Lib.hid (fun (w' : World) (k : Keep wT w') => HIl.out w' bA _ (iA2.keep k))
      have HLB := Lib.hid (fun (w' : World) (k : Keep wT w') => HIl.out w' bB _ (iB2.keep k))
      rw [HIA.out] at HLA
      rw [HIB.out] at HLB
      obtain ⟨kA, hkA⟩ : ∃ k : Int, k = 2 := ⟨_, rfl⟩
      rw [← hkA] at HIA HBB HDD HIB
      clear hkA iA2 iB2 k11 hne l1 l2
      have HRT := Lib.hid (HR8.out.keep HKT.out)
      have HWT := Lib.hid (HW7.out.keep HKT.out)
      have HDT := Lib.hid (HD8.out.keep HKT.out)
      have lw := HWl.out wT HWT.out
      have la2 := HLA.out wT (Keep.refl wT)
      have HX := Lib.hid (dmore (.slice (some ⟨g, 0, none⟩) 17 17) (allD lx) ⟨kA, r⟩ was wT (Lg.of HDT.out) (by rw [allD_len]; omega))
      rw [HIA.out, HWS.out] at HX
      go_wp2_with ((with_reducible refine at_build (t := 52) [(0, .int .i64 2), (1, .agg WS)] ?_ (.agg IB2) ?_ ?_); rfl; exact HI2.out _)
      refine HX.out.mono ?_
      rintro e wU ⟨vx, rfl, kU, cU⟩
      have HVX := Lib.hid (show Cells dl wU vx (moreD (allD lx) kA (bkt r.to) (markOf r) (markOf was)) from by
        rcases cU with ⟨rfl, e2⟩ | ⟨g2, cap2, rfl, og⟩
        · rw [e2]
          exact HDT.out.keep kU
        · exact (og.row elD).cells)
      have HLX2 := Lib.hid (moreD_len (allD lx) kA (bkt r.to) (markOf r) (markOf was))
      rw [allD_len] at HLX2
      have HKU := Lib.hid kU
      clear cU kU HX la2 lw
      obtain ⟨X, hX⟩ : ∃ X, moreD (allD lx) kA (bkt r.to) (markOf r) (markOf was) = X := ⟨_, rfl⟩
      rw [hX] at HVX HLX2 HBB HDD
      clear hX
      have HRU := Lib.hid (HRT.out.keep HKU.out)
      have lr := (HRt.out wU HRU.out).1
      have lb2 := HLB.out wU HKU.out
      have HY := Lib.hid (dmore vx X ⟨kA, was⟩ r wU (Lg.of HVX.out) (by rw [HLX2.out]; omega))
      rw [HIB.out, HRO.out] at HY
      simp only at HY
      rw [HBB.out] at HY
      go_wp2_with fail
      refine HY.out.mono ?_
      rintro e wV ⟨vy, rfl, kV, cV⟩
      have HVY := Lib.hid (show Cells dl wV vy (allD lx) from by
        rcases cV with ⟨rfl, e2⟩ | ⟨g2, cap2, rfl, og⟩
        · rw [e2]
          exact HVX.out.keep kV
        · exact (og.row elD).cells)
      have HKV := Lib.hid kV
      have HRV := Lib.hid (HRU.out.keep kV)
      have HWV := Lib.hid ((HWT.out.keep HKU.out).keep kV)
      have HDV := Lib.hid ((HDT.out.keep HKU.out).keep kV)
      have HXV := Lib.hid (HVX.out.keep kV)
      have HKW := Lib.hid (((HK8.out.trans HKT.out).trans HKU.out).trans kV)
      clear cV kV HY lr lb2 HRT HWT HDT HRU HVX HKU HKV
      have HLk := Lib.hid (fun (w' : World) (k : Keep wV w') => like9 (.slice (some ⟨g, 0, none⟩) 17 17) (allD lx) w' (Lg.of (HDV.out.keep k)) (by rw [allD_len]; omega))
      have HSm := Lib.hid (fun (v : Value) (w' : World) (k : Keep wV w') (c : Cells dl w' v (allD lx)) => same9 vy v (allD lx) (allD lx) w' (Lg.of (HVY.out.keep k)) (Lg.of c) (by rw [allD_len]; omega) (by rw [allD_len]; omega))
      rw [show decide (allD lx = allD lx) = true from decide_eq_true rfl] at HSm
      have HDf := Lib.hid (fun (w' : World) (k : Keep wV w') => ddiffer (.slice (some ⟨g, 0, none⟩) 17 17) vx (allD lx) X w' (Lg.of (HDV.out.keep k)) (Lg.of (HXV.out.keep k)) (by rw [allD_len]; omega) (by rw [HLX2.out]; omega))
      have HMr := Lib.hid (dmark r)
      have HMw := Lib.hid (dmark was)
      rw [HRO.out] at HMr
      rw [HWS.out] at HMw
      clear HBB
      by_cases hm : markOf was = markOf r
      · have hdd : (((diffD (allD lx) X).length : Int) == 0) = true := by
          rw [HDD.out.2 hm]; simp
        have hmm : (markOf was == markOf r) = true := by simp [hm]
        obtain ⟨DD, hDD⟩ : ∃ x, diffD (allD lx) X = x := ⟨_, rfl⟩
        rw [hDD] at hdd
        simp only [hDD] at HDf
        clear hDD HDD hm
        generalize markOf was = mw at *
        generalize markOf r = m at *
        go_wp2_with fail
        refine wp_region_held_drew (S := fun w' => (loadCellsFrom ⟨w.heap.size, 0, none⟩ 0 n #[]).run Try.prog w' = .ok RO w' ∧ (loadCellsFrom ⟨w6.heap.size, 0, none⟩ 0 n #[]).run Try.prog w' = .ok WS w') (by kernel_rfl) ⟨HRt2.out _ (HRV.out.keep (Keep.refl wV).drew), HWl.out _ (HWV.out.keep (Keep.refl wV).drew)⟩ (fun hS => ?_)
        have hk : Keep wV wV.drew := (Keep.refl wV).drew
        generalize wV.drew = y0 at *
        refine wpAnyH_take (i := 0) (oi := ⟨some 63, _, _, _, _, _⟩) (v := vy) rfl (by kernel_rfl) (by kernel_rfl) (by kernel_rfl) (fun _ _ _ h => h) (Or.inl ⟨by kernel_rfl, fun u hu => ?_⟩) (by assumption) ?_
        · go_simp
        simp only [Act.put, List.setIfInBounds_toArray, List.set_cons_zero, List.set_cons_succ]
        refine wpAnyH_take (i := 1) (oi := ⟨some 64, _, _, _, _, _⟩) (v := .slice (some ⟨g, 0, none⟩) 17 17) rfl (by kernel_rfl) (by kernel_rfl) (by kernel_rfl) (fun _ _ _ h => h) (Or.inl ⟨by kernel_rfl, fun u hu => ?_⟩) (by assumption) ?_
        · go_simp
        simp only [Act.put, List.setIfInBounds_toArray, List.set_cons_zero, List.set_cons_succ]
        refine wpAnyH_ready (rs := [2]) (by kernel_rfl) (by simp) ?_
        refine AllReadyH.cons (o := ⟨some 65, _, _, _, _, _⟩) rfl (fun K hK => ?_) AllReadyH.nil
        go_simp
        go_wp2_with (go_at_call 34; refine (HLk.out _ hk).mono ?_; rintro e y1 ⟨vL, rfl, oL, b9⟩; have cL := (oL.row elQ).cells; replace hk := hk.trans b9; clear oL b9)
        refine hK.out _ _ ⟨HRt2.out _ (HRV.out.keep hk), HWl.out _ (HWV.out.keep hk)⟩ (fun hS2 => ?_)
        clear hK K hS
        have hS := hS2
        clear hS2
        refine wpAnyH_ready (rs := [3]) (by kernel_rfl) (by simp) ?_
        refine AllReadyH.cons (o := ⟨some 66, _, _, _, _, _⟩) rfl (fun K hK => ?_) AllReadyH.nil
        go_simp
        go_wp2_with (go_at_call 19; refine (HSm.out vL _ hk cL).mono ?_; rintro e y2 ⟨rfl, b9⟩; replace hk := hk.trans b9; clear cL b9)
        refine hK.out _ _ ⟨HRt2.out _ (HRV.out.keep hk), HWl.out _ (HWV.out.keep hk)⟩ (fun hS2 => ?_)
        clear hK K hS
        have hS := hS2
        clear hS2
        refine wpAnyH_take (i := 4) (oi := ⟨some 67, _, _, _, _, _⟩) (v := .bool true) rfl (by kernel_rfl) (by kernel_rfl) (by kernel_rfl) (fun _ _ _ h => h) (Or.inl ⟨by kernel_rfl, fun u hu => ?_⟩) (by assumption) ?_
        · go_simp
        simp only [Act.put, List.setIfInBounds_toArray, List.set_cons_zero, List.set_cons_succ]
        refine wpAnyH_take (i := 5) (oi := ⟨some 68, _, _, _, _, _⟩) (v := .slice (some ⟨g, 0, none⟩) 17 17) rfl (by kernel_rfl) (by kernel_rfl) (by kernel_rfl) (fun _ _ _ h => h) (Or.inl ⟨by kernel_rfl, fun u hu => ?_⟩) (by assumption) ?_
        · go_simp
        simp only [Act.put, List.setIfInBounds_toArray, List.set_cons_zero, List.set_cons_succ]
        refine wpAnyH_take (i := 6) (oi := ⟨some 69, _, _, _, _, _⟩) (v := vx) rfl (by kernel_rfl) (by kernel_rfl) (by kernel_rfl) (fun _ _ _ h => h) (Or.inl ⟨by kernel_rfl, fun u hu => ?_⟩) (by assumption) ?_
        · go_simp
        simp only [Act.put, List.setIfInBounds_toArray, List.set_cons_zero, List.set_cons_succ]
        refine wpAnyH_take (i := 10) (oi := ⟨some 73, _, _, _, _, _⟩) (v := .bool true) rfl (by kernel_rfl) (by kernel_rfl) (by kernel_rfl) (fun _ _ _ h => h) (Or.inl ⟨by kernel_rfl, fun u hu => ?_⟩) (by assumption) ?_
        · go_simp
        simp only [Act.put, List.setIfInBounds_toArray, List.set_cons_zero, List.set_cons_succ]
        refine wpAnyH_ready (rs := [7]) (by kernel_rfl) (by simp) ?_
        refine AllReadyH.cons (o := ⟨some 70, _, _, _, _, _⟩) rfl (fun K hK => ?_) AllReadyH.nil
        go_simp
        go_wp2_with (go_at_call 28; refine (HDf.out _ hk).mono ?_; rintro e y3 ⟨vD, rfl, oD, b9⟩; obtain ⟨aD, cD, eD, _, _⟩ := (oD.row elN).cells.form; subst eD; replace hk := hk.trans b9; clear oD b9)
        refine hK.out _ _ ⟨HRt2.out _ (HRV.out.keep hk), HWl.out _ (HWV.out.keep hk)⟩ (fun hS2 => ?_)
        clear hK K hS
        have hS := hS2
        clear hS2
        refine wpAnyH_take (i := 8) (oi := ⟨some 71, _, _, _, _, _⟩) (v := .int .i64 (DD.length : Nat)) rfl (by kernel_rfl) (by kernel_rfl) (by kernel_rfl) (fun _ _ _ h => h) (Or.inl ⟨by kernel_rfl, fun u hu => ?_⟩) (by assumption) ?_
        · go_simp
        simp only [Act.put, List.setIfInBounds_toArray, List.set_cons_zero, List.set_cons_succ]
        refine wpAnyH_take (i := 9) (oi := ⟨some 72, _, _, _, _, _⟩) (v := .bool true) rfl (by kernel_rfl) (by kernel_rfl) (by kernel_rfl) (fun _ _ _ h => h) (Or.inl ⟨by kernel_rfl, fun u hu => ?_⟩) (by assumption) ?_
        · go_simp
        simp only [Act.put, List.setIfInBounds_toArray, List.set_cons_zero, List.set_cons_succ]
        refine wpAnyH_take (i := 11) (oi := ⟨some 74, _, _, _, _, _⟩) (v := .bool true) rfl (by kernel_rfl) (by kernel_rfl) (by kernel_rfl) (fun _ _ _ h => h) (Or.inl ⟨by kernel_rfl, fun u hu => ?_⟩) (by assumption) ?_
        · go_simp
        simp only [Act.put, List.setIfInBounds_toArray, List.set_cons_zero, List.set_cons_succ]
        refine wpAnyH_take (i := 12) (oi := ⟨some 75, _, _, _, _, _⟩) (v := .agg WS) rfl (by kernel_rfl) (by kernel_rfl) (by kernel_rfl) (fun _ _ _ h => h) (Or.inl ⟨by kernel_rfl, fun u hu => ?_⟩) (by assumption) ?_
        · have h1 := hu.2; go_simp
        simp only [Act.put, List.setIfInBounds_toArray, List.set_cons_zero, List.set_cons_succ]
        refine wpAnyH_take (i := 14) (oi := ⟨some 77, _, _, _, _, _⟩) (v := .agg RO) rfl (by kernel_rfl) (by kernel_rfl) (by kernel_rfl) (fun _ _ _ h => h) (Or.inl ⟨by kernel_rfl, fun u hu => ?_⟩) (by assumption) ?_
        · have h1 := hu.1; go_simp
        simp only [Act.put, List.setIfInBounds_toArray, List.set_cons_zero, List.set_cons_succ]
        refine wpAnyH_ready (rs := [13]) (by kernel_rfl) (by simp) ?_
        refine AllReadyH.cons (o := ⟨some 76, _, _, _, _, _⟩) rfl (fun K hK => ?_) AllReadyH.nil
        go_simp
        go_wp2_with (go_at_call 15; refine (HMw.out _).mono ?_; rintro e y4 ⟨rfl, b9⟩; replace hk := hk.trans b9; clear b9)
        refine hK.out _ _ ⟨HRt2.out _ (HRV.out.keep hk), HWl.out _ (HWV.out.keep hk)⟩ (fun hS2 => ?_)
        clear hK K hS
        have hS := hS2
        clear hS2
        refine wpAnyH_ready (rs := [15]) (by kernel_rfl) (by simp) ?_
        refine AllReadyH.cons (o := ⟨some 78, _, _, _, _, _⟩) rfl (fun K hK => ?_) AllReadyH.nil
        go_simp
        go_wp2_with (go_at_call 15; refine (HMr.out _).mono ?_; rintro e y5 ⟨rfl, b9⟩; replace hk := hk.trans b9; clear b9)
        refine hK.out _ _ ⟨HRt2.out _ (HRV.out.keep hk), HWl.out _ (HWV.out.keep hk)⟩ (fun hS2 => ?_)
        clear hK K hS
        have hS := hS2
        clear hS2
        refine wpAnyH_take (i := 16) (oi := ⟨some 79, _, _, _, _, _⟩) (v := .bool true) rfl (by kernel_rfl) (by kernel_rfl) (by kernel_rfl) (fun _ _ _ h => h) (Or.inl ⟨by kernel_rfl, fun u hu => ?_⟩) (by assumption) ?_
        · go_simp
        simp only [Act.put, List.setIfInBounds_toArray, List.set_cons_zero, List.set_cons_succ]
        refine wpAnyH_take (i := 17) (oi := ⟨some 80, _, _, _, _, _⟩) (v := .bool true) rfl (by kernel_rfl) (by kernel_rfl) (by kernel_rfl) (fun _ _ _ h => h) (Or.inl ⟨by kernel_rfl, fun u hu => ?_⟩) (by assumption) ?_
        · go_simp
        simp only [Act.put, List.setIfInBounds_toArray, List.set_cons_zero, List.set_cons_succ]
        refine wpAnyH_take (i := 18) (oi := ⟨some 81, _, _, _, _, _⟩) (v := .bool true) rfl (by kernel_rfl) (by kernel_rfl) (by kernel_rfl) (fun _ _ _ h => h) (Or.inl ⟨by kernel_rfl, fun u hu => ?_⟩) (by assumption) ?_
        · go_simp
        simp only [Act.put, List.setIfInBounds_toArray, List.set_cons_zero, List.set_cons_succ]
        refine wpAnyH_take (i := 19) (oi := ⟨some 82, _, _, _, _, _⟩) (v := .bool true) rfl (by kernel_rfl) (by kernel_rfl) (by kernel_rfl) (fun _ _ _ h => h) (Or.inl ⟨by kernel_rfl, fun u hu => ?_⟩) (by assumption) ?_
        · go_simp
        simp only [Act.put, List.setIfInBounds_toArray, List.set_cons_zero, List.set_cons_succ]
        refine wpAnyH_take (i := 20) (oi := ⟨some 4, _, _, _, _, _⟩) (v := .bool true) rfl (by kernel_rfl) (by kernel_rfl) (by kernel_rfl) (fun _ _ _ h => h) (Or.inl ⟨by kernel_rfl, fun u hu => ?_⟩) (by assumption) ?_
        · go_simp
        simp only [Act.put, List.setIfInBounds_toArray, List.set_cons_zero, List.set_cons_succ]
        refine wpAnyH_done (by kernel_rfl) ?_ _
        have HKf := Lib.hid (HKW.out.trans hk)
        clear hk
        go_wp2
        go_ret
        exact ⟨rfl, HKf.out⟩
      · have hdd : (((diffD (allD lx) X).length : Int) == 0) = false := by
          cases h : diffD (allD lx) X with
          | nil => exact absurd (HDD.out.1 h) hm
          | cons _ _ => simp; omega
        have hmm : (markOf was == markOf r) = false := by simp [hm]
        obtain ⟨DD, hDD⟩ : ∃ x, diffD (allD lx) X = x := ⟨_, rfl⟩
        rw [hDD] at hdd
        simp only [hDD] at HDf
        clear hDD HDD hm
        generalize markOf was = mw at *
        generalize markOf r = m at *
        go_wp2_with fail
        refine wp_region_held_drew (S := fun w' => (loadCellsFrom ⟨w.heap.size, 0, none⟩ 0 n #[]).run Try.prog w' = .ok RO w' ∧ (loadCellsFrom ⟨w6.heap.size, 0, none⟩ 0 n #[]).run Try.prog w' = .ok WS w') (by kernel_rfl) ⟨HRt2.out _ (HRV.out.keep (Keep.refl wV).drew), HWl.out _ (HWV.out.keep (Keep.refl wV).drew)⟩ (fun hS => ?_)
        have hk : Keep wV wV.drew := (Keep.refl wV).drew
        generalize wV.drew = y0 at *
        refine wpAnyH_take (i := 0) (oi := ⟨some 63, _, _, _, _, _⟩) (v := vy) rfl (by kernel_rfl) (by kernel_rfl) (by kernel_rfl) (fun _ _ _ h => h) (Or.inl ⟨by kernel_rfl, fun u hu => ?_⟩) (by assumption) ?_
        · go_simp
        simp only [Act.put, List.setIfInBounds_toArray, List.set_cons_zero, List.set_cons_succ]
        refine wpAnyH_take (i := 1) (oi := ⟨some 64, _, _, _, _, _⟩) (v := .slice (some ⟨g, 0, none⟩) 17 17) rfl (by kernel_rfl) (by kernel_rfl) (by kernel_rfl) (fun _ _ _ h => h) (Or.inl ⟨by kernel_rfl, fun u hu => ?_⟩) (by assumption) ?_
        · go_simp
        simp only [Act.put, List.setIfInBounds_toArray, List.set_cons_zero, List.set_cons_succ]
        refine wpAnyH_ready (rs := [2]) (by kernel_rfl) (by simp) ?_
        refine AllReadyH.cons (o := ⟨some 65, _, _, _, _, _⟩) rfl (fun K hK => ?_) AllReadyH.nil
        go_simp
        go_wp2_with (go_at_call 34; refine (HLk.out _ hk).mono ?_; rintro e y1 ⟨vL, rfl, oL, b9⟩; have cL := (oL.row elQ).cells; replace hk := hk.trans b9; clear oL b9)
        refine hK.out _ _ ⟨HRt2.out _ (HRV.out.keep hk), HWl.out _ (HWV.out.keep hk)⟩ (fun hS2 => ?_)
        clear hK K hS
        have hS := hS2
        clear hS2
        refine wpAnyH_ready (rs := [3]) (by kernel_rfl) (by simp) ?_
        refine AllReadyH.cons (o := ⟨some 66, _, _, _, _, _⟩) rfl (fun K hK => ?_) AllReadyH.nil
        go_simp
        go_wp2_with (go_at_call 19; refine (HSm.out vL _ hk cL).mono ?_; rintro e y2 ⟨rfl, b9⟩; replace hk := hk.trans b9; clear cL b9)
        refine hK.out _ _ ⟨HRt2.out _ (HRV.out.keep hk), HWl.out _ (HWV.out.keep hk)⟩ (fun hS2 => ?_)
        clear hK K hS
        have hS := hS2
        clear hS2
        refine wpAnyH_take (i := 4) (oi := ⟨some 67, _, _, _, _, _⟩) (v := .bool true) rfl (by kernel_rfl) (by kernel_rfl) (by kernel_rfl) (fun _ _ _ h => h) (Or.inl ⟨by kernel_rfl, fun u hu => ?_⟩) (by assumption) ?_
        · go_simp
        simp only [Act.put, List.setIfInBounds_toArray, List.set_cons_zero, List.set_cons_succ]
        refine wpAnyH_take (i := 5) (oi := ⟨some 68, _, _, _, _, _⟩) (v := .slice (some ⟨g, 0, none⟩) 17 17) rfl (by kernel_rfl) (by kernel_rfl) (by kernel_rfl) (fun _ _ _ h => h) (Or.inl ⟨by kernel_rfl, fun u hu => ?_⟩) (by assumption) ?_
        · go_simp
        simp only [Act.put, List.setIfInBounds_toArray, List.set_cons_zero, List.set_cons_succ]
        refine wpAnyH_take (i := 6) (oi := ⟨some 69, _, _, _, _, _⟩) (v := vx) rfl (by kernel_rfl) (by kernel_rfl) (by kernel_rfl) (fun _ _ _ h => h) (Or.inl ⟨by kernel_rfl, fun u hu => ?_⟩) (by assumption) ?_
        · go_simp
        simp only [Act.put, List.setIfInBounds_toArray, List.set_cons_zero, List.set_cons_succ]
        refine wpAnyH_take (i := 10) (oi := ⟨some 73, _, _, _, _, _⟩) (v := .bool true) rfl (by kernel_rfl) (by kernel_rfl) (by kernel_rfl) (fun _ _ _ h => h) (Or.inl ⟨by kernel_rfl, fun u hu => ?_⟩) (by assumption) ?_
        · go_simp
        simp only [Act.put, List.setIfInBounds_toArray, List.set_cons_zero, List.set_cons_succ]
        refine wpAnyH_ready (rs := [7]) (by kernel_rfl) (by simp) ?_
        refine AllReadyH.cons (o := ⟨some 70, _, _, _, _, _⟩) rfl (fun K hK => ?_) AllReadyH.nil
        go_simp
        go_wp2_with (go_at_call 28; refine (HDf.out _ hk).mono ?_; rintro e y3 ⟨vD, rfl, oD, b9⟩; obtain ⟨aD, cD, eD, _, _⟩ := (oD.row elN).cells.form; subst eD; replace hk := hk.trans b9; clear oD b9)
        refine hK.out _ _ ⟨HRt2.out _ (HRV.out.keep hk), HWl.out _ (HWV.out.keep hk)⟩ (fun hS2 => ?_)
        clear hK K hS
        have hS := hS2
        clear hS2
        refine wpAnyH_take (i := 8) (oi := ⟨some 71, _, _, _, _, _⟩) (v := .int .i64 (DD.length : Nat)) rfl (by kernel_rfl) (by kernel_rfl) (by kernel_rfl) (fun _ _ _ h => h) (Or.inl ⟨by kernel_rfl, fun u hu => ?_⟩) (by assumption) ?_
        · go_simp
        simp only [Act.put, List.setIfInBounds_toArray, List.set_cons_zero, List.set_cons_succ]
        refine wpAnyH_take (i := 9) (oi := ⟨some 72, _, _, _, _, _⟩) (v := .bool false) rfl (by kernel_rfl) (by kernel_rfl) (by kernel_rfl) (fun _ _ _ h => h) (Or.inl ⟨by kernel_rfl, fun u hu => ?_⟩) (by assumption) ?_
        · go_simp
        simp only [Act.put, List.setIfInBounds_toArray, List.set_cons_zero, List.set_cons_succ]
        refine wpAnyH_take (i := 11) (oi := ⟨some 74, _, _, _, _, _⟩) (v := .bool true) rfl (by kernel_rfl) (by kernel_rfl) (by kernel_rfl) (fun _ _ _ h => h) (Or.inl ⟨by kernel_rfl, fun u hu => ?_⟩) (by assumption) ?_
        · go_simp
        simp only [Act.put, List.setIfInBounds_toArray, List.set_cons_zero, List.set_cons_succ]
        refine wpAnyH_take (i := 12) (oi := ⟨some 75, _, _, _, _, _⟩) (v := .agg WS) rfl (by kernel_rfl) (by kernel_rfl) (by kernel_rfl) (fun _ _ _ h => h) (Or.inl ⟨by kernel_rfl, fun u hu => ?_⟩) (by assumption) ?_
        · have h1 := hu.2; go_simp
        simp only [Act.put, List.setIfInBounds_toArray, List.set_cons_zero, List.set_cons_succ]
        refine wpAnyH_take (i := 14) (oi := ⟨some 77, _, _, _, _, _⟩) (v := .agg RO) rfl (by kernel_rfl) (by kernel_rfl) (by kernel_rfl) (fun _ _ _ h => h) (Or.inl ⟨by kernel_rfl, fun u hu => ?_⟩) (by assumption) ?_
        · have h1 := hu.1; go_simp
        simp only [Act.put, List.setIfInBounds_toArray, List.set_cons_zero, List.set_cons_succ]
        refine wpAnyH_ready (rs := [13]) (by kernel_rfl) (by simp) ?_
        refine AllReadyH.cons (o := ⟨some 76, _, _, _, _, _⟩) rfl (fun K hK => ?_) AllReadyH.nil
        go_simp
        go_wp2_with (go_at_call 15; refine (HMw.out _).mono ?_; rintro e y4 ⟨rfl, b9⟩; replace hk := hk.trans b9; clear b9)
        refine hK.out _ _ ⟨HRt2.out _ (HRV.out.keep hk), HWl.out _ (HWV.out.keep hk)⟩ (fun hS2 => ?_)
        clear hK K hS
        have hS := hS2
        clear hS2
        refine wpAnyH_ready (rs := [15]) (by kernel_rfl) (by simp) ?_
        refine AllReadyH.cons (o := ⟨some 78, _, _, _, _, _⟩) rfl (fun K hK => ?_) AllReadyH.nil
        go_simp
        go_wp2_with (go_at_call 15; refine (HMr.out _).mono ?_; rintro e y5 ⟨rfl, b9⟩; replace hk := hk.trans b9; clear b9)
        refine hK.out _ _ ⟨HRt2.out _ (HRV.out.keep hk), HWl.out _ (HWV.out.keep hk)⟩ (fun hS2 => ?_)
        clear hK K hS
        have hS := hS2
        clear hS2
        refine wpAnyH_take (i := 16) (oi := ⟨some 79, _, _, _, _, _⟩) (v := .bool false) rfl (by kernel_rfl) (by kernel_rfl) (by kernel_rfl) (fun _ _ _ h => h) (Or.inl ⟨by kernel_rfl, fun u hu => ?_⟩) (by assumption) ?_
        · go_simp
        simp only [Act.put, List.setIfInBounds_toArray, List.set_cons_zero, List.set_cons_succ]
        refine wpAnyH_take (i := 17) (oi := ⟨some 80, _, _, _, _, _⟩) (v := .bool false) rfl (by kernel_rfl) (by kernel_rfl) (by kernel_rfl) (fun _ _ _ h => h) (Or.inl ⟨by kernel_rfl, fun u hu => ?_⟩) (by assumption) ?_
        · go_simp
        simp only [Act.put, List.setIfInBounds_toArray, List.set_cons_zero, List.set_cons_succ]
        refine wpAnyH_take (i := 18) (oi := ⟨some 81, _, _, _, _, _⟩) (v := .bool true) rfl (by kernel_rfl) (by kernel_rfl) (by kernel_rfl) (fun _ _ _ h => h) (Or.inl ⟨by kernel_rfl, fun u hu => ?_⟩) (by assumption) ?_
        · go_simp
        simp only [Act.put, List.setIfInBounds_toArray, List.set_cons_zero, List.set_cons_succ]
        refine wpAnyH_take (i := 19) (oi := ⟨some 82, _, _, _, _, _⟩) (v := .bool true) rfl (by kernel_rfl) (by kernel_rfl) (by kernel_rfl) (fun _ _ _ h => h) (Or.inl ⟨by kernel_rfl, fun u hu => ?_⟩) (by assumption) ?_
        · go_simp
        simp only [Act.put, List.setIfInBounds_toArray, List.set_cons_zero, List.set_cons_succ]
        refine wpAnyH_take (i := 20) (oi := ⟨some 4, _, _, _, _, _⟩) (v := .bool true) rfl (by kernel_rfl) (by kernel_rfl) (by kernel_rfl) (fun _ _ _ h => h) (Or.inl ⟨by kernel_rfl, fun u hu => ?_⟩) (by assumption) ?_
        · go_simp
        simp only [Act.put, List.setIfInBounds_toArray, List.set_cons_zero, List.set_cons_succ]
        refine wpAnyH_done (by kernel_rfl) ?_ _
        have HKf := Lib.hid (HKW.out.trans hk)
        clear hk
        go_wp2
        go_ret
        exact ⟨rfl, HKf.out⟩

open Go.ChangeShapes Go.WideShapes Go.ChangeAt
theorem own : ownKnob Try.prog.godebug = none := by kernel_rfl
theorem laidOut : laidOutB Try.prog = true := by kernel_rfl

set_option maxRecDepth 100000 in
theorem lifted (os : Os) (started : os.Started) (H : Type) (enc : TypeId × Value → H) :
    ReturnsInHanded {} Try.checked os 9 .any (Rows.digestBackSpec.pre6 enc Try.prog Try.f9 Rows.digestBackRow.domain false) (Rows.digestBackSpec.post enc Try.prog Try.f9 false true false false) := by
  refine returnsInHanded_of_change (C := Try.checked) own started (by kernel_rfl) Try.func9
    (ChangeSpec.witness6 (enc := enc) (C := Try.checked) false ⟨#[], #[.slice none 0 0, .agg (rc zeroR)], []⟩ 8 (by kernel_rfl) (by kernel_rfl) (by kernel_rfl) (by kernel_rfl)) ?_
  intro W base args ds gs before hval0 hW hcnd _
  have hval : ∀ (j : Nat) t v, Try.f9.params[j]? = some t → args[j]? = some v → Value.okWide Try.prog W .any base t v := hval0
  have hW' := hW
  obtain ⟨p, q, hA0, hV, rfl, hfz, hnd⟩ := hW
  have hA : DataW.TrodAll enc Try.prog W 0 (fun _ => true) true Try.f9.params.toList args.toList ds p := hA0

  rw [Try.params9] at hA hval
  obtain ⟨v0, vs0, d0, ds0, p0, q0, hargs, rfl, rfl, h0, r0⟩ := trodAll_cons hA
  obtain ⟨v1, vs1, d1, ds1, p1, q1, rfl, rfl, rfl, h1, r1⟩ := trodAll_cons r0
  obtain ⟨rfl, rfl, rfl⟩ := trodAll_nil r1
  obtain rfl : args = #[v0, v1] := by cases args; simp_all
  obtain ⟨rfl, rfl⟩ := trodVars_none hV
  have k0 := h0
  have lt0 : ∀ x ∈ p0, x.block < W.heap.size := by obtain ⟨m, hm⟩ := k0; exact DataW.trod_lt m _ _ _ hm
  have k1 := h1
  have lt1 : ∀ x ∈ p1, x.block < W.heap.size := by obtain ⟨m, hm⟩ := k1; exact DataW.trod_lt m _ _ _ hm
  obtain ⟨a0, cap0, l0, rfl, f0, sq0⟩ := open_routesN (hval 0 22 v0 rfl rfl) h0
  obtain ⟨r1, rfl, sq1⟩ := open_routeS (hval 1 37 v1 rfl rfl) h1
  clear hA0 hval0
  refine (walk a0 cap0 l0 r1 W f0 sq0 sq1).mono fun e W' ⟨he, bel⟩ => ?_
  subst he
  exact ⟨_, rfl, _, _, _, [], _, [], hW', trodAll_mk1 (shut_bool Try.underlying4 _), (trodAll_cons_mk (Below.trod laidOut (by kernel_rfl) (of_decide_eq_true (by kernel_rfl)) k0 bel lt0) (trodAll_cons_mk (Below.trod laidOut (by kernel_rfl) (of_decide_eq_true (by kernel_rfl)) k1 bel lt1) trodAll_mk0)), rfl, bel.frame _, fun h => by cases h⟩

theorem over : Rows.digestBackRow.holds Try.pinned (OpenSpec.ofChange Rows.digestBackSpec) :=
  OpenClaim.holds_of_wide 9 Try.f9 rfl rfl rfl rfl rfl rfl rfl ⟨rfl, rfl, rfl, rfl, rfl⟩ rfl rfl rfl rfl rfl (by kernel_rfl) Try.func9 (by kernel_rfl)
    (of_decide_eq_true (by kernel_rfl)) (by unfold Func.isWrapper; first | (rw [if_pos (by decide +kernel)]; kernel_rfl) | (rw [if_neg (by decide +kernel)]; exact ⟨rfl, rfl⟩))
    (fun os started H enc _ => lifted os started H enc)
end Go.Proofs.Ytfikdeobejhblaa.LDigestBack

namespace Go.Proofs.Ytfikdeobejhblaa
theorem digestBack_holds : Rows.DigestBackSaid := LDigestBack.over
#print axioms digestBack_holds
end Go.Proofs.Ytfikdeobejhblaa

