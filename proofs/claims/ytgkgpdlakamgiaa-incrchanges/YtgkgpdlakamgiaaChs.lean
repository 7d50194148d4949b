/- Proved: IncrChanges: the changes between two tables are a row that can be written, folds the one into the other, and merged with its way back changes nothing. Condition: none of our own. -/
import Derived.Test.YtgkgpdlakamgiaaOi
import Derived.SizedLaws
namespace Go.Proofs.Ytgkgpdlakamgiaa.LIncrChanges
open Go.RowKit

theorem do_len {t : List Rt} (hs : Sorted t) (k : Int) (r : Rt) : (doS t k r).1.length ≤ t.length + 1 := by
  have h1 := putL_len hs r
  have h2 : (cutP t r.to).length ≤ t.length := by
    unfold cutP
    simp
    omega
  have h3 : (putL t r).length ≤ t.length + 1 := by
    rw [h1]
    split <;> omega
  unfold doS putS dropS
  repeat' split
  all_goals simp only
  all_goals omega
theorem fold_run : ∀ (is : List Ic) (t : List Rt) (k : Nat), Sorted t → Fine t is → t.length + is.length < 300 → foldS t is k = (runC t is, k + is.length, 0)
  | [], _, _, _, _, _ => rfl
  | i :: is, t, k, hs, hf, hl => by
    unfold Fine at hf
    have hd := do_len hs i.kind i.route
    have h0 : (doS t i.kind i.route).2 = 0 := by
      rcases hf.1 with h | h
      · exact h
      · rw [List.length_cons] at hl
        omega
    obtain ⟨k1, _⟩ := doS_ok hs (by omega) i.kind i.route
    rw [foldS, if_pos h0, fold_run is _ (k + 1) k1 hf.2 (by rw [List.length_cons] at hl; omega)]
    rw [List.length_cons, show k + 1 + is.length = k + (is.length + 1) by omega, show runC t (i :: is) = runC (doS t i.kind i.route).1 is from rfl]
theorem fold_chg {l m : List Rt} (sl : Sorted l) (sm : Sorted m) (rl : ∀ a ∈ l, rightR a) (rm : ∀ b ∈ m, rightR b) (h1 : l.length ≤ 90) (h2 : m.length ≤ 90) : foldS l (chg l m) 0 = (m, (chg l m).length, 0) ∧ (chg l m).length ≤ 180 := by
  have hlen := (chg_len _ l m (Nat.le_refl _)).1
  have hf := fine _ l m l (Nat.le_refl _) sl sm sl (by omega) rl rm (fun a ha => has_iff.2 ⟨a, ha, rfl⟩) (fun _ _ => rfl)
  have hr := run_chg _ l m [] (Nat.le_refl _) sl sm (by simp; omega) rl rm (by simp) (by simp)
  simp only [List.nil_append] at hr
  refine ⟨?_, by omega⟩
  rw [fold_run _ l 0 sl hf (by omega), hr, Nat.zero_add]
theorem chg_sq (n : Nat) : ∀ (l m : List Rt), l.length + m.length ≤ n → (∀ r ∈ l, Sq r) → (∀ r ∈ m, Sq r) → ∀ i ∈ chg l m, SqI i := by
  induction n with
  | zero =>
    intro l m hn _ _
    obtain rfl : l = [] := List.eq_nil_of_length_eq_zero (by omega)
    obtain rfl : m = [] := List.eq_nil_of_length_eq_zero (by omega)
    rw [chg_nil]
    simp
  | succ n ih =>
    intro l m hn hl hm
    by_cases hend : l = [] ∧ m = []
    · obtain ⟨rfl, rfl⟩ := hend
      rw [chg_nil]
      simp
    by_cases hneg : ahd l m < 0
    · obtain ⟨a, k, rfl⟩ := ahd_neg hneg
      have := ih k m (by simp at hn; omega) (fun x hx => hl x (by simp [hx])) hm
      rw [chg_old a k m hneg]
      intro i hi
      rcases List.mem_cons.1 hi with rfl | hi
      · exact ⟨by show (0 : Int) ≤ 0; omega, by show (0 : Int) < 4294967296; omega⟩
      · exact this i hi
    · by_cases hpos : 0 < ahd l m
      · obtain ⟨b, k, rfl⟩ := ahd_pos hpos hend
        have := ih l k (by simp at hn; omega) hl (fun x hx => hm x (by simp [hx]))
        rw [chg_new b l k hpos]
        intro i hi
        rcases List.mem_cons.1 hi with rfl | hi
        · exact hm b (by simp)
        · exact this i hi
      · have hz : ahd l m = 0 := by omega
        obtain ⟨a, k, b, j, rfl, rfl⟩ := ahd_zero hz
        have := ih k j (by simp at hn; omega) (fun x hx => hl x (by simp [hx])) (fun x hx => hm x (by simp [hx]))
        rw [chg_same a b k j hz]
        split
        · exact this
        · intro i hi
          rcases List.mem_cons.1 hi with rfl | hi
          · exact hm b (by simp)
          · exact this i hi
theorem pigeon (l m : List Px) (hn : l.Nodup) (h : ∀ x ∈ l, x ∈ m) : l.length ≤ m.length := by
  induction l generalizing m with
  | nil => simp
  | cons x l ih =>
    obtain ⟨h1, h2⟩ := List.nodup_cons.1 hn
    have hx := h x (by simp)
    have := ih (m.erase x) h2 fun y hy => (List.mem_erase_of_ne (fun e => h1 (by rw [← e]; exact hy))).2 (h y (by simp [hy]))
    rw [List.length_erase_of_mem hx] at this
    have := List.length_pos_of_mem hx
    simp
    omega
theorem merge_back {t u : List Rt} {a b : List Ic} {n m : Nat} (hs : Sorted t) (hl : t.length ≤ 90) (h1 : foldS t a 0 = (u, n, 0)) (h2 : foldS u b 0 = (t, m, 0)) : ∃ W, mg (a ++ b) = some W ∧ (∀ i ∈ a, rightI i) ∧ ∀ m, IsMg W m → m.length ≤ 90 ∧ foldS t m 0 = (t, m.length, 0) := by
  obtain ⟨W1, a1, a2, a3, a4, a5, _⟩ := fold_inv a t [] 0 (Inv.start t) hs (by omega) (by rw [h1])
  rw [h1] at a2 a3 a4
  obtain ⟨W2, b1, b2, b3, b4, b5, _⟩ := fold_inv b u W1 0 a2 a3 a4 (by rw [h2])
  rw [h2] at b2 b3
  have hst : storS [] (a ++ b) = some W2 := by
    rw [storS_app, a1]
    exact b1
  refine ⟨W2, ?_, a5, fun m hm => ?_⟩
  · unfold mg
    rw [if_pos fun i hi => ?_, hst]
    rcases List.mem_append.1 hi with h | h
    · exact a5 i h
    · exact b5 i h
  · have hlen : m.length ≤ t.length := by
      have hnd : (m.map fun i => i.route.to).Nodup := List.pairwise_map.2 (hm.sorted.imp fun {x y} e e2 => by rw [(cmp_zero x.route.ok y.route.ok).2 e2] at e; omega)
      have := pigeon (m.map fun i => i.route.to) (t.map fun r => r.to) hnd fun p hp => by
        obtain ⟨i, hi, rfl⟩ := List.mem_map.1 hp
        obtain ⟨s, hsm, hse⟩ := (hm.mem i).1 hi
        have hr := effS_to hse
        cases hw : s.was
        · have his : s.is = true := by
            cases hi2 : s.is
            · unfold effS at hse
              rw [hw, hi2] at hse
              simp at hse
            · rfl
          have := (b2.mem s.last.route).2 (.inr ⟨s, hsm, his, rfl⟩)
          exact List.mem_map.2 ⟨_, this, by rw [hr]⟩
        · have hh := b2.was s hsm
          rw [hw] at hh
          obtain ⟨x, hx, e⟩ := has_iff.1 hh.symm
          exact List.mem_map.2 ⟨x, hx, by rw [e, hr]; rfl⟩
      simpa using this
    exact ⟨by omega, merge_fold b2 hm hs hs (by omega)⟩
theorem right_of {l : List Rt} (h : newE l = 0) : ∀ r ∈ l, rightR r := by
  unfold newE at h
  split at h
  · assumption
  · simp at h

set_option maxRecDepth 100000 in
set_option maxHeartbeats 4000000 in
theorem walk (a : Option Addr) (acap : Nat) (la : List Rt) (b : Option Addr) (bcap : Nat) (lb : List Rt) (w : World) (hA : ArgN rl w a acap la) (ha : ∀ x ∈ la, Sq x) (hB : ArgN rl w b bcap lb) (hb : ∀ x ∈ lb, Sq x) :
    Calls Try.prog 4 #[.slice a la.length acap, .slice b lb.length bcap] w fun e w' => e = .returned (.bool true) ∧ Keep w w' := by
  have HAw := Lib.hid awake
  have hs2 := hA.small
  have hs3 := hB.small
  have HA := Lib.hid hA
  have HB := Lib.hid hB
  have HSA := Lib.hid ha
  have HSB := Lib.hid hb
  obtain ⟨NA, hNA⟩ : ∃ N, la.length = N := ⟨_, rfl⟩
  obtain ⟨NB, hNB⟩ : ∃ N, lb.length = N := ⟨_, rfl⟩
  have HNA := Lib.hid hNA
  have HNB := Lib.hid hNB
  rw [hNA] at hs2
  rw [hNB] at hs3
  rw [hNA, hNB]
  clear hA hB hNA hNB ha hb
  unfold maxLen at hs2 hs3
  by_cases h1 : NA > 90
  · have h1i : (NA : Int) > 90 := by omega
    go_enter Try.func4, Try.ntmps4
    go_wp2_with fail
    refine (HAw.out _).mono ?_
    rintro e w1 ⟨rfl, k1⟩
    have HK1 := Lib.hid k1
    clear k1
    go_wp2_with fail
    refine (HAw.out _).mono ?_
    rintro e w2 ⟨rfl, k2⟩
    go_wp2
    go_ret
    exact ⟨rfl, HK1.out.trans k2⟩
  · have h1i : ¬ (NA : Int) > 90 := by omega
    by_cases h2 : NB > 90
    · have h2i : (NB : Int) > 90 := by omega
      go_enter Try.func4, Try.ntmps4
      go_wp2_with fail
      refine (HAw.out _).mono ?_
      rintro e w1 ⟨rfl, k1⟩
      have HK1 := Lib.hid k1
      clear k1
      go_wp2_with fail
      refine (HAw.out _).mono ?_
      rintro e w2 ⟨rfl, k2⟩
      go_wp2
      go_ret
      exact ⟨rfl, HK1.out.trans k2⟩
    · have h2i : ¬ (NB : Int) > 90 := by omega
      have HSL := Lib.hid slice_no
      go_enter Try.func4, Try.ntmps4
      go_wp2_with fail
      refine (HAw.out _).mono ?_
      rintro e w1 ⟨rfl, k1⟩
      have HK1 := Lib.hid k1
      have HA1 := Lib.hid ((HA.out.keep k1).keep ((Keep.refl w1).alloc (.cells #[] 45)))
      have HO1 := Lib.hid (Own.made (t := 45) (k := 20) (enc := rl) w1.heap.size w1 (Nat.le_refl _))
      clear k1
      go_wp2_with (first | ((with_reducible refine at_slice [] ?_ (.slice (some ⟨w1.heap.size, 0, none⟩) 0 0) (HSL.out w1) ?_); rfl) | (at_builtin; refine wp_appN elR rfl _ _ rfl w1.heap.size _ a NA acap [] la rfl HNA.out rfl HO1.out HA1.out ?q1 ?q2 ?q3 ?_))
      case q1 => rw [HNA.out]; simp; omega
      case q2 => rw [HNA.out]; simp; omega
      case q3 => simp
      intro v2 w2 o2 g2
      have HK2 := Lib.hid (HK1.out.trans (HO1.out.grown ((Keep.refl w1).alloc _) (Nat.le_refl _) g2))
      have HNw := Lib.hid (new v2 la w2 (o2.row elR).cells (by rw [HNA.out]; omega))
      clear o2 g2 HA1 HO1 HK1
      go_wp2_with fail
      refine HNw.out.mono ?_
      rintro e w3 ⟨p, rfl, k3, hx⟩
      have HK3 := Lib.hid (HK2.out.trans k3)
      have HX3 := Lib.hid hx
      have HA3 := Lib.hid ((HB.out.keep HK3.out).keep ((Keep.refl w3).alloc (.cells #[] 45)))
      have HO3 := Lib.hid (Own.made (t := 45) (k := 20) (enc := rl) w3.heap.size w3 (Nat.le_refl _))
      clear k3 hx HK2 HNw
      go_wp2_with (first | ((with_reducible refine at_slice [] ?_ (.slice (some ⟨w3.heap.size, 0, none⟩) 0 0) (HSL.out w3) ?_); rfl) | (at_builtin; refine wp_appN elR rfl _ _ rfl w3.heap.size _ b NB bcap [] lb rfl HNB.out rfl HO3.out HA3.out ?r1 ?r2 ?r3 ?_))
      case r1 => rw [HNB.out]; simp; omega
      case r2 => rw [HNB.out]; simp; omega
      case r3 => simp
      intro v4 w4 o4 g4
      have HG4 := Lib.hid (HO3.out.grown ((Keep.refl w3).alloc _) (Nat.le_refl _) g4)
      have HK4 := Lib.hid (HK3.out.trans HG4.out)
      have HNw := Lib.hid (new v4 lb w4 (o4.row elR).cells (by rw [HNB.out]; omega))
      clear o4 g4 HA3 HO3 HK3
      go_wp2_with fail
      refine HNw.out.mono ?_
      rintro e w5 ⟨p2, rfl, k5, hy⟩
      have HK5 := Lib.hid (HK4.out.trans k5)
      rcases HX3.out with ⟨e0, rfl⟩ | ⟨e0, bx, lx, rfl, _, px, tx⟩
      · have h0b : (newE la != 0) = true := by simpa using e0
        clear k5 hy e0
        go_wp2
        go_ret
        exact ⟨rfl, HK5.out⟩
      rcases hy with ⟨e1, rfl⟩ | ⟨e1, by', ly, rfl, _, py, ty⟩
      · have h0b : (newE lb != 0) = true := by simpa using e1
        rw [e0]
        clear k5 e1
        go_wp2
        go_ret
        exact ⟨rfl, HK5.out⟩
      have HX5 := Lib.hid (tx.keep (HG4.out.trans k5))
      have HY5 := Lib.hid ty
      have rx : ∀ r ∈ lx, rightR r := fun r hr => right_of e0 r (px.mem_iff.1 hr)
      have ry : ∀ r ∈ ly, rightR r := fun r hr => right_of e1 r (py.mem_iff.1 hr)
      have nx : lx.length ≤ 90 := by rw [px.length_eq, HNA.out]; omega
      have ny : ly.length ≤ 90 := by rw [py.length_eq, HNB.out]; omega
      obtain ⟨F1, L1⟩ := fold_chg tx.sorted ty.sorted rx ry nx ny
      obtain ⟨F2, L2⟩ := fold_chg ty.sorted tx.sorted ry rx ny nx
      obtain ⟨W, hW, hri, hWm⟩ := merge_back tx.sorted nx F1 F2
      have hsq := chg_sq _ lx ly (Nat.le_refl _) (fun r hr => HSA.out r (px.mem_iff.1 hr)) (fun r hr => HSB.out r (py.mem_iff.1 hr))
      have HP : Hid (printI (chg lx ly) = (rowB (chg lx ly), 0)) := by
        show printI (chg lx ly) = _
        unfold printI
        rw [if_pos hri, if_neg (by omega)]
      have HC1 := Lib.hid (fun (w : World) (h1 : Tb w bx lx) (h2 : Tb w by' ly) => changes (.pointer (some ⟨bx, 0, none⟩)) (.pointer (some ⟨by', 0, none⟩)) lx ly w (.inr ⟨bx, rfl, h1⟩) (.inr ⟨by', rfl, h2⟩))
      have HC2 := Lib.hid (fun (w : World) (h1 : Tb w bx lx) (h2 : Tb w by' ly) => changes (.pointer (some ⟨by', 0, none⟩)) (.pointer (some ⟨bx, 0, none⟩)) ly lx w (.inr ⟨by', rfl, h2⟩) (.inr ⟨bx, rfl, h1⟩))
      have HFo := Lib.hid (fun (v : Value) (w : World) (h1 : Tb w bx lx) (h2 : Cells il w v (chg lx ly)) => ifold_ok h1 (Ls.of h2) (by omega) F1)
      have HMg := Lib.hid (fun (u v : Value) (w : World) (h1 : Cells il w u (chg lx ly)) (h2 : Cells il w v (chg ly lx)) => imerge_ok h1 h2 (by omega) hW)
      have HFm := Lib.hid (fun (m : List Ic) (hm : IsMg W m) (v : Value) (w : World) (h1 : Tb w bx lx) (h2 : Cells il w v m) => ifold_ok h1 (Ls.of h2) (by have := (hWm m hm).1; omega) (hWm m hm).2)
      have HPr := Lib.hid (fun (v : Value) (w : World) (h2 : Cells il w v (chg lx ly)) => iprint v (chg lx ly) w (Ls.of h2) hsq (by omega))
      rw [HP.out] at HPr
      have HS1 := Lib.hid (fun (c : Nat) (w : World) (h1 : Tb w c ly) (h2 : Tb w by' ly) => same (.pointer (some ⟨c, 0, none⟩)) (.pointer (some ⟨by', 0, none⟩)) ly ly w (.inr ⟨c, rfl, h1⟩) (.inr ⟨by', rfl, h2⟩))
      have HS2 := Lib.hid (fun (c : Nat) (w : World) (h1 : Tb w c lx) (h2 : Tb w bx lx) => same (.pointer (some ⟨c, 0, none⟩)) (.pointer (some ⟨bx, 0, none⟩)) lx lx w (.inr ⟨c, rfl, h1⟩) (.inr ⟨bx, rfl, h2⟩))
      simp only [decide_true] at HS1 HS2
      rw [e0, e1]
      clear k5 tx ty px py rx ry nx ny F1 F2 hW hri hWm hsq HX3 HNw HK4 HG4 HP e0 e1
      generalize hD1 : chg lx ly = D1 at *
      generalize hD2 : chg ly lx = D2 at *
      generalize rowB D1 = RB at *
      clear hD1 hD2
      go_wp2_with fail
      refine (HC1.out w5 HX5.out HY5.out).mono ?_
      rintro e w6 ⟨u1, rfl, r6, k6⟩
      have HX6 := Lib.hid (HX5.out.keep k6)
      have HY6 := Lib.hid (HY5.out.keep k6)
      have HU6 := Lib.hid r6.cells
      have HK6 := Lib.hid (HK5.out.trans k6)
      clear k6 r6 HX5 HY5 HK5
      go_wp2_with fail
      refine (HC2.out w6 HX6.out HY6.out).mono ?_
      rintro e w7 ⟨u2, rfl, r7, k7⟩
      have HX7 := Lib.hid (HX6.out.keep k7)
      have HY7 := Lib.hid (HY6.out.keep k7)
      have HU7 := Lib.hid (HU6.out.keep k7)
      have HV7 := Lib.hid r7.cells
      have HK7 := Lib.hid (HK6.out.trans k7)
      clear k7 r7 HX6 HY6 HU6 HK6
      go_wp2_with fail
      refine (HFo.out u1 w7 HX7.out HU7.out).mono ?_
      rintro e w8 ⟨c, rfl, _, hc, k8⟩
      have HX8 := Lib.hid (HX7.out.keep k8)
      have HY8 := Lib.hid (HY7.out.keep k8)
      have HU8 := Lib.hid (HU7.out.keep k8)
      have HV8 := Lib.hid (HV7.out.keep k8)
      have HC8 := Lib.hid hc
      have HK8 := Lib.hid (HK7.out.trans k8)
      clear k8 hc HX7 HY7 HU7 HV7 HK7
      go_wp2_with fail
      refine (HMg.out u1 u2 w8 HU8.out HV8.out).mono ?_
      rintro e w9 ⟨z, m, rfl, hz, hm, k9⟩
      have HX9 := Lib.hid (HX8.out.keep k9)
      have HY9 := Lib.hid (HY8.out.keep k9)
      have HU9 := Lib.hid (HU8.out.keep k9)
      have HC9 := Lib.hid (HC8.out.keep k9)
      have HK9 := Lib.hid (HK8.out.trans k9)
      have HFm9 := Lib.hid (HFm.out m hm z w9 HX9.out hz.cells)
      clear k9 hz hm HX8 HY8 HU8 HV8 HC8 HK8
      go_wp2_with fail
      refine HFm9.out.mono ?_
      rintro e wa ⟨d, rfl, _, hd, ka⟩
      have HXa := Lib.hid (HX9.out.keep ka)
      have HYa := Lib.hid (HY9.out.keep ka)
      have HUa := Lib.hid (HU9.out.keep ka)
      have HCa := Lib.hid (HC9.out.keep ka)
      have HDa := Lib.hid hd
      have HKa := Lib.hid (HK9.out.trans ka)
      clear ka hd HX9 HY9 HU9 HC9 HK9 HFm9
      go_wp2_with fail
      refine (HPr.out u1 wa HUa.out).mono ?_
      rintro e wb ⟨rfl, kb⟩
      have HXb := Lib.hid (HXa.out.keep kb)
      have HYb := Lib.hid (HYa.out.keep kb)
      have HCb := Lib.hid (HCa.out.keep kb)
      have HDb := Lib.hid (HDa.out.keep kb)
      have HKb := Lib.hid (HKa.out.trans kb)
      clear kb HXa HYa HUa HCa HDa HKa
      go_wp2_with fail
      refine (HS1.out c wb HCb.out HYb.out).mono ?_
      rintro e wc ⟨rfl, kc⟩
      have HXc := Lib.hid (HXb.out.keep kc)
      have HDc := Lib.hid (HDb.out.keep kc)
      have HKc := Lib.hid (HKb.out.trans kc)
      clear kc HXb HYb HCb HDb HKb
      go_wp2_with fail
      refine (HS2.out d wc HDc.out HXc.out).mono ?_
      rintro e wd ⟨rfl, kd⟩
      go_wp2
      go_ret
      exact ⟨rfl, HKc.out.trans kd⟩

open Go.ChangeShapes Go.WideShapes Go.ChangeAt
theorem own : ownKnob Try.prog.godebug = none := by kernel_rfl
theorem laidOut : laidOutB Try.prog = true := by kernel_rfl

set_option maxRecDepth 100000 in
theorem lifted (os : Os) (started : os.Started) (H : Type) (enc : TypeId × Value → H) :
    ReturnsInHanded {} Try.checked os 4 .any (Rows.incrChangesSpec.pre6 enc Try.prog Try.f4 Rows.incrChangesRow.domain false) (Rows.incrChangesSpec.post enc Try.prog Try.f4 false true false false) := by
  refine returnsInHanded_of_change (C := Try.checked) own started (by kernel_rfl) Try.func4
    (ChangeSpec.witness6 (enc := enc) (C := Try.checked) false ⟨#[], #[.slice none 0 0, .slice none 0 0], []⟩ 8 (by kernel_rfl) (by kernel_rfl) (by kernel_rfl) (by kernel_rfl)) ?_
  intro W base args ds gs before hval0 hW hcnd _
  have hval : ∀ (j : Nat) t v, Try.f4.params[j]? = some t → args[j]? = some v → Value.okWide Try.prog W .any base t v := hval0
  have hW' := hW
  obtain ⟨p, q, hA0, hV, rfl, hfz, hnd⟩ := hW
  have hA : DataW.TrodAll enc Try.prog W 0 (fun _ => true) true Try.f4.params.toList args.toList ds p := hA0

  rw [Try.params4] at hA hval
  obtain ⟨v0, vs0, d0, ds0, p0, q0, hargs, rfl, rfl, h0, r0⟩ := trodAll_cons hA
  obtain ⟨v1, vs1, d1, ds1, p1, q1, rfl, rfl, rfl, h1, r1⟩ := trodAll_cons r0
  obtain ⟨rfl, rfl, rfl⟩ := trodAll_nil r1
  obtain rfl : args = #[v0, v1] := by cases args; simp_all
  obtain ⟨rfl, rfl⟩ := trodVars_none hV
  have k0 := h0
  have lt0 : ∀ x ∈ p0, x.block < W.heap.size := by obtain ⟨m, hm⟩ := k0; exact DataW.trod_lt m _ _ _ hm
  have k1 := h1
  have lt1 : ∀ x ∈ p1, x.block < W.heap.size := by obtain ⟨m, hm⟩ := k1; exact DataW.trod_lt m _ _ _ hm
  obtain ⟨a0, cap0, l0, rfl, f0, sq0⟩ := open_routesN (hval 0 31 v0 rfl rfl) h0
  obtain ⟨a1, cap1, l1, rfl, f1, sq1⟩ := open_routesN (hval 1 31 v1 rfl rfl) h1
  clear hA0 hval0
  refine (walk a0 cap0 l0 a1 cap1 l1 W f0 sq0 f1 sq1).mono fun e W' ⟨he, bel⟩ => ?_
  subst he
  exact ⟨_, rfl, _, _, _, [], _, [], hW', trodAll_mk1 (shut_bool Try.underlying4 _), (trodAll_cons_mk (Below.trod laidOut (by kernel_rfl) (of_decide_eq_true (by kernel_rfl)) k0 bel lt0) (trodAll_cons_mk (Below.trod laidOut (by kernel_rfl) (of_decide_eq_true (by kernel_rfl)) k1 bel lt1) trodAll_mk0)), rfl, bel.frame _, fun h => by cases h⟩

theorem over : Rows.incrChangesRow.holds Try.pinned (OpenSpec.ofChange Rows.incrChangesSpec) :=
  OpenClaim.holds_of_wide 4 Try.f4 rfl rfl rfl rfl rfl rfl rfl ⟨rfl, rfl, rfl, rfl, rfl⟩ rfl rfl rfl rfl rfl (by kernel_rfl) Try.func4 (by kernel_rfl)
    (of_decide_eq_true (by kernel_rfl)) (by unfold Func.isWrapper; first | (rw [if_pos (by decide +kernel)]; kernel_rfl) | (rw [if_neg (by decide +kernel)]; exact ⟨rfl, rfl⟩))
    (fun os started H enc _ => lifted os started H enc)
end Go.Proofs.Ytgkgpdlakamgiaa.LIncrChanges

namespace Go.Proofs.Ytgkgpdlakamgiaa
theorem incrChanges_holds : Rows.IncrChangesSaid := LIncrChanges.over
#print axioms incrChanges_holds
end Go.Proofs.Ytgkgpdlakamgiaa

