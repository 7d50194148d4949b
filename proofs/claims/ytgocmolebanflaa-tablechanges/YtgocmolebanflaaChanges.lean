/- Proved: for every two lists of routes the law TableChanges returns true (what makes one table of another one does, change by change, without a refusal; it is the document's; of the same there is nothing), and its arguments read behind the call as they read before. No condition. -/
import Derived.Test.YtgocmolebanflaaAx
import Derived.Test.YtgocmolebanflaaRc
import Derived.Test.YtgocmolebanflaaPc
import Derived.Test.YtgocmolebanflaaOp3
import Derived.ShutString
import Derived.ChangeOld
namespace Go.Proofs.Ytgocmolebanflaa.LTableChanges
open Go.RowKit

theorem info43b : (Try.prog.info? 43).map (fun i => (i.zero, i.size)) = some (some (.agg (ic zeroI)), 21) := by kernel_rfl
theorem ic_one (o : Ic) : ∀ v ∈ (ic o).toList, v.oneCell' = true := by
  intro v hv
  exact il_one o v (by simpa [ic] using hv)
theorem IAt.store {w : World} {b : Nat} {z : Ic} (h : IAt w b z) (o : Ic) : (storeCells ⟨b, 0, none⟩ (ic o).toList).run Try.prog w = .ok () (w.setRow b (ic o)) := by
  have hsc := run_storeCells_from (P := Try.prog) b 43 (ic o).toList 0 (ic z) w h (by rw [ic_size z]; simp [ic_size o]) (ic_one o)
  rw [List.take_zero, List.nil_append, Array.toArray_toList] at hsc
  exact hsc
theorem IAt.put {w : World} {b : Nat} {z : Ic} (h : IAt w b z) (o : Ic) : IAt (w.setRow b (ic o)) b o := block_row h _
theorem new_right {l m : List Rt} (h : newE l = 0) (hp : m.Perm l) : ∀ r ∈ m, rightR r := by
  intro r hr
  unfold newE at h
  split at h
  · rename_i hh
    exact hh r (hp.mem_iff.1 hr)
  · omega
def Cg (w : World) (x y c : Nat) (l m : List Rt) (v i : Value) (wr : World) : Prop :=
  ∃ (k : Nat) (t : List Rt), i = .int .i64 k ∧ k ≤ (chg l m).length ∧ Tb wr c t ∧ Fine t ((chg l m).drop k) ∧ (l.length + m.length ≤ 300 → runC t ((chg l m).drop k) = m) ∧ Tb wr x l ∧ Tb wr y m ∧ Row il 43 wr v (chg l m) ∧ Keep w wr

set_option maxRecDepth 100000 in
set_option maxHeartbeats 4000000 in
/-- Behind the tables. -/
theorem walk (a0 : Option Addr) (p0 : Nat) (l0 : List Rt) (a1 : Option Addr) (p1 : Nat) (l1 : List Rt) (w : World) (hA0 : ArgN rl w a0 p0 l0) (hA1 : ArgN rl w a1 p1 l1) : Calls Try.prog 5 #[.slice a0 l0.length p0, .slice a1 l1.length p1] w fun e w' => e = .returned (.bool true) ∧ Below w.heap.size w w' := by
  have hs0 := hA0.small
  have hs1 := hA1.small
  unfold maxLen at hs0 hs1
  have HA0 := Lib.hid hA0
  have HA1 := Lib.hid hA1
  clear hA0 hA1
  obtain ⟨L0, hL0⟩ : ∃ n, l0.length = n := ⟨_, rfl⟩
  obtain ⟨L1, hL1⟩ : ∃ n, l1.length = n := ⟨_, rfl⟩
  have HL0 := Lib.hid hL0
  have HL1 := Lib.hid hL1
  rw [hL0] at hs0 ⊢
  rw [hL1] at hs1 ⊢
  clear hL0 hL1
  by_cases hb0 : 300 < L0
  · have hbI : (L0 : Int) > 300 := by omega
    go_enter Try.func5, Try.ntmps5
    go_wp2_with fail
    refine (awake _).mono ?_
    rintro e w1 ⟨rfl, b1⟩
    go_wp2_with fail
    refine (awake _).mono ?_
    rintro e w2 ⟨rfl, b2⟩
    go_wp2
    go_ret
    exact ⟨rfl, b1.trans b2⟩
  have hb0I : ¬ ((L0 : Int) > 300) := by omega
  by_cases hb1 : 300 < L1
  · have hbI : (L1 : Int) > 300 := by omega
    go_enter Try.func5, Try.ntmps5
    go_wp2_with fail
    refine (awake _).mono ?_
    rintro e w1 ⟨rfl, b1⟩
    go_wp2_with fail
    refine (awake _).mono ?_
    rintro e w2 ⟨rfl, b2⟩
    go_wp2
    go_ret
    exact ⟨rfl, b1.trans b2⟩
  have hb1I : ¬ ((L1 : Int) > 300) := by omega
  obtain ⟨hz43, _⟩ := zero_of_info info43b
  obtain ⟨n, hn⟩ : ∃ n, n = 21 := ⟨21, rfl⟩
  have hsz : ∀ w, (Go.sizeOf 43).run Try.prog w = .ok n w := fun w => by rw [hn]; exact Try.sizeOf43 w
  have hn0 : ¬ n = 0 := by omega
  have hzs : (ic zeroI).size = n := by rw [hn]; exact ic_size _
  have HN := Lib.hid hn
  clear hn
  go_enter Try.func5, Try.ntmps5
  go_wp2_with fail
  refine (awake _).mono ?_
  rintro e w1 ⟨rfl, b1⟩
  have HK1 := Lib.hid b1
  have HKA := Lib.hid (show Keep w1 (w1.alloc (.cells #[] 34)) from (Keep.refl w1).alloc _)
  have HO := Lib.hid (Own.made (t := 34) (k := 20) (enc := rl) w1.heap.size w1 (Nat.le_refl _))
  have hbs : w1.heap.size ≤ (w1.alloc (.cells #[] 34)).heap.size := HKA.out.size
  have HAA := Lib.hid (HA0.out.keep (HK1.out.trans HKA.out))
  clear b1
  go_wp2_with (at_builtin; refine wp_appN elR rfl _ _ rfl w1.heap.size _ a0 L0 p0 [] l0 rfl HL0.out rfl HO.out HAA.out ?q1 ?q2 ?q3 ?_)
  case q1 => simp [HL0.out]; omega
  case q2 => simp [HL0.out]; omega
  case q3 => exact hbs
  intro v2 w2 k1 k2
  have HK2 := Lib.hid (HO.out.grown HKA.out (Nat.le_refl _) k2)
  have HNE := Lib.hid (new v2 l0 w2 (by simpa using (Own.row elR k1).cells) (by rw [HL0.out]; omega))
  clear k1 k2 hbs HO HKA HAA
  go_wp2_with fail
  refine HNE.out.mono ?_
  rintro e w3 ⟨px, rfl, b3, hx⟩
  have HX := Lib.hid hx
  have HK3 := Lib.hid (HK1.out.trans (HK2.out.trans b3))
  have HE0 : Hid (newE l0 = newE l0) := rfl
  clear hx b3 HK1 HK2 HNE
  have HKA := Lib.hid (show Keep w3 (w3.alloc (.cells #[] 34)) from (Keep.refl w3).alloc _)
  have HO := Lib.hid (Own.made (t := 34) (k := 20) (enc := rl) w3.heap.size w3 (Nat.le_refl _))
  have hbs : w3.heap.size ≤ (w3.alloc (.cells #[] 34)).heap.size := HKA.out.size
  have HAA := Lib.hid (HA1.out.keep (HK3.out.trans HKA.out))
  obtain ⟨E0, hE0⟩ : ∃ e, newE l0 = e := ⟨_, rfl⟩
  rw [hE0] at HX ⊢
  have HEE0 := Lib.hid hE0
  clear hE0 HE0
  go_wp2_with (at_builtin; refine wp_appN elR rfl _ _ rfl w3.heap.size _ a1 L1 p1 [] l1 rfl HL1.out rfl HO.out HAA.out ?r1 ?r2 ?r3 ?_)
  case r1 => simp [HL1.out]; omega
  case r2 => simp [HL1.out]; omega
  case r3 => exact hbs
  intro v4 w4 k1 k2
  have HK4 := Lib.hid (HO.out.grown HKA.out (Nat.le_refl _) k2)
  have HNE := Lib.hid (new v4 l1 w4 (by simpa using (Own.row elR k1).cells) (by rw [HL1.out]; omega))
  clear k1 k2 hbs HO HKA HAA
  go_wp2_with fail
  refine HNE.out.mono ?_
  rintro e w5 ⟨py, rfl, b5, hy⟩
  have HY := Lib.hid hy
  have HK35 := Lib.hid (HK4.out.trans b5)
  have HK5 := Lib.hid (HK3.out.trans HK35.out)
  clear hy b5 HNE HK4
  obtain ⟨E1, hE1⟩ : ∃ e, newE l1 = e := ⟨_, rfl⟩
  rw [hE1] at HY ⊢
  have HEE1 := Lib.hid hE1
  clear hE1
  by_cases hh0 : ¬ E0 = 0
  · have h0' : (E0 != 0) = true := by simpa using hh0
    go_wp2
    go_ret
    exact ⟨rfl, HK5.out⟩
  have h0 : E0 = 0 := Decidable.not_not.1 hh0
  have h0' : (E0 != 0) = false := by simpa using h0
  clear hh0
  by_cases hh1 : ¬ E1 = 0
  · have h1' : (E1 != 0) = true := by simpa using hh1
    go_wp2
    go_ret
    exact ⟨rfl, HK5.out⟩
  have h1 : E1 = 0 := Decidable.not_not.1 hh1
  have h1' : (E1 != 0) = false := by simpa using h1
  clear hh1
  rcases HX.out with ⟨hne, _⟩ | ⟨_, bx, l, rfl, hbx, hpx, tbx⟩
  · exact absurd h0 hne
  rcases HY.out with ⟨hne, _⟩ | ⟨_, yb, m, rfl, hby, hpy, tby⟩
  · exact absurd h1 hne
  have HRX := Lib.hid (new_right (HEE0.out.trans h0) hpx)
  have HRY := Lib.hid (new_right (HEE1.out.trans h1) hpy)
  have HTX := Lib.hid (tbx.keep HK35.out)
  have HTY := Lib.hid tby
  subst h0
  subst h1
  clear hpx hpy tbx tby HX HY hbx hby HK35 HK3 HEE0 HEE1 h0' h1'
  have HCH := Lib.hid (changes _ _ l m w5 (Tp.of HTX.out) (Tp.of HTY.out))
  go_wp2_with fail
  refine HCH.out.mono ?_
  rintro e w6 ⟨v6, rfl, r6, b6⟩
  have HR6 := Lib.hid r6
  have HTX6 := Lib.hid (HTX.out.keep b6)
  have HTY6 := Lib.hid (HTY.out.keep b6)
  have HK6 := Lib.hid (HK5.out.trans b6)
  clear r6 b6 HCH HTX HTY HK5
  go_wp2_with fail
  refine (copy _ _ _ HTX6.out).mono ?_
  rintro e w7 ⟨c, rfl, hc, tc, b7⟩
  have HTX7 := Lib.hid (HTX6.out.keep b7)
  have HTY7 := Lib.hid (HTY6.out.keep b7)
  have HR7 := Lib.hid (HR6.out.keep b7)
  have HTC7 := Lib.hid tc
  have HK7 := Lib.hid (HK6.out.trans b7)
  have hxc : bx ≠ c := by obtain ⟨⟨_, h, _⟩, _, _⟩ := HTX6.out; have := block_lt h; omega
  have hyc : yb ≠ c := by obtain ⟨⟨_, h, _⟩, _, _⟩ := HTY6.out; have := block_lt h; omega
  have hcw : w.heap.size ≤ c := Nat.le_trans HK6.out.size hc
  clear tc b7 hc HTX6 HTY6 HR6 HK6
  have fl := HTX7.out.few
  have fm := HTY7.out.few
  have HFI := Lib.hid (fine _ l m l (Nat.le_refl _) HTX7.out.sorted HTY7.out.sorted HTX7.out.sorted fl HRX.out HRY.out (fun a ha => has_iff.2 ⟨a, ha, rfl⟩) (fun _ _ => rfl))
  have HRU := Lib.hid (fun h => run_chg _ l m [] (Nat.le_refl _) HTX7.out.sorted HTY7.out.sorted (by simpa using h) HRX.out HRY.out (by simp) (by simp))
  obtain ⟨a6, c6, e6, _, _⟩ := HR7.out.cells.form
  obtain ⟨C, hC⟩ : ∃ n, (chg l m).length = n := ⟨_, rfl⟩
  have hC6 : C ≤ 600 := by have := (chg_len _ l m (Nat.le_refl _)).1; omega
  have HC := Lib.hid hC
  rw [hC] at e6
  clear hC
  subst e6
  go_wp2
  go_loopw [53] (fun i wr => Cg w bx yb c l m (.slice a6 C c6) i wr) (fun i _ => C - (intOf i).toNat)
  case atStart => exact ⟨0, l, rfl, Nat.zero_le _, HTC7.out, HFI.out, HRU.out, HTX7.out, HTY7.out, HR7.out, HK7.out⟩
  case round =>
    clear HTX7 HTY7 HR7 HTC7 HK7 HFI HRU
    obtain ⟨k, t, rfl, hk, tc, hfi, hru, tx, ty, hr, hkp⟩ := hrel
    rw [HC.out] at hk
    by_cases hlt : k < C
    · have hcl : Cells il wr (.slice a6 (chg l m).length c6) (chg l m) := by rw [HC.out]; exact hr.cells
      obtain ⟨g, o, cap', e, _, _, _⟩ := hcl.ptr k (by rw [HC.out]; exact hlt)
      rw [HC.out] at e
      simp at e
      obtain ⟨rfl, rfl⟩ := e
      obtain ⟨x, hx⟩ : ∃ x, (chg l m)[k]? = some x := ⟨_, List.getElem?_eq_getElem (by rw [HC.out]; exact hlt)⟩
      have d1 := Cells.ic hcl HN.out k x hx
      rw [drop_cons' hx] at hfi hru
      unfold Fine at hfi
      unfold runC at hru
      have hI := IAt.new wr zeroI
      have hst := IAt.store hI x
      have hl3 := (IAt.put hI x).whole HN.out
      have hzx : (ic x).size = n := by rw [HN.out]; exact ic_size _
      have HKA := Lib.hid (show Keep wr ((wr.alloc (.cells (ic zeroI) 43)).setRow wr.heap.size (ic x)) from ((Keep.refl wr).alloc _).setRow _ _ (Nat.le_refl _))
      have HTC := Lib.hid (tc.keep HKA.out)
      have HTX := Lib.hid (tx.keep HKA.out)
      have HTY := Lib.hid (ty.keep HKA.out)
      have HR := Lib.hid (hr.keep HKA.out)
      have HKK := Lib.hid (hkp.trans HKA.out)
      have HDO := Lib.hid (do_at c t x _ HTC.out)
      have HF1 := Lib.hid hfi.1
      have HF2 := Lib.hid hfi.2
      have HRU := Lib.hid hru
      clear hcl hI hx tc tx ty hr hkp HKA hfi hru
      obtain ⟨X, hX⟩ : ∃ X, doS t x.kind x.route = X := ⟨_, rfl⟩
      rw [hX] at HDO HF1 HF2 HRU
      clear hX
      generalize ic x = I at *
      generalize (wr.alloc (.cells (ic zeroI) 43)).setRow wr.heap.size I = w3 at *
      go_wp2_with fail
      refine HDO.out.mono ?_
      rintro e w4 ⟨rfl, t4, o4⟩
      have HTX4 := Lib.hid (HTX.out.only HTC.out o4 hxc)
      have HTY4 := Lib.hid (HTY.out.only HTC.out o4 hyc)
      have HR4 := Lib.hid (Tb.row HR.out HTC.out o4 (by decide))
      have HKK4 := Lib.hid (o4.made HKK.out hcw)
      have HT4 := Lib.hid t4
      clear o4 t4 d1 hst hl3 hzx HTX HTY HR HKK HTC HDO
      obtain ⟨Xt, Xe⟩ := X
      simp only at HF1 HF2 HRU HT4 ⊢
      by_cases he : Xe = 0
      · have he' : (Xe != 0) = false := by simpa using he
        go_wp2
        go_roundw
        case rel => exact ⟨k + 1, Xt, by go_num, by rw [HC.out]; omega, HT4.out, HF2.out, HRU.out, HTX4.out, HTY4.out, HR4.out, HKK4.out⟩
        case measure => simp [intOf]; omega
      · have he' : (Xe != 0) = true := by simpa using he
        have hlen : 300 ≤ Xt.length := by
          rcases HF1.out with h | h
          · exact absurd h he
          · exact h
        have HLN := Lib.hid (len_at _ _ w4 (Tp.of HT4.out))
        obtain ⟨XL, hXL⟩ : ∃ n, Xt.length = n := ⟨_, rfl⟩
        rw [hXL] at hlen HLN
        clear hXL
        have hlI : ¬ ((XL : Int) < 300) := by omega
        go_wp2_with fail
        refine HLN.out.mono ?_
        rintro e w8 ⟨rfl, b8⟩
        have HB8 := Lib.hid b8
        clear b8 HLN
        go_wp2
        go_roundw
        case rel => exact ⟨k + 1, Xt, by go_num, by rw [HC.out]; omega, HT4.out.keep HB8.out, HF2.out, HRU.out, HTX4.out.keep HB8.out, HTY4.out.keep HB8.out, HR4.out.keep HB8.out, HKK4.out.trans HB8.out⟩
        case measure => simp [intOf]; omega
    · have hdr : (chg l m).drop k = [] := List.drop_of_length_le (by rw [HC.out]; omega)
      rw [hdr] at hru
      unfold runC at hru
      have HRU := Lib.hid hru
      have HTC := Lib.hid tc
      have HTX := Lib.hid tx
      have HTY := Lib.hid ty
      have HR := Lib.hid hr
      have HKK := Lib.hid hkp
      have HCL := Lib.hid (chg_len _ l m (Nat.le_refl _))
      clear hru tc tx ty hr hkp hfi hdr
      go_wp2_with fail
      refine (all _ _ wr (Tp.of HTX.out)).mono ?_
      rintro e w8 ⟨v8, rfl, o8, b8⟩
      have HR8 := Lib.hid (o8.row elR)
      have HB8 := Lib.hid b8
      clear o8 b8
      go_wp2_with fail
      refine (all _ _ w8 (Tp.of (HTY.out.keep HB8.out))).mono ?_
      rintro e w9 ⟨v9, rfl, o9, b9⟩
      have HR9 := Lib.hid (o9.row elR)
      have HR89 := Lib.hid (HR8.out.keep b9)
      have HB9 := Lib.hid (HB8.out.trans b9)
      clear o9 b9 HR8 HB8
      go_wp2_with fail
      refine (qchanges _ _ l m w9 HR89.out HR9.out fl fm).mono ?_
      rintro e w10 ⟨v10, rfl, r10, b10⟩
      have HR10 := Lib.hid r10
      have HB10 := Lib.hid (HB9.out.trans b10)
      have HSI := Lib.hid (qsameIncs (.slice a6 C c6) v10 (chg l m) (chg l m) w10 (HR.out.keep (HB9.out.trans b10)).cells r10.cells (by rw [HC.out]; omega) (by rw [HC.out]; omega))
      rw [decide_eq_true rfl] at HSI
      clear r10 b10 HB9 HR89 HR9
      go_wp2_with fail
      refine HSI.out.mono ?_
      rintro e w11 ⟨rfl, b11⟩
      have HB11 := Lib.hid (HB10.out.trans b11)
      clear b11 HSI HB10 HR10
      have HSM := Lib.hid (same _ _ t m w11 (Tp.of (HTC.out.keep HB11.out)) (Tp.of (HTY.out.keep HB11.out)))
      have HCE : Hid (decide (l = m) = decide (C = 0)) := by
        show decide (l = m) = decide (C = 0)
        rw [Bool.eq_iff_iff, decide_eq_true_eq, decide_eq_true_eq, ← HCL.out.2, ← HC.out]
        exact List.length_eq_zero_iff.symm
      have HXX : Hid (chg l l = []) := (chg_len _ l l (Nat.le_refl _)).2.2 rfl
      have hD : ((C : Int) == 0) = decide (C = 0) := by
        rw [Bool.eq_iff_iff]
        simp
      obtain ⟨D, hDD⟩ : ∃ d, decide (C = 0) = d := ⟨_, rfl⟩
      rw [hDD] at hD HCE
      clear hDD HCL
      have hdd : (D == D) = true := by simp
      by_cases htm : t = m
      · rw [decide_eq_true htm] at HSM
        clear htm
        go_wp2_with fail
        refine HSM.out.mono ?_
        rintro e w12 ⟨rfl, b12⟩
        have HB12 := Lib.hid (HB11.out.trans b12)
        clear b12 HSM HB11
        have HSX := Lib.hid (same _ _ l m w12 (Tp.of (HTX.out.keep HB12.out)) (Tp.of (HTY.out.keep HB12.out)))
        rw [HCE.out] at HSX
        go_wp2_with fail
        refine HSX.out.mono ?_
        rintro e w13 ⟨rfl, b13⟩
        have HB13 := Lib.hid (HB12.out.trans b13)
        clear b13 HSX HB12
        have HCX := Lib.hid (changes _ _ l l w13 (Tp.of (HTX.out.keep HB13.out)) (Tp.of (HTX.out.keep HB13.out)))
        rw [HXX.out] at HCX
        go_wp2_with fail
        refine HCX.out.mono ?_
        rintro e w14 ⟨v14, rfl, r14, b14⟩
        obtain ⟨a14, c14, e14, _, _⟩ := r14.cells.form
        subst e14
        have HB14 := Lib.hid (HKK.out.trans (HB13.out.trans b14))
        clear r14 b14 HCX HB13
        go_wp2
        go_ret
        exact ⟨rfl, HB14.out⟩
      · have hsum : 300 < l.length + m.length := by
          rcases Nat.lt_or_ge 300 (l.length + m.length) with h | h
          · exact h
          · exact absurd (HRU.out h) htm
        rw [decide_eq_false htm] at HSM
        clear htm
        go_wp2_with fail
        refine HSM.out.mono ?_
        rintro e w12 ⟨rfl, b12⟩
        have HB12 := Lib.hid (HB11.out.trans b12)
        clear b12 HSM HB11
        have HLX := Lib.hid (len_at _ _ w12 (Tp.of (HTX.out.keep HB12.out)))
        have HLM := Lib.hid (fun w' (k : Keep wr w') => len_at _ _ w' (Tp.of (HTY.out.keep k)))
        obtain ⟨LX, hLX⟩ : ∃ n, l.length = n := ⟨_, rfl⟩
        obtain ⟨LY, hLY⟩ : ∃ n, m.length = n := ⟨_, rfl⟩
        rw [hLX] at HLX hsum fl
        rw [hLY] at hsum fm
        simp only [hLY] at HLM
        have hsI : (LX : Int) + LY > 300 := by omega
        clear hLX hLY
        go_wp2_with fail
        refine HLX.out.mono ?_
        rintro e w15 ⟨rfl, b15⟩
        have HB15 := Lib.hid (HB12.out.trans b15)
        clear b15 HLX HB12
        go_wp2_with fail
        refine (HLM.out w15 HB15.out).mono ?_
        rintro e w16 ⟨rfl, b16⟩
        have HB16 := Lib.hid (HB15.out.trans b16)
        clear b16 HLM HB15
        have HSX := Lib.hid (same _ _ l m w16 (Tp.of (HTX.out.keep HB16.out)) (Tp.of (HTY.out.keep HB16.out)))
        rw [HCE.out] at HSX
        go_wp2_with fail
        refine HSX.out.mono ?_
        rintro e w13 ⟨rfl, b13⟩
        have HB13 := Lib.hid (HB16.out.trans b13)
        clear b13 HSX HB16
        have HCX := Lib.hid (changes _ _ l l w13 (Tp.of (HTX.out.keep HB13.out)) (Tp.of (HTX.out.keep HB13.out)))
        rw [HXX.out] at HCX
        go_wp2_with fail
        refine HCX.out.mono ?_
        rintro e w14 ⟨v14, rfl, r14, b14⟩
        obtain ⟨a14, c14, e14, _, _⟩ := r14.cells.form
        subst e14
        have HB14 := Lib.hid (HKK.out.trans (HB13.out.trans b14))
        clear r14 b14 HCX HB13
        go_wp2
        go_ret
        exact ⟨rfl, HB14.out⟩

open Go.ChangeShapes Go.WideShapes Go.ChangeAt

set_option maxRecDepth 100000 in
theorem lifted (os : Os) (started : os.Started) (H : Type) (enc : TypeId × Value → H) :
    ReturnsInHanded {} Try.checked os 5 .any (Rows.tableChangesSpec.pre6 enc Try.prog Try.f5 Rows.tableChangesRow.domain false) (Rows.tableChangesSpec.post enc Try.prog Try.f5 false true false false) := by
  refine returnsInHanded_of_change (C := Try.checked) own started (by kernel_rfl) Try.func5
    (ChangeSpec.witness6 (enc := enc) (C := Try.checked) false ⟨#[], #[.slice none 0 0, .slice none 0 0], []⟩ 8 (by kernel_rfl) (by kernel_rfl) (by kernel_rfl) (by kernel_rfl)) ?_
  intro W base args ds gs before hval0 hW hcnd _
  have hval : ∀ (j : Nat) t v, Try.f5.params[j]? = some t → args[j]? = some v → Value.okWide Try.prog W .any base t v := hval0
  have hW' := hW
  obtain ⟨p, q, hA0, hV, rfl, hfz, hnd⟩ := hW
  have hA : DataW.TrodAll enc Try.prog W 0 (fun _ => true) true Try.f5.params.toList args.toList ds p := hA0

  rw [Try.params5] at hA hval
  obtain ⟨v0, vs0, d0, ds0, p0, q0, hargs, rfl, rfl, h0, r0⟩ := trodAll_cons hA
  obtain ⟨v1, vs1, d1, ds1, p1, q1, rfl, rfl, rfl, h1, r1⟩ := trodAll_cons r0
  obtain ⟨rfl, rfl, rfl⟩ := trodAll_nil r1
  obtain rfl : args = #[v0, v1] := by cases args; simp_all
  obtain ⟨rfl, rfl⟩ := trodVars_none hV
  have k0 := h0
  have lt0 : ∀ x ∈ p0, x.block < W.heap.size := by obtain ⟨m, hm⟩ := k0; exact DataW.trod_lt m _ _ _ hm
  have k1 := h1
  have lt1 : ∀ x ∈ p1, x.block < W.heap.size := by obtain ⟨m, hm⟩ := k1; exact DataW.trod_lt m _ _ _ hm
  obtain ⟨a0, cap0, l0, rfl, f0⟩ := open_routesN (hval 0 31 v0 rfl rfl) h0
  obtain ⟨a1, cap1, l1, rfl, f1⟩ := open_routesN (hval 1 31 v1 rfl rfl) h1
  clear hA0 hval0
  refine (walk a0 cap0 l0 a1 cap1 l1 W f0 f1).mono fun e W' ⟨he, bel⟩ => ?_
  subst he
  exact ⟨_, rfl, _, _, _, [], _, [], hW', trodAll_mk1 (shut_bool Try.underlying4 _), (trodAll_cons_mk (Below.trod laidOut (by kernel_rfl) (of_decide_eq_true (by kernel_rfl)) k0 bel lt0) (trodAll_cons_mk (Below.trod laidOut (by kernel_rfl) (of_decide_eq_true (by kernel_rfl)) k1 bel lt1) trodAll_mk0)), rfl, bel.frame _, fun h => by cases h⟩

theorem over : Rows.tableChangesRow.holds Try.pinned (OpenSpec.ofChange Rows.tableChangesSpec) :=
  OpenClaim.holds_of_wide 5 Try.f5 rfl rfl rfl rfl rfl rfl rfl ⟨rfl, rfl, rfl, rfl, rfl⟩ rfl rfl rfl rfl rfl (by kernel_rfl) Try.func5 (by kernel_rfl)
    (of_decide_eq_true (by kernel_rfl)) (by unfold Func.isWrapper; first | (rw [if_pos (by decide +kernel)]; kernel_rfl) | (rw [if_neg (by decide +kernel)]; exact ⟨rfl, rfl⟩))
    (fun os started H enc _ => lifted os started H enc)
end Go.Proofs.Ytgocmolebanflaa.LTableChanges

namespace Go.Proofs.Ytgocmolebanflaa
theorem tableChanges_holds : Rows.TableChangesSaid := LTableChanges.over
#print axioms tableChanges_holds
end Go.Proofs.Ytgocmolebanflaa

