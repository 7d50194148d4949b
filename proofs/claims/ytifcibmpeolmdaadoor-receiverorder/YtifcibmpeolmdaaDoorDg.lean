/- Proved: what the document's small and Resume answer, and what they do to memory. Condition: the text's length fits. -/
import Derived.Test.YtifcibmpeolmdaaDoorDf
import Derived.Test.YtifcibmpeolmdaaDoorPj
namespace Go.Proofs.YtifcibmpeolmdaaDoor
open Go.RowKit

def smallN (a : Nat) : Int := if 4294967296 < a then 4294967296 else a
set_option maxRecDepth 100000 in
theorem small_at (a : Nat) (h : a < 2 ^ 64) (w : World) : Calls Tryd.prog 56 #[.int .u64 a] w fun e w' => e = .returned (.int .i64 (smallN a)) ∧ w' = w := by
  unfold smallN
  by_cases q : 4294967296 < a
  · have e1 : decide (((a : Nat) : Int) > 4294967296) = true := decide_eq_true (by omega)
    rw [if_pos q]
    clear q h
    go_enter Tryd.func56, Tryd.ntmps56
    go_wp2
    go_ret
    exact ⟨rfl, rfl⟩
  · have e1 : decide (((a : Nat) : Int) > 4294967296) = false := decide_eq_false (by omega)
    have e2 : IntKind.i64.wrap (a : Int) = a := IntWalk.i64_in _ (by omega)
    rw [if_neg q]
    clear h
    have hle : a ≤ 4294967296 := by omega
    clear q
    go_enter Tryd.func56, Tryd.ntmps56
    go_wp2
    go_ret
    exact ⟨rfl, rfl⟩
theorem small_may (a b n : Nat) : mayR (smallN a) (smallN b) (smallN n) ↔ mayR a b n := by
  unfold mayR smallN
  split <;> split <;> split <;> omega
theorem new_rdq (w : World) (l : List UInt8) (hl : l.length ≤ maxLen) : Rd (w.alloc (.cells #[.string ⟨l.toArray⟩, .int .i64 0] 95)) w.heap.size l 0 :=
  ⟨by go_simp, by go_simp, by go_simp, by go_simp, hl⟩
/-- What stands ahead of each chunk. -/
def QlRel (res : Rv × Int) (n c g bi bc bd : Nat) (w : World) (lv : Value) (wr : World) : Prop :=
  ∃ (least : Nat) (y : Rv), lv = .int .i64 ((least : Int) - 1) ∧ least ≤ n ∧ R wr g bi bc bd y ∧ y.c.length = n ∧ Turn [c, g, bi, bc, bd] w wr ∧ ∃ f s, n + 1 ≤ f + least ∧ Rd wr c s 0 ∧ fillF n f least s y = res
/-- What Resume answers. -/
def QResPost (s : List UInt8) (w : World) (e : Ending) (w' : World) : Prop :=
  Keep w w' ∧ (((resumeF s).2 = 0 ∧ ∃ g bi bc bd, e = .returned (.tuple #[.pointer (some ⟨g, 0, none⟩), .int .i64 0]) ∧ R w' g bi bc bd (resumeF s).1 ∧ ∀ z ∈ [g, bi, bc, bd], w.heap.size ≤ z) ∨
    ((resumeF s).2 ≠ 0 ∧ e = .returned (.tuple #[.pointer none, .int .i64 (resumeF s).2])))
theorem R.reads {w w' : World} {c g bi bc bd : Nat} {r : Rv} (h : R w g bi bc bd r) (q : Only c w w') (hc : c ∉ [g, bi, bc, bd]) : R w' g bi bc bd r :=
  h.turn (Turn.only (K := [c]) q (by simp)) (by simp; exact fun e => hc (by simp [← e])) (by simp; exact fun e => hc (by simp [← e])) (by simp; exact fun e => hc (by simp [← e])) (by simp; exact fun e => hc (by simp [← e]))
set_option maxRecDepth 100000 in
set_option maxHeartbeats 2000000 in
theorem qresume_at (s : List UInt8) (w : World) (hs : s.length ≤ maxLen) : Calls Tryd.prog 29 #[.string ⟨s.toArray⟩] w (QResPost s w) := by
  have HR := Lib.hid (new_rdq w s hs)
  have HK := Lib.hid (show Keep w (w.alloc (.cells #[.string ⟨s.toArray⟩, .int .i64 0] 95)) from (Keep.refl w).alloc _)
  have hsize : (w.alloc (.cells #[.string ⟨s.toArray⟩, .int .i64 0] 95)).heap.size = w.heap.size + 1 := by simp
  obtain ⟨A, hA⟩ : ∃ A, V.uintF s 0 = A := ⟨_, rfl⟩
  obtain ⟨a, r1, x1⟩ := A
  obtain ⟨B, hB⟩ : ∃ B, V.uintF r1 x1 = B := ⟨_, rfl⟩
  obtain ⟨b', r2, x2⟩ := B
  obtain ⟨C, hC⟩ : ∃ C, V.uintF r2 x2 = C := ⟨_, rfl⟩
  obtain ⟨n, r3, x3⟩ := C
  have la : a < 2 ^ 64 := by have := V.uintF_lt s 0; rw [hA] at this; exact this
  have lb : b' < 2 ^ 64 := by have := V.uintF_lt r1 x1; rw [hB] at this; exact this
  have ln : n < 2 ^ 64 := by have := V.uintF_lt r2 x2; rw [hC] at this; exact this
  have HRes := Lib.hid (resumeF_of hA hB hC)
  have U1 := fun c v (h : Rd v c s 0) => quint_at c s 0 v h
  rw [hA] at U1
  have U2 := fun c v (h : Rd v c r1 x1) => quint_at c r1 x1 v h
  rw [hB] at U2
  have U3 := fun c v (h : Rd v c r2 x2) => quint_at c r2 x2 v h
  rw [hC] at U3
  have H1 := Lib.hid U1
  have H2 := Lib.hid U2
  have H3 := Lib.hid U3
  have HSm := Lib.hid (And.intro (small_at a la) (And.intro (small_at b' lb) (small_at n ln)))
  have HSz := Lib.hid hsize
  clear hs hA hB hC la lb ln U1 U2 U3
  go_enter Tryd.func29, Tryd.ntmps29
  go_wp2_with fail
  refine (H1.out w.heap.size _ HR.out).mono ?_
  rintro e w2 ⟨rfl, hr2, o2⟩
  have HR2 := Lib.hid hr2
  have HO2 := Lib.hid (Turn.only (K := [w.heap.size]) o2 (by simp))
  clear hr2 o2 H1 HR
  simp only at HR2 ⊢
  go_wp2_with fail
  refine (H2.out w.heap.size w2 HR2.out).mono ?_
  rintro e w3 ⟨rfl, hr3, o3⟩
  have HR3 := Lib.hid hr3
  have HO3 := Lib.hid (HO2.out.trans (Turn.only (K := [w.heap.size]) o3 (by simp)))
  clear hr3 o3 H2 HR2 HO2
  simp only at HR3 ⊢
  go_wp2_with fail
  refine (H3.out w.heap.size w3 HR3.out).mono ?_
  rintro e w4 ⟨rfl, hr4, o4⟩
  have HR4 := Lib.hid hr4
  have HK4 := Lib.hid (Turn.made HK.out (HO3.out.trans (Turn.only (K := [w.heap.size]) o4 (by simp))) (fun k hk => by simp at hk; omega))
  have hr4lt := hr4.lt
  have c1 := hr4.err
  clear hr4 o4 H3 HR3 HO3 HK hsize
  simp only at HR4 c1 ⊢
  by_cases hx : x3 = 0
  rotate_left
  · have HF := Lib.hid (show resumeF s = (newR 0 0 0, x3) by rw [HRes.out, if_pos hx])
    have t3 : (x3 != 0) = true := by simpa using hx
    have HX := Lib.hid hx
    clear hx
    go_wp2_with fail
    go_region
    go_wp2
    go_ret2
    exact ⟨HK4.out.trans (Keep.refl _).drew, .inr ⟨by rw [HF.out]; exact HX.out, by rw [HF.out]; rfl⟩⟩
  subst hx
  have HM := Lib.hid (qmay_at (smallN a) (smallN b') (smallN n))
  go_wp2_with fail
  refine (HSm.out.1 w4).mono ?_
  rintro e w4 ⟨rfl, rfl⟩
  clear c1
  go_wp2_with fail
  refine (HSm.out.2.1 w4).mono ?_
  rintro e w4 ⟨rfl, rfl⟩
  go_wp2_with fail
  refine (HSm.out.2.2 w4).mono ?_
  rintro e w4 ⟨rfl, rfl⟩
  go_wp2_with fail
  refine (HM.out w4).mono ?_
  rintro e w4 ⟨rfl, rfl⟩
  have hsm := small_may a b' n
  generalize smallN a = sa at *
  generalize smallN b' = sb at *
  generalize smallN n = sn at *
  clear HSm HM
  by_cases hm : mayR a b' n
  rotate_left
  · have HF := Lib.hid (show resumeF s = (newR 0 0 0, 1) by rw [HRes.out, if_neg (by simp), if_pos hm])
    rw [decide_eq_false (fun q => hm (hsm.1 q))]
    clear hm hsm
    go_wp2
    go_ret2
    exact ⟨HK4.out, .inr ⟨by rw [HF.out]; decide, by rw [HF.out]; rfl⟩⟩
  rw [decide_eq_true (hsm.2 hm)]
  have HF := Lib.hid (show resumeF s = fillF n (n + 1) 0 r3 (newR a b' n) by rw [HRes.out, if_neg (by simp), if_neg (fun q => q hm)])
  have la : a < 4294967296 := by have := hm.1; omega
  have lb : b' < 4294967296 := by have := hm.2.1; omega
  have ln : n ≤ 256 := by have := hm.2.2.2; omega
  have e1 : IntKind.i64.wrap (a : Int) = a := IntWalk.i64_in _ (by omega)
  have e2 : IntKind.i64.wrap (b' : Int) = b' := IntWalk.i64_in _ (by omega)
  have e3 : IntKind.i64.wrap (n : Int) = n := IntWalk.i64_in _ (by omega)
  have hz0 : w.heap.size < w4.heap.size := hr4lt
  have HNew := Lib.hid (qnew_at a b' n hm w4 (by omega))
  clear hm hsm HRes
  go_wp2_with fail
  refine HNew.out.mono ?_
  rintro e w6 ⟨g, bi, bc, bd, rfl, hR, hz, k6⟩
  have HR6 := Lib.hid (HR4.out.below k6)
  have hcb : w.heap.size ∉ [g, bi, bc, bd] := fun q => by have := hz _ q; omega
  have HCB := Lib.hid hcb
  have HZ := Lib.hid (show ∀ z ∈ [g, bi, bc, bd], w.heap.size ≤ z from fun z q => by have := hz z q; omega)
  have HK6 := Lib.hid (HK4.out.trans k6)
  have H0 := Lib.hid (show QlRel (resumeF s) n w.heap.size g bi bc bd w6 (.int .i64 (-1)) w6 from ⟨0, _, rfl, Nat.zero_le _, hR, by simp [newR], Turn.refl _ _, n + 1, r3, Nat.le_refl _, HR6.out, HF.out.symm⟩)
  have hKE : ∀ v, Turn [w.heap.size, g, bi, bc, bd] w6 v → Keep w v := fun v q => Turn.made HK6.out q (fun k hk => by
    rcases List.mem_cons.1 hk with rfl | hk
    · exact Nat.le_refl _
    · exact HZ.out k hk)
  have HKE := Lib.hid hKE
  have HT1 := Lib.hid (fun v v' (q : Only w.heap.size v v') => (Turn.only q (by simp) : Turn [w.heap.size, g, bi, bc, bd] v v'))
  clear hR hz k6 hcb hKE HNew HR4 HR6 HF hr4lt hz0 e1 e2 e3 la lb
  obtain ⟨res, hres⟩ : ∃ res, resumeF s = res := ⟨_, rfl⟩
  rw [hres] at H0
  have HRR := Lib.hid hres
  clear hres
  generalize hcc : w.heap.size = c at *
  have HCC := Lib.hid hcc
  clear hcc
  go_wp2_with fail
  go_loopw [9] (fun lv wr => QlRel res n c g bi bc bd w6 lv wr) (fun lv _ => 300 - (intOf lv + 1).toNat)
  case atStart => exact H0.out
  case round =>
    obtain ⟨least, y, rfl, hle, hR, hyn, hT, f, s1, hf, hrd, hfill⟩ := hrel
    obtain ⟨f, rfl⟩ : ∃ f', f = f' + 1 := ⟨f - 1, by omega⟩
    rw [fillF_next] at hfill
    have HU := Lib.hid (quint_at c s1 0 wr hrd)
    have Hf := Lib.hid hf
    have HS := Lib.hid hR
    have HT := Lib.hid hT
    have HYN := Lib.hid hyn
    generalize V.uintF s1 0 = u at *
    obtain ⟨i, l2, x2⟩ := u
    have HF := Lib.hid hfill
    clear hfill hrd hf hR hT hyn
    go_wp2_with fail
    refine HU.out.mono ?_
    rintro e v1 ⟨rfl, hr1, o1⟩
    have HR1 := Lib.hid hr1
    have HS1 := Lib.hid (HS.out.reads o1 HCB.out)
    have HTT := Lib.hid (HT.out.trans (HT1.out _ _ o1))
    have c1 := hr1.err
    have c0 := hr1.rest
    clear hr1 o1 HU HT HS
    simp only at HR1 HF c1 c0 ⊢
    by_cases hx : x2 = 0
    rotate_left
    · have HRes := Lib.hid (show res = (y, x2) by rw [← HF.out, if_pos hx])
      have t0 : (x2 != 0) = true := by simpa using hx
      have Hx := Lib.hid hx
      clear HF hx
      go_wp2_with fail
      go_region
      go_wp2
      go_ret2
      exact ⟨(HKE.out _ HTT.out).trans (Keep.refl _).drew, .inr ⟨by rw [HRR.out, HRes.out]; exact Hx.out, by rw [HRR.out, HRes.out]; rfl⟩⟩
    subst hx
    by_cases g1 : i = n
    · have HRes := Lib.hid (show res = (y, V.doneF l2 0) by rw [← HF.out, if_neg (by simp), if_pos g1])
      have t1 : (((i : Nat) : Int) == (n : Int)) = true := by simp; omega
      clear HF
      subst g1
      cases l2 with
      | nil =>
        go_wp2
        go_ret2
        exact ⟨HKE.out _ HTT.out, .inl ⟨by rw [HRR.out, HRes.out]; rfl, g, bi, bc, bd, rfl, by rw [HRR.out, HRes.out]; exact HS1.out, by rw [HCC.out]; exact HZ.out⟩⟩
      | cons q0 q1 =>
        go_wp2
        go_ret2
        exact ⟨HKE.out _ HTT.out, .inr ⟨by rw [HRR.out, HRes.out]; simp [V.doneF], by rw [HRR.out, HRes.out]; rfl⟩⟩
    have t1 : (((i : Nat) : Int) == (n : Int)) = false := by simp; omega
    by_cases g2 : n < i
    · have HRes := Lib.hid (show res = (y, 14) by rw [← HF.out, if_neg (by simp), if_neg g1, if_pos g2])
      have t2 : decide (((i : Nat) : Int) > (n : Int)) = true := decide_eq_true (by omega)
      clear HF g1
      go_wp2
      go_ret2
      exact ⟨HKE.out _ HTT.out, .inr ⟨by rw [HRR.out, HRes.out]; simp, by rw [HRR.out, HRes.out]; rfl⟩⟩
    have t2 : decide (((i : Nat) : Int) > (n : Int)) = false := decide_eq_false (by omega)
    have w1 : IntKind.i64.wrap (i : Int) = (i : Int) := IntWalk.i64_in _ (by omega)
    by_cases g3 : i < least
    · have HRes := Lib.hid (show res = (y, 6) by rw [← HF.out, if_neg (by simp), if_neg g1, if_neg g2, if_pos g3])
      have t3 : decide (((i : Nat) : Int) ≤ (least : Int) - 1) = true := decide_eq_true (by omega)
      clear HF g1
      go_wp2
      go_ret2
      exact ⟨HKE.out _ HTT.out, .inr ⟨by rw [HRR.out, HRes.out]; simp, by rw [HRR.out, HRes.out]; rfl⟩⟩
    have t3 : decide (((i : Nat) : Int) ≤ (least : Int) - 1) = false := decide_eq_false (by omega)
    have HRes := Lib.hid (show res = if (V.textF l2 0 1000).2.2 ≠ 0 then (y, (V.textF l2 0 1000).2.2) else fillF n f (i + 1) (V.textF l2 0 1000).2.1 (y.keep i (V.textF l2 0 1000).1) by rw [← HF.out, if_neg (by simp), if_neg g1, if_neg g2, if_neg g3])
    have hin : i < n := by omega
    have HIN := Lib.hid (And.intro hin (show least ≤ i by omega))
    have HTx := Lib.hid (qtext_at c l2 0 1000 v1 HR1.out (by decide))
    have HLe := Lib.hid (textF_le l2 0)
    generalize V.textF l2 0 1000 = t at *
    obtain ⟨tx, l3, x3⟩ := t
    simp only at HRes HLe HTx
    clear HF g1 HR1
    go_wp2_with fail
    refine HTx.out.mono ?_
    rintro e v3 ⟨rfl, hr3, o3⟩
    have HR3 := Lib.hid hr3
    have HS3 := Lib.hid (HS1.out.reads o3 HCB.out)
    have HT3 := Lib.hid (HTT.out.trans (HT1.out _ _ o3))
    have c3 := hr3.err
    clear hr3 o3 HTx HS1 HTT c1 c0 g2 g3
    by_cases hx : x3 = 0
    rotate_left
    · have HRe2 := Lib.hid (show res = (y, x3) by rw [HRes.out, if_pos hx])
      have t0 : (x3 != 0) = true := by simpa using hx
      have Hx := Lib.hid hx
      clear HRes hx
      go_wp2_with fail
      go_region
      go_wp2
      go_ret2
      exact ⟨(HKE.out _ HT3.out).trans (Keep.refl _).drew, .inr ⟨by rw [HRR.out, HRe2.out]; exact Hx.out, by rw [HRR.out, HRe2.out]; rfl⟩⟩
    subst hx
    have HRe2 := Lib.hid (show res = fillF n f (i + 1) l3 (y.keep i tx) by rw [HRes.out, if_neg (by simp)])
    have hiy : i < y.c.length := by rw [HYN.out]; exact hin
    have d2 := HS3.out.i
    have d3 := HS3.out.there i hiy
    have d4 := HS3.out.freei i
    have T1 : Turn [bi] v3 (v3.setCell ⟨bi, i, none⟩ (.bool true)) := Turn.setCell v3 bi i _ (by simp)
    have b1 := T1.obj HS3.out.block (by simp; exact HS3.out.ne1)
    have b2 := T1.obj HS3.out.txt (by simp; exact Ne.symm HS3.out.ne4)
    have d5 : (v3.setCell ⟨bi, i, none⟩ (.bool true)).cell? ⟨g, 3, none⟩ = some (.slice (some ⟨bc, 0, none⟩) y.c.length y.c.length) := cell_obj b1 rfl
    have d6 := cell_obj b2 (tc_get _ _ hiy)
    have d7 : (v3.setCell ⟨bi, i, none⟩ (.bool true)).frozen? ⟨bc, i, none⟩ = false := by simp [World.frozen?, b2]
    have HRK := Lib.hid (HS3.out.kept i tx hiy HLe.out (Keep.refl _) (Keep.refl _))
    have TT : Turn [c, g, bi, bc, bd] v3 ((v3.setCell ⟨bi, i, none⟩ (.bool true)).setCell ⟨bc, i, none⟩ (.string ⟨tx.toArray⟩)) := (Turn.setCell v3 bi i _ (by simp)).trans (Turn.setCell _ bc i _ (by simp))
    have TN : Turn [g, bi, bc, bd] v3 ((v3.setCell ⟨bi, i, none⟩ (.bool true)).setCell ⟨bc, i, none⟩ (.string ⟨tx.toArray⟩)) := (Turn.setCell v3 bi i _ (by simp)).trans (Turn.setCell _ bc i _ (by simp))
    have HRel := Lib.hid (show QlRel res n c g bi bc bd w6 (.int .i64 (((i + 1 : Nat) : Int) - 1)) ((v3.setCell ⟨bi, i, none⟩ (.bool true)).setCell ⟨bc, i, none⟩ (.string ⟨tx.toArray⟩)) from
      ⟨i + 1, _, rfl, by omega, HRK.out, by simp [Rv.keep, HYN.out], HT3.out.trans TT, f, l3, by have := Hf.out; have := HIN.out; omega, HR3.out.turn TN HCB.out, HRe2.out.symm⟩)
    rw [show (((i + 1 : Nat) : Int) - 1) = (i : Int) by omega] at HRel
    clear T1 b1 b2 TT TN HRK HR3 HT3 HS3 HRes HRe2 hiy
    generalize y.c.length = M at *
    generalize y.l.getD i false = ob at *
    generalize y.c.getD i [] = ot at *
    obtain rfl : M = n := HYN.out
    go_wp2
    go_roundw
    case rel => exact HRel.out
    case measure => simp [intOf]; have := HIN.out; omega
end Go.Proofs.YtifcibmpeolmdaaDoor
