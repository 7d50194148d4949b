/- Proved: what the receiver's Resume answers, and what it does to memory. Condition: the text's length fits; the library's table is as its text lays it. -/
import Derived.Test.YtifcibmpeolmdaaDoorPi
namespace Go.Proofs.YtifcibmpeolmdaaDoor
open Go.RowKit

theorem resumeF_of {s r1 r2 r3 : List UInt8} {a b n : Nat} {x1 x2 x3 : Int} (hA : V.uintF s 0 = (a, r1, x1)) (hB : V.uintF r1 x1 = (b, r2, x2)) (hC : V.uintF r2 x2 = (n, r3, x3)) :
    resumeF s = if x3 ≠ 0 then (newR 0 0 0, x3) else if ¬ mayR a b n then (newR 0 0 0, 1) else fillF n (n + 1) 0 r3 (newR a b n) := by
  have h1 : headA s = (a, r1, x1) := hA
  have h2 : headB s = (b, r2, x2) := by unfold headB; rw [h1]; exact hB
  have h3 : headC s = (n, r3, x3) := by unfold headC; rw [h2]; exact hC
  unfold resumeF
  rw [h3, h1, h2]
theorem wrap_isI (a : Nat) : isI (wrap64 (a : Int)) := by unfold isI wrap64; omega
theorem wrap_may {a b n : Nat} (ha : a < 2 ^ 64) (hb : b < 2 ^ 64) (hn : n < 2 ^ 64) : mayR (wrap64 (a : Int)) (wrap64 (b : Int)) (wrap64 (n : Int)) ↔ mayR a b n := by unfold mayR wrap64; omega
theorem wrap_i64 (a : Int) : IntKind.i64.wrap a = wrap64 a := by rw [IntKind.wrap_i64, wrap64]
/-- What Resume answers. -/
def ResPost (s : List UInt8) (w : World) (e : Ending) (w' : World) : Prop :=
  Keep w w' ∧ (((resumeF s).2 = 0 ∧ ∃ b bm bc, e = .returned (.tuple #[.pointer (some ⟨b, 0, none⟩), .int .i64 0]) ∧ S w' b bm bc none (resumeF s).1 ∧ w.heap.size ≤ b ∧ w.heap.size ≤ bm ∧ w.heap.size ≤ bc) ∨
    ((resumeF s).2 ≠ 0 ∧ e = .returned (.tuple #[.pointer none, .int .i64 (resumeF s).2])))
set_option maxRecDepth 100000 in
set_option maxHeartbeats 1000000 in
theorem resume_at (s : List UInt8) (w : World) (hs : s.length ≤ maxLen) (ht : Tab w) : Calls Tryd.prog 28 #[.string ⟨s.toArray⟩] w (ResPost s w) := by
  have HN := Lib.hid (newreader s w hs)
  have HTab := Lib.hid ht
  obtain ⟨A, hA⟩ : ∃ A, V.uintF s 0 = A := ⟨_, rfl⟩
  obtain ⟨a, r1, x1⟩ := A
  obtain ⟨B, hB⟩ : ∃ B, V.uintF r1 x1 = B := ⟨_, rfl⟩
  obtain ⟨b', r2, x2⟩ := B
  obtain ⟨C, hC⟩ : ∃ C, V.uintF r2 x2 = C := ⟨_, rfl⟩
  obtain ⟨n, r3, x3⟩ := C
  have la : a < 2 ^ 64 := by have := V.uintF_lt s 0; rw [hA] at this; exact this
  have lb : b' < 2 ^ 64 := by have := V.uintF_lt r1 x1; rw [hB] at this; exact this
  have ln : n < 2 ^ 64 := by have := V.uintF_lt r2 x2; rw [hC] at this; exact this
  have HRes := Lib.hid (resumeF_of hA hB hC)
  have U1 := fun c v (h : Rd v c s 0) => uint_at c s 0 v h
  rw [hA] at U1
  have U2 := fun c v (h : Rd v c r1 x1) => uint_at c r1 x1 v h
  rw [hB] at U2
  have U3 := fun c v (h : Rd v c r2 x2) => uint_at c r2 x2 v h
  rw [hC] at U3
  have H1 := Lib.hid U1
  have H2 := Lib.hid U2
  have H3 := Lib.hid U3
  have hmw := wrap_may la lb ln
  have HLT := Lib.hid (And.intro la (And.intro lb ln))
  obtain ⟨av, hav⟩ : ∃ z, wrap64 (a : Int) = z := ⟨_, rfl⟩
  obtain ⟨bv, hbv⟩ : ∃ z, wrap64 (b' : Int) = z := ⟨_, rfl⟩
  obtain ⟨nv, hnv⟩ : ∃ z, wrap64 (n : Int) = z := ⟨_, rfl⟩
  have hav' : IntKind.i64.wrap (a : Int) = av := by rw [wrap_i64, hav]
  have hbv' : IntKind.i64.wrap (b' : Int) = bv := by rw [wrap_i64, hbv]
  have hnv' : IntKind.i64.wrap (n : Int) = nv := by rw [wrap_i64, hnv]
  rw [hav, hbv, hnv] at hmw
  have HII := Lib.hid (show isI av ∧ isI bv from ⟨by rw [← hav]; exact wrap_isI a, by rw [← hbv]; exact wrap_isI b'⟩)
  have HVs := Lib.hid (And.intro hav (And.intro hbv hnv))
  clear ht hs hA hB hC la lb ln U1 U2 U3
  go_enter Tryd.func28, Tryd.ntmps28
  go_wp2_with fail
  refine HN.out.mono ?_
  rintro e w1 ⟨c, rfl, hc, hr1, b1⟩
  have HR := Lib.hid hr1
  have HK := Lib.hid (show Keep w w1 from b1)
  have HC := Lib.hid hc
  clear hr1 b1 hc HN
  go_wp2_with fail
  refine (H1.out c w1 HR.out).mono ?_
  rintro e w2 ⟨rfl, hr2, o2⟩
  have HR2 := Lib.hid hr2
  have HO2 := Lib.hid (Turn.only (K := [c]) o2 (by simp))
  clear hr2 o2 H1 HR
  simp only at HR2 ⊢
  go_wp2_with fail
  refine (H2.out c w2 HR2.out).mono ?_
  rintro e w3 ⟨rfl, hr3, o3⟩
  have HR3 := Lib.hid hr3
  have HO3 := Lib.hid (HO2.out.trans (Turn.only (K := [c]) o3 (by simp)))
  clear hr3 o3 H2 HR2 HO2
  simp only at HR3 ⊢
  go_wp2_with fail
  refine (H3.out c w3 HR3.out).mono ?_
  rintro e w4 ⟨rfl, hr4, o4⟩
  have HR4 := Lib.hid hr4
  have HK4 := Lib.hid (Turn.made HK.out (HO3.out.trans (Turn.only (K := [c]) o4 (by simp))) (fun k hk => by simp at hk; rw [hk, HC.out]; exact Nat.le_refl _))
  have hr4lt := hr4.lt
  clear hr4 o4 H3 HR3 HO3 HK
  simp only at HR4 ⊢
  go_wp2_with fail
  refine (err_rd c r3 x3 w4 HR4.out).mono ?_
  rintro e w5 ⟨rfl, rfl⟩
  by_cases hx : x3 = 0
  · subst hx
    by_cases hm : mayR a b' n
    · have he : wrap64 (a : Int) = a ∧ wrap64 (b' : Int) = b' ∧ wrap64 (n : Int) = n := by
        obtain ⟨⟨_, h1⟩, ⟨_, h2⟩, h3, h4⟩ := hm
        exact ⟨IntWalk.wrap64_in _ (by omega), IntWalk.wrap64_in _ (by omega), IntWalk.wrap64_in _ (by omega)⟩
      have HF := Lib.hid (show resumeF s = fillF n (n + 1) 0 r3 (newR a b' n) by rw [HRes.out, if_neg (by simp), if_neg (fun q => q hm)])
      have eav : av = a := by rw [← HVs.out.1]; exact he.1
      have ebv : bv = b' := by rw [← HVs.out.2.1]; exact he.2.1
      have env : nv = n := by rw [← HVs.out.2.2]; exact he.2.2
      subst eav ebv env
      have HNew := Lib.hid (vnew_at a b' n hm w4 (HTab.out.keep HK4.out))
      clear hm he HVs hmw
      go_wp2_with fail
      refine HNew.out.mono ?_
      rintro e w6 ⟨b, bm, bc, rfl, hS, q1, q2, q3, k6⟩
      have HS := Lib.hid hS
      have HR6 := Lib.hid (HR4.out.below k6)
      have hcb : c ∉ blks b bm bc none := by
        simp only [blks, Option.toList_none, List.mem_cons, List.not_mem_nil, or_false]
        omega
      have HCB := Lib.hid hcb
      have hK4 := HK4.out.size
      have HSz := Lib.hid (show w.heap.size ≤ b ∧ w.heap.size ≤ bm ∧ w.heap.size ≤ bc by omega)
      have HK6 := Lib.hid (HK4.out.trans k6)
      have hw0 : 0 < w.heap.size := HTab.out.pos
      have HFill := Lib.hid (fill_at c b bm bc none n (newR a b' n) r3 w6 HS.out (by simp [newR]) HR6.out hcb (by rw [HC.out]; omega))
      rw [← HF.out] at HFill
      have hKE : ∀ v, Turn (c :: blks b bm bc none) w6 v → Keep w v := fun v q => Turn.made HK6.out q (fun k hk => by
        have h := HSz.out
        have h2 := HC.out
        simp only [blks, Option.toList_none, List.mem_cons, List.not_mem_nil, or_false] at hk
        omega)
      have HKE := Lib.hid hKE
      clear hS q1 q2 q3 k6 hcb hK4 HNew hKE hw0 hr4lt
      obtain ⟨R, hR⟩ : ∃ R, resumeF s = R := ⟨_, rfl⟩
      obtain ⟨y, x4⟩ := R
      rw [hR] at HFill
      have HRR := Lib.hid hR
      clear hR
      go_wp2_with fail
      refine HFill.out.mono ?_
      rintro e w7 ⟨rfl, t7, h7⟩
      have H7 := Lib.hid (And.intro (HKE.out w7 t7) h7)
      clear t7 h7 HFill
      simp only at H7 ⊢
      by_cases h4 : x4 = 0
      · subst h4
        go_wp2
        go_ret2
        refine ⟨H7.out.1, .inl ⟨by rw [HRR.out], b, bm, bc, rfl, by rw [HRR.out]; exact H7.out.2 trivial, HSz.out⟩⟩
      · have t4 : (x4 != 0) = true := by simpa using h4
        have HX4 := Lib.hid h4
        clear h4
        go_wp2
        go_ret2
        exact ⟨H7.out.1, .inr ⟨by rw [HRR.out]; exact HX4.out, by rw [HRR.out]; rfl⟩⟩
    · have HF := Lib.hid (show resumeF s = (newR 0 0 0, 1) by rw [HRes.out, if_neg (by simp), if_pos hm])
      have HNew := Lib.hid (vnew_no av bv nv HII.out.1 HII.out.2 (fun q => hm (hmw.1 q)) w4)
      clear hm HVs hmw
      go_wp2_with fail
      refine HNew.out.mono ?_
      rintro e w6 ⟨rfl, k6⟩
      have HK6 := Lib.hid (HK4.out.trans k6)
      clear k6 HNew
      go_wp2
      go_ret2
      exact ⟨HK6.out, .inr ⟨by rw [HF.out]; decide, by rw [HF.out]; rfl⟩⟩
  · have HF := Lib.hid (show resumeF s = (newR 0 0 0, x3) by rw [HRes.out, if_pos hx])
    have t3 : (x3 != 0) = true := by simpa using hx
    have HX := Lib.hid hx
    clear hx HVs hmw
    go_wp2
    go_ret2
    exact ⟨HK4.out, .inr ⟨by rw [HF.out]; exact HX.out, by rw [HF.out]; rfl⟩⟩
end Go.Proofs.YtifcibmpeolmdaaDoor
