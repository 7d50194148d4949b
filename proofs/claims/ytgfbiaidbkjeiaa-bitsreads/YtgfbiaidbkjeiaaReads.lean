/- Proved: for every text and every list of calls the law BitsReads returns true (what is taken, and what was wrong first, is the document's), and its arguments read behind the call as they read before. No condition. -/
import Derived.Test.YtgfbiaidbkjeiaaO2
import Derived.Test.YtgfbiaidbkjeiaaT
import Derived.ShutString
import Derived.ChangeOld
namespace Go.Proofs.Ytgfbiaidbkjeiaa.LReads
open Go.RowKit

def RR (w : World) (br bq la : Nat) (cv : Value) (wr : World) : Prop := ∃ (k : Nat) (l : List Bool) (x : Int), cv = .int .i64 k ∧ k ≤ la ∧ Rd wr br l x ∧ Qd wr bq l x ∧ Same w wr

set_option maxRecDepth 100000 in
set_option maxHeartbeats 2000000 in
theorem walk (s : List UInt8) (a : Option Addr) (la ca : Nat) (o : Nat → Opv) (w : World) (hs9 : s.length ≤ 9223372036854775807) (ha : OpsAt w a la o) :
    Calls Try.prog 4 #[.string ⟨s.toArray⟩, .slice a la ca] w fun e w' => e = .returned (.bool true) ∧ Below w.heap.size w w' := by
  have RA := Lib.hid ha
  clear ha
  have AW := Lib.hid awake
  by_cases hbig : 500 < s.length
  · go_enter Try.func4, Try.ntmps4
    go_wp2_with fail
    refine (AW.out w).mono ?_
    rintro e w1 ⟨rfl, b1⟩
    go_wp2_with fail
    refine (AW.out w1).mono ?_
    rintro e w2 ⟨rfl, b2⟩
    go_wp2
    go_ret
    exact ⟨rfl, b1.trans b2⟩
  · have hsm : s.length ≤ 500 := by omega
    clear hs9 hbig
    by_cases hbig : 200 < la
    · go_enter Try.func4, Try.ntmps4
      go_wp2_with fail
      refine (AW.out w).mono ?_
      rintro e w1 ⟨rfl, b1⟩
      go_wp2_with fail
      refine (AW.out w1).mono ?_
      rintro e w2 ⟨rfl, b2⟩
      go_wp2
      go_ret
      exact ⟨rfl, b1.trans b2⟩
    · have HNew := Lib.hid (new_at s (by omega))
      have HOf := Lib.hid (rof s (by omega))
      have hol : (ofL s).length ≤ 4000 := by rw [ofL_len]; omega
      generalize ofL s = l0 at *
      go_enter Try.func4, Try.ntmps4
      go_wp2_with fail
      refine (AW.out w).mono ?_
      rintro e w1 ⟨rfl, b1⟩
      have HS1 := Lib.hid b1
      clear b1
      go_wp2_with fail
      refine (HNew.out w1).mono ?_
      rintro e w2 ⟨rfl, hr2, hs2⟩
      have HR2 := Lib.hid hr2
      have HBR := Lib.hid HS1.out.size
      have HS2 := Lib.hid (HS1.out.trans hs2)
      clear hr2 hs2 HS1
      generalize w1.heap.size = br at *
      go_wp2_with fail
      refine (HOf.out w2).mono ?_
      rintro e w3 ⟨rfl, hs3⟩
      have HR3 := Lib.hid (HR2.out.same (hs3.alloc (.cells #[.string ⟨(strL l0).toArray⟩, .int .i64 0] 48)))
      have HQ3 := Lib.hid (show Qd (w3.alloc (.cells #[.string ⟨(strL l0).toArray⟩, .int .i64 0] 48)) w3.heap.size l0 0 from ⟨heap_alloc_last w3 _, by omega⟩)
      have HS3 := Lib.hid ((HS2.out.trans hs3).alloc (.cells #[.string ⟨(strL l0).toArray⟩, .int .i64 0] 48))
      have HBQ := Lib.hid (HS2.out.trans hs3).size
      have HRQ := Lib.hid (show br ≠ w3.heap.size by have := (HR2.out.same hs3).lt; omega)
      clear hs3 HR2 HS2
      go_wp2_with fail
      generalize w3.alloc (.cells #[.string ⟨(strL l0).toArray⟩, .int .i64 0] 48) = w4 at *
      generalize w3.heap.size = bq at *
      go_loopw [30] (fun cv wr => RR w br bq la cv wr) (fun cv _ => 201 - (intOf cv).toNat)
      case atStart => exact ⟨0, l0, 0, rfl, by omega, HR3.out, HQ3.out, HS3.out⟩
      case round =>
        obtain ⟨k, l, x, rfl, hk, hr, hq, hs⟩ := hrel
        have HRk := Lib.hid hr
        have HQk := Lib.hid hq
        have HSk := Lib.hid hs
        clear hr hq hs HR3 HQ3 HS3
        by_cases hkl : k < la
        · obtain ⟨b, off, rfl, hb, hc⟩ := (RA.out.same HSk.out).cells k hkl
          generalize o k = op at *
          have c0 := hc.kd
          have c1 := hc.n
          have c2 := hc.u
          have X0 := Lib.hid (OpBox.new wr op)
          have HNE := Lib.hid (show wr.heap.size ≠ br by have := HRk.out.lt; omega)
          have HNQ := Lib.hid (show wr.heap.size ≠ bq by have := lt_of_block HQk.out.block; omega)
          have P0 := Lib.hid (HRk.out.same ((Same.refl wr).alloc (.cells #[.int .i64 op.kd, .int .i64 op.n, .int .u64 op.u] 30)))
          have Q0 := Lib.hid (HQk.out.same ((Same.refl wr).alloc (.cells #[.int .i64 op.kd, .int .i64 op.n, .int .u64 op.u] 30)))
          have S0 := Lib.hid (HSk.out.alloc (.cells #[.int .i64 op.kd, .int .i64 op.n, .int .u64 op.u] 30))
          clear hc hb HRk HQk HSk
          by_cases hk1 : op.kd = 1
          · obtain ⟨kd, nn, uu⟩ := op
            simp only at hk1 X0 c0 c1 c2
            subst hk1
            have HA := Lib.hid (fun w' (h1 : Rd w' br l x) => bits_at br nn l x w' h1)
            have HQ := Lib.hid (fun w' (h2 : Qd w' bq l x) => qbits_at bq nn l x w' h2)
            generalize bitsF l x nn = r at *
            obtain ⟨V, l2, x2⟩ := r
            simp only at HA HQ
            have hvv : ((V : Int) != (V : Int)) = false := by simp
            obtain ⟨C, hC⟩ : ∃ C : Nat → World → Prop, C = fun q w' => Rd w' br (if q = 0 then l else l2) (if q = 0 then x else x2) ∧ Qd w' bq (if q ≤ 1 then l else l2) (if q ≤ 1 then x else x2) ∧ OpBox w' wr.heap.size ⟨1, nn, uu⟩ ∧ Same w w' := ⟨_, rfl⟩
            have HC0 := Lib.hid (show C 0 (wr.alloc (.cells #[.int .i64 1, .int .i64 nn, .int .u64 uu] 30)).drew by rw [hC]; exact ⟨P0.out.same (Same.refl _).drew, Q0.out.same (Same.refl _).drew, X0.out.same (Same.refl _).drew, S0.out.drew⟩)
            have HC2 := Lib.hid (show ∀ w', C 2 w' → Rd w' br l2 x2 ∧ Qd w' bq l2 x2 ∧ Same w w' by rw [hC]; exact fun w' h => ⟨h.1, h.2.1, h.2.2.2⟩)
            have cA := Lib.hid (show ∀ w', C 0 w' → Calls Try.prog 18 #[.pointer (some ⟨br, 0, none⟩), .int .i64 nn] w' fun e w'' => e = .returned (.int .u64 V) ∧ C 1 w'' by
              rw [hC]
              rintro w' ⟨h1, h2, h3, h4⟩
              refine (HA.out w' h1).mono ?_
              rintro e w'' ⟨rfl, h5, h6⟩
              exact ⟨rfl, h5, h2.other h6 (Ne.symm HRQ.out), h3.only h6 HNE.out, h4.only h6 HBR.out⟩)
            have cB := Lib.hid (show ∀ w', C 1 w' → Calls Try.prog 23 #[.pointer (some ⟨bq, 0, none⟩), .int .i64 nn] w' fun e w'' => e = .returned (.int .u64 V) ∧ C 2 w'' by
              rw [hC]
              rintro w' ⟨h1, h2, h3, h4⟩
              refine (HQ.out w' h2).mono ?_
              rintro e w'' ⟨rfl, h5, h6⟩
              exact ⟨rfl, h1.other h6 HRQ.out, h5, h3.only h6 HNQ.out, h4.only h6 HBQ.out⟩)
            have d0 : ∀ u : PW C, u.1.cell? ⟨wr.heap.size, 0, none⟩ = some (.int .i64 1) := by rw [hC]; rintro ⟨w', q, h1, h2, h3, h4⟩; exact h3.kd
            have d1 : ∀ u : PW C, u.1.cell? ⟨wr.heap.size, 1, none⟩ = some (.int .i64 nn) := by rw [hC]; rintro ⟨w', q, h1, h2, h3, h4⟩; exact h3.n
            have ne : Nonempty (PW C) := ⟨⟨_, 0, HC0.out⟩⟩
            clear hC
            go_wp2_with fail
            refine wp_region_ph (C := C) (by kernel_rfl) (by kernel_rfl) (by kernel_rfl) HC0.out ?_
            repeat (refine ph_quiet (by rfl) ?_; (first | go_big_quiet_step (fail) | quiet_step (fail)); refine wpQuiet_nil ?_)
            refine ph_act cA.out (fun K hK => ?_)
            refine ⟨by rfl, by rfl, fun w => by go_simp, ?_⟩
            go_simp
            refine hK _ ?_
            clear hK K
            repeat (refine ph_quiet (by rfl) ?_; (first | go_big_quiet_step (fail) | quiet_step (fail)); refine wpQuiet_nil ?_)
            refine ph_act cB.out (fun K hK => ?_)
            refine ⟨by rfl, by rfl, fun w => by go_simp, ?_⟩
            go_simp
            refine hK _ ?_
            clear hK K
            repeat (refine ph_quiet (by rfl) ?_; (first | go_big_quiet_step (fail) | quiet_step (fail)); refine wpQuiet_nil ?_)
            refine ph_skip (fun K hK => ?_)
            refine ⟨by rfl, ?_⟩
            go_simp
            refine hK _ ?_
            clear hK K
            repeat (refine ph_quiet (by rfl) ?_; (first | go_big_quiet_step (fail) | quiet_step (fail)); refine wpQuiet_nil ?_)
            refine ph_skip (fun K hK => ?_)
            refine ⟨by rfl, ?_⟩
            go_simp
            refine hK _ ?_
            clear hK K
            repeat (refine ph_quiet (by rfl) ?_; (first | go_big_quiet_step (fail) | quiet_step (fail)); refine wpQuiet_nil ?_)
            refine ph_nil ?_
            intro w9 h9
            obtain ⟨p9, q9, s9⟩ := HC2.out w9 h9
            have P9 := Lib.hid p9
            have Q9 := Lib.hid q9
            have S9 := Lib.hid s9
            clear h9 d0 d1 HC0 HC2 cA cB p9 q9 s9 c0 c1 c2 ne
            have e1 : ∀ u : SW w9, u.1.cell? ⟨bq, 1, none⟩ = some (.int .i64 x2) := fun u => (Q9.out.same u.2).c1
            have e0 : ∀ u : SW w9, u.1.cell? ⟨bq, 0, none⟩ = some (.string ⟨(strL l2).toArray⟩) := fun u => (Q9.out.same u.2).c0
            have hE := Lib.hid (at_same (fun u hu => (err_at br l2 x2 u (P9.out.same hu)).mono (fun _ _ ⟨he, hw⟩ => ⟨he, by rw [hw]; exact Same.refl _⟩)))
            have hsl : (strL l2).length = l2.length := strL_len l2
            have hxx : (x2 != x2) = false := by simp
            have hll : ((l2.length : Int) != (l2.length : Int)) = false := by simp
            by_cases hx2 : x2 = 0
            · subst hx2
              have hLf := Lib.hid (at_same (fun u hu => left_at br l2 u (P9.out.same hu)))
              go_wp2_with fail
              refine wp_region_same (Same.refl _) (by kernel_rfl) (by kernel_rfl) ?_
              first | go_big_quiet_step (fail) | quiet_step (fail)
              first | go_big_quiet_step (exact hE.out _) | quiet_step (exact hE.out _)
              repeat (first | go_big_quiet_step (fail) | quiet_step (fail))
              first | go_big_quiet_step (exact hLf.out _) | quiet_step (exact hLf.out _)
              repeat (first | go_big_quiet_step (fail) | quiet_step (fail))
              refine wpQuiet_nil ?_
              rintro w6 ⟨⟨w7, b7⟩, rfl⟩
              have P7 := Lib.hid (P9.out.same b7)
              have Q7 := Lib.hid (Q9.out.same b7)
              have S7 := Lib.hid (S9.out.trans b7)
              clear b7 e0 e1
              go_wp2
              go_roundw
              case rel => exact ⟨k + 1, l2, 0, by go_num, hkl, P7.out, Q7.out, S7.out⟩
              case measure => simp [intOf]; omega
            · have hx3 : (x2 == 0) = false := by simpa using hx2
              go_wp2_with fail
              refine wp_region_same (Same.refl _) (by kernel_rfl) (by kernel_rfl) ?_
              first | go_big_quiet_step (fail) | quiet_step (fail)
              first | go_big_quiet_step (exact hE.out _) | quiet_step (exact hE.out _)
              repeat (first | go_big_quiet_step (fail) | quiet_step (fail))
              refine wpQuiet_nil ?_
              rintro w6 ⟨⟨w7, b7⟩, rfl⟩
              have P7 := Lib.hid (P9.out.same b7)
              have Q7 := Lib.hid (Q9.out.same b7)
              have S7 := Lib.hid (S9.out.trans b7)
              clear b7 e0 e1
              go_wp2
              go_roundw
              case rel => exact ⟨k + 1, l2, x2, by go_num, hkl, P7.out, Q7.out, S7.out⟩
              case measure => simp [intOf]; omega
          · obtain ⟨kd, nn, uu⟩ := op
            simp only at hk1 X0 c0 c1 c2
            have hk1i : (kd == 1) = false := by simpa using hk1
            have hk1n : (kd != 1) = true := by simpa using hk1
            clear hk1
            have HA := Lib.hid (fun w' (h1 : Rd w' br l x) => code_at br l x w' h1)
            have HQ := Lib.hid (fun w' (h2 : Qd w' bq l x) => qcode_at bq l x w' h2)
            generalize codeF l x = r at *
            obtain ⟨V, l2, x2⟩ := r
            simp only at HA HQ
            have hvv : ((V : Int) != (V : Int)) = false := by simp
            obtain ⟨C, hC⟩ : ∃ C : Nat → World → Prop, C = fun q w' => Rd w' br (if q = 0 then l else l2) (if q = 0 then x else x2) ∧ Qd w' bq (if q ≤ 1 then l else l2) (if q ≤ 1 then x else x2) ∧ OpBox w' wr.heap.size ⟨kd, nn, uu⟩ ∧ Same w w' := ⟨_, rfl⟩
            have HC0 := Lib.hid (show C 0 (wr.alloc (.cells #[.int .i64 kd, .int .i64 nn, .int .u64 uu] 30)).drew by rw [hC]; exact ⟨P0.out.same (Same.refl _).drew, Q0.out.same (Same.refl _).drew, X0.out.same (Same.refl _).drew, S0.out.drew⟩)
            have HC2 := Lib.hid (show ∀ w', C 2 w' → Rd w' br l2 x2 ∧ Qd w' bq l2 x2 ∧ Same w w' by rw [hC]; exact fun w' h => ⟨h.1, h.2.1, h.2.2.2⟩)
            have cA := Lib.hid (show ∀ w', C 0 w' → Calls Try.prog 20 #[.pointer (some ⟨br, 0, none⟩)] w' fun e w'' => e = .returned (.int .u64 V) ∧ C 1 w'' by
              rw [hC]
              rintro w' ⟨h1, h2, h3, h4⟩
              refine (HA.out w' h1).mono ?_
              rintro e w'' ⟨rfl, h5, h6⟩
              exact ⟨rfl, h5, h2.other h6 (Ne.symm HRQ.out), h3.only h6 HNE.out, h4.only h6 HBR.out⟩)
            have cB := Lib.hid (show ∀ w', C 1 w' → Calls Try.prog 24 #[.pointer (some ⟨bq, 0, none⟩)] w' fun e w'' => e = .returned (.int .u64 V) ∧ C 2 w'' by
              rw [hC]
              rintro w' ⟨h1, h2, h3, h4⟩
              refine (HQ.out w' h2).mono ?_
              rintro e w'' ⟨rfl, h5, h6⟩
              exact ⟨rfl, h1.other h6 HRQ.out, h5, h3.only h6 HNQ.out, h4.only h6 HBQ.out⟩)
            have d0 : ∀ u : PW C, u.1.cell? ⟨wr.heap.size, 0, none⟩ = some (.int .i64 kd) := by rw [hC]; rintro ⟨w', q, h1, h2, h3, h4⟩; exact h3.kd
            have d1 : ∀ u : PW C, u.1.cell? ⟨wr.heap.size, 1, none⟩ = some (.int .i64 nn) := by rw [hC]; rintro ⟨w', q, h1, h2, h3, h4⟩; exact h3.n
            have ne : Nonempty (PW C) := ⟨⟨_, 0, HC0.out⟩⟩
            clear hC
            go_wp2_with fail
            refine wp_region_ph (C := C) (by kernel_rfl) (by kernel_rfl) (by kernel_rfl) HC0.out ?_
            repeat (refine ph_quiet (by rfl) ?_; (first | go_big_quiet_step (fail) | quiet_step (fail)); refine wpQuiet_nil ?_)
            refine ph_skip (fun K hK => ?_)
            refine ⟨by rfl, ?_⟩
            go_simp
            refine hK _ ?_
            clear hK K
            repeat (refine ph_quiet (by rfl) ?_; (first | go_big_quiet_step (fail) | quiet_step (fail)); refine wpQuiet_nil ?_)
            refine ph_skip (fun K hK => ?_)
            refine ⟨by rfl, ?_⟩
            go_simp
            refine hK _ ?_
            clear hK K
            repeat (refine ph_quiet (by rfl) ?_; (first | go_big_quiet_step (fail) | quiet_step (fail)); refine wpQuiet_nil ?_)
            refine ph_act cA.out (fun K hK => ?_)
            refine ⟨by rfl, by rfl, fun w => by go_simp, ?_⟩
            go_simp
            refine hK _ ?_
            clear hK K
            repeat (refine ph_quiet (by rfl) ?_; (first | go_big_quiet_step (fail) | quiet_step (fail)); refine wpQuiet_nil ?_)
            refine ph_act cB.out (fun K hK => ?_)
            refine ⟨by rfl, by rfl, fun w => by go_simp, ?_⟩
            go_simp
            refine hK _ ?_
            clear hK K
            repeat (refine ph_quiet (by rfl) ?_; (first | go_big_quiet_step (fail) | quiet_step (fail)); refine wpQuiet_nil ?_)
            refine ph_nil ?_
            intro w9 h9
            obtain ⟨p9, q9, s9⟩ := HC2.out w9 h9
            have P9 := Lib.hid p9
            have Q9 := Lib.hid q9
            have S9 := Lib.hid s9
            clear h9 d0 d1 HC0 HC2 cA cB p9 q9 s9 c0 c1 c2 ne
            have e1 : ∀ u : SW w9, u.1.cell? ⟨bq, 1, none⟩ = some (.int .i64 x2) := fun u => (Q9.out.same u.2).c1
            have e0 : ∀ u : SW w9, u.1.cell? ⟨bq, 0, none⟩ = some (.string ⟨(strL l2).toArray⟩) := fun u => (Q9.out.same u.2).c0
            have hE := Lib.hid (at_same (fun u hu => (err_at br l2 x2 u (P9.out.same hu)).mono (fun _ _ ⟨he, hw⟩ => ⟨he, by rw [hw]; exact Same.refl _⟩)))
            have hsl : (strL l2).length = l2.length := strL_len l2
            have hxx : (x2 != x2) = false := by simp
            have hll : ((l2.length : Int) != (l2.length : Int)) = false := by simp
            by_cases hx2 : x2 = 0
            · subst hx2
              have hLf := Lib.hid (at_same (fun u hu => left_at br l2 u (P9.out.same hu)))
              go_wp2_with fail
              refine wp_region_same (Same.refl _) (by kernel_rfl) (by kernel_rfl) ?_
              first | go_big_quiet_step (fail) | quiet_step (fail)
              first | go_big_quiet_step (exact hE.out _) | quiet_step (exact hE.out _)
              repeat (first | go_big_quiet_step (fail) | quiet_step (fail))
              first | go_big_quiet_step (exact hLf.out _) | quiet_step (exact hLf.out _)
              repeat (first | go_big_quiet_step (fail) | quiet_step (fail))
              refine wpQuiet_nil ?_
              rintro w6 ⟨⟨w7, b7⟩, rfl⟩
              have P7 := Lib.hid (P9.out.same b7)
              have Q7 := Lib.hid (Q9.out.same b7)
              have S7 := Lib.hid (S9.out.trans b7)
              clear b7 e0 e1
              go_wp2
              go_roundw
              case rel => exact ⟨k + 1, l2, 0, by go_num, hkl, P7.out, Q7.out, S7.out⟩
              case measure => simp [intOf]; omega
            · have hx3 : (x2 == 0) = false := by simpa using hx2
              go_wp2_with fail
              refine wp_region_same (Same.refl _) (by kernel_rfl) (by kernel_rfl) ?_
              first | go_big_quiet_step (fail) | quiet_step (fail)
              first | go_big_quiet_step (exact hE.out _) | quiet_step (exact hE.out _)
              repeat (first | go_big_quiet_step (fail) | quiet_step (fail))
              refine wpQuiet_nil ?_
              rintro w6 ⟨⟨w7, b7⟩, rfl⟩
              have P7 := Lib.hid (P9.out.same b7)
              have Q7 := Lib.hid (Q9.out.same b7)
              have S7 := Lib.hid (S9.out.trans b7)
              clear b7 e0 e1
              go_wp2
              go_roundw
              case rel => exact ⟨k + 1, l2, x2, by go_num, hkl, P7.out, Q7.out, S7.out⟩
              case measure => simp [intOf]; omega
        · have HD1 := Lib.hid (done_at br l x _ HRk.out)
          have hdd : (doneF l x == doneF l x) = true := by simp
          go_wp2_with fail
          refine HD1.out.mono ?_
          rintro e w5 ⟨rfl, hs5⟩
          have HD2 := Lib.hid (qdone_at bq l x _ (HQk.out.same hs5))
          go_wp2_with fail
          refine HD2.out.mono ?_
          rintro e w6 ⟨rfl, hs6⟩
          go_wp2
          go_ret
          exact ⟨rfl, (HSk.out.trans hs5).trans hs6⟩

open Go.ChangeShapes Go.WideShapes Go.ChangeAt
theorem own : ownKnob Try.prog.godebug = none := by kernel_rfl
theorem laidOut : laidOutB Try.prog = true := by kernel_rfl

set_option maxRecDepth 100000 in
theorem lifted (os : Os) (started : os.Started) (H : Type) (enc : TypeId × Value → H) :
    ReturnsInHanded {} Try.checked os 4 .any (Rows.bitsReadsSpec.pre6 enc Try.prog Try.f4 Rows.bitsReadsRow.domain false) (Rows.bitsReadsSpec.post enc Try.prog Try.f4 false true false false) := by
  refine returnsInHanded_of_change (C := Try.checked) own started (by kernel_rfl) Try.func4
    (ChangeSpec.witness6 (enc := enc) (C := Try.checked) false ⟨#[], #[.string ⟨#[]⟩, .slice none 0 0], []⟩ 8 (by kernel_rfl) (by kernel_rfl) (by kernel_rfl) (by kernel_rfl)) ?_
  intro W base args ds gs before hval0 hW hcnd _
  have hval : ∀ (j : Nat) t v, Try.f4.params[j]? = some t → args[j]? = some v → Value.okWide Try.prog W .any base t v := hval0
  have hW' := hW
  obtain ⟨p, q, hA0, hV, rfl, hfz, hnd⟩ := hW
  have hA : DataW.TrodAll enc Try.prog W 0 (fun _ => true) true Try.f4.params.toList args.toList ds p := hA0

  rw [Try.params4] at hA hval
  obtain ⟨v0, vs0, d0, ds0, p0, q0, hargs, rfl, rfl, h0, r0⟩ := trodAll_cons hA
  obtain ⟨v1, vs1, d1, ds1, p1, q1, rfl, rfl, rfl, h1, r1⟩ := trodAll_cons r0
  obtain ⟨rfl, rfl, rfl⟩ := trodAll_nil r1
  obtain rfl : args = #[v0, v1] := by cases args; simp_all
  obtain ⟨rfl, rfl⟩ := trodVars_none hV
  have k0 := h0
  have lt0 : ∀ x ∈ p0, x.block < W.heap.size := by obtain ⟨m, hm⟩ := k0; exact DataW.trod_lt m _ _ _ hm
  have k1 := h1
  have lt1 : ∀ x ∈ p1, x.block < W.heap.size := by obtain ⟨m, hm⟩ := k1; exact DataW.trod_lt m _ _ _ hm
  obtain ⟨a0, rfl, _, _, w0⟩ := Go.ChangeMaps.open_string Try.underlying9 (hval 0 9 v0 rfl rfl) h0
  obtain ⟨a, len, cap, o, rfl, ho⟩ := open_ops (hval 1 22 v1 rfl rfl) h1
  clear hA0 hval0
  refine (walk a0.data.toList a len cap o W (by simpa [maxLen] using w0) ho).mono fun e W' ⟨he, bel⟩ => ?_
  subst he
  exact ⟨_, rfl, _, _, _, [], _, [], hW', trodAll_mk1 (shut_bool Try.underlying4 _), (trodAll_cons_mk (Below.trod laidOut (by kernel_rfl) (of_decide_eq_true (by kernel_rfl)) k0 bel lt0) (trodAll_cons_mk (Below.trod laidOut (by kernel_rfl) (of_decide_eq_true (by kernel_rfl)) k1 bel lt1) trodAll_mk0)), rfl, bel.frame _, fun h => by cases h⟩

theorem over : Rows.bitsReadsRow.holds Try.pinned (OpenSpec.ofChange Rows.bitsReadsSpec) :=
  OpenClaim.holds_of_wide 4 Try.f4 rfl rfl rfl rfl rfl rfl rfl ⟨rfl, rfl, rfl, rfl, rfl⟩ rfl rfl rfl rfl rfl (by kernel_rfl) Try.func4 (by kernel_rfl)
    (of_decide_eq_true (by kernel_rfl)) (by unfold Func.isWrapper; first | (rw [if_pos (by decide +kernel)]; kernel_rfl) | (rw [if_neg (by decide +kernel)]; exact ⟨rfl, rfl⟩))
    (fun os started H enc _ => lifted os started H enc)
end Go.Proofs.Ytgfbiaidbkjeiaa.LReads

namespace Go.Proofs.Ytgfbiaidbkjeiaa
theorem bitsReads_holds : Rows.BitsReadsSaid := LReads.over
#print axioms bitsReads_holds
end Go.Proofs.Ytgfbiaidbkjeiaa

