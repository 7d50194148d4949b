/- Proved: for every list of calls the law BitsWrites returns true (whatever is written, the bytes are the document's, and are read as it was), and its argument reads behind the call as it read before. No condition. -/
import Derived.Test.YtgfbiaidbkjeiaaO2
import Derived.Test.YtgfbiaidbkjeiaaT
import Derived.ShutString
import Derived.ChangeOld
namespace Go.Proofs.Ytgfbiaidbkjeiaa.LWrites
open Go.RowKit

/-- The bits of a call. -/
def opL (o : Opv) : List Bool := if o.kd = 1 then bitsL o.u (manyN o.n) else codeL (capN o.u)
theorem opL_len (o : Opv) : (opL o).length ≤ 127 := by
  unfold opL
  split
  · rw [bitsL_len]; unfold manyN; omega
  · exact codeL_short _
theorem opL1 (o : Opv) (h : o.kd = 1) : opL o = bitsL o.u (manyN o.n) := by unfold opL; rw [if_pos h]
theorem opL2 (o : Opv) (h : ¬ o.kd = 1) : opL o = codeL (capN o.u) := by unfold opL; rw [if_neg h]
def W1 (w : World) (bw la : Nat) (f : Nat → List Bool) (sv cv : Value) (wr : World) : Prop := ∃ k : Nat, cv = .int .i64 k ∧ sv = .string ⟨(strL (cat f k)).toArray⟩ ∧ k ≤ la ∧ Wr wr bw (cat f k) ∧ Same w wr
def W2 (w : World) (br la : Nat) (f : Nat → List Bool) (pad : List Bool) (cv : Value) (wr : World) : Prop := ∃ k : Nat, cv = .int .i64 k ∧ k ≤ la ∧ Rd wr br (suf f k (la - k) ++ pad) 0 ∧ Same w wr

set_option maxRecDepth 100000 in
set_option maxHeartbeats 2000000 in
theorem walk (a : Option Addr) (la ca : Nat) (o : Nat → Opv) (w : World) (ha : OpsAt w a la o) :
    Calls Try.prog 3 #[.slice a la ca] w fun e w' => e = .returned (.bool true) ∧ Below w.heap.size w w' := by
  have RA := Lib.hid ha
  clear ha
  have AW := Lib.hid awake
  by_cases hbig : 100 < la
  · go_enter Try.func3, Try.ntmps3
    go_wp2_with fail
    refine (AW.out w).mono ?_
    rintro e w1 ⟨rfl, b1⟩
    go_wp2_with fail
    refine (AW.out w1).mono ?_
    rintro e w2 ⟨rfl, b2⟩
    go_wp2
    go_ret
    exact ⟨rfl, b1.trans b2⟩
  · obtain ⟨f, hf⟩ : ∃ f : Nat → List Bool, f = fun i => opL (o i) := ⟨_, rfl⟩
    have Hf := Lib.hid (show ∀ i, f i = opL (o i) from fun i => by rw [hf])
    have HL := Lib.hid (show ∀ k, k ≤ la → (cat f k).length ≤ 12700 from fun k hk => by
      have := cat_len f 127 k (fun i _ => by rw [hf]; exact opL_len _)
      omega)
    clear hf
    obtain ⟨hz, hi⟩ := zero_of_info info27
    obtain ⟨n66, hn66⟩ : ∃ n, n = 66 := ⟨66, rfl⟩
    have hsz : ∀ w, (Go.sizeOf 27).run Try.prog w = .ok n66 w := fun w => by rw [hn66]; exact Try.sizeOf27 w
    clear hn66 hi
    go_enter Try.func3, Try.ntmps3
    go_wp2_with fail
    refine (AW.out w).mono ?_
    rintro e w1 ⟨rfl, b1⟩
    have HW1 := Lib.hid (Wr.new w1)
    have HS1 := Lib.hid (b1.alloc (.cells (wc (.pointer none) zl 0) 27))
    have HBW := Lib.hid b1.size
    clear b1
    go_wp2_with fail
    generalize w1.alloc (.cells (wc (.pointer none) zl 0) 27) = w2 at *
    generalize w1.heap.size = bw at *
    clear hz hsz
    go_loopw [4, 21] (fun sv cv wr => W1 w bw la f sv cv wr) (fun _ cv _ => 101 - (intOf cv).toNat)
    case atStart => exact ⟨0, rfl, rfl, by omega, HW1.out, HS1.out⟩
    case round =>
      obtain ⟨k, rfl, rfl, hk, hw, hs⟩ := hrel
      have HWk := Lib.hid hw
      have HSk := Lib.hid hs
      clear hw hs HW1 HS1
      by_cases hkl : k < la
      · obtain ⟨b, off, rfl, hb, hc⟩ := (RA.out.same HSk.out).cells k hkl
        have hok := RA.out.ok k hkl
        have hu := hok.u
        have hfk := Hf.out k
        have lk := HL.out k hk
        have lk1 := HL.out (k + 1) hkl
        have Hcat := Lib.hid (show cat f k ++ f k = cat f (k + 1) from rfl)
        have hcl : (cat f (k + 1)).length = (cat f k).length + (f k).length := by rw [← Hcat.out, List.length_append]
        generalize o k = op at *
        have c0 := hc.kd
        have c1 := hc.n
        have c2 := hc.u
        have X0 := Lib.hid (OpBox.new wr op)
        have HWa := Lib.hid (HWk.out.same ((Same.refl _).alloc (.cells #[.int .i64 op.kd, .int .i64 op.n, .int .u64 op.u] 30)))
        have HSa := Lib.hid (HSk.out.alloc (.cells #[.int .i64 op.kd, .int .i64 op.n, .int .u64 op.u] 30))
        have HNE := Lib.hid (show wr.heap.size ≠ bw by have := HWk.out.lt; omega)
        have hss : (strL (cat f k)).length ≤ 12700 := by rw [strL_len]; exact lk
        have hsf : (strL (f k)).length ≤ 12700 := by rw [strL_len]; omega
        have Hstr := Lib.hid (show strL (cat f (k + 1)) = strL (cat f k) ++ strL (f k) by rw [← Hcat.out, strL_append])
        clear hc hb hok HWk HSk
        by_cases hk1 : op.kd = 1
        · have hk1i : (op.kd == 1) = true := by simpa using hk1
          have e1 := opL1 op hk1
          rw [← hfk] at e1
          have HCw := Lib.hid (fun w' (h : Wr w' bw (cat f k)) => wbits_at bw op.u op.n (cat f k) w' hu h (by omega))
          have HRc := Lib.hid (rbits op.u op.n hu)
          rw [← e1] at HCw HRc
          clear hk1 e1 hfk
          generalize strL (f k) = sf at *
          generalize strL (cat f k) = sk at *
          go_wp2_with fail
          refine (HCw.out _ HWa.out).mono ?_
          rintro e w3 ⟨rfl, hw3, ho3⟩
          rw [Hcat.out] at hw3
          have HW3 := Lib.hid hw3
          have HS3 := Lib.hid (HSa.out.only ho3 HBW.out)
          have X3 := Lib.hid (X0.out.only ho3 HNE.out)
          have d1 := X3.out.n
          have d2 := X3.out.u
          clear hw3 ho3 c0 c1 c2 HWa HSa X0
          go_wp2_with fail
          refine (HRc.out _).mono ?_
          rintro e w4 ⟨rfl, hs4⟩
          have HW4 := Lib.hid (HW3.out.same hs4)
          have HS4 := Lib.hid (HS3.out.trans hs4)
          clear hs4 HW3 HS3
          go_wp2
          go_roundw
          case rel => exact ⟨k + 1, by go_num, by rw [Hstr.out, ← app_list], hkl, HW4.out, HS4.out⟩
          case measure => simp [intOf]; omega
        · have hk1i : (op.kd == 1) = false := by simpa using hk1
          have e1 := opL2 op hk1
          rw [← hfk] at e1
          have HCw := Lib.hid (fun w' (h : Wr w' bw (cat f k)) => wcode_at bw op.u (cat f k) w' hu h (by omega))
          have HRc := Lib.hid (rcode op.u hu)
          rw [← e1] at HCw HRc
          clear hk1 e1 hfk
          generalize strL (f k) = sf at *
          generalize strL (cat f k) = sk at *
          go_wp2_with fail
          refine (HCw.out _ HWa.out).mono ?_
          rintro e w3 ⟨rfl, hw3, ho3⟩
          rw [Hcat.out] at hw3
          have HW3 := Lib.hid hw3
          have HS3 := Lib.hid (HSa.out.only ho3 HBW.out)
          have X3 := Lib.hid (X0.out.only ho3 HNE.out)
          have d2 := X3.out.u
          clear hw3 ho3 c0 c1 c2 HWa HSa X0
          go_wp2_with fail
          refine (HRc.out _).mono ?_
          rintro e w4 ⟨rfl, hs4⟩
          have HW4 := Lib.hid (HW3.out.same hs4)
          have HS4 := Lib.hid (HS3.out.trans hs4)
          clear hs4 HW3 HS3
          go_wp2
          go_roundw
          case rel => exact ⟨k + 1, by go_num, by rw [Hstr.out, ← app_list], hkl, HW4.out, HS4.out⟩
          case measure => simp [intOf]; omega
      · obtain rfl : k = la := by omega
        have hLk := HL.out k hk
        obtain ⟨pd, hpd, Hpad⟩ := ofL_bytesL (cat f k)
        have HSt := Lib.hid (fun w' (h : Wr w' bw (cat f k)) => wstring_at bw (cat f k) w' h (by omega))
        have HBy := Lib.hid (rbytes (cat f k) (by omega))
        have HNew := Lib.hid (new_at (bytesL (cat f k)) (by rw [bytesL_len]; omega))
        rw [Hpad] at HNew
        have hsl : (strL (cat f k)).length = (cat f k).length := strL_len _
        have HDn := Lib.hid (done_pad pd hpd)
        clear Hpad hpd HL
        generalize List.replicate pd false = pad at *
        go_wp2_with fail
        refine (wlen_at bw _ _ HWk.out).mono ?_
        rintro e wr ⟨rfl, rfl⟩
        go_wp2_with fail
        refine (HSt.out _ HWk.out).mono ?_
        rintro e w3 ⟨rfl, hs3⟩
        have HW3 := Lib.hid (HWk.out.same hs3)
        have HS3 := Lib.hid (HSk.out.trans hs3)
        clear hs3 HWk HSk
        go_wp2_with fail
        refine (HBy.out _).mono ?_
        rintro e w4 ⟨rfl, hs4⟩
        have HW4 := Lib.hid (HW3.out.same hs4)
        have HS4 := Lib.hid (HS3.out.trans hs4)
        clear hs4 HW3 HS3
        go_wp2_with fail
        refine (HSt.out _ HW4.out).mono ?_
        rintro e w5 ⟨rfl, hs5⟩
        have HS5 := Lib.hid (HS4.out.trans hs5)
        clear hs5 HW4 HS4
        go_wp2_with fail
        refine (HNew.out w5).mono ?_
        rintro e w6 ⟨rfl, hr6, hs6⟩
        rw [← suf_zero f k] at hr6
        have HR6 := Lib.hid hr6
        have HS6 := Lib.hid (HS5.out.trans hs6)
        have HBR := Lib.hid HS5.out.size
        clear hr6 hs6 HS5
        generalize w5.heap.size = br at *
        go_wp2_with fail
        go_loopw [63] (fun cv wr => W2 w br k f pad cv wr) (fun cv _ => 101 - (intOf cv).toNat)
        case atStart => exact ⟨0, rfl, by omega, HR6.out, HS6.out⟩
        case round =>
          obtain ⟨j, rfl, hj, hr, hs⟩ := hrel
          have HRj := Lib.hid hr
          have HSj := Lib.hid hs
          clear hr hs HR6 HS6
          by_cases hjk : j < k
          · obtain ⟨b, off, rfl, hb, hc⟩ := (RA.out.same HSj.out).cells j hjk
            have hu := (RA.out.ok j hjk).u
            have hfj := Hf.out j
            have hrj := HRj.out
            rw [suf_step f j k hjk, List.append_assoc] at hrj
            generalize hR : suf f (j + 1) (k - (j + 1)) ++ pad = R at *
            have HR := Lib.hid hR
            clear hR
            generalize o j = op at *
            rw [hfj] at hrj
            have c0 := hc.kd
            have c1 := hc.n
            have c2 := hc.u
            have X0 := Lib.hid (OpBox.new wr op)
            have HNE := Lib.hid (show wr.heap.size ≠ br by have := HRj.out.lt; omega)
            have p0 := hrj.same ((Same.refl wr).alloc (.cells #[.int .i64 op.kd, .int .i64 op.n, .int .u64 op.u] 30))
            have S0 := Lib.hid (HSj.out.alloc (.cells #[.int .i64 op.kd, .int .i64 op.n, .int .u64 op.u] 30))
            have P0 := Lib.hid p0
            clear hc hb hfj hrj HRj HSj p0
            obtain ⟨M0, hM0⟩ : ∃ M0 : Int, max op.n 0 = M0 := ⟨_, rfl⟩
            obtain ⟨M, hM⟩ : ∃ M : Nat, manyN op.n = M := ⟨_, rfl⟩
            have hmx : ∀ w ts t, (Builtin.max_ ts t #[.int .i64 op.n, .int .i64 0]).run Try.prog w = .ok (.int .i64 M0) w := fun w ts t => by
              rw [run_max_int2, show (if (0 : Int) > op.n then 0 else op.n) = M0 by rw [← hM0]; split <;> omega]
            have hmn : ∀ w ts t, (Builtin.min_ ts t #[.int .i64 M0, .int .i64 64]).run Try.prog w = .ok (.int .i64 M) w := fun w ts t => by
              rw [run_min_int2, show (if (64 : Int) < M0 then 64 else M0) = ((M : Nat) : Int) by rw [← hM0, ← hM]; unfold manyN; split <;> omega]
            have hM64 : M ≤ 64 := by rw [← hM]; unfold manyN; omega
            by_cases hk1 : op.kd = 1
            · rw [opL1 op hk1, hM] at P0
              obtain ⟨kd, nn, uu⟩ := op
              simp only at hk1 hu hmx X0 P0 S0 c0 c1 c2 hM0 hM
              subst hk1
              have HB := Lib.hid (fun w' (h : Rd w' br (bitsL uu M ++ R) 0) => by have := bits_at br M _ 0 w' h; rw [bits_read uu M R hM64] at this; exact this)
              have HRb := rbits uu M hu
              rw [show manyN (M : Int) = M by unfold manyN; omega] at HRb
              have HRb := Lib.hid HRb
              have HRv := rvalue (bitsL uu M) (by rw [bitsL_len]; exact hM64)
              rw [valL_bitsL] at HRv
              have HRv := Lib.hid HRv
              clear hM0 hM
              generalize uu % 2 ^ M = V at *
              have hvv : ((V : Int) != (V : Int)) = false := by simp
              generalize strL (bitsL uu M) = sb at *
              obtain ⟨C, hC⟩ : ∃ C : Nat → World → Prop, C = fun q w' => Rd w' br (if q = 0 then bitsL uu M ++ R else R) 0 ∧ OpBox w' wr.heap.size ⟨1, nn, uu⟩ ∧ Same w w' := ⟨_, rfl⟩
              have HC0 := Lib.hid (show C 0 (wr.alloc (.cells #[.int .i64 1, .int .i64 nn, .int .u64 uu] 30)).drew by rw [hC]; exact ⟨P0.out.same (Same.refl _).drew, X0.out.same (Same.refl _).drew, S0.out.drew⟩)
              have HC1 := Lib.hid (show ∀ w', C 1 w' → Rd w' br R 0 ∧ Same w w' by rw [hC]; exact fun w' h => ⟨h.1, h.2.2⟩)
              have cA := Lib.hid (show ∀ w', C 0 w' → Calls Try.prog 18 #[.pointer (some ⟨br, 0, none⟩), .int .i64 M] w' fun e w'' => e = .returned (.int .u64 V) ∧ C 1 w'' by
                rw [hC]
                rintro w' ⟨h1, h2, h3⟩
                refine (HB.out w' h1).mono ?_
                rintro e w'' ⟨rfl, h4, h5⟩
                exact ⟨rfl, h4, h2.only h5 HNE.out, h3.only h5 HBR.out⟩)
              have hst : ∀ q w' w'', C q w' → Same w' w'' → C q w'' := by
                rw [hC]
                rintro q w' w'' ⟨h1, h2, h3⟩ h4
                exact ⟨h1.same h4, h2.same h4, h3.trans h4⟩
              have cB := Lib.hid (show ∀ q w', C q w' → Calls Try.prog 11 #[.int .u64 uu, .int .i64 M] w' fun e w'' => e = .returned (.string ⟨sb.toArray⟩) ∧ C q w'' from fun q w' h => (HRb.out w').mono fun _ _ ⟨he, hs⟩ => ⟨he, hst q _ _ h hs⟩)
              have cD := Lib.hid (show ∀ q w', C q w' → Calls Try.prog 19 #[.string ⟨sb.toArray⟩] w' fun e w'' => e = .returned (.int .u64 V) ∧ C q w'' from fun q w' h => (HRv.out w').mono fun _ _ ⟨he, hs⟩ => ⟨he, hst q _ _ h hs⟩)
              have d0 : ∀ u : PW C, u.1.cell? ⟨wr.heap.size, 0, none⟩ = some (.int .i64 1) := by rw [hC]; rintro ⟨w', q, h1, h2, h3⟩; exact h2.kd
              have d2 : ∀ u : PW C, u.1.cell? ⟨wr.heap.size, 2, none⟩ = some (.int .u64 uu) := by rw [hC]; rintro ⟨w', q, h1, h2, h3⟩; exact h2.u
              have ne : Nonempty (PW C) := ⟨⟨_, 0, HC0.out⟩⟩
              clear hC hst
              go_wp2_with fail
              refine wp_region_ph (C := C) (by kernel_rfl) (by kernel_rfl) (by kernel_rfl) HC0.out ?_
              repeat (refine ph_quiet (by rfl) ?_; (first | go_big_quiet_step (fail) | quiet_step (fail)); refine wpQuiet_nil ?_)
              refine ph_act cA.out (fun K hK => ?_)
              refine ⟨by rfl, by rfl, fun w => by go_simp, ?_⟩
              go_simp
              refine hK _ ?_
              clear hK K
              repeat (refine ph_quiet (by rfl) ?_; (first | go_big_quiet_step (fail) | quiet_step (fail)); refine wpQuiet_nil ?_)
              refine ph_still cB.out (fun K hK => ?_)
              refine ⟨by rfl, fun w => by go_simp, ?_⟩
              go_simp
              refine hK _ ?_
              clear hK K
              refine ph_still cD.out (fun K hK => ?_)
              refine ⟨by rfl, fun w => by go_simp, ?_⟩
              go_simp
              refine hK _ ?_
              clear hK K
              repeat (refine ph_quiet (by rfl) ?_; (first | go_big_quiet_step (fail) | quiet_step (fail)); refine wpQuiet_nil ?_)
              refine ph_skip (fun K hK => ?_)
              refine ⟨by rfl, ?_⟩
              go_simp
              refine hK _ ?_
              clear hK K
              repeat (refine ph_quiet (by rfl) ?_; (first | go_big_quiet_step (fail) | quiet_step (fail)); refine wpQuiet_nil ?_)
              refine ph_nil ?_
              intro w9 h9
              obtain ⟨P9, S9⟩ := HC1.out w9 h9
              clear h9 d0 d2 HC0 HC1 cA
              go_wp2
              go_roundw
              case rel => exact ⟨j + 1, by go_num, hjk, by rw [HR.out]; exact P9, S9⟩
              case measure => simp [intOf]; omega
            · rw [opL2 op hk1] at P0
              obtain ⟨kd, nn, uu⟩ := op
              simp only at hk1 hu hmx X0 P0 S0 c0 c1 c2 hM0 hM
              have hk1i : (kd == 1) = false := by simpa using hk1
              have hk1n : (kd != 1) = true := by simpa using hk1
              have HB := Lib.hid (fun w' (h : Rd w' br (codeL (capN uu) ++ R) 0) => by have := code_at br _ 0 w' h; rw [code_read _ R (capN_le uu)] at this; exact this)
              have hcm := cap_min uu
              clear hM0 hM hk1
              generalize capN uu = V at *
              have hvv : ((V : Int) != (V : Int)) = false := by simp
              obtain ⟨C, hC⟩ : ∃ C : Nat → World → Prop, C = fun q w' => Rd w' br (if q = 0 then codeL V ++ R else R) 0 ∧ OpBox w' wr.heap.size ⟨kd, nn, uu⟩ ∧ Same w w' := ⟨_, rfl⟩
              have HC0 := Lib.hid (show C 0 (wr.alloc (.cells #[.int .i64 kd, .int .i64 nn, .int .u64 uu] 30)).drew by rw [hC]; exact ⟨P0.out.same (Same.refl _).drew, X0.out.same (Same.refl _).drew, S0.out.drew⟩)
              have HC1 := Lib.hid (show ∀ w', C 1 w' → Rd w' br R 0 ∧ Same w w' by rw [hC]; exact fun w' h => ⟨h.1, h.2.2⟩)
              have cA := Lib.hid (show ∀ w', C 0 w' → Calls Try.prog 20 #[.pointer (some ⟨br, 0, none⟩)] w' fun e w'' => e = .returned (.int .u64 V) ∧ C 1 w'' by
                rw [hC]
                rintro w' ⟨h1, h2, h3⟩
                refine (HB.out w' h1).mono ?_
                rintro e w'' ⟨rfl, h4, h5⟩
                exact ⟨rfl, h4, h2.only h5 HNE.out, h3.only h5 HBR.out⟩)
              have d0 : ∀ u : PW C, u.1.cell? ⟨wr.heap.size, 0, none⟩ = some (.int .i64 kd) := by rw [hC]; rintro ⟨w', q, h1, h2, h3⟩; exact h2.kd
              have d2 : ∀ u : PW C, u.1.cell? ⟨wr.heap.size, 2, none⟩ = some (.int .u64 uu) := by rw [hC]; rintro ⟨w', q, h1, h2, h3⟩; exact h2.u
              have ne : Nonempty (PW C) := ⟨⟨_, 0, HC0.out⟩⟩
              clear hC
              go_wp2_with fail
              refine wp_region_ph (C := C) (by kernel_rfl) (by kernel_rfl) (by kernel_rfl) HC0.out ?_
              repeat (refine ph_quiet (by rfl) ?_; (first | go_big_quiet_step (fail) | quiet_step (fail)); refine wpQuiet_nil ?_)
              refine ph_skip (fun K hK => ?_)
              refine ⟨by rfl, ?_⟩
              go_simp
              refine hK _ ?_
              clear hK K
              repeat (refine ph_quiet (by rfl) ?_; (first | go_big_quiet_step (fail) | quiet_step (fail)); refine wpQuiet_nil ?_)
              refine ph_skip (fun K hK => ?_)
              refine ⟨by rfl, ?_⟩
              go_simp
              refine hK _ ?_
              clear hK K
              refine ph_skip (fun K hK => ?_)
              refine ⟨by rfl, ?_⟩
              go_simp
              refine hK _ ?_
              clear hK K
              repeat (refine ph_quiet (by rfl) ?_; (first | go_big_quiet_step (fail) | quiet_step (fail)); refine wpQuiet_nil ?_)
              refine ph_act cA.out (fun K hK => ?_)
              refine ⟨by rfl, by rfl, fun w => by go_simp, ?_⟩
              go_simp
              refine hK _ ?_
              clear hK K
              repeat (refine ph_quiet (by rfl) ?_; (first | go_big_quiet_step (fail) | quiet_step (fail)); refine wpQuiet_nil ?_)
              refine ph_nil ?_
              intro w9 h9
              obtain ⟨P9, S9⟩ := HC1.out w9 h9
              clear h9 d0 d2 HC0 HC1 cA
              go_wp2
              go_roundw
              case rel => exact ⟨j + 1, by go_num, hjk, by rw [HR.out]; exact P9, S9⟩
              case measure => simp [intOf]; omega
          · obtain rfl : j = k := by omega
            have HD := done_at br _ 0 _ HRj.out
            rw [Nat.sub_self, suf_none, List.nil_append, HDn.out] at HD
            have HD := Lib.hid HD
            go_wp2_with fail
            refine HD.out.mono ?_
            rintro e w5 ⟨rfl, hs5⟩
            go_wp2
            go_ret
            exact ⟨rfl, HSj.out.trans hs5⟩

open Go.ChangeShapes Go.WideShapes Go.ChangeAt
theorem own : ownKnob Try.prog.godebug = none := by kernel_rfl
theorem laidOut : laidOutB Try.prog = true := by kernel_rfl

set_option maxRecDepth 100000 in
theorem lifted (os : Os) (started : os.Started) (H : Type) (enc : TypeId × Value → H) :
    ReturnsInHanded {} Try.checked os 3 .any (Rows.bitsWritesSpec.pre6 enc Try.prog Try.f3 Rows.bitsWritesRow.domain false) (Rows.bitsWritesSpec.post enc Try.prog Try.f3 false true false false) := by
  refine returnsInHanded_of_change (C := Try.checked) own started (by kernel_rfl) Try.func3
    (ChangeSpec.witness6 (enc := enc) (C := Try.checked) false ⟨#[], #[.slice none 0 0], []⟩ 8 (by kernel_rfl) (by kernel_rfl) (by kernel_rfl) (by kernel_rfl)) ?_
  intro W base args ds gs before hval0 hW hcnd _
  have hval : ∀ (j : Nat) t v, Try.f3.params[j]? = some t → args[j]? = some v → Value.okWide Try.prog W .any base t v := hval0
  have hW' := hW
  obtain ⟨p, q, hA0, hV, rfl, hfz, hnd⟩ := hW
  have hA : DataW.TrodAll enc Try.prog W 0 (fun _ => true) true Try.f3.params.toList args.toList ds p := hA0

  rw [Try.params3] at hA hval
  obtain ⟨v0, vs0, d0, ds0, p0, q0, hargs, rfl, rfl, h0, r0⟩ := trodAll_cons hA
  obtain ⟨rfl, rfl, rfl⟩ := trodAll_nil r0
  obtain rfl : args = #[v0] := by cases args; simp_all
  obtain ⟨rfl, rfl⟩ := trodVars_none hV
  have k0 := h0
  have lt0 : ∀ x ∈ p0, x.block < W.heap.size := by obtain ⟨m, hm⟩ := k0; exact DataW.trod_lt m _ _ _ hm
  obtain ⟨a, len, cap, o, rfl, ho⟩ := open_ops (hval 0 22 v0 rfl rfl) h0
  clear hA0 hval0
  refine (walk a len cap o W ho).mono fun e W' ⟨he, bel⟩ => ?_
  subst he
  exact ⟨_, rfl, _, _, _, [], _, [], hW', trodAll_mk1 (shut_bool Try.underlying4 _), (trodAll_cons_mk (Below.trod laidOut (by kernel_rfl) (of_decide_eq_true (by kernel_rfl)) k0 bel lt0) trodAll_mk0), rfl, bel.frame _, fun h => by cases h⟩

theorem over : Rows.bitsWritesRow.holds Try.pinned (OpenSpec.ofChange Rows.bitsWritesSpec) :=
  OpenClaim.holds_of_wide 3 Try.f3 rfl rfl rfl rfl rfl rfl rfl ⟨rfl, rfl, rfl, rfl, rfl⟩ rfl rfl rfl rfl rfl (by kernel_rfl) Try.func3 (by kernel_rfl)
    (of_decide_eq_true (by kernel_rfl)) (by unfold Func.isWrapper; first | (rw [if_pos (by decide +kernel)]; kernel_rfl) | (rw [if_neg (by decide +kernel)]; exact ⟨rfl, rfl⟩))
    (fun os started H enc _ => lifted os started H enc)
end Go.Proofs.Ytgfbiaidbkjeiaa.LWrites

namespace Go.Proofs.Ytgfbiaidbkjeiaa
theorem bitsWrites_holds : Rows.BitsWritesSaid := LWrites.over
#print axioms bitsWrites_holds
end Go.Proofs.Ytgfbiaidbkjeiaa

