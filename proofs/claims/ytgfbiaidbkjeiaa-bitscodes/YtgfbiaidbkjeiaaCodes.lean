/- Proved: for every list of numbers the law BitsCodes returns true (numbers' codes, one behind the other, are read in order), and its argument reads behind the call as it read before. No condition. -/
import Derived.Test.YtgfbiaidbkjeiaaO2
import Derived.ShutString
import Derived.ChangeOld
namespace Go.Proofs.Ytgfbiaidbkjeiaa.LCodes
open Go.RowKit

def C1 (w : World) (bw la : Nat) (f : Nat → List Bool) (cv : Value) (wr : World) : Prop := ∃ k : Nat, cv = .int .i64 k ∧ k ≤ la ∧ Wr wr bw (cat f k) ∧ Same w wr
def C2 (w : World) (bw br la : Nat) (f : Nat → List Bool) (pad : List Bool) (cv : Value) (wr : World) : Prop := ∃ k : Nat, cv = .int .i64 k ∧ k ≤ la ∧ Rd wr br (suf f k (la - k) ++ pad) 0 ∧ Wr wr bw (cat f la) ∧ Same w wr
theorem odd_len (L : List Bool) (v : Nat) (h : L = codeL v) : L.length % 2 = 1 := by
  rw [h, codeL_len]
  omega
theorem less_len (N M : Nat) : ((N : Int) + (M : Int) - (N : Int) != (M : Int)) = false := by
  rw [bne_eq_false_iff_eq]
  omega
theorem less_odd (N M : Nat) (h : M % 2 = 1) : (((N : Int) + (M : Int) - (N : Int)) % 2 != 1) = false := by
  rw [bne_eq_false_iff_eq]
  omega

set_option maxRecDepth 100000 in
set_option maxHeartbeats 1000000 in
theorem walk (a : Option Addr) (la ca : Nat) (zs : List Int) (w : World) (ha : IsRow .u64 w a la ca zs) :
    Calls Try.prog 8 #[.slice a la ca] w fun e w' => e = .returned (.bool true) ∧ Below w.heap.size w w' := by
  have RA := Lib.hid ha.at
  clear ha
  have AW := Lib.hid awake
  by_cases hbig : 100 < la
  · go_enter Try.func8, Try.ntmps8
    go_wp2_with fail
    refine (AW.out w).mono ?_
    rintro e w1 ⟨rfl, b1⟩
    go_wp2_with fail
    refine (AW.out w1).mono ?_
    rintro e w2 ⟨rfl, b2⟩
    go_wp2
    go_ret
    exact ⟨rfl, b1.trans b2⟩
  · obtain ⟨u, hu⟩ : ∃ u : Nat → Nat, ∀ i, i < la → zs.getD i 0 = u i ∧ u i < 2 ^ 64 := ⟨fun i => (zs.getD i 0).toNat, fun i hi => by
      have := bounds_u64 (show (Lit.int .u64 (zs.getD i 0)).wf = true from RA.out.ok i hi)
      refine ⟨?_, ?_⟩ <;> simp only <;> omega⟩
    obtain ⟨f, hf⟩ : ∃ f : Nat → List Bool, f = fun i => codeL (capN (u i)) := ⟨_, rfl⟩
    have Hf := Lib.hid (show ∀ i, f i = codeL (capN (u i)) from fun i => by rw [hf])
    have HU := Lib.hid hu
    have HL := Lib.hid (show ∀ k, k ≤ la → (cat f k).length ≤ 12700 from fun k hk => by
      have := cat_len f 127 k (fun i _ => by rw [hf]; exact codeL_short _)
      omega)
    clear hf hu
    obtain ⟨hz, hi⟩ := zero_of_info info27
    obtain ⟨n66, hn66⟩ : ∃ n, n = 66 := ⟨66, rfl⟩
    have hsz : ∀ w, (Go.sizeOf 27).run Try.prog w = .ok n66 w := fun w => by rw [hn66]; exact Try.sizeOf27 w
    clear hn66 hi
    go_enter Try.func8, Try.ntmps8
    go_wp2_with fail
    refine (AW.out w).mono ?_
    rintro e w1 ⟨rfl, b1⟩
    have HW1 := Lib.hid (Wr.new w1)
    have HS1 := Lib.hid (b1.alloc (.cells (wc (.pointer none) zl 0) 27))
    have HBW := Lib.hid b1.size
    clear b1
    go_wp2_with fail
    generalize w1.alloc (.cells (wc (.pointer none) zl 0) 27) = w2 at *
    generalize w1.heap.size = bw at *
    clear hz hsz
    go_loopw [20] (fun cv wr => C1 w bw la f cv wr) (fun cv _ => 101 - (intOf cv).toNat)
    case atStart => exact ⟨0, rfl, by omega, HW1.out, HS1.out⟩
    case round =>
      obtain ⟨k, rfl, hk, hw, hs⟩ := hrel
      have HWk := Lib.hid hw
      have HSk := Lib.hid hs
      clear hw hs HW1 HS1
      by_cases hkl : k < la
      · obtain ⟨b, off, rfl, hb, hc⟩ := (RA.out.same HSk.out).cells k hkl
        obtain ⟨e1, e2⟩ := HU.out k hkl
        rw [e1] at hc
        have hfk := Hf.out k
        have lk := HL.out k hk
        have lk1 := HL.out (k + 1) hkl
        have hod := odd_len (f k) _ hfk
        have hle : (strL (codeL (capN (u k)))).length = (f k).length := by rw [strL_len, hfk]
        have Hcat := Lib.hid (show cat f k ++ f k = cat f (k + 1) from rfl)
        have hcl : (cat f (k + 1)).length = (cat f k).length + (f k).length := by rw [← Hcat.out, List.length_append]
        have HCw := Lib.hid (fun w' (h : Wr w' bw (cat f k)) => wcode_at bw (u k) (cat f k) w' e2 h (by omega))
        have HRc := Lib.hid (rcode (u k) e2)
        rw [← hfk] at HCw HRc
        rw [← hfk] at hle
        have Hhc := Lib.hid hb
        clear e1 e2 hfk hb
        generalize u k = v at *
        go_wp2_with fail
        refine (wlen_at bw _ _ HWk.out).mono ?_
        rintro e wr ⟨rfl, rfl⟩
        go_wp2_with fail
        refine (HCw.out _ HWk.out).mono ?_
        rintro e w3 ⟨rfl, hw3, ho3⟩
        rw [Hcat.out] at hw3
        have HW3 := Lib.hid hw3
        have HS3 := Lib.hid (HSk.out.only ho3 HBW.out)
        clear hw3 ho3 hc HWk HSk
        go_wp2_with fail
        refine (wlen_at bw _ _ HW3.out).mono ?_
        rintro e w3 ⟨rfl, rfl⟩
        go_wp2_with fail
        refine (HRc.out _).mono ?_
        rintro e w4 ⟨rfl, hs4⟩
        have HW4 := Lib.hid (HW3.out.same hs4)
        have HS4 := Lib.hid (HS3.out.trans hs4)
        clear hs4 HW3 HS3
        have hd1 := less_len (cat f k).length (f k).length
        have hd2 := less_odd (cat f k).length (f k).length hod
        clear hod
        go_wp2_with fail
        refine (wlen_at bw _ _ HW4.out).mono ?_
        rintro e w4 ⟨rfl, rfl⟩
        go_wp2
        go_roundw
        case rel => exact ⟨k + 1, by go_num, hkl, HW4.out, HS4.out⟩
        case measure => simp [intOf]; omega
      · obtain rfl : k = la := by omega
        have hLk := HL.out k hk
        obtain ⟨pd, hpd, Hpad⟩ := ofL_bytesL (cat f k)
        have HSt := Lib.hid (fun w' (h : Wr w' bw (cat f k)) => wstring_at bw (cat f k) w' h (by omega))
        have HNew := Lib.hid (new_at (bytesL (cat f k)) (by rw [bytesL_len]; omega))
        rw [Hpad] at HNew
        have hbl : (bytesL (cat f k)).length = ((cat f k).length + 7) / 8 := bytesL_len _
        have HDn := Lib.hid (done_pad pd hpd)
        clear Hpad hpd HL
        generalize List.replicate pd false = pad at *
        go_wp2_with fail
        refine (HSt.out _ HWk.out).mono ?_
        rintro e w3 ⟨rfl, hs3⟩
        have HW3 := Lib.hid (HWk.out.same hs3)
        have HS3 := Lib.hid (HSk.out.trans hs3)
        clear hs3 HWk HSk
        go_wp2_with fail
        refine (HNew.out w3).mono ?_
        rintro e w4 ⟨rfl, hr4, hs4⟩
        rw [← suf_zero f k] at hr4
        have HR4 := Lib.hid hr4
        have HW4 := Lib.hid (HW3.out.same hs4)
        have HS4 := Lib.hid (HS3.out.trans hs4)
        have HBR := Lib.hid HS3.out.size
        have HNE := Lib.hid (show bw ≠ w3.heap.size by have := HW3.out.lt; omega)
        clear hr4 hs4 HW3 HS3
        generalize w3.heap.size = br at *
        go_wp2_with fail
        go_loopw [46] (fun cv wr => C2 w bw br k f pad cv wr) (fun cv _ => 101 - (intOf cv).toNat)
        case atStart => exact ⟨0, rfl, by omega, HR4.out, HW4.out, HS4.out⟩
        case round =>
          obtain ⟨j, rfl, hj, hr, hw, hs⟩ := hrel
          have HRj := Lib.hid hr
          have HWj := Lib.hid hw
          have HSj := Lib.hid hs
          clear hr hw hs HR4 HW4 HS4
          by_cases hjk : j < k
          · obtain ⟨b, off, rfl, hb, hc⟩ := (RA.out.same HSj.out).cells j hjk
            obtain ⟨e1, e2⟩ := HU.out j hjk
            rw [e1] at hc
            have HC := code_at br _ 0 _ HRj.out
            rw [suf_step f j k hjk, Hf.out j, List.append_assoc, code_read _ _ (capN_le (u j))] at HC
            have HC := Lib.hid HC
            have hmn := cap_min (u j)
            have Hhb := Lib.hid hb
            clear e1 e2 hb
            generalize u j = v at *
            go_wp2_with fail
            refine HC.out.mono ?_
            rintro e w5 ⟨rfl, hr5, ho5⟩
            have HR5 := Lib.hid hr5
            have HW5 := Lib.hid (HWj.out.other ho5 HNE.out HRj.out.noBlock)
            have HS5 := Lib.hid (HSj.out.only ho5 HBR.out)
            clear hr5 ho5 hc HWj HSj HRj HC
            go_wp2
            go_roundw
            case rel => exact ⟨j + 1, by go_num, hjk, HR5.out, HW5.out, HS5.out⟩
            case measure => simp [intOf]; omega
          · obtain rfl : j = k := by omega
            have HD := done_at br _ 0 _ HRj.out
            rw [Nat.sub_self, suf_none, List.nil_append, HDn.out] at HD
            have HD := Lib.hid HD
            go_wp2_with fail
            refine HD.out.mono ?_
            rintro e w5 ⟨rfl, hs5⟩
            have HW5 := Lib.hid (HWj.out.same hs5)
            have HS5 := Lib.hid (HSj.out.trans hs5)
            clear hs5 HWj HSj HRj HD
            go_wp2_with fail
            refine (HSt.out _ HW5.out).mono ?_
            rintro e w6 ⟨rfl, hs6⟩
            have HW6 := Lib.hid (HW5.out.same hs6)
            have HS6 := Lib.hid (HS5.out.trans hs6)
            clear hs6 HW5 HS5
            go_wp2_with fail
            refine (wlen_at bw _ _ HW6.out).mono ?_
            rintro e w6 ⟨rfl, rfl⟩
            go_wp2
            go_ret
            exact ⟨rfl, HS6.out⟩

open Go.ChangeShapes Go.WideShapes Go.ChangeAt
theorem own : ownKnob Try.prog.godebug = none := by kernel_rfl
theorem laidOut : laidOutB Try.prog = true := by kernel_rfl

set_option maxRecDepth 100000 in
theorem lifted (os : Os) (started : os.Started) (H : Type) (enc : TypeId × Value → H) :
    ReturnsInHanded {} Try.checked os 8 .any (Rows.bitsCodesSpec.pre6 enc Try.prog Try.f8 Rows.bitsCodesRow.domain false) (Rows.bitsCodesSpec.post enc Try.prog Try.f8 false true false false) := by
  refine returnsInHanded_of_change (C := Try.checked) own started (by kernel_rfl) Try.func8
    (ChangeSpec.witness6 (enc := enc) (C := Try.checked) false ⟨#[], #[.slice none 0 0], []⟩ 8 (by kernel_rfl) (by kernel_rfl) (by kernel_rfl) (by kernel_rfl)) ?_
  intro W base args ds gs before hval0 hW hcnd _
  have hval : ∀ (j : Nat) t v, Try.f8.params[j]? = some t → args[j]? = some v → Value.okWide Try.prog W .any base t v := hval0
  have hW' := hW
  obtain ⟨p, q, hA0, hV, rfl, hfz, hnd⟩ := hW
  have hA : DataW.TrodAll enc Try.prog W 0 (fun _ => true) true Try.f8.params.toList args.toList ds p := hA0

  rw [Try.params8] at hA hval
  obtain ⟨v0, vs0, d0, ds0, p0, q0, hargs, rfl, rfl, h0, r0⟩ := trodAll_cons hA
  obtain ⟨rfl, rfl, rfl⟩ := trodAll_nil r0
  obtain rfl : args = #[v0] := by cases args; simp_all
  obtain ⟨rfl, rfl⟩ := trodVars_none hV
  have k0 := h0
  have lt0 : ∀ x ∈ p0, x.block < W.heap.size := by obtain ⟨m, hm⟩ := k0; exact DataW.trod_lt m _ _ _ hm
  obtain ⟨a0, len0, cap0, rfl⟩ := okWide_slice Try.underlying55 (hval 0 55 v0 rfl rfl)
  obtain ⟨z0, w0⟩ : ∃ zs, IsRow .u64 W a0 len0 cap0 zs := by
    obtain ⟨fuel, hf⟩ := h0
    rcases open_ints Try.underlying55 Try.underlying28 (by kernel_rfl) hf with ⟨hcs, _⟩ | ⟨x, l, c, zs, hcs, _, hl, hm, hz, _, hcell, hwz⟩
    · simp [Value.cells] at hcs
      obtain ⟨rfl, rfl, rfl⟩ := hcs
      exact ⟨[], .inl ⟨rfl, rfl, rfl, rfl⟩⟩
    · simp [Value.cells] at hcs
      obtain ⟨rfl, rfl, rfl⟩ := hcs
      exact ⟨zs, .inr ⟨_, rfl, hl, hm, by simpa using hz, hcell, hwz⟩⟩
  clear hA0 hval0
  refine (walk a0 len0 cap0 z0 W w0).mono fun e W' ⟨he, bel⟩ => ?_
  subst he
  exact ⟨_, rfl, _, _, _, [], _, [], hW', trodAll_mk1 (shut_bool Try.underlying4 _), (trodAll_cons_mk (Below.trod laidOut (by kernel_rfl) (of_decide_eq_true (by kernel_rfl)) k0 bel lt0) trodAll_mk0), rfl, bel.frame _, fun h => by cases h⟩

theorem over : Rows.bitsCodesRow.holds Try.pinned (OpenSpec.ofChange Rows.bitsCodesSpec) :=
  OpenClaim.holds_of_wide 8 Try.f8 rfl rfl rfl rfl rfl rfl rfl ⟨rfl, rfl, rfl, rfl, rfl⟩ rfl rfl rfl rfl rfl (by kernel_rfl) Try.func8 (by kernel_rfl)
    (of_decide_eq_true (by kernel_rfl)) (by unfold Func.isWrapper; first | (rw [if_pos (by decide +kernel)]; kernel_rfl) | (rw [if_neg (by decide +kernel)]; exact ⟨rfl, rfl⟩))
    (fun os started H enc _ => lifted os started H enc)
end Go.Proofs.Ytgfbiaidbkjeiaa.LCodes

namespace Go.Proofs.Ytgfbiaidbkjeiaa
theorem bitsCodes_holds : Rows.BitsCodesSaid := LCodes.over
#print axioms bitsCodes_holds
end Go.Proofs.Ytgfbiaidbkjeiaa

