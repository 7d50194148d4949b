/- Proved: what incr's Print answers. Condition: the list lies in memory; its numbers have 32 bits. -/
import Derived.Test.YtgkgpdlakamgiaaGreatIa
namespace Go.Proofs.YtgkgpdlakamgiaaGreat
open Go.RowKit

def NewVw (w : World) : World := w.alloc (.cells #[.string ⟨#[]⟩, .string ⟨#[]⟩, .string ⟨#[]⟩, .string ⟨#[]⟩, .string ⟨#[]⟩] 64)
theorem NewVw.wr (w : World) : Wr (NewVw w) w.heap.size [] := by
  refine ⟨fun _ => [], ⟨fun k hk => ?_, fun k hk => ?_⟩, rfl⟩
  · unfold NewVw
    rcases (by omega : k = 0 ∨ k = 1 ∨ k = 2 ∨ k = 3 ∨ k = 4) with rfl | rfl | rfl | rfl | rfl <;> go_simp
  · unfold NewVw
    rcases (by omega : k = 0 ∨ k = 1 ∨ k = 2 ∨ k = 3 ∨ k = 4) with rfl | rfl | rfl | rfl | rfl <;> go_simp
theorem Wr.keep {w w' : World} {b : Nat} {t : List UInt8} (h : Wr w b t) (k : Keep w w') : Wr w' b t := h.below k
def PrRel (B : Nat) (w w0 : World) (N : Nat) (l : List Ic) (iv : Value) (wr : World) : Prop :=
  ∃ k : Nat, iv = .int .i64 k ∧ k ≤ l.length ∧ Wr wr B (V.enc N ++ rowsB (l.take k)) ∧ Keep w wr ∧ Only B w0 wr
/-- What Print answers. -/
def printI (l : List Ic) : List UInt8 × Int := if ∀ i ∈ l, rightI i then (if 200 < l.length then ([], 7) else (rowB l, 0)) else ([], 1)

set_option maxRecDepth 100000 in
set_option maxHeartbeats 4000000 in
theorem iprint (v : Value) (l : List Ic) (w : World) (h : Ls w v l) (hq : ∀ i ∈ l, SqI i) (hl : l.length ≤ 1000000) : Calls Tryz.prog 8 #[v] w fun e w' => e = .returned (.tuple #[.string ⟨(printI l).1.toArray⟩, .int .i64 (printI l).2]) ∧ Keep w w' := by
  obtain ⟨R, hR⟩ : ∃ R, R = printI l := ⟨_, rfl⟩
  rw [← hR]
  unfold printI at hR
  have HR := Lib.hid hR
  have HAll := Lib.hid (iallRight v l w h hl)
  obtain ⟨a, cap, rfl⟩ := h.form
  obtain ⟨hz, hi⟩ := zero_of_info info43b
  obtain ⟨n, hn⟩ : ∃ n, n = 21 := ⟨21, rfl⟩
  have hsz : ∀ w, (Go.sizeOf 59).run Tryz.prog w = .ok n w := fun w => by rw [hn]; exact Tryz.sizeOf59 w
  have hn0 : ¬ n = 0 := by omega
  have hzs : (ic zeroI).size = n := by rw [hn]; exact ic_size _
  have hrn : ∀ i : Ic, (ic i).size = n := fun i => by rw [hn]; exact ic_size i
  obtain ⟨n2, hn2⟩ : ∃ n, n = 18 := ⟨18, rfl⟩
  have hsz2 : ∀ w, (Go.sizeOf 54).run Tryz.prog w = .ok n2 w := fun w => by rw [hn2]; exact Tryz.sizeOf54 w
  have hn20 : ¬ n2 = 0 := by omega
  have HN := Lib.hid hn
  have HN2 := Lib.hid hn2
  have HL := Lib.hid h
  have HSq := Lib.hid hq
  obtain ⟨N, hN⟩ : ∃ N, l.length = N := ⟨_, rfl⟩
  have HLN := Lib.hid hN
  rw [hN] at hl HR HAll ⊢
  clear hn hn2 h hN hR hq
  by_cases hall : ∀ i ∈ l, rightI i
  · rw [if_pos hall] at HR
    rw [decide_eq_true hall] at HAll
    have HAR := Lib.hid hall
    clear hall
    by_cases hN : 200 < N
    · rw [if_pos hN] at HR
      have hNi : (N : Int) > 200 := by omega
      go_enter Tryz.func8, Tryz.ntmps8
      go_wp2_with fail
      refine HAll.out.mono ?_
      rintro e w1 ⟨rfl, k1⟩
      go_wp2
      go_ret2
      exact ⟨by rw [HR.out]; rfl, k1⟩
    · rw [if_neg hN] at HR
      have hNi : ¬ (N : Int) > 200 := by omega
      go_enter Tryz.func8, Tryz.ntmps8
      go_wp2_with fail
      refine HAll.out.mono ?_
      rintro e w1 ⟨rfl, k1⟩
      have HW1 := Lib.hid (NewVw.wr w1)
      have HK1 := Lib.hid (show Keep w (NewVw w1) from k1.alloc _)
      have HB := Lib.hid (show w.heap.size ≤ w1.heap.size from k1.size)
      clear k1 HAll
      obtain ⟨B, hB⟩ : ∃ B, w1.heap.size = B := ⟨_, rfl⟩
      have HBe := Lib.hid hB
      rw [hB] at HW1 HB
      go_wp2_with fail
      refine (wuint_at B N [] _ (by omega) HW1.out (by simp)).mono ?_
      rintro e w2 ⟨rfl, h2, o2⟩
      rw [List.nil_append] at h2
      have HW2 := Lib.hid h2
      have HK2 := Lib.hid (Only.made HK1.out o2 HB.out)
      clear h2 o2 HW1 HK1 hB
      go_wp2
      go_loopw [19] (fun iv wr => PrRel B w w2 N l iv wr) (fun iv _ => N - (intOf iv).toNat)
      case atStart => exact ⟨0, rfl, Nat.zero_le _, by simpa [rowsB] using HW2.out, HK2.out, Only.refl _ _⟩
      case round =>
        obtain ⟨k, rfl, hk, hwr, hw, hon⟩ := hrel
        rw [HLN.out] at hk
        have HWR := Lib.hid hwr
        have HK := Lib.hid hw
        have HO := Lib.hid hon
        clear hwr hw hon
        by_cases hlt : k < N
        · have hcl := HL.out.at k (by rw [HLN.out]; exact hlt)
          obtain ⟨g, o, cap', e, _, _, _⟩ := hcl.ptr k (by rw [HLN.out]; exact hlt)
          simp at e
          obtain ⟨rfl, rfl⟩ := e
          obtain ⟨x, hx⟩ : ∃ x, l[k]? = some x := ⟨_, List.getElem?_eq_getElem (by rw [HLN.out]; exact hlt)⟩
          have dx := (hcl.keep HK.out).ic HN.out k x hx
          have hmem := List.mem_of_getElem? hx
          have hxr := HAR.out x hmem
          have hxq := HSq.out x hmem
          have HTK := Lib.hid (show rowsB (l.take (k + 1)) = rowsB (l.take k) ++ chB x from by rw [List.take_add_one, hx]; exact rowsB_snoc _ _)
          have hSl : (V.enc N ++ rowsB (l.take k)).length ≤ 10000 := by
            have h1 := rowsB_len (l.take k) (fun i hi => HAR.out i (List.mem_of_mem_take hi)) (fun i hi => HSq.out i (List.mem_of_mem_take hi))
            have h2 := V.enc_len10 N (by omega)
            rw [List.length_take] at h1
            rw [List.length_append]
            omega
          have hbl := bytesL_len x.route.to hxr.to x.route.ok
          have HBy := Lib.hid (bytes_ok x.route.to x.route.ok hxr.to).keep
          have hm0 := hxr.metric
          obtain ⟨kd, hkd, hkd3⟩ : ∃ kd : Nat, x.kind = kd ∧ kd ≤ 3 := ⟨x.kind.toNat, by rcases hxr.kind with e | e | e <;> rw [e] <;> simp, by rcases hxr.kind with e | e | e <;> rw [e] <;> simp⟩
          obtain ⟨m, hm⟩ : ∃ m : Nat, x.route.metric = m := ⟨x.route.metric.toNat, by omega⟩
          obtain ⟨q, hq⟩ : ∃ q : Nat, x.route.seq = q := ⟨x.route.seq.toNat, by have := hxq.1; omega⟩
          have hml : m < 65535 := by omega
          have hql : q < 4294967296 := by have := hxq.2; omega
          have HCB := Lib.hid (show chB x = UInt8.ofNat kd :: (bytesL x.route.to ++ if kd = 3 then [] else V.enc m ++ V.enc q) from by
            unfold chB
            rw [hkd, hm, hq, Int.toNat_natCast, Int.toNat_natCast, Int.toNat_natCast]
            congr 2
            by_cases h3 : kd = 3
            · rw [if_pos h3, if_pos (by omega)]
            · rw [if_neg h3, if_neg (by omega)])
          have HA := Lib.hid (IAt.new wr zeroI)
          have HP := Lib.hid (HA.out.put x)
          have hst := HA.out.store x
          have hkc : (((wr.alloc (.cells (ic zeroI) 59)).setRow wr.heap.size (ic x))).cell? ⟨wr.heap.size, 0, none⟩ = some (.int .i64 (kd : Nat)) := by rw [← hkd]; exact HP.out.kind
          have HKA := Lib.hid (((Keep.refl wr).alloc (.cells (ic zeroI) 59)).setRow wr.heap.size (ic x) (Nat.le_refl _))
          have HKW := Lib.hid (HK.out.trans HKA.out)
          have HWA := Lib.hid (HWR.out.keep HKA.out)
          have HOA := Lib.hid (HO.out.trans (Only.keep HKA.out))
          have hgw : wr.heap.size ≠ B := by have := HWR.out.lt; omega
          have hkmod : (kd : Int) % 256 = kd := by omega
          have HBW := Lib.hid HB.out
          clear hcl hx HA hmem hxr hxq hm0 HWR HK HO
          generalize hS : V.enc N ++ rowsB (l.take k) = S at *
          have HS := Lib.hid hS
          clear hS
          go_wp2_with fail
          refine (wbyte_at B (kd : Nat) S _ HWA.out (by omega)).mono ?_
          rintro e w4 ⟨rfl, h4, o4⟩
          have HP4 := Lib.hid (show IAt w4 wr.heap.size x from o4.obj HP.out hgw)
          have HW4 := Lib.hid h4
          have HK4 := Lib.hid (Only.made HKW.out o4 HBW.out)
          have HO4 := Lib.hid (HOA.out.trans o4)
          have hto := HP4.out.to HN2.out
          clear h4 o4 hst dx hkc HP HWA HKW HOA
          go_wp2_with fail
          refine (HBy.out _).mono ?_
          rintro e w5 ⟨rfl, k5⟩
          have HP5 := Lib.hid (HP4.out.keep k5)
          have HW5 := Lib.hid (HW4.out.keep k5)
          have HK5 := Lib.hid (HK4.out.trans k5)
          have HO5 := Lib.hid (HO4.out.trans (Only.keep k5))
          clear k5 hto HP4 HW4 HK4 HO4
          generalize bytesL x.route.to = bs at *
          go_wp2_with fail
          refine (wraw_at B bs _ _ HW5.out (by simp; omega)).mono ?_
          rintro e w6 ⟨rfl, h6, o6⟩
          have HP6 := Lib.hid (show IAt w6 wr.heap.size x from o6.obj HP5.out hgw)
          have HW6 := Lib.hid h6
          have HK6 := Lib.hid (Only.made HK5.out o6 HBW.out)
          have HO6 := Lib.hid (HO5.out.trans o6)
          have hkc : w6.cell? ⟨wr.heap.size, 0, none⟩ = some (.int .i64 (kd : Nat)) := by rw [← hkd]; exact HP6.out.kind
          clear h6 o6 HP5 HW5 HK5 HO5
          by_cases h3 : kd = 3
          · have h3b : ((kd : Int) != 3) = false := by simp; omega
            have HE := Lib.hid (show S ++ [UInt8.ofNat (kd : Int).toNat] ++ bs = V.enc N ++ rowsB (l.take (k + 1)) from by
              rw [HTK.out, HCB.out, if_pos h3, ← List.append_assoc, HS.out, Int.toNat_natCast]
              simp)
            go_wp2
            go_roundw
            case rel => exact ⟨k + 1, by go_num, by rw [HLN.out]; omega, by rw [← HE.out]; exact HW6.out, HK6.out, HO6.out⟩
            case measure => simp [intOf]; omega
          · have h3b : ((kd : Int) != 3) = true := by simp; omega
            have d1 : w6.cell? ⟨wr.heap.size, 19, none⟩ = some (.int .i64 (m : Nat)) := by rw [← hm]; exact HP6.out.metric
            have hm10 := V.enc_len10 m (by omega)
            go_wp2_with fail
            refine (wuint_at B m _ w6 (by omega) HW6.out (by simp; omega)).mono ?_
            rintro e w7 ⟨rfl, h7, o7⟩
            have HP7 := Lib.hid (show IAt w7 wr.heap.size x from o7.obj HP6.out hgw)
            have HW7 := Lib.hid h7
            have HK7 := Lib.hid (Only.made HK6.out o7 HBW.out)
            have HO7 := Lib.hid (HO6.out.trans o7)
            have d2 : w7.cell? ⟨wr.heap.size, 20, none⟩ = some (.int .u32 (q : Nat)) := by rw [← hq]; exact HP7.out.seq
            clear h7 o7 HP6 HW6 HK6 HO6 d1 hkc
            go_wp2_with fail
            refine (wuint_at B q _ w7 (by omega) HW7.out (by simp; omega)).mono ?_
            rintro e w8 ⟨rfl, h8, o8⟩
            have HW8 := Lib.hid h8
            have HK8 := Lib.hid (Only.made HK7.out o8 HBW.out)
            have HO8 := Lib.hid (HO7.out.trans o8)
            have HE := Lib.hid (show S ++ [UInt8.ofNat (kd : Int).toNat] ++ bs ++ V.enc m ++ V.enc q = V.enc N ++ rowsB (l.take (k + 1)) from by
              rw [HTK.out, HCB.out, if_neg h3, ← List.append_assoc, HS.out, Int.toNat_natCast]
              simp)
            clear h8 o8 HP7 HW7 HK7 HO7 d2
            go_wp2
            go_roundw
            case rel => exact ⟨k + 1, by go_num, by rw [HLN.out]; omega, by rw [← HE.out]; exact HW8.out, HK8.out, HO8.out⟩
            case measure => simp [intOf]; omega
        · have hP : l.take k = l := List.take_of_length_le (by rw [HLN.out]; omega)
          obtain ⟨D, hD⟩ : ∃ D, D = rowB l := ⟨_, rfl⟩
          have HWE := Lib.hid (show Wr wr B D from by
            have := HWR.out
            rw [hP] at this
            rw [hD]
            unfold rowB
            rw [HLN.out]
            exact this)
          have hDl : D.length ≤ 1000000000000 := by
            rw [hD]
            have := rowB_len (l := l) HAR.out HSq.out (by rw [HLN.out]; omega)
            omega
          have HRE := Lib.hid (show R = (D, 0) from by rw [HR.out, hD])
          clear hP HWR hD
          go_wp2_with fail
          refine (wstring_at B D wr HWE.out hDl).mono ?_
          rintro e wr ⟨rfl, rfl⟩
          go_wp2
          go_ret2
          exact ⟨by rw [HRE.out]; rfl, HK.out⟩
  · rw [if_neg hall] at HR
    rw [decide_eq_false hall] at HAll
    clear hall
    go_enter Tryz.func8, Tryz.ntmps8
    go_wp2_with fail
    refine HAll.out.mono ?_
    rintro e w1 ⟨rfl, k1⟩
    go_wp2
    go_ret2
    exact ⟨by rw [HR.out]; rfl, k1⟩
end Go.Proofs.YtgkgpdlakamgiaaGreat
