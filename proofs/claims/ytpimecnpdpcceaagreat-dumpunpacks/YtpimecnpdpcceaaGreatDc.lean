/- Proved: what dump's Print answers. Condition: the table lies in memory, or is none; its routes may be. -/
import Derived.Test.YtpimecnpdpcceaaGreatDb
namespace Go.Proofs.YtpimecnpdpcceaaGreat
open Go.RowKit

set_option maxRecDepth 100000 in
set_option maxHeartbeats 2000000 in
theorem dprint (t : Value) (l : List Rt) (w : World) (h : Tp w t l) (hok : ∀ r ∈ l, Rok r) : Calls Tryz.prog 12 #[t] w fun e w' => e = .returned (.string ⟨(Dm.dumpL codP (l.map rwOf)).toArray⟩) ∧ Keep w w' := by
  have hfew := h.few
  have HW0 := Lib.hid (NewVw.wr w)
  have HK0 := Lib.hid (show Keep w (NewVw w) from (Keep.refl _).alloc _)
  have HT := Lib.hid h
  obtain ⟨hz, hi⟩ := zero_of_info info34b
  obtain ⟨n, hn⟩ : ∃ n, n = 20 := ⟨20, rfl⟩
  have hsz : ∀ w, (Go.sizeOf 44).run Tryz.prog w = .ok n w := fun w => by rw [hn]; exact Tryz.sizeOf44 w
  have hn0 : ¬ n = 0 := by omega
  have hrn : ∀ r : Rt, (rc r).size = n := fun r => by rw [hn]; exact rc_size r
  obtain ⟨n2, hn2⟩ : ∃ n, n = 18 := ⟨18, rfl⟩
  have hsz2 : ∀ w, (Go.sizeOf 41).run Tryz.prog w = .ok n2 w := fun w => by rw [hn2]; exact Tryz.sizeOf41 w
  have hn20 : ¬ n2 = 0 := by omega
  have HN := Lib.hid hn
  have HN2 := Lib.hid hn2
  have HOK := Lib.hid hok
  have HLN := Lib.hid (len_at t l _ (h.keep HK0.out))
  obtain ⟨N, hN⟩ : ∃ N, l.length = N := ⟨_, rfl⟩
  have HLL := Lib.hid hN
  rw [hN] at HLN hfew
  obtain ⟨D, hD⟩ : ∃ D, D = Dm.dumpL codP (l.map rwOf) := ⟨_, rfl⟩
  rw [← hD]
  have HD := Lib.hid hD
  clear h hn hn2 hok hN hD
  go_enter Tryz.func12, Tryz.ntmps12
  go_wp2_with fail
  refine HLN.out.mono ?_
  rintro e w1 ⟨rfl, k1⟩
  have HW1 := Lib.hid (HW0.out.keep k1)
  have HK1 := Lib.hid (HK0.out.trans k1)
  clear k1 HLN HW0 HK0
  go_wp2_with fail
  refine (wuint_at w.heap.size N [] w1 (by omega) HW1.out (by simp)).mono ?_
  rintro e w2 ⟨rfl, h2, o2⟩
  rw [List.nil_append] at h2
  have HW2 := Lib.hid h2
  have HK2 := Lib.hid (Only.made HK1.out o2 (Nat.le_refl _))
  have HAL := Lib.hid (all t l w2 (HT.out.keep HK2.out))
  clear h2 o2 HW1 HK1
  go_wp2_with fail
  refine HAL.out.mono ?_
  rintro e w3 ⟨v, rfl, hown, k3⟩
  have hcells := (hown.row elR).cells
  obtain ⟨a, cap, rfl, _, _⟩ := hcells.form
  have HC := Lib.hid hcells
  have HOB := Lib.hid (show (Value.slice a l.length cap).ownBlock ≠ some w.heap.size from fun e => by
    have h1 := (World.ownsRow.lt hown _ e).1
    have h2 := HW2.out.lt
    omega)
  have HW3 := Lib.hid (HW2.out.keep k3)
  have HK3 := Lib.hid (HK2.out.trans k3)
  rw [HLL.out]
  clear hown hcells k3 HAL HW2 HK2
  go_wp2
  go_loopw [4, 16] (fun av iv wr => DpRel w N (l.map rwOf) av iv wr ∧ Cells rl wr (.slice a l.length cap) l) (fun _ iv _ => N - (intOf iv).toNat)
  case atStart => exact ⟨⟨0, rfl, Nat.zero_le _, rfl, by simpa [Dm.goD] using HW3.out, by have := enc10 (n := N) (by omega); simp [Dm.goD]; omega, HK3.out⟩, HC.out⟩
  case round =>
    obtain ⟨⟨k, rfl, hk, rfl, hwr, hlen, hw⟩, hcl⟩ := hrel
    rw [List.length_map, HLL.out] at hk
    have HL := Lib.hid hlen
    have HWR := Lib.hid hwr
    have HK := Lib.hid hw
    clear hwr hlen hw
    by_cases hlt : k < N
    · obtain ⟨g, o, cap', e, _, _, _⟩ := hcl.ptr k (by rw [HLL.out]; exact hlt)
      simp at e
      obtain ⟨rfl, rfl⟩ := e
      obtain ⟨x, hx⟩ : ∃ x, l[k]? = some x := ⟨_, List.getElem?_eq_getElem (by rw [HLL.out]; exact hlt)⟩
      have dx := hcl.rt HN.out k x hx
      have hRx : (l.map rwOf)[k]? = some (rwOf x) := by rw [List.getElem?_map, hx]; rfl
      have HTK := Lib.hid (take_snoc hRx)
      have hxok := HOK.out x (List.mem_of_getElem? hx)
      obtain ⟨hxr, hs0, hs1⟩ := hxok
      obtain ⟨m, hm⟩ : ∃ m : Nat, x.metric = m := ⟨x.metric.toNat, by have := hxr.2.1; omega⟩
      obtain ⟨q, hq⟩ : ∃ q : Nat, x.seq = q := ⟨x.seq.toNat, by omega⟩
      have hml : m < 65535 := by have := hxr.2.2; omega
      have hql : q < 4294967296 := by omega
      have HRW := Lib.hid (show rwOf x = ⟨x.to, m, q⟩ from by unfold rwOf; rw [hm, hq]; simp)
      have HBy := Lib.hid (bytes_ok x.to x.ok hxr.1)
      have HPB := Lib.hid (pb_right hxr.1 x.ok)
      have hbl := bytesL_len x.to hxr.1 x.ok
      have hla := lastB_short ((l.map rwOf).take k) [] (by simp)
      generalize (l.map rwOf).take k = P at *
      generalize hLa : lastB [] P = La at *
      have HLa := Lib.hid hLa
      generalize bytesL x.to = bs at *
      have HCm := Lib.hid (dcommon La bs (by omega) (by omega))
      have hcle := (Dm.com_le La bs).2
      have HPut := Lib.hid (show Dm.putR codP La (rwOf x) = V.enc (Dm.com La bs) ++ (V.enc (bs.drop (Dm.com La bs)).length ++ bs.drop (Dm.com La bs) ++ (V.enc m ++ V.enc q)) from by
        rw [HRW.out]
        unfold Dm.putR Dm.tx
        simp only
        rw [HPB.out])
      generalize Dm.com La bs = C at *
      have hcut := cut_fromS bs C hcle
      have HA := Lib.hid (RAt.new wr zeroR)
      have HP := Lib.hid (HA.out.put x)
      have hst := HA.out.store x
      have hto := HP.out.to HN2.out
      have HKA := Lib.hid (((Keep.refl wr).alloc (.cells (rc zeroR) 44)).setRow wr.heap.size (rc x) (Nat.le_refl _))
      have HKWA := Lib.hid (HK.out.trans HKA.out)
      have HCA := Lib.hid (hcl.keep HKA.out)
      have HWA := Lib.hid (HWR.out.keep HKA.out)
      have hgw : wr.heap.size ≠ w.heap.size := by have := HWR.out.lt; omega
      clear hcl hx HA hLa hRx
      generalize hS : V.enc N ++ Dm.goD codP [] P = S at *
      have HS := Lib.hid hS
      have hSl := HL.out
      clear hS
      go_wp2_with fail
      refine (HBy.out _).mono ?_
      rintro e w4 ⟨rfl, b4⟩
      have HP4 := Lib.hid (HP.out.keep b4.keep)
      have HW4 := Lib.hid (HWA.out.keep b4.keep)
      have HK4 := Lib.hid (HKWA.out.trans b4.keep)
      have HC4 := Lib.hid (HCA.out.keep b4.keep)
      clear b4 hst hto dx HP HWA HKWA HCA
      go_wp2_with fail
      refine (HCm.out _).mono ?_
      rintro e w5 ⟨rfl, b5⟩
      have HP5 := Lib.hid (HP4.out.keep b5)
      have HW5 := Lib.hid (HW4.out.keep b5)
      have HK5 := Lib.hid (HK4.out.trans b5)
      have HC5 := Lib.hid (HC4.out.keep b5)
      clear b5 HP4 HW4 HK4 HC4
      go_wp2_with fail
      refine (wuint_at w.heap.size C S w5 (by omega) HW5.out (by omega)).mono ?_
      rintro e w6 ⟨rfl, h6, o6⟩
      have HP6 := Lib.hid (show RAt w6 wr.heap.size x from o6.obj HP5.out hgw)
      have HW6 := Lib.hid h6
      have HK6 := Lib.hid (Only.made HK5.out o6 (Nat.le_refl _))
      have HC6 := Lib.hid (HC5.out.only o6 HOB.out)
      have hcl10 := enc10 (n := C) (by omega)
      have hd17 : (bs.drop C).length ≤ 17 := by rw [List.length_drop]; omega
      have hdl10 := enc10 (n := (bs.drop C).length) (by omega)
      clear h6 o6 HP5 HW5 HK5 HC5
      generalize bs.drop C = ds at *
      go_wp2_with fail
      refine (wtext_at w.heap.size ds _ w6 HW6.out (by rw [List.length_append]; omega)).mono ?_
      rintro e w7 ⟨rfl, h7, o7⟩
      have HP7 := Lib.hid (show RAt w7 wr.heap.size x from o7.obj HP6.out hgw)
      have HW7 := Lib.hid h7
      have HK7 := Lib.hid (Only.made HK6.out o7 (Nat.le_refl _))
      have HC7 := Lib.hid (HC6.out.only o7 HOB.out)
      have d1 : w7.cell? ⟨wr.heap.size, 18, none⟩ = some (.int .i64 (m : Nat)) := by rw [← hm]; exact HP7.out.metric
      clear h7 o7 HP6 HW6 HK6 HC6
      go_wp2_with fail
      refine (wuint_at w.heap.size m _ w7 (by omega) HW7.out (by simp only [List.length_append]; omega)).mono ?_
      rintro e w8 ⟨rfl, h8, o8⟩
      have HP8 := Lib.hid (show RAt w8 wr.heap.size x from o8.obj HP7.out hgw)
      have HW8 := Lib.hid h8
      have HK8 := Lib.hid (Only.made HK7.out o8 (Nat.le_refl _))
      have HC8 := Lib.hid (HC7.out.only o8 HOB.out)
      have d2 : w8.cell? ⟨wr.heap.size, 19, none⟩ = some (.int .u32 (q : Nat)) := by rw [← hq]; exact HP8.out.seq
      clear h8 o8 HP7 HW7 HK7 HC7 d1
      have hm10 := enc10 (n := m) (by omega)
      have hq10 := enc10 (n := q) (by omega)
      go_wp2_with fail
      refine (wuint_at w.heap.size q _ w8 (by omega) HW8.out (by simp only [List.length_append]; omega)).mono ?_
      rintro e w9 ⟨rfl, h9, o9⟩
      have HP9 := Lib.hid (show RAt w9 wr.heap.size x from o9.obj HP8.out hgw)
      have HW9 := Lib.hid h9
      have HK9 := Lib.hid (Only.made HK8.out o9 (Nat.le_refl _))
      have HC9 := Lib.hid (HC8.out.only o9 HOB.out)
      have HE := Lib.hid (show S ++ V.enc C ++ (V.enc ds.length ++ ds) ++ V.enc m ++ V.enc q = V.enc N ++ Dm.goD codP [] (P ++ [rwOf x]) from by
        rw [goD_snoc, HLa.out, HPut.out, ← List.append_assoc (V.enc N), HS.out]
        simp only [List.append_assoc])
      clear h9 o9 HP8 HW8 HK8 HC8 d2
      go_wp2
      go_roundw
      case rel =>
        refine ⟨⟨k + 1, by go_num, by rw [List.length_map, HLL.out]; omega, by rw [HTK.out, lastB_snoc]; show _ = Value.string ⟨(codP.pb x.to).toArray⟩; rw [HPB.out], ?_, ?_, HK9.out⟩, HC9.out⟩
        · rw [HTK.out, ← HE.out]
          exact HW9.out
        · rw [HTK.out, goD_snoc, ← List.append_assoc, HS.out, List.length_append]
          have := put_short (lastB [] P) (rwOf x) (by rw [HRW.out]; show m < _; omega) (by rw [HRW.out]; show q < _; omega)
          omega
      case measure => simp [intOf]; omega
    · have hP : (l.map rwOf).take k = l.map rwOf := List.take_of_length_le (by rw [List.length_map, HLL.out]; omega)
      have HWE := Lib.hid (show Wr wr w.heap.size D from by
        have := HWR.out
        rw [hP] at this
        rw [HD.out]
        unfold Dm.dumpL
        rw [List.length_map, HLL.out]
        exact this)
      have HDl := Lib.hid (show D.length ≤ 1000000000000 from by
        have := HL.out
        rw [hP] at this
        rw [HD.out]
        unfold Dm.dumpL
        rw [List.length_map, HLL.out]
        omega)
      clear hcl hP HWR HL
      go_wp2_with fail
      refine (wstring_at w.heap.size D wr HWE.out HDl.out).mono ?_
      rintro e wr ⟨rfl, rfl⟩
      go_wp2
      go_ret
      exact ⟨rfl, HK.out⟩
end Go.Proofs.YtpimecnpdpcceaaGreat
