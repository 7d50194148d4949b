/- Proved: what the document's Print answers. Condition: the routes may be, and are no more than a table has. -/
import Derived.Test.YtpimecnpdpcceaaDc
import Derived.Test.YtpimecnpdpcceaaMv
import Derived.Test.YtpimecnpdpcceaaMx
namespace Go.Proofs.Ytpimecnpdpcceaa
open Go.RowKit

def QpRel (w : World) (N : Nat) (R : List (Dm.Rw Px)) (sv lv iv : Value) (wr : World) : Prop :=
  ∃ k : Nat, iv = .int .i64 k ∧ k ≤ R.length ∧ lv = .string ⟨(lastB [] (R.take k)).toArray⟩ ∧ sv = .string ⟨(V.enc N ++ Dm.goD codP [] (R.take k)).toArray⟩ ∧ (V.enc N ++ Dm.goD codP [] (R.take k)).length ≤ 10 + 40 * k ∧ Keep w wr
theorem sz_list (L : List UInt8) : (⟨L.toArray⟩ : ByteArray).size = L.length := by simp [ByteArray.size]

set_option maxRecDepth 100000 in
set_option maxHeartbeats 2000000 in
theorem qprint (v : Value) (l : List Rt) (w : World) (h : Cells rl w v l) (hl : l.length ≤ 300) (hok : ∀ r ∈ l, Rok r) : Calls Try.prog 12 #[v] w fun e w' => e = .returned (.string ⟨(Dm.dumpL codP (l.map rwOf)).toArray⟩) ∧ Keep w w' := by
  obtain ⟨a, cap, rfl, _, _⟩ := h.form
  obtain ⟨n, hn⟩ : ∃ n, n = 20 := ⟨20, rfl⟩
  have hsz : ∀ w, (Go.sizeOf 43).run Try.prog w = .ok n w := fun w => by rw [hn]; exact Try.sizeOf43 w
  have hn0 : ¬ n = 0 := by omega
  obtain ⟨n2, hn2⟩ : ∃ n, n = 18 := ⟨18, rfl⟩
  have hsz2 : ∀ w, (Go.sizeOf 40).run Try.prog w = .ok n2 w := fun w => by rw [hn2]; exact Try.sizeOf40 w
  have hn20 : ¬ n2 = 0 := by omega
  have HN := Lib.hid hn
  have HN2 := Lib.hid hn2
  have HOK := Lib.hid hok
  have HC := Lib.hid h
  obtain ⟨N, hN⟩ : ∃ N, l.length = N := ⟨_, rfl⟩
  have HLL := Lib.hid hN
  rw [hN] at hl ⊢
  obtain ⟨D, hD⟩ : ∃ D, D = Dm.dumpL codP (l.map rwOf) := ⟨_, rfl⟩
  rw [← hD]
  have HD := Lib.hid hD
  have HNm := Lib.hid (fun (k : Nat) (hk : k < 2 ^ 64) => (show GivesK Try.prog 32 #[.int .u64 k] (.string ⟨(V.enc k).toArray⟩) from fun w => number_at k w hk))
  clear h hn hn2 hok hN hD
  go_enter Try.func12, Try.ntmps12
  go_wp2_with fail
  refine (HNm.out N (by omega) _).mono ?_
  rintro e w1 ⟨rfl, k1⟩
  have HK1 := Lib.hid k1
  clear k1
  go_wp2
  go_loopw [3, 4, 5] (fun sv lv iv wr => QpRel w N (l.map rwOf) sv lv iv wr) (fun _ _ iv _ => N - (intOf iv).toNat)
  case atStart => exact ⟨0, rfl, Nat.zero_le _, rfl, by simp [Dm.goD], by have := enc10 (n := N) (by omega); simp [Dm.goD]; omega, HK1.out⟩
  case round =>
    obtain ⟨k, rfl, hk, rfl, rfl, hlen, hw⟩ := hrel
    rw [List.length_map, HLL.out] at hk
    have HL := Lib.hid hlen
    have HK := Lib.hid hw
    clear hlen hw
    by_cases hlt : k < N
    · have hcl : Cells rl wr (.slice a l.length cap) l := HC.out.keep HK.out
      obtain ⟨g, o, cap', e, _, _, _⟩ := hcl.ptr k (by rw [HLL.out]; exact hlt)
      simp at e
      obtain ⟨rfl, rfl⟩ := e
      obtain ⟨x, hx⟩ : ∃ x, l[k]? = some x := ⟨_, List.getElem?_eq_getElem (by rw [HLL.out]; exact hlt)⟩
      have hRx : (l.map rwOf)[k]? = some (rwOf x) := by rw [List.getElem?_map, hx]; rfl
      have HTK := Lib.hid (take_snoc hRx)
      obtain ⟨hxr, hs0, hs1⟩ := HOK.out x (List.mem_of_getElem? hx)
      obtain ⟨m, hm⟩ : ∃ m : Nat, x.metric = m := ⟨x.metric.toNat, by have := hxr.2.1; omega⟩
      obtain ⟨q, hq⟩ : ∃ q : Nat, x.seq = q := ⟨x.seq.toNat, by omega⟩
      have hml : m < 65535 := by have := hxr.2.2; omega
      have hql : q < 4294967296 := by omega
      have HRW := Lib.hid (show rwOf x = ⟨x.to, m, q⟩ from by unfold rwOf; rw [hm, hq]; simp)
      have HBy := Lib.hid (qbytes x.to x.ok hxr.1)
      have HPB := Lib.hid (pb_right hxr.1 x.ok)
      have hbl := bytesL_len x.to hxr.1 x.ok
      have hla := lastB_short ((l.map rwOf).take k) [] (by simp)
      have dto := hcl.to HN2.out HN.out k x hx
      have HCL := Lib.hid hcl
      have HX := Lib.hid hx
      generalize (l.map rwOf).take k = P at *
      generalize hLa : lastB [] P = La at *
      have HLa := Lib.hid hLa
      generalize bytesL x.to = bs at *
      have HCm := Lib.hid (qcommon7 La bs (by omega) (by omega))
      have hcle := (Dm.com_le La bs).2
      have HPut := Lib.hid (show Dm.putR codP La (rwOf x) = V.enc (Dm.com La bs) ++ (V.enc (bs.drop (Dm.com La bs)).length ++ bs.drop (Dm.com La bs) ++ (V.enc m ++ V.enc q)) from by
        rw [HRW.out]
        unfold Dm.putR Dm.tx
        simp only
        rw [HPB.out])
      generalize Dm.com La bs = C at *
      have hcut := cut_fromS bs C hcle
      have hd17 : (bs.drop C).length ≤ 17 := by rw [List.length_drop]; omega
      generalize bs.drop C = ds at *
      have HTx := Lib.hid (show GivesK Try.prog 34 #[.string ⟨ds.toArray⟩] (.string ⟨(V.enc ds.length ++ ds).toArray⟩) from fun w => qtext_bytes ds w (by omega))
      have HN1 := Lib.hid (HNm.out C (by omega))
      have HN3 := Lib.hid (HNm.out m (by omega))
      have HN4 := Lib.hid (HNm.out q (by omega))
      have l1 := enc10 (n := C) (by omega)
      have l2 := enc10 (n := ds.length) (by omega)
      have l3 := enc10 (n := m) (by omega)
      have l4 := enc10 (n := q) (by omega)
      have hSl := HL.out
      generalize hS : V.enc N ++ Dm.goD codP [] P = S at *
      have HS := Lib.hid hS
      obtain ⟨A2, hA2⟩ : ∃ A2, A2 = V.enc ds.length ++ ds := ⟨_, rfl⟩
      have lA2 : A2.length ≤ 27 := by rw [hA2, List.length_append]; omega
      rw [← hA2] at HTx HPut
      generalize V.enc C = A1 at *
      generalize V.enc m = A3 at *
      generalize V.enc q = A4 at *
      have p1 := Bit.app_list A1 A2
      have p2 := Bit.app_list (A1 ++ A2) A3
      have p3 := Bit.app_list (A1 ++ A2 ++ A3) A4
      have p4 := Bit.app_list S (A1 ++ A2 ++ A3 ++ A4)
      have s1 := sz_list A1
      have s2 := sz_list A2
      have s3 := sz_list A3
      have s4 := sz_list A4
      have s5 := sz_list S
      have s6 := sz_list (A1 ++ A2)
      have s7 := sz_list (A1 ++ A2 ++ A3)
      have s8 := sz_list (A1 ++ A2 ++ A3 ++ A4)
      have t6 : (A1 ++ A2).length ≤ 37 := by rw [List.length_append]; omega
      have t7 : (A1 ++ A2 ++ A3).length ≤ 47 := by rw [List.length_append]; omega
      have t8 : (A1 ++ A2 ++ A3 ++ A4).length ≤ 57 := by rw [List.length_append]; omega
      have HE := Lib.hid (show S ++ (A1 ++ A2 ++ A3 ++ A4) = V.enc N ++ Dm.goD codP [] (P ++ [rwOf x]) from by
        rw [goD_snoc, HLa.out, HPut.out, ← List.append_assoc (V.enc N), HS.out]
        simp only [List.append_assoc])
      generalize S ++ (A1 ++ A2 ++ A3 ++ A4) = S2 at *
      generalize A1 ++ A2 ++ A3 ++ A4 = B4 at *
      generalize A1 ++ A2 ++ A3 = B3 at *
      generalize A1 ++ A2 = B2 at *
      clear hcl hx hLa hRx hS hA2
      go_wp2_with fail
      refine (HBy.out _).mono ?_
      rintro e w4 ⟨rfl, k4⟩
      have HK4 := Lib.hid (HK.out.trans k4)
      have HC4 := Lib.hid (HCL.out.keep k4)
      clear k4 dto
      go_wp2_with fail
      refine (HCm.out _).mono ?_
      rintro e w5 ⟨rfl, k5⟩
      have HK5 := Lib.hid (HK4.out.trans k5)
      have HC5 := Lib.hid (HC4.out.keep k5)
      have d1 : ∀ u : KW w5, u.1.cell? ⟨g, o + k * n + 18, none⟩ = some (.int .i64 (m : Nat)) := fun u => by
        have := (HC5.out.keep u.2).cell rl_len k x HX.out 18 (by omega) _ (rl_metric x)
        rw [HN.out, ← hm]
        exact this
      have d2 : ∀ u : KW w5, u.1.cell? ⟨g, o + k * n + 19, none⟩ = some (.int .u32 (q : Nat)) := fun u => by
        have := (HC5.out.keep u.2).cell rl_len k x HX.out 19 (by omega) _ (rl_seq x)
        rw [HN.out, ← hq]
        exact this
      clear k5
      go_wp2_with fail
      refine wp_region_keep (Keep.refl w5) (by kernel_rfl) (by kernel_rfl) ?_
      repeat (first | go_big_quiet_step (fail) | quiet_step (fail))
      first | go_big_quiet_step (exact HN1.out.at _) | quiet_step (exact HN1.out.at _)
      repeat (first | go_big_quiet_step (fail) | quiet_step (fail))
      first | go_big_quiet_step (exact HTx.out.at _) | quiet_step (exact HTx.out.at _)
      repeat (first | go_big_quiet_step (fail) | quiet_step (fail))
      first | go_big_quiet_step (exact HN3.out.at _) | quiet_step (exact HN3.out.at _)
      repeat (first | go_big_quiet_step (fail) | quiet_step (fail))
      first | go_big_quiet_step (exact HN4.out.at _) | quiet_step (exact HN4.out.at _)
      repeat (first | go_big_quiet_step (fail) | quiet_step (fail))
      refine wpQuiet_nil ?_
      rintro w6 ⟨⟨w7, b6⟩, rfl⟩
      have HK6 := Lib.hid (HK5.out.trans b6)
      clear b6 d1 d2
      go_wp2
      go_roundw
      case rel =>
        refine ⟨k + 1, by go_num, by rw [List.length_map, HLL.out]; omega, by rw [HTK.out, lastB_snoc]; show _ = Value.string ⟨(codP.pb x.to).toArray⟩; rw [HPB.out], by rw [HTK.out, HE.out], ?_, HK6.out⟩
        rw [HTK.out, goD_snoc, ← List.append_assoc, HS.out, List.length_append]
        have := put_short (lastB [] P) (rwOf x) (by rw [HRW.out]; show m < _; omega) (by rw [HRW.out]; show q < _; omega)
        omega
      case measure => simp [intOf]; omega
    · have HE := Lib.hid (show V.enc N ++ Dm.goD codP [] ((l.map rwOf).take k) = D from by
        rw [HD.out, List.take_of_length_le (by rw [List.length_map, HLL.out]; omega)]
        unfold Dm.dumpL
        rw [List.length_map, HLL.out])
      rw [HE.out]
      go_wp2
      go_ret
      exact ⟨rfl, HK.out⟩
end Go.Proofs.Ytpimecnpdpcceaa
