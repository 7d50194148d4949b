/- Proved: digests as bytes; what Print of digest and of the document answers. Condition: the list lies in memory; its numbers fit. -/
import Derived.Test.YtfikdeobejhblaaDj
import Derived.Test.YtfikdeobejhblaaMv
namespace Go.Proofs.Ytfikdeobejhblaa
open Go.RowKit

/-- Its numbers fit. -/
def SqD (d : Dg) : Prop := d.n < 9223372036854775808 ∧ 0 ≤ d.s ∧ d.s < 18446744073709551616
def dB (d : Dg) : List UInt8 := V.enc d.n.toNat ++ V.enc d.s.toNat
def printD (l : List Dg) : List UInt8 := l.flatMap dB
theorem printD_snoc (l : List Dg) (d : Dg) : printD (l ++ [d]) = printD l ++ dB d := by simp [printD]
theorem dB_len {d : Dg} (h : SqD d) : (dB d).length ≤ 20 := by
  have h1 := V.enc_len10 d.n.toNat (by have := h.1; omega)
  have h2 := V.enc_len10 d.s.toNat (by have := h.2; omega)
  unfold dB
  rw [List.length_append]
  omega
theorem printD_len : ∀ (l : List Dg), (∀ d ∈ l, SqD d) → (printD l).length ≤ 20 * l.length
  | [], _ => by simp [printD]
  | d :: l, h => by
    have h1 := dB_len (h d (by simp))
    have h2 := printD_len l fun x hx => h x (by simp [hx])
    simp only [printD, List.flatMap_cons, List.length_append, List.length_cons] at h2 ⊢
    omega
def NewVw (w : World) : World := w.alloc (.cells #[.string ⟨#[]⟩, .string ⟨#[]⟩, .string ⟨#[]⟩, .string ⟨#[]⟩, .string ⟨#[]⟩] 111)
theorem NewVw.wr (w : World) : Wr (NewVw w) w.heap.size [] := by
  refine ⟨fun _ => [], ⟨fun i hi => ?_, fun i hi => ?_⟩, rfl⟩
  all_goals
    rcases i with _ | _ | _ | _ | _ | i <;> first | omega | (unfold NewVw; go_simp)
theorem Wr.keep {w w' : World} {b : Nat} {t : List UInt8} (h : Wr w b t) (k : Keep w w') : Wr w' b t := Wr.below h k
theorem max_num (x : Int) (h : x < 9223372036854775808) : IntKind.u64.wrap (max x 0) = ((x.toNat : Nat) : Int) := by
  rw [IntKind.wrap_u64]
  omega
def PdRel (B : Nat) (w w0 : World) (l : List Dg) (iv : Value) (wr : World) : Prop :=
  ∃ k : Nat, iv = .int .i64 k ∧ k ≤ l.length ∧ Wr wr B (printD (l.take k)) ∧ Keep w wr ∧ Only B w0 wr
set_option maxRecDepth 100000 in
set_option maxHeartbeats 1000000 in
theorem dprint (v : Value) (l : List Dg) (w : World) (h : Lg dl w v l) (hq : ∀ d ∈ l, SqD d) (hl : l.length ≤ 1000) : Calls Try.prog 32 #[v] w fun e w' => e = .returned (.string ⟨(printD l).toArray⟩) ∧ Keep w w' := by
  obtain ⟨a, cap, rfl⟩ := h.form
  obtain ⟨hz, hi⟩ := zero_of_info infoDb
  have HL := Lib.hid h
  have HSq := Lib.hid hq
  obtain ⟨N, hN⟩ : ∃ N, l.length = N := ⟨_, rfl⟩
  have HLN := Lib.hid hN
  have HW1 := Lib.hid (NewVw.wr w)
  have HK1 := Lib.hid (show Keep w (NewVw w) from (Keep.refl w).alloc _)
  obtain ⟨B, hB⟩ : ∃ B, w.heap.size = B := ⟨_, rfl⟩
  have HBe := Lib.hid hB
  rw [hN] at hl ⊢
  rw [hB] at HW1
  clear h hq hi hN
  go_enter Try.func32, Try.ntmps32
  go_wp2
  clear hB
  go_loopw [8] (fun iv wr => PdRel B w (NewVw w) l iv wr) (fun iv _ => N - (intOf iv).toNat)
  case atStart => exact ⟨0, rfl, Nat.zero_le _, by rw [List.take_zero]; exact HW1.out, HK1.out, Only.refl _ _⟩
  case round =>
    obtain ⟨k, rfl, hk, hwr, hw, hon⟩ := hrel
    rw [HLN.out] at hk
    by_cases hlt : k < N
    · have hcl := (HL.out.at k (by rw [HLN.out]; exact hlt)).keep hw
      obtain ⟨g, o, cap', e, _, _, _⟩ := hcl.ptr k (by rw [HLN.out]; exact hlt)
      simp at e
      obtain ⟨rfl, rfl⟩ := e
      obtain ⟨x, hx⟩ : ∃ x, l[k]? = some x := ⟨_, List.getElem?_eq_getElem (by rw [HLN.out]; exact hlt)⟩
      have d1 := hcl.dn rfl k x hx
      have d2 := hcl.ds rfl k x hx
      have hsq := HSq.out x (List.mem_of_getElem? hx)
      have hmx := max_num x.n hsq.1
      obtain ⟨q, hqq⟩ : ∃ q : Nat, x.s = q := ⟨x.s.toNat, by have := hsq.2.1; omega⟩
      have hq64 : q < 2 ^ 64 := by have := hsq.2.2; omega
      have hn64 : x.n.toNat < 2 ^ 64 := by have := hsq.1; omega
      have HTK := Lib.hid (show printD (l.take (k + 1)) = printD (l.take k) ++ V.enc x.n.toNat ++ V.enc q from by
        rw [List.take_add_one, hx, Option.toList_some, printD_snoc, List.append_assoc]
        unfold dB
        rw [hqq, Int.toNat_natCast])
      have hSl : (printD (l.take k)).length ≤ 20000 := by
        have h1 := printD_len (l.take k) (fun i hi => HSq.out i (List.mem_of_mem_take hi))
        rw [List.length_take] at h1
        omega
      have hel := V.enc_len10 x.n.toNat hn64
      rw [hqq] at d2
      have HWR := Lib.hid hwr
      have HK := Lib.hid hw
      have HON := Lib.hid hon
      obtain ⟨xn, xs⟩ := x
      simp only at d1 d2 hmx hn64 HTK hel
      generalize xn.toNat = m at *
      clear hcl hx hsq hqq hwr hw hon
      have hgw : wr.heap.size ≠ B := by have := HWR.out.lt; omega
      have HKA := Lib.hid (show Keep wr (wr.alloc (.cells #[.int .i64 xn, .int .u64 q] 68)) from (Keep.refl wr).alloc _)
      have HX := Lib.hid (fun (w' : World) (h : w'.heap[wr.heap.size]? = some (.cells #[.int .i64 xn, .int .u64 q] 68 (0, 0))) => (show w'.cell? ⟨wr.heap.size, 0, none⟩ = some (.int .i64 xn) ∧ w'.cell? ⟨wr.heap.size, 1, none⟩ = some (.int .u64 q) from ⟨cell_obj h rfl, cell_obj h rfl⟩))
      have HB3 := Lib.hid (show (wr.alloc (.cells #[.int .i64 xn, .int .u64 q] 68)).heap[wr.heap.size]? = some (.cells #[.int .i64 xn, .int .u64 q] 68 (0, 0)) from heap_alloc_last wr _)
      go_wp2_with fail
      refine (wuint_at B m (printD (l.take k)) _ hn64 (HWR.out.keep HKA.out) (by omega)).mono ?_
      rintro e w4 ⟨rfl, h4, o4⟩
      obtain ⟨e1, e2⟩ := HX.out w4 (o4.obj HB3.out hgw)
      have HW4 := Lib.hid h4
      have HO4 := Lib.hid (HON.out.trans ((Only.keep HKA.out).trans o4))
      clear h4 o4 d1 d2
      go_wp2_with fail
      refine (wuint_at B q (printD (l.take k) ++ V.enc m) _ hq64 HW4.out (by simp; omega)).mono ?_
      rintro e w5 ⟨rfl, h5, o5⟩
      have HRL := Lib.hid (show PdRel B w (NewVw w) l (.int .i64 ((k : Int) + 1)) w5 from ⟨k + 1, by go_num, by rw [HLN.out]; omega, by rw [HTK.out]; exact h5, Only.made HK1.out (HO4.out.trans o5) (by rw [HBe.out]; exact Nat.le_refl _), HO4.out.trans o5⟩)
      clear h5 o5 e1 e2
      go_wp2
      go_roundw
      case rel => exact HRL.out
      case measure => simp [intOf]; omega
    · obtain rfl : k = N := by omega
      rw [List.take_of_length_le (by rw [HLN.out]; exact Nat.le_refl _)] at hwr
      have hln := printD_len l HSq.out
      rw [HLN.out] at hln
      have HK := Lib.hid hw
      have HS := Lib.hid (wstring_at B (printD l) wr hwr (by omega))
      clear hwr hw hon
      go_wp2_with fail
      refine HS.out.mono ?_
      rintro e w5 ⟨rfl, rfl⟩
      go_wp2
      go_ret
      exact ⟨rfl, HK.out⟩

def QdRel (w : World) (l : List Dg) (sv iv : Value) (wr : World) : Prop := ∃ k : Nat, iv = .int .i64 k ∧ k ≤ l.length ∧ sv = .string ⟨(printD (l.take k)).toArray⟩ ∧ Keep w wr
set_option maxRecDepth 100000 in
set_option maxHeartbeats 1000000 in
theorem qprint (v : Value) (l : List Dg) (w : World) (h : Lg dl w v l) (hq : ∀ d ∈ l, SqD d) (hl : l.length ≤ 1000) : Calls Try.prog 33 #[v] w fun e w' => e = .returned (.string ⟨(printD l).toArray⟩) ∧ Keep w w' := by
  obtain ⟨a, cap, rfl⟩ := h.form
  have HL := Lib.hid h
  have HSq := Lib.hid hq
  obtain ⟨N, hN⟩ : ∃ N, l.length = N := ⟨_, rfl⟩
  have HLN := Lib.hid hN
  rw [hN] at hl ⊢
  clear h hq hN
  go_enter Try.func33, Try.ntmps33
  go_wp2
  go_loopw [3, 4] (fun sv iv wr => QdRel w l sv iv wr) (fun _ iv _ => N - (intOf iv).toNat)
  case atStart => exact ⟨0, rfl, Nat.zero_le _, rfl, Keep.refl _⟩
  case round =>
    obtain ⟨k, rfl, hk, rfl, hw⟩ := hrel
    rw [HLN.out] at hk
    by_cases hlt : k < N
    · have hcl := HL.out.at k (by rw [HLN.out]; exact hlt)
      obtain ⟨g, o, cap', e, _, _, _⟩ := hcl.ptr k (by rw [HLN.out]; exact hlt)
      simp at e
      obtain ⟨rfl, rfl⟩ := e
      obtain ⟨x, hx⟩ : ∃ x, l[k]? = some x := ⟨_, List.getElem?_eq_getElem (by rw [HLN.out]; exact hlt)⟩
      have d1 : ∀ u : KW wr, u.1.cell? ⟨g, o + k * 2, none⟩ = some (.int .i64 x.n) := fun u => (hcl.keep (hw.trans u.2)).dn rfl k x hx
      have d2 : ∀ u : KW wr, u.1.cell? ⟨g, o + k * 2 + 1, none⟩ = some (.int .u64 x.s) := fun u => (hcl.keep (hw.trans u.2)).ds rfl k x hx
      have hsq := HSq.out x (List.mem_of_getElem? hx)
      have hmx := max_num x.n hsq.1
      obtain ⟨q, hqq⟩ : ∃ q : Nat, x.s = q := ⟨x.s.toNat, by have := hsq.2.1; omega⟩
      have hq64 : q < 2 ^ 64 := by have := hsq.2.2; omega
      have hn64 : x.n.toNat < 2 ^ 64 := by have := hsq.1; omega
      have hSl : (printD (l.take k)).length ≤ 20000 := by
        have h1 := printD_len (l.take k) (fun i hi => HSq.out i (List.mem_of_mem_take hi))
        rw [List.length_take] at h1
        omega
      have hel := V.enc_len10 x.n.toNat hn64
      have hel2 := V.enc_len10 q hq64
      have HTK := Lib.hid (show printD (l.take (k + 1)) = printD (l.take k) ++ (V.enc x.n.toNat ++ V.enc q) from by
        rw [List.take_add_one, hx, Option.toList_some, printD_snoc]
        unfold dB
        rw [hqq, Int.toNat_natCast])
      rw [hqq] at d2
      have HN1 := Lib.hid (show GivesK Try.prog 71 #[.int .u64 (x.n.toNat : Nat)] (.string ⟨(V.enc x.n.toNat).toArray⟩) from fun w => number_at x.n.toNat w hn64)
      have HN2 := Lib.hid (show GivesK Try.prog 71 #[.int .u64 (q : Nat)] (.string ⟨(V.enc q).toArray⟩) from fun w => number_at q w hq64)
      obtain ⟨xn, xs⟩ := x
      simp only at d1 d2 hmx hn64 HTK hel HN1
      generalize xn.toNat = m at *
      obtain ⟨S0, hS0⟩ : ∃ S : ByteArray, S = ⟨(printD (l.take k)).toArray⟩ := ⟨_, rfl⟩
      obtain ⟨S1, hS1⟩ : ∃ S : ByteArray, S = ⟨(V.enc m).toArray⟩ := ⟨_, rfl⟩
      obtain ⟨S2, hS2⟩ : ∃ S : ByteArray, S = ⟨(V.enc q).toArray⟩ := ⟨_, rfl⟩
      have z0 : S0.size ≤ 20000 := by rw [hS0]; simpa [ByteArray.size] using hSl
      have z1 : S1.size ≤ 10 := by rw [hS1]; simpa [ByteArray.size] using hel
      have z2 : S2.size ≤ 10 := by rw [hS2]; simpa [ByteArray.size] using hel2
      have c1 : ¬ 9223372036854775807 < S1.size + S2.size := by omega
      have c2 : ¬ 9223372036854775807 < S0.size + (S1.size + S2.size) := by omega
      rw [← hS1] at HN1
      rw [← hS2] at HN2
      have HSS := Lib.hid (show S0 ++ (S1 ++ S2) = ⟨(printD (l.take (k + 1))).toArray⟩ by rw [hS0, hS1, hS2, app_list, app_list, HTK.out])
      rw [← hS0]
      have HK := Lib.hid hw
      clear hcl hx hsq hqq hw hS0 hS1 hS2 hSl hel hel2 z0 z1 z2 hn64 hq64 HTK
      go_wp2_with fail
      refine wp_region_keep (Keep.refl _) (by kernel_rfl) (by kernel_rfl) ?_
      repeat (first | go_big_quiet_step (fail) | quiet_step (fail))
      first | go_big_quiet_step (exact HN1.out.at _) | quiet_step (exact HN1.out.at _)
      repeat (first | go_big_quiet_step (fail) | quiet_step (fail))
      first | go_big_quiet_step (exact HN2.out.at _) | quiet_step (exact HN2.out.at _)
      repeat (first | go_big_quiet_step (fail) | quiet_step (fail))
      refine wpQuiet_nil ?_
      rintro w6 ⟨⟨w7, b7⟩, hw6⟩
      obtain rfl : w7 = w6 := hw6.symm
      have HRL := Lib.hid (show QdRel w l (.string (S0 ++ (S1 ++ S2))) (.int .i64 ((k : Int) + 1)) w7 from ⟨k + 1, by go_num, by rw [HLN.out]; omega, by rw [HSS.out], HK.out.trans b7⟩)
      clear hw6 b7 d1 d2
      go_wp2
      go_roundw
      case rel => exact HRL.out
      case measure => simp [intOf]; omega
    · obtain rfl : k = N := by omega
      rw [List.take_of_length_le (by rw [HLN.out]; exact Nat.le_refl _)]
      have HK := Lib.hid hw
      clear hw
      go_wp2
      go_ret
      exact ⟨rfl, HK.out⟩
end Go.Proofs.Ytfikdeobejhblaa
